/- Contracts: Check of both. -/
import Derived.Test.YtpkfpckljpffgaaRsB
import Derived.Test.YtpkfpckljpffgaaRsEq
import Derived.Test.YtpkfpckljpffgaaStX
import Derived.BigQuiet
import Derived.Deep.DeepCutAuto
namespace Go.Proofs.Ytpkfpckljpffgaa.Rs
open Go.RowKit
set_option linter.unusedVariables false
set_option linter.unusedSimpArgs false

set_option maxRecDepth 100000 in
set_option maxHeartbeats 400000 in
theorem check_any (f : Nat → En) (w : World) : Calls Try.prog 29 #[.agg (rcs f)] w fun r w' => r = .returned (.int .i64 (chkE f)) ∧ Below w.heap.size w w' := by
  have hn := RoAt.new w f
  have hB1 := alloc_ro w f
  go_enter Try.func29, Try.ntmps29
  go_upto_region 1 with (fail)
  generalize w.alloc (.cells (rcs f) 29) = w1 at *
  refine wp_region_lit ?_
  refine ld25 hn rfl _ rfl rfl ?_
  obtain ⟨c, hc⟩ : ∃ c, rcs f = c := ⟨_, rfl⟩
  rw [hc]
  go_wp2_with fail
  go_loopw [8] (fun i wx => ∃ k : Nat, k ≤ 64 ∧ i = .int .i64 (k : Int) ∧ Below w1.heap.size w1 wx ∧ ∀ j, j < k → okp f j = true) (fun i _ => 64 - (intOf i).toNat)
  case atStart => exact ⟨0, by omega, rfl, Below.refl _ _, fun j hj => by omega⟩
  case round =>
    obtain ⟨k, hk, rfl, hb, hf⟩ := hrel
    have HB : Hid (Below w.heap.size w wr) := hB1.trans (hb.mono hB1.size)
    have HBW : Hid (Below w1.heap.size w1 wr) := hb
    have HF : Hid (∀ j, j < k → okp f j = true) := hf
    clear hb hf
    by_cases hk8 : k < 64
    · have k8 : (k : Int) < 64 := by omega
      have k9 : (k : Int) ≤ 64 := by omega
      have ht := isRight_any (f k)
      have hi := idx25 f k hk8
      rw [hc] at hi
      have hE := EnAt.new wr (f k)
      have hBE := alloc_en wr (f k)
      obtain ⟨e, he⟩ : ∃ e, f k = e := ⟨_, rfl⟩
      rw [he] at ht hi hE hBE
      have HE : Hid (f k = e) := he
      clear hc he
      go_wp2_with fail
      refine (ht _).mono ?_
      rintro r w2 ⟨rfl, hb2⟩
      have hE2 := hE.later hb2
      have HB2 : Hid (Below wr.heap.size wr w2) := hBE.trans (hb2.mono hBE.size)
      have hB12 : Below w1.heap.size w1 w2 := HBW.out.trans (HB2.out.mono HBW.out.size)
      have hR2 := hn.later hB12
      have HB3 : Hid (Below w.heap.size w w2) := HB.out.trans (HB2.out.mono HB.out.size)
      obtain ⟨Be, hBe⟩ : ∃ Be, wr.heap.size = Be := ⟨_, rfl⟩
      rw [hBe] at hE2 ⊢
      clear hE hBE hb2 ht hi HB HB2 HBW hBe
      cases hkt : rgp e with
      | false =>
        go_wp2_with fail
        go_ret
        exact ⟨ret_int (by rw [chkE_bad hk8 (by unfold okp; rw [HE.out, hkt]; rfl)]), HB3.out⟩
      | true =>
        go_wp2_with fail
        go_loopw [18] (fun i wx => ∃ j : Nat, j ≤ k ∧ i = .int .i64 (j : Int) ∧ Below w2.heap.size w2 wx ∧ ∀ m, m < j → clh (f m) e = false) (fun i _ => k - (intOf i).toNat)
        case atStart => exact ⟨0, by omega, rfl, Below.refl _ _, fun j hj => by omega⟩
        case round =>
          obtain ⟨j, hj, rfl, hb, hf⟩ := hrel
          have HBX : Hid (Below w2.heap.size w2 wr) := hb
          have HG : Hid (∀ m, m < j → clh (f m) e = false) := hf
          have hR := hR2.later hb
          have hE3 := hE2.later hb
          clear hf hb
          by_cases hjk : j < k
          · have j1 : (j : Int) < (k : Int) := by omega
            have j2 : (0 : Int) ≤ (j : Int) := by omega
            obtain ⟨c0, c1, c2⟩ := hR.cells j (by omega)
            obtain ⟨d0, d1, d2⟩ := hE3.cells
            have e0 := fun o => cell_alloc_lt d0 o
            have e1 := fun o => cell_alloc_lt d1 o
            have e2 := fun o => cell_alloc_lt d2 o
            have hcl := clashes_any (f j) e
            have hBE := alloc_en wr (f j)
            have HJ : Hid (clh (f j) e = clh (f j) e) := rfl
            clear d0 d1 d2 hR hE3
            obtain ⟨d, hd⟩ : ∃ d, f j = d := ⟨_, rfl⟩
            rw [hd] at c0 c1 c2 hcl hBE
            have HD : Hid (f j = d) := hd
            clear hd
            go_wp2_with fail
            refine (hcl _).mono ?_
            rintro r w3 ⟨rfl, hb3⟩
            have HB4 : Hid (Below wr.heap.size wr w3) := hBE.trans (hb3.mono hBE.size)
            clear hcl hBE hb3 c0 c1 c2 e0 e1 e2
            cases hcc : clh d e with
            | false =>
              go_wp2_with fail
              go_roundw
              case rel =>
                refine ⟨j + 1, by omega, by go_num, HBX.out.trans (HB4.out.mono HBX.out.size), fun m hm => ?_⟩
                rcases Nat.lt_or_ge m j with h | h
                · exact HG.out m h
                · obtain rfl : m = j := by omega
                  rw [HD.out]
                  exact hcc
              case measure => simp [intOf]; omega
            | true =>
              go_wp2_with fail
              go_ret
              have hbb := HB3.out.trans (HBX.out.mono HB3.out.size)
              exact ⟨ret_int (by rw [chkE_bad hk8 (by unfold okp; rw [HE.out, range_bad hjk (by rw [HD.out]; exact hcc)]; simp)]), hbb.trans (HB4.out.mono hbb.size)⟩
          · obtain rfl : j = k := by omega
            have j1 : ¬ ((j : Int) < (j : Int)) := by omega
            go_wp2_with fail
            go_roundw
            case rel =>
              refine ⟨j + 1, by omega, by go_num, hB12.trans (HBX.out.mono hB12.size), fun m hm => ?_⟩
              rcases Nat.lt_or_ge m j with h | h
              · exact HF.out m h
              · obtain rfl : m = j := by omega
                unfold okp
                rw [HE.out, hkt, range_good HG.out]
                rfl
            case measure => simp [intOf]; omega
    · obtain rfl : k = 64 := by omega
      go_wp2_with fail
      go_ret
      exact ⟨ret_int (by rw [chkE_good HF.out]), HB.out⟩
set_option maxRecDepth 100000 in
set_option maxHeartbeats 4000000 in
theorem rCheck_any (f : Nat → En) (w : World) : Calls Try.prog 33 #[.agg (rcs f)] w fun r w' => r = .returned (.int .i64 (chkE f)) ∧ Below w.heap.size w w' := by
  have hn := RoAt.new w f
  have hB1 := alloc_ro w f
  go_enter Try.func33, Try.ntmps33
  go_upto_region 1 with (fail)
  generalize w.alloc (.cells (rcs f) 29) = w1 at *
  obtain ⟨c, hc⟩ : ∃ c, rcs f = c := ⟨_, rfl⟩
  rw [hc]
  clear hc
  go_wp2_with fail
  go_loopw [3] (fun i wx => ∃ k : Nat, k ≤ 64 ∧ i = .int .i64 (k : Int) ∧ Below w1.heap.size w1 wx ∧ ∀ j, j < k → okr f j = true) (fun i _ => 64 - (intOf i).toNat)
  case atStart => exact ⟨0, by omega, rfl, Below.refl _ _, fun j hj => by omega⟩
  case round =>
    obtain ⟨k, hk, rfl, hb, hf⟩ := hrel
    have HB : Hid (Below w.heap.size w wr) := hB1.trans (hb.mono hB1.size)
    have HBW : Hid (Below w1.heap.size w1 wr) := hb
    have HF : Hid (∀ j, j < k → okr f j = true) := hf
    have hR := hn.later hb
    clear hb hf
    by_cases hk8 : k < 64
    · have k8 : (k : Int) < 64 := by omega
      obtain ⟨c0, c1, c2⟩ := hR.cells k hk8
      have ht := rRight_any (f k)
      have hz : isz (f k) = (decide ((f k).who = 0) && decide ((f k).bas = 0) && decide ((f k).snc = 0)) := rfl
      obtain ⟨e, he⟩ : ∃ e, f k = e := ⟨_, rfl⟩
      rw [he] at ht c0 c1 c2 hz
      have HE : Hid (f k = e) := he
      have HZ : Hid (isz e = (decide (e.who = 0) && decide (e.bas = 0) && decide (e.snc = 0))) := hz
      clear he hz
      cases hzz : isz e with
      | true =>
        clear ht
        have hzq : eqE e zE = true := hzz
        go_wp2_with (refine eq23 (e := e) (d := zE) hzq rfl _ _ rfl rfl rfl ?_)
        go_roundw
        case rel =>
          refine ⟨k + 1, by omega, by go_num, HBW.out, fun m hm => ?_⟩
          rcases Nat.lt_or_ge m k with h | h
          · exact HF.out m h
          · obtain rfl : m = k := by omega
            unfold okr
            rw [HE.out, hzz]
            rfl
        case measure => simp [intOf]; omega
      | false =>
        have hzq : eqE e zE = false := hzz
        go_wp2_with (refine eq23 (e := e) (d := zE) hzq rfl _ _ rfl rfl rfl ?_)
        refine (ht _).mono ?_
        rintro r w2 ⟨rfl, hb2⟩
        have hR2 := hR.later hb2
        have HB3 : Hid (Below w.heap.size w w2) := HB.out.trans (hb2.mono HB.out.size)
        have hB12 : Below w1.heap.size w1 w2 := HBW.out.trans (hb2.mono HBW.out.size)
        clear ht hb2 HB HBW hR
        cases hkt : rgt e with
        | false =>
          go_wp2_with fail
          go_ret
          exact ⟨ret_int (by rw [chkE_bad hk8 (by rw [okp_okr]; unfold okr; rw [HE.out, hkt, hzz]; rfl)]), HB3.out⟩
        | true =>
          clear c0 c1 c2
          go_wp2_with fail
          go_loopw [4] (fun i wx => ∃ j : Nat, j ≤ k ∧ i = .int .i64 (j : Int) ∧ Below w2.heap.size w2 wx ∧ ∀ m, m < j → (tkn (f m) && alike (f m) e) = false) (fun i _ => k - (intOf i).toNat)
          case atStart => exact ⟨0, by omega, rfl, Below.refl _ _, fun j hj => by omega⟩
          case round =>
            obtain ⟨j, hj, rfl, hbq, hf⟩ := hrel
            have HG : Hid (∀ m, m < j → (tkn (f m) && alike (f m) e) = false) := hf
            have hRq := hR2.later hbq
            have HBQ : Hid (Below w2.heap.size w2 wr) := hbq
            clear hf hbq
            by_cases hjk : j < k
            · have j1 : (j : Int) < (k : Int) := by omega
              have j2 : (j : Int) < 64 := by omega
              obtain ⟨c0, c1, c2⟩ := hRq.cells j (by omega)
              obtain ⟨d0, d1, d2⟩ := hRq.cells k hk8
              obtain ⟨d, hd⟩ : ∃ d, f j = d := ⟨_, rfl⟩
              rw [hd] at c0 c1 c2
              rw [HE.out] at d0 d1 d2
              have HD : Hid (f j = d) := hd
              have hal : alike d e = (decide (d.who = e.who) || decide (d.bas = e.bas)) := rfl
              have HAL : Hid (alike d e = (decide (d.who = e.who) || decide (d.bas = e.bas))) := hal
              clear hd hRq hal
              cases htk : tkn d with
              | false =>
                have hb0 := tkn_neg htk
                have q1 : (d.bas != 0) = false := by simp [hb0]
                go_wp2_with fail
                go_quiet (fail)
                go_wp2_with fail
                go_roundw
                case rel =>
                  refine ⟨j + 1, by omega, by go_num, HBQ.out.trans ((drewN_below _ _).mono HBQ.out.size), fun m hm => ?_⟩
                  rcases Nat.lt_or_ge m j with h | h
                  · exact HG.out m h
                  · obtain rfl : m = j := by omega
                    rw [HD.out, htk]
                    rfl
                case measure => simp [intOf]; omega
              | true =>
                have q1 : (d.bas != 0) = true := by simp [tkn_pos htk]
                by_cases hw : d.who = e.who
                · have q2 : (d.who == e.who) = true := by simp [hw]
                  have HW : Hid (d.who = e.who) := hw
                  clear hw
                  go_wp2_with fail
                  go_quiet (fail)
                  go_wp2_with fail
                  go_ret
                  have hbb := HB3.out.trans (HBQ.out.mono HB3.out.size)
                  exact ⟨ret_int (by rw [chkE_bad hk8 (by rw [okp_okr]; unfold okr; rw [HE.out, hzz, range_bad hjk (by rw [HD.out, htk, HAL.out]; simp [HW.out])]; simp)]), hbb.trans ((drewN_below _ _).mono hbb.size)⟩
                · have q2 : (d.who == e.who) = false := by simp [hw]
                  by_cases hbs : d.bas = e.bas
                  · have q3 : (d.bas == e.bas) = true := by simp [hbs]
                    have HW : Hid (d.bas = e.bas) := hbs
                    clear hbs
                    go_wp2_with fail
                    go_quiet (fail)
                    go_wp2_with fail
                    go_ret
                    have hbb := HB3.out.trans (HBQ.out.mono HB3.out.size)
                    exact ⟨ret_int (by rw [chkE_bad hk8 (by rw [okp_okr]; unfold okr; rw [HE.out, hzz, range_bad hjk (by rw [HD.out, htk, HAL.out]; simp [HW.out])]; simp)]), hbb.trans ((drewN_below _ _).mono hbb.size)⟩
                  · have q3 : (d.bas == e.bas) = false := by simp [hbs]
                    go_wp2_with fail
                    go_quiet (fail)
                    go_wp2_with fail
                    go_roundw
                    case rel =>
                      refine ⟨j + 1, by omega, by go_num, HBQ.out.trans ((drewN_below _ _).mono HBQ.out.size), fun m hm => ?_⟩
                      rcases Nat.lt_or_ge m j with h | h
                      · exact HG.out m h
                      · obtain rfl : m = j := by omega
                        rw [HD.out, htk, HAL.out]
                        simp [hw, hbs]
                    case measure => simp [intOf]; omega
            · obtain rfl : j = k := by omega
              have j1 : ¬ ((j : Int) < (j : Int)) := by omega
              go_wp2_with fail
              go_roundw
              case rel =>
                refine ⟨j + 1, by omega, by go_num, hB12.trans (HBQ.out.mono hB12.size), fun m hm => ?_⟩
                rcases Nat.lt_or_ge m j with h | h
                · exact HF.out m h
                · obtain rfl : m = j := by omega
                  unfold okr
                  rw [HE.out, hkt, hzz, range_good HG.out]
                  rfl
              case measure => simp [intOf]; omega
    · obtain rfl : k = 64 := by omega
      go_wp2_with fail
      go_ret
      exact ⟨ret_int (by rw [chkE_good fun j hj => by rw [okp_okr]; exact HF.out j hj]), HB.out⟩
end Go.Proofs.Ytpkfpckljpffgaa.Rs
