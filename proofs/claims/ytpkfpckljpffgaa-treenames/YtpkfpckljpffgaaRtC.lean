/- Contracts: the document's Check, In, count. -/
import Derived.Test.YtpkfpckljpffgaaRtB
import Derived.Test.YtpkfpckljpffgaaKeyB
namespace Go.Proofs.Ytpkfpckljpffgaa.Rt
open Go.RowKit
set_option linter.unusedVariables false
set_option linter.unusedSimpArgs false

theorem dn_below (w : World) (n : Nat) : Below w.heap.size w (w.drewN n) := ⟨rfl, rfl, rfl, Nat.le_refl _, fun _ _ => rfl⟩
set_option maxRecDepth 100000 in
set_option maxHeartbeats 1000000 in
theorem rCheck_any (f : Nat → Ky) (w : World) : Calls Try.prog 32 #[.agg (kcs f)] w fun r w' => r = .returned (.int .i64 (kchkE f)) ∧ Below w.heap.size w w' := by
  have hn := KsAt.new w f
  have hB1 := alloc_ks w f
  go_enter Try.func32, Try.ntmps32
  go_upto_region 1 with (fail)
  generalize w.alloc (.cells (kcs f) 25) = w1 at *
  obtain ⟨B, hBB⟩ : ∃ B, w.heap.size = B := ⟨_, rfl⟩
  rw [hBB] at hn ⊢
  have HB1 : Hid (Below w.heap.size w w1) := hB1
  clear hB1 hBB
  obtain ⟨c, hc⟩ : ∃ c, kcs f = c := ⟨_, rfl⟩
  rw [hc]
  clear hc
  go_wp2_with fail
  go_loopw [3] (fun i wx => ∃ k : Nat, k ≤ 21 ∧ i = .int .i64 (k : Int) ∧ Below w1.heap.size w1 wx ∧ ∀ j, j < k → kok f j = true) (fun i _ => 21 - (intOf i).toNat)
  case atStart => exact ⟨0, by omega, rfl, Below.refl _ _, fun j hj => by omega⟩
  case round =>
    obtain ⟨k, hk, rfl, hb, hf⟩ := hrel
    have HB : Hid (Below w.heap.size w wr) := HB1.out.trans (hb.mono HB1.out.size)
    have HBW : Hid (Below w1.heap.size w1 wr) := hb
    have HF : Hid (∀ j, j < k → kok f j = true) := hf
    have hR := hn.later hb
    clear hb hf
    by_cases hk8 : k < 21
    · have k8 : (k : Int) < 21 := by omega
      have k0 : (0 : Int) ≤ (k : Int) := by omega
      obtain ⟨c0, c1⟩ := hR.cells k hk8
      have hg := rGood_any (f k).bas (f k).stp wr
      obtain ⟨e, he⟩ : ∃ e, f k = e := ⟨_, rfl⟩
      rw [he] at hg c0 c1
      have HE : Hid (f k = e) := he
      clear he
      cases hgd : gd e.bas e.stp with
      | false =>
        rw [hgd] at hg
        go_wp2_with (go_at_call 53; refine hg.mono ?_; rintro e w' ⟨rfl, rfl⟩)
        go_ret
        exact ⟨ret_int (by rw [kchkE_ff (kchk_bad hk8 (kok_bad1 HE.out hgd))]), HB.out.trans ((below_alloc _ _).mono HB.out.size)⟩
      | true =>
        rw [hgd] at hg
        have d0 := fun o => cell_alloc_lt c0 o
        cases how : decide (e.bas < 32768) with
        | false =>
          have how2 : (32768 : Int) ≤ e.bas := by have := of_decide_eq_false how; omega
          go_wp2_with (go_at_call 53; refine hg.mono ?_; rintro e w' ⟨rfl, rfl⟩)
          go_ret
          exact ⟨ret_int (by rw [kchkE_ff (kchk_bad hk8 (kok_bad2 HE.out how))]), HB.out.trans ((below_alloc _ _).mono HB.out.size)⟩
        | true =>
          have how2 : ¬ (32768 : Int) ≤ e.bas := by have := of_decide_eq_true how; omega
          go_wp2_with (go_at_call 53; refine hg.mono ?_; rintro e w' ⟨rfl, rfl⟩)
          have hb2 := below_alloc wr (.cells #[.int .i64 e.bas, .int .i64 e.stp] 23)
          have hR2 := hR.later hb2
          have HB2 : Hid (Below w.heap.size w (wr.alloc (.cells #[.int .i64 e.bas, .int .i64 e.stp] 23))) := HB.out.trans (hb2.mono HB.out.size)
          have HBW2 : Hid (Below w1.heap.size w1 (wr.alloc (.cells #[.int .i64 e.bas, .int .i64 e.stp] 23))) := HBW.out.trans (hb2.mono HBW.out.size)
          clear hb2 hR c0 c1 d0 hg
          generalize wr.alloc (.cells #[.int .i64 e.bas, .int .i64 e.stp] 23) = w2 at *
          go_loopw [4] (fun i wx => ∃ j : Nat, j ≤ k ∧ i = .int .i64 (j : Int) ∧ Below w2.heap.size w2 wx ∧ ∀ m, m < j → decide ((f m).bas = e.bas) = false) (fun i _ => k - (intOf i).toNat)
          case atStart => exact ⟨0, by omega, rfl, Below.refl _ _, fun j hj => by omega⟩
          case round =>
            obtain ⟨j, hj, rfl, hb, hf⟩ := hrel
            have HBX : Hid (Below w2.heap.size w2 wr) := hb
            have HG : Hid (∀ m, m < j → decide ((f m).bas = e.bas) = false) := hf
            have hR := hR2.later hb
            clear hf hb
            by_cases hjk : j < k
            · have j1 : (j : Int) < (k : Int) := by omega
              have j2 : (0 : Int) ≤ (j : Int) := by omega
              have j3 : (j : Int) < 21 := by omega
              obtain ⟨c0, _⟩ := hR.cells k hk8
              obtain ⟨d0, _⟩ := hR.cells j (by omega)
              rw [HE.out] at c0
              obtain ⟨x, hx⟩ : ∃ x, (f j).bas = x := ⟨_, rfl⟩
              rw [hx] at d0
              have HX : Hid ((f j).bas = x) := hx
              clear hx hR
              by_cases hxe : x = e.bas
              · have hxe2 : (x == e.bas) = true := by simp [hxe]
                have HXE : Hid (x = e.bas) := hxe
                clear hxe
                go_upto_region 9 with (fail)
                go_quiet (fail)
                go_wp2_with fail
                go_ret
                have hbb := HB2.out.trans (HBX.out.mono HB2.out.size)
                exact ⟨ret_int (by rw [kchkE_ff (kchk_bad hk8 (kok_bad3 HE.out (nmd_yes hjk (by rw [nm1_same, HX.out, HXE.out]; simp))))]), hbb.trans ((dn_below _ _).mono hbb.size)⟩
              · have hxe2 : (x == e.bas) = false := by simp [hxe]
                go_upto_region 9 with (fail)
                go_quiet (fail)
                go_wp2_with fail
                go_roundw
                case rel =>
                  refine ⟨j + 1, by omega, by go_num, HBX.out.trans ((dn_below _ _).mono HBX.out.size), fun m hm => ?_⟩
                  rcases Nat.lt_or_ge m j with h | h
                  · exact HG.out m h
                  · obtain rfl : m = j := by omega
                    rw [HX.out]
                    exact decide_eq_false hxe
                case measure => simp [intOf]; omega
            · obtain rfl : j = k := by omega
              have j1 : decide ((j : Int) < (j : Int)) = false := by simp
              go_wp2_with fail
              go_roundw
              case rel =>
                refine ⟨j + 1, by omega, by go_num, HBW2.out.trans (HBX.out.mono HBW2.out.size), fun m hm => ?_⟩
                rcases Nat.lt_or_ge m j with h | h
                · exact HF.out m h
                · obtain rfl : m = j := by omega
                  exact kok_fine HE.out hgd how (nmd_no fun i hi => by rw [nm1_same]; exact HG.out i hi)
              case measure => simp [intOf]; omega
    · obtain rfl : k = 21 := by omega
      go_wp2_with fail
      go_ret
      exact ⟨ret_int (by rw [kchkE_tt (kchk_good HF.out)]), HB.out⟩
end Go.Proofs.Ytpkfpckljpffgaa.Rt
