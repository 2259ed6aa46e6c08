/- RtC, RtD, RtE, RtF, RtP, RtG, joined. -/
import Derived.Test.YtpimbpfefhkojabGreatDoorRtJ
import Derived.Test.YtpimbpfefhkojabGreatDoorKeyJ
import Derived.Laws.BitsAllLaws
import Derived.Lib.BitFns
namespace Go.Proofs.YtpimbpfefhkojabGreatDoor.Rt
open Go.RowKit
set_option linter.unusedVariables false
set_option linter.unusedSimpArgs false

theorem dn_below (w : World) (n : Nat) : Below w.heap.size w (w.drewN n) := ⟨rfl, rfl, rfl, Nat.le_refl _, fun _ _ => rfl⟩
theorem rIn_any (r v : Nat) (hr : r < 4294967296) (hv : v < 32) (w : World) :
    Calls Tryz.prog 78 #[.int .u32 (r : Int), .int .i64 (v : Int)] w fun e w' => e = .returned (.bool (r.testBit v)) ∧ w' = w := by
  have v0 : (0 : Int) ≤ (v : Int) := by omega
  have v1 : (v : Int) < 32 := by omega
  go_enter Tryz.func78, Tryz.ntmps78
  go_wp2_with fail
  go_loopw [0, 5] (fun x i wx => ∃ k : Nat, k ≤ v ∧ i = .int .i64 (k : Int) ∧ x = .int .u32 ((r / 2 ^ k : Nat) : Int) ∧ wx = w) (fun _ i _ => v - (intOf i).toNat)
  case atStart => exact ⟨0, by omega, rfl, by simp, rfl⟩
  case round =>
    obtain ⟨k, hk, rfl, rfl, rfl⟩ := hrel
    by_cases hk8 : k < v
    · have k8 : (k : Int) < (v : Int) := by omega
      have hsucc : r / 2 ^ (k + 1) = r / 2 ^ k / 2 := by rw [Nat.pow_succ, Nat.div_div_eq_div_mul]
      have hlt : r / 2 ^ k < 4294967296 := Nat.lt_of_le_of_lt (Nat.div_le_self _ _) hr
      obtain ⟨q, hq⟩ : ∃ q, r / 2 ^ k = q := ⟨_, rfl⟩
      rw [hq] at hsucc hlt ⊢
      have HQ : Hid (r / 2 ^ (k + 1) = q / 2) := hsucc
      clear hq hsucc
      go_wp2_with fail
      go_roundw
      case rel => exact ⟨k + 1, by omega, by go_num, by rw [HQ.out]; congr 1, by first | rfl | trivial⟩
      case measure => simp [intOf]; omega
    · obtain rfl : k = v := by omega
      have hd : decide ((k : Int) < (k : Int)) = false := by simp
      have hbit : r.testBit k = decide (r / 2 ^ k % 2 = 1) := Nat.testBit_eq_decide_div_mod_eq
      have hlt : r / 2 ^ k < 4294967296 := Nat.lt_of_le_of_lt (Nat.div_le_self _ _) hr
      obtain ⟨q, hq⟩ : ∃ q, r / 2 ^ k = q := ⟨_, rfl⟩
      rw [hq] at hbit hlt ⊢
      have HB : Hid (r.testBit k = decide (q % 2 = 1)) := hbit
      clear hq hbit
      go_wp2_with fail
      go_ret
      refine ⟨ret_bool ?_, rfl⟩
      rw [HB.out, Bool.eq_iff_iff]
      simp
      omega
theorem rCount_any (r : Nat) (hr : r < 4294967296) (w : World) :
    Calls Tryz.prog 79 #[.int .u32 (r : Int)] w fun e w' => e = .returned (.int .i64 ((cu r 21 : Nat) : Int)) ∧ w' = w := by
  go_enter Tryz.func79, Tryz.ntmps79
  go_wp2_with fail
  go_loopw [3, 4] (fun x i wx => ∃ k : Nat, k ≤ 21 ∧ i = .int .i64 (k : Int) ∧ x = .int .i64 ((cu r k : Nat) : Int) ∧ wx = w) (fun _ i _ => 21 - (intOf i).toNat)
  case atStart => exact ⟨0, by omega, rfl, rfl, rfl⟩
  case round =>
    obtain ⟨k, hk, rfl, rfl, rfl⟩ := hrel
    have hc := cu_le r k
    by_cases hk8 : k < 21
    · have k8 : (k : Int) < 21 := by omega
      have hin := rIn_any r k hr (by omega) wr
      have hs : cu r (k + 1) = cu r k + b1 r k := rfl
      unfold b1 at hs
      obtain ⟨q, hq⟩ : ∃ q, cu r k = q := ⟨_, rfl⟩
      rw [hq] at hs hc ⊢
      have HQ : Hid (cu r (k + 1) = q + if r.testBit k then 1 else 0) := hs
      clear hq hs
      cases hb : r.testBit k with
      | true =>
        rw [hb] at hin
        go_wp2_with (go_at_call 78; refine hin.mono ?_; rintro e w' ⟨rfl, rfl⟩)
        go_roundw
        case rel => exact ⟨k + 1, by omega, by go_num, by rw [HQ.out, hb]; go_num, by first | rfl | trivial⟩
        case measure => simp [intOf]; omega
      | false =>
        rw [hb] at hin
        go_wp2_with (go_at_call 78; refine hin.mono ?_; rintro e w' ⟨rfl, rfl⟩)
        go_roundw
        case rel => exact ⟨k + 1, by omega, by go_num, by rw [HQ.out, hb]; rfl, by first | rfl | trivial⟩
        case measure => simp [intOf]; omega
    · obtain rfl : k = 21 := by omega
      go_wp2_with fail
      go_ret
      exact ⟨rfl, rfl⟩
set_option maxRecDepth 100000 in
set_option maxHeartbeats 1000000 in
theorem rCheck_any (f : Nat → Ky) (w : World) : Calls Tryz.prog 41 #[.agg (kcs f)] w fun r w' => r = .returned (.int .i64 (kchkE f)) ∧ Below w.heap.size w w' := by
  have hn := KsAt.new w f
  have hB1 := alloc_ks w f
  go_enter Tryz.func41, Tryz.ntmps41
  go_upto_region 1 with (fail)
  generalize w.alloc (.cells (kcs f) 41) = w1 at *
  obtain ⟨B, hBB⟩ : ∃ B, w.heap.size = B := ⟨_, rfl⟩
  rw [hBB] at hn ⊢
  have HB1 : Hid (Below w.heap.size w w1) := hB1
  clear hB1 hBB
  obtain ⟨c, hc⟩ : ∃ c, kcs f = c := ⟨_, rfl⟩
  rw [hc]
  clear hc
  go_wp2_with fail
  go_loopw [3] (fun i wx => ∃ k : Nat, k ≤ 21 ∧ i = .int .i64 (k : Int) ∧ Below w1.heap.size w1 wx ∧ ∀ j, j < k → kok f j = true) (fun i _ => 21 - (intOf i).toNat)
  case atStart => exact ⟨0, by omega, rfl, Below.refl _ _, fun j hj => by omega⟩
  case round =>
    obtain ⟨k, hk, rfl, hb, hf⟩ := hrel
    have HB : Hid (Below w.heap.size w wr) := HB1.out.trans (hb.mono HB1.out.size)
    have HBW : Hid (Below w1.heap.size w1 wr) := hb
    have HF : Hid (∀ j, j < k → kok f j = true) := hf
    have hR := hn.later hb
    clear hb hf
    by_cases hk8 : k < 21
    · have k8 : (k : Int) < 21 := by omega
      have k0 : (0 : Int) ≤ (k : Int) := by omega
      obtain ⟨c0, c1⟩ := hR.cells k hk8
      have hg := rGood_any (f k).bas (f k).stp wr
      obtain ⟨e, he⟩ : ∃ e, f k = e := ⟨_, rfl⟩
      rw [he] at hg c0 c1
      have HE : Hid (f k = e) := he
      clear he
      cases hgd : gd e.bas e.stp with
      | false =>
        rw [hgd] at hg
        go_wp2_with (go_at_call 81; refine hg.mono ?_; rintro e w' ⟨rfl, rfl⟩)
        go_ret
        exact ⟨ret_int (by rw [kchkE_ff (kchk_bad hk8 (kok_bad1 HE.out hgd))]), HB.out.trans ((below_alloc _ _).mono HB.out.size)⟩
      | true =>
        rw [hgd] at hg
        have d0 := fun o => cell_alloc_lt c0 o
        cases how : decide (e.bas < 32768) with
        | false =>
          have how2 : (32768 : Int) ≤ e.bas := by have := of_decide_eq_false how; omega
          go_wp2_with (go_at_call 81; refine hg.mono ?_; rintro e w' ⟨rfl, rfl⟩)
          go_ret
          exact ⟨ret_int (by rw [kchkE_ff (kchk_bad hk8 (kok_bad2 HE.out how))]), HB.out.trans ((below_alloc _ _).mono HB.out.size)⟩
        | true =>
          have how2 : ¬ (32768 : Int) ≤ e.bas := by have := of_decide_eq_true how; omega
          go_wp2_with (go_at_call 81; refine hg.mono ?_; rintro e w' ⟨rfl, rfl⟩)
          have hb2 := below_alloc wr (.cells #[.int .i64 e.bas, .int .i64 e.stp] 31)
          have hR2 := hR.later hb2
          have HB2 : Hid (Below w.heap.size w (wr.alloc (.cells #[.int .i64 e.bas, .int .i64 e.stp] 31))) := HB.out.trans (hb2.mono HB.out.size)
          have HBW2 : Hid (Below w1.heap.size w1 (wr.alloc (.cells #[.int .i64 e.bas, .int .i64 e.stp] 31))) := HBW.out.trans (hb2.mono HBW.out.size)
          clear hb2 hR c0 c1 d0 hg
          generalize wr.alloc (.cells #[.int .i64 e.bas, .int .i64 e.stp] 31) = w2 at *
          go_loopw [4] (fun i wx => ∃ j : Nat, j ≤ k ∧ i = .int .i64 (j : Int) ∧ Below w2.heap.size w2 wx ∧ ∀ m, m < j → decide ((f m).bas = e.bas) = false) (fun i _ => k - (intOf i).toNat)
          case atStart => exact ⟨0, by omega, rfl, Below.refl _ _, fun j hj => by omega⟩
          case round =>
            obtain ⟨j, hj, rfl, hb, hf⟩ := hrel
            have HBX : Hid (Below w2.heap.size w2 wr) := hb
            have HG : Hid (∀ m, m < j → decide ((f m).bas = e.bas) = false) := hf
            have hR := hR2.later hb
            clear hf hb
            by_cases hjk : j < k
            · have j1 : (j : Int) < (k : Int) := by omega
              have j2 : (0 : Int) ≤ (j : Int) := by omega
              have j3 : (j : Int) < 21 := by omega
              obtain ⟨c0, _⟩ := hR.cells k hk8
              obtain ⟨d0, _⟩ := hR.cells j (by omega)
              rw [HE.out] at c0
              obtain ⟨x, hx⟩ : ∃ x, (f j).bas = x := ⟨_, rfl⟩
              rw [hx] at d0
              have HX : Hid ((f j).bas = x) := hx
              clear hx hR
              by_cases hxe : x = e.bas
              · have hxe2 : (x == e.bas) = true := by simp [hxe]
                have HXE : Hid (x = e.bas) := hxe
                clear hxe
                go_upto_region 9 with (fail)
                go_quiet (fail)
                go_wp2_with fail
                go_ret
                have hbb := HB2.out.trans (HBX.out.mono HB2.out.size)
                exact ⟨ret_int (by rw [kchkE_ff (kchk_bad hk8 (kok_bad3 HE.out (nmd_yes hjk (by rw [nm1_same, HX.out, HXE.out]; simp))))]), hbb.trans ((dn_below _ _).mono hbb.size)⟩
              · have hxe2 : (x == e.bas) = false := by simp [hxe]
                go_upto_region 9 with (fail)
                go_quiet (fail)
                go_wp2_with fail
                go_roundw
                case rel =>
                  refine ⟨j + 1, by omega, by go_num, HBX.out.trans ((dn_below _ _).mono HBX.out.size), fun m hm => ?_⟩
                  rcases Nat.lt_or_ge m j with h | h
                  · exact HG.out m h
                  · obtain rfl : m = j := by omega
                    rw [HX.out]
                    exact decide_eq_false hxe
                case measure => simp [intOf]; omega
            · obtain rfl : j = k := by omega
              have j1 : decide ((j : Int) < (j : Int)) = false := by simp
              go_wp2_with fail
              go_roundw
              case rel =>
                refine ⟨j + 1, by omega, by go_num, HBW2.out.trans (HBX.out.mono HBW2.out.size), fun m hm => ?_⟩
                rcases Nat.lt_or_ge m j with h | h
                · exact HF.out m h
                · obtain rfl : m = j := by omega
                  exact kok_fine HE.out hgd how (nmd_no fun i hi => by rw [nm1_same]; exact HG.out i hi)
              case measure => simp [intOf]; omega
    · obtain rfl : k = 21 := by omega
      go_wp2_with fail
      go_ret
      exact ⟨ret_int (by rw [kchkE_tt (kchk_good HF.out)]), HB.out⟩

def fre (f : Nat → Ky) (x : Int) (n : Nat) : Bool := decide (n = 0) || (decide (1 ≤ x) && (decide (x ≤ 32768 - (n : Int)) && !nmd f 21 x (x + (n : Int))))
theorem frk_fre (f : Nat → Ky) (r : Nat) (x : Int) : frk f r x = fre f x (cu r 21) := rfl
set_option maxRecDepth 100000 in
set_option maxHeartbeats 1000000 in
theorem areFree_any (f : Nat → Ky) (x : Int) (n : Nat) (hn : n ≤ 21) (w : World) :
    Calls Tryz.prog 55 #[.agg (kcs f), .int .i64 x, .int .i64 (n : Int)] w fun e w' => e = .returned (.bool (fre f x n)) ∧ Below w.heap.size w w' := by
  have HFR : Hid (fre f x n = (decide (n = 0) || (decide (1 ≤ x) && (decide (x ≤ 32768 - (n : Int)) && !nmd f 21 x (x + (n : Int)))))) := rfl
  have hR := KsAt.new w f
  have hB1 := alloc_ks w f
  go_enter Tryz.func55, Tryz.ntmps55
  go_upto_region 1 with (fail)
  generalize w.alloc (.cells (kcs f) 41) = w1 at *
  obtain ⟨c, hc⟩ : ∃ c, kcs f = c := ⟨_, rfl⟩
  rw [hc]
  clear hc
  by_cases hn0 : n = 0
  · subst hn0
    go_wp2_with fail
    go_ret
    exact ⟨ret_bool (by rw [HFR.out]; rfl), hB1⟩
  · have h0 : ¬ ((n : Int) = 0) := by omega
    have h0' : ((n : Int) == 0) = false := by simp; omega
    have HD : Hid (decide (n = 0) = false) := decide_eq_false hn0
    have hsub : IntKind.i64.wrap (32768 - (n : Int)) = 32768 - (n : Int) := i64_fit _ (by omega) (by omega)
    by_cases h1 : x < 1
    · have HD1 : Hid (decide (1 ≤ x) = false) := decide_eq_false (by omega)
      go_wp2_with fail
      go_ret
      exact ⟨ret_bool (by rw [HFR.out, HD.out, HD1.out]; rfl), hB1⟩
    · have HD1 : Hid (decide (1 ≤ x) = true) := decide_eq_true (by omega)
      by_cases h2 : 32768 - (n : Int) < x
      · have HD2 : Hid (decide (x ≤ 32768 - (n : Int)) = false) := decide_eq_false (by omega)
        go_wp2_with fail
        go_ret
        exact ⟨ret_bool (by rw [HFR.out, HD.out, HD1.out, HD2.out]; rfl), hB1⟩
      · have HD2 : Hid (decide (x ≤ 32768 - (n : Int)) = true) := decide_eq_true (by omega)
        have hsum : IntKind.i64.wrap (x + (n : Int)) = x + (n : Int) := i64_fit _ (by omega) (by omega)
        have hnm := named_any (B := w.heap.size) (f := f) 21 21 (by omega) x (x + (n : Int)) w1 hR
        go_wp2_with (go_at_call 68; refine hnm.mono ?_; rintro e w2 ⟨rfl, hb2⟩)
        go_ret
        exact ⟨ret_bool (by rw [HFR.out, HD.out, HD1.out, HD2.out]; rfl), hB1.trans (hb2.mono hB1.size)⟩
theorem pop_cu : ∀ n : Fin 256, Lib.pop8 (n.val : Int) = ((cu n.val 8 : Nat) : Int) := by decide +kernel
theorem pop_at (n : Nat) (h : n < 256) : Lib.pop8 (n : Int) = ((cu n 8 : Nat) : Int) := pop_cu ⟨n, h⟩
theorem cu_congr {r s : Nat} : ∀ {k : Nat}, (∀ i, i < k → r.testBit i = s.testBit i) → cu r k = cu s k
  | 0, _ => rfl
  | k + 1, h => by
    simp only [cu]
    rw [cu_congr fun i hi => h i (by omega)]
    unfold b1
    rw [h k (by omega)]
theorem cu_add (r a : Nat) : ∀ b, cu r (a + b) = cu r a + cu (r / 2 ^ a) b
  | 0 => by simp [cu]
  | b + 1 => by
    rw [← Nat.add_assoc]
    simp only [cu]
    rw [cu_add r a b]
    have : b1 r (a + b) = b1 (r / 2 ^ a) b := by
      unfold b1
      rw [← Nat.shiftRight_eq_div_pow, Nat.testBit_shiftRight]
    omega
theorem cu_mod8 (r : Nat) : cu (r % 256) 8 = cu r 8 := cu_congr fun i hi => by
  rw [show 256 = 2 ^ 8 by decide, Nat.testBit_mod_two_pow]
  simp [hi]
theorem cu_parts (r : Nat) (hr : r < 2097152) : cu r 21 = cu (r / 65536) 8 + cu (r / 256 % 256) 8 + cu (r % 256) 8 := by
  rw [show 21 = 8 + 13 by decide, cu_add, show 13 = 8 + 5 by decide, cu_add, cu_mod8, cu_mod8]
  have e1 : r / 2 ^ 8 / 2 ^ 8 = r / 65536 := by omega
  rw [e1, show 2 ^ 8 = 256 by decide]
  have e2 : cu (r / 65536) 8 = cu (r / 65536) 5 := by
    rw [show 8 = 5 + 3 by decide, cu_add, show r / 65536 / 2 ^ 5 = 0 by omega, cu_none (r := 0) fun i _ => by simp]
    rfl
  omega
theorem and255 (v : Int) (h0 : 0 ≤ v) (h1 : v < 4294967296) : bits .and .u32 v 255 = v % 256 := by
  rw [u32_and _ _ (by omega) (by omega) (by omega) (by omega)]
  have : v.toNat &&& (255 : Int).toNat = v.toNat % 256 := Nat.and_two_pow_sub_one_eq_mod v.toNat 8
  rw [this]; omega
set_option maxRecDepth 100000 in
set_option maxHeartbeats 1000000 in
theorem ones_any (r : Nat) (hr : r < 2097152) (w : World) :
    Calls Tryz.prog 56 #[.int .u32 (r : Int)] w fun e w' => e = .returned (.int .i64 ((cu r 21 : Nat) : Int)) ∧ Below w.heap.size w w' := by
  have hc := cu_parts r hr
  have p1 := pop_at (r / 65536) (by omega)
  have p2 := pop_at (r / 256 % 256) (by omega)
  have p3 := pop_at (r % 256) (by omega)
  have p0 : Lib.pop8 0 = 0 := by decide +kernel
  have l1 := cu_le (r / 65536) 8
  have l2 := cu_le (r / 256 % 256) 8
  have l3 := cu_le (r % 256) 8
  have s0 : (r : Int) / 16777216 = 0 := by omega
  have a1 : bits .and .u32 ((r : Int) / 65536) 255 = ((r / 65536 : Nat) : Int) := by rw [and255 _ (by omega) (by omega)]; omega
  have a2 : bits .and .u32 ((r : Int) / 256) 255 = ((r / 256 % 256 : Nat) : Int) := by rw [and255 _ (by omega) (by omega)]; omega
  have a3 : bits .and .u32 (r : Int) 255 = ((r % 256 : Nat) : Int) := by rw [and255 _ (by omega) (by omega)]; omega
  have b1 : r / 65536 < 256 := by omega
  have b2 : r / 256 % 256 < 256 := by omega
  have b3 : r % 256 < 256 := by omega
  generalize r / 65536 = x1 at *
  generalize r / 256 % 256 = x2 at *
  generalize r % 256 = x3 at *
  obtain ⟨q1, h1⟩ : ∃ q, cu x1 8 = q := ⟨_, rfl⟩
  obtain ⟨q2, h2⟩ : ∃ q, cu x2 8 = q := ⟨_, rfl⟩
  obtain ⟨q3, h3⟩ : ∃ q, cu x3 8 = q := ⟨_, rfl⟩
  rw [h1] at hc p1 l1
  rw [h2] at hc p2 l2
  rw [h3] at hc p3 l3
  rw [hc]
  clear h1 h2 h3 hc hr
  have c1 : (x1 : Int) ≤ 255 := by omega
  have c2 : (x2 : Int) ≤ 255 := by omega
  have c3 : (x3 : Int) ≤ 255 := by omega
  go_enter Tryz.func56, Tryz.ntmps56
  go_upto_region 1 with (fail)
  go_quiet (fail)
  go_wp2_with fail
  go_ret
  exact ⟨ret_int (by omega), dn_below _ _⟩

theorem zero42' : Value.agg #[Value.int .i64 0, Value.int .i64 0, Value.int .i64 0, Value.int .i64 0, Value.int .i64 0, Value.int .i64 0, Value.int .i64 0, Value.int .i64 0, Value.int .i64 0, Value.int .i64 0, Value.int .i64 0, Value.int .i64 0, Value.int .i64 0, Value.int .i64 0, Value.int .i64 0, Value.int .i64 0, Value.int .i64 0, Value.int .i64 0, Value.int .i64 0, Value.int .i64 0, Value.int .i64 0, Value.int .i64 0, Value.int .i64 0, Value.int .i64 0, Value.int .i64 0, Value.int .i64 0, Value.int .i64 0, Value.int .i64 0, Value.int .i64 0, Value.int .i64 0, Value.int .i64 0, Value.int .i64 0, Value.int .i64 0, Value.int .i64 0, Value.int .i64 0, Value.int .i64 0, Value.int .i64 0, Value.int .i64 0, Value.int .i64 0, Value.int .i64 0, Value.int .i64 0, Value.int .i64 0] = .agg (kcs fun _ => zK) := by rw [zero42]
theorem ldK_run {w : World} {B : Nat} {f : Nat → Ky} (h : KsAt w B f) : (Instr.loadAt 41 (.pointer (some ⟨B, 0, none⟩))).run Tryz.prog w = .ok (.agg (kcs f)) w := by
  simp only [Instr.loadAt, Instr.sureAddr, Sem.run_bind, Sem.run_pure, Result.andThen]
  exact run_loadVar_row w B _ _ _ _ _ h Tryz.underlying41 rfl (by rw [kcs_size]; exact infoK)
theorem ldK_exec {w : World} {B : Nat} {f : Nat → Ky} (h : KsAt w B f) {a : Act} {o : Oper} {x : Operand} (ho : o.op = .load 41 x) (hx : a.eval x = .pointer (some ⟨B, 0, none⟩)) : (execOp a.eval o).run Tryz.prog w = .ok (.value (.agg (kcs f))) w := by
  have := ldK_run h
  simp [execOp, ho, hx, this, Sem.run_bind, Result.andThen]
theorem results_ks3 {fn : Func} {p t u : Tmp} (hf : fn.results = #[.cell p 41, .tmp t, .tmp u]) (tmps : Array Value) (W : World) (B : Nat) (f : Nat → Ky) (hp : tmps[p]? = some (.pointer (some ⟨B, 0, none⟩))) (hb : KsAt W B f) :
    (results fn tmps).run Tryz.prog W = .ok (.tuple #[.agg (kcs f), tmps.getD t undef, tmps.getD u undef]) W := by
  have h := run_loadVar_row W B _ 41 _ _ _ hb Tryz.underlying41 rfl (by rw [kcs_size]; exact infoK)
  simp [results, hf, hp, asAddr, h]
/- What stands while Turn goes. -/
structure TS (w W : World) (f : Nat → Ky) : Prop where
  ks : KsAt W w.heap.size f
  ze : KsAt W (w.heap.size + 1) (fun _ => zK)
  bel : Below w.heap.size w W
theorem TS.later {w W W' : World} {f : Nat → Ky} (h : TS w W f) (hb : Below W.heap.size W W') : TS w W' f := ⟨h.ks.later hb, h.ze.later hb, h.bel.trans (hb.mono h.bel.size)⟩
theorem TS.new (w : World) (f : Nat → Ky) : TS w ((w.alloc (.cells (kcs f) 41)).alloc (.cells (kcs fun _ => zK) 41)) f := by
  have b2 := alloc_ks (w.alloc (.cells (kcs f) 41)) (fun _ => zK)
  have h2 := KsAt.new (w.alloc (.cells (kcs f) 41)) (fun _ => zK)
  rw [World.size_alloc] at h2
  exact ⟨(KsAt.new w f).later b2, h2, (alloc_ks w f).trans (b2.mono (by simp))⟩
structure TL (w W : World) (f : Nat → Ky) (B : Nat) (g : Nat → Ky) : Prop where
  ts : TS w W f
  nx : KsAt W B g
  far : w.heap.size + 2 ≤ B
theorem TL.later {w W W' : World} {f g : Nat → Ky} {B : Nat} (h : TL w W f B g) (hb : Below W.heap.size W W') : TL w W' f B g := ⟨h.ts.later hb, h.nx.later hb, h.far⟩
theorem TL.set {w W : World} {f g : Nat → Ky} {B : Nat} (h : TL w W f B g) (k : Nat) (hk : k < 21) (a b : Int) : TL w ((W.setCell ⟨B, k * 2, none⟩ (.int .i64 a)).setCell ⟨B, k * 2 + 1, none⟩ (.int .i64 b)) f B (kup g k ⟨a, b⟩) := by
  have hf := h.far
  exact ⟨⟨(set2_other (by omega) _ _ _ _).trans h.ts.ks, (set2_other (by omega) _ _ _ _).trans h.ts.ze, set2_below h.ts.bel (by omega) _ _ _ _⟩, h.nx.set2 k hk a b, hf⟩
/- What Turn answers. -/
def TurnA (f : Nat → Ky) (r : Nat) (n : Int) : Ending := .returned (.tuple #[.agg (kcs (trA f r n)), .int .i64 (trN f r n), .int .i64 (trE f r n)])
theorem TurnA.no {f : Nat → Ky} {r : Nat} {n x : Int} (h : trE f r n = x) (hx : x ≠ 0) : Ending.returned (.tuple #[.agg (kcs fun _ => zK), .int .i64 0, .int .i64 x]) = TurnA f r n := by
  unfold TurnA trA trN
  rw [h, if_neg hx, if_neg hx]
theorem TurnA.yes {f : Nat → Ky} {r : Nat} {n : Int} (h : trE f r n = 0) : Ending.returned (.tuple #[.agg (kcs (trK f r n)), .int .i64 (n + ((cu r 21 : Nat) : Int)), .int .i64 0]) = TurnA f r n := by
  unfold TurnA trA trN
  rw [h, if_pos rfl, if_pos rfl]
theorem and1 (r v : Nat) (hr : r < 4294967296) : bits .and .u32 ((r : Int) / 2 ^ v) 1 = if r.testBit v then 1 else 0 := by
  have e : (r : Int) / 2 ^ v = ((r / 2 ^ v : Nat) : Int) := by simp
  have hlt : r / 2 ^ v < 4294967296 := Nat.lt_of_le_of_lt (Nat.div_le_self _ _) hr
  generalize hx : r / 2 ^ v = x at *
  rw [e, u32_and _ _ (by omega) (by omega) (by omega) (by omega)]
  have h2 : ((x : Int)).toNat &&& (1 : Int).toNat = x % 2 := by
    rw [Int.toNat_natCast]
    exact Nat.and_one_is_mod _
  rw [h2, Nat.testBit_eq_decide_div_mod_eq, hx]
  rcases Nat.mod_two_eq_zero_or_one x with h | h <;> simp [h]
set_option maxRecDepth 100000 in
set_option maxHeartbeats 2000000 in
theorem turn_any (f : Nat → Ky) (r : Nat) (hr : r < 4294967296) (n : Int) (w : World) :
    Calls Tryz.prog 26 #[.agg (kcs f), .int .u32 (r : Int), .int .i64 n] w fun e w' => e = TurnA f r n ∧ Below w.heap.size w w' := by
  have hT0 := TS.new w f
  go_enter Tryz.func26, Tryz.ntmps26
  go_upto_region 1 with (fail)
  rw [zero42]
  generalize (w.alloc (.cells (kcs f) 41)).alloc (.cells (kcs fun _ => zK) 41) = w1 at *
  refine wp_region_lit ?_
  refine ldK hT0.ks rfl _ rfl rfl ?_
  have hck := check_any f w1
  obtain ⟨cf, hcf⟩ : ∃ cf, kcs f = cf := ⟨_, rfl⟩
  rw [hcf] at hck ⊢
  clear hcf
  go_wp2_with fail
  refine hck.mono ?_
  rintro e w2 ⟨rfl, hb2⟩
  have hT2 := hT0.later hb2
  clear hck hb2 hT0
  cases hkc : kchk f with
  | false =>
    rw [kchkE_ff hkc]
    go_wp2_with (refine stK (g := fun _ => zK) hT2.ze rfl _ _ rfl rfl zero42' ?_)
    refine bodyPost_ret (results_ks3 (p := 6) (t := 7) (u := 8) rfl _ _ (w.heap.size + 1) (fun _ => zK) rfl (hT2.ze.row _)) rfl ?_
    exact ⟨TurnA.no (trE_wrong hkc) (by decide), setRow_below (by omega) hT2.bel _⟩
  | true =>
    rw [kchkE_tt hkc]
    by_cases hr2 : r < 2097152
    · have hs : (r : Int) / 2097152 = 0 := by omega
      have h1 := ones_any r hr2
      have h2 := areFree_any f n (cu r 21) (cu_le _ _)
      rw [← frk_fre] at h2
      have HCU : Hid (cu r 21 ≤ 21) := cu_le _ _
      obtain ⟨q, hq⟩ : ∃ q, cu r 21 = q := ⟨_, rfl⟩
      rw [hq] at h1 h2
      have HQ : Hid (cu r 21 = q) := hq
      clear hq
      go_upto_region 6 with (fail)
      have hS0 : TS w w2.drew f := hT2.later (drew_below _)
      clear hs
      cases hfk : frk f r n with
      | false =>
        rw [hfk] at h2
        refine wp_region_held_drew (S := fun W => TS w W f) (by kernel_rfl) hS0 (fun hHeld => ?_)
        refine wpAnyH_take (i := 0) (oi := { dst := some 24, op := Op.load 41 (Operand.tmp 3), type := _, pos := _, after := _, guard := none }) (v := .agg (kcs f)) rfl (by kernel_rfl) (by kernel_rfl) (by kernel_rfl) (fun _ _ _ h => h) (Or.inl ⟨by rfl, fun w hSw => ldK_exec hSw.ks rfl rfl⟩) (by assumption) ?_
        simp only [Act.put, List.setIfInBounds_toArray, List.set_cons_zero, List.set_cons_succ]
        refine wpAnyH_take (i := 1) (oi := { dst := some 25, op := Op.move (Operand.tmp 2), type := _, pos := _, after := _, guard := none }) (v := .int .i64 n) rfl (by kernel_rfl) (by kernel_rfl) (by kernel_rfl) (fun _ _ _ h => h) (Or.inl ⟨by rfl, fun w hSw => by (try dsimp only at hSw); go_simp⟩) (by assumption) ?_
        simp only [Act.put, List.setIfInBounds_toArray, List.set_cons_zero, List.set_cons_succ]
        refine wpAnyH_take (i := 2) (oi := { dst := some 26, op := Op.move (Operand.tmp 1), type := _, pos := _, after := _, guard := none }) (v := .int .u32 (r : Int)) rfl (by kernel_rfl) (by kernel_rfl) (by kernel_rfl) (fun _ _ _ h => h) (Or.inl ⟨by rfl, fun w hSw => by (try dsimp only at hSw); go_simp⟩) (by assumption) ?_
        simp only [Act.put, List.setIfInBounds_toArray, List.set_cons_zero, List.set_cons_succ]
        refine wpAnyH_ready (rs := [3]) (by kernel_rfl) (by simp) ?_
        refine AllReadyH.cons rfl (fun K hK => ?_) AllReadyH.nil
        go_simp
        refine (h1 _).mono ?_
        rintro e w3 ⟨rfl, hb3⟩
        go_wp2_with fail
        refine hK.out _ _ (hHeld.later hb3) (fun hHeld2 => ?_)
        clear hHeld hb3
        clear hK K
        try simp only [Act.put, List.setIfInBounds_toArray, List.set_cons_zero, List.set_cons_succ]
        refine wpAnyH_ready (rs := [4]) (by kernel_rfl) (by simp) ?_
        refine AllReadyH.cons rfl (fun K hK => ?_) AllReadyH.nil
        go_simp
        refine (h2 _).mono ?_
        rintro e w4 ⟨rfl, hb4⟩
        go_wp2_with fail
        refine hK.out _ _ (hHeld2.later hb4) (fun hHeld3 => ?_)
        clear hHeld2 hb4
        clear hK K
        try simp only [Act.put, List.setIfInBounds_toArray, List.set_cons_zero, List.set_cons_succ]
        refine wpAnyH_take (i := 5) (oi := { dst := some 29, op := Op.unOp UnOp.not 4 (Operand.tmp 28), type := _, pos := _, after := _, guard := none }) (v := .bool true) rfl (by kernel_rfl) (by kernel_rfl) (by kernel_rfl) (fun _ _ _ h => h) (Or.inl ⟨by rfl, fun w hSw => by (try dsimp only at hSw); go_simp⟩) (by assumption) ?_
        simp only [Act.put, List.setIfInBounds_toArray, List.set_cons_zero, List.set_cons_succ]
        refine wpAnyH_done (by kernel_rfl) ?_ _
        go_wp2_with (refine stK (g := fun _ => zK) hHeld3.ze rfl _ _ rfl rfl zero42' ?_)
        refine bodyPost_ret (results_ks3 (p := 6) (t := 7) (u := 8) rfl _ _ (w.heap.size + 1) (fun _ => zK) rfl (hHeld3.ze.row _)) rfl ?_
        exact ⟨TurnA.no (trE_key hkc hr2 hfk) (by decide), setRow_below (by omega) hHeld3.bel _⟩
      | true =>
        rw [hfk] at h2
        refine wp_region_held_drew (S := fun W => TS w W f) (by kernel_rfl) hS0 (fun hHeld => ?_)
        refine wpAnyH_take (i := 0) (oi := { dst := some 24, op := Op.load 41 (Operand.tmp 3), type := _, pos := _, after := _, guard := none }) (v := .agg (kcs f)) rfl (by kernel_rfl) (by kernel_rfl) (by kernel_rfl) (fun _ _ _ h => h) (Or.inl ⟨by rfl, fun w hSw => ldK_exec hSw.ks rfl rfl⟩) (by assumption) ?_
        simp only [Act.put, List.setIfInBounds_toArray, List.set_cons_zero, List.set_cons_succ]
        refine wpAnyH_take (i := 1) (oi := { dst := some 25, op := Op.move (Operand.tmp 2), type := _, pos := _, after := _, guard := none }) (v := .int .i64 n) rfl (by kernel_rfl) (by kernel_rfl) (by kernel_rfl) (fun _ _ _ h => h) (Or.inl ⟨by rfl, fun w hSw => by (try dsimp only at hSw); go_simp⟩) (by assumption) ?_
        simp only [Act.put, List.setIfInBounds_toArray, List.set_cons_zero, List.set_cons_succ]
        refine wpAnyH_take (i := 2) (oi := { dst := some 26, op := Op.move (Operand.tmp 1), type := _, pos := _, after := _, guard := none }) (v := .int .u32 (r : Int)) rfl (by kernel_rfl) (by kernel_rfl) (by kernel_rfl) (fun _ _ _ h => h) (Or.inl ⟨by rfl, fun w hSw => by (try dsimp only at hSw); go_simp⟩) (by assumption) ?_
        simp only [Act.put, List.setIfInBounds_toArray, List.set_cons_zero, List.set_cons_succ]
        refine wpAnyH_ready (rs := [3]) (by kernel_rfl) (by simp) ?_
        refine AllReadyH.cons rfl (fun K hK => ?_) AllReadyH.nil
        go_simp
        refine (h1 _).mono ?_
        rintro e w3 ⟨rfl, hb3⟩
        go_wp2_with fail
        refine hK.out _ _ (hHeld.later hb3) (fun hHeld2 => ?_)
        clear hHeld hb3
        clear hK K
        try simp only [Act.put, List.setIfInBounds_toArray, List.set_cons_zero, List.set_cons_succ]
        refine wpAnyH_ready (rs := [4]) (by kernel_rfl) (by simp) ?_
        refine AllReadyH.cons rfl (fun K hK => ?_) AllReadyH.nil
        go_simp
        refine (h2 _).mono ?_
        rintro e w4 ⟨rfl, hb4⟩
        go_wp2_with fail
        refine hK.out _ _ (hHeld2.later hb4) (fun hHeld3 => ?_)
        clear hHeld2 hb4
        clear hK K
        try simp only [Act.put, List.setIfInBounds_toArray, List.set_cons_zero, List.set_cons_succ]
        refine wpAnyH_take (i := 5) (oi := { dst := some 29, op := Op.unOp UnOp.not 4 (Operand.tmp 28), type := _, pos := _, after := _, guard := none }) (v := .bool false) rfl (by kernel_rfl) (by kernel_rfl) (by kernel_rfl) (fun _ _ _ h => h) (Or.inl ⟨by rfl, fun w hSw => by (try dsimp only at hSw); go_simp⟩) (by assumption) ?_
        simp only [Act.put, List.setIfInBounds_toArray, List.set_cons_zero, List.set_cons_succ]
        refine wpAnyH_done (by kernel_rfl) ?_ _
        clear h1 h2 hS0 hT2
        go_upto_region 9 with (fail)
        rw [zero42]
        have hL5 : TL w (w4.alloc (.cells (kcs fun _ => zK) 41)) f w4.heap.size (trS (fun _ => zK) f r n 0) := ⟨hHeld3.later (alloc_ks _ _), (KsAt.new _ _).congr (trS_zero _ _ _ _).symm, hHeld3.ze.lt⟩
        clear hHeld3
        generalize w4.alloc (.cells (kcs fun _ => zK) 41) = w6 at *
        generalize w4.heap.size = Bn at *
        have HL5 : Hid (TL w w6 f Bn (trS (fun _ => zK) f r n 0)) := hL5
        clear hL5
        go_wp2_with fail
        go_loopw [2, 11] (fun x i wx => ∃ j : Nat, j ≤ 21 ∧ i = .int .i64 (20 - (j : Int)) ∧ x = .int .i64 (n + ((cd r j : Nat) : Int)) ∧ TL w wx f Bn (trS (fun _ => zK) f r n j) ∧ ∀ m, m < j → skk f r (20 - m) = false) (fun _ i _ => (intOf i + 1).toNat)
        case atStart => exact ⟨0, by omega, rfl, by simp [cd], HL5.out, fun m hm => by omega⟩
        case round =>
          obtain ⟨j, hj, rfl, rfl, hL, hsk⟩ := hrel
          have HL : Hid (TL w wr f Bn (trS (fun _ => zK) f r n j)) := hL
          have HSK : Hid (∀ m, m < j → skk f r (20 - m) = false) := hsk
          clear hL hsk HL5
          by_cases hj8 : j < 21
          · obtain ⟨v, hv⟩ : ∃ v : Nat, 20 - j = v := ⟨_, rfl⟩
            have hvi : (20 : Int) - (j : Int) = (v : Int) := by omega
            rw [hvi]
            have v0 : (0 : Int) ≤ (v : Int) := by omega
            have v1 : (v : Int) < 21 := by omega
            have vw : IntKind.u64.wrap (v : Int) = (v : Int) := by rw [IntKind.wrap_u64]; omega
            obtain ⟨y, hy⟩ : ∃ y : Int, n + ((cd r j : Nat) : Int) = y := ⟨_, rfl⟩
            rw [hy]
            have HY : Hid (n + ((cd r j : Nat) : Int) = y) := hy
            have HV : Hid (20 - j = v) := hv
            clear hy hv hvi
            have hand := and1 r v hr
            obtain ⟨c0, c1⟩ := HL.out.nx.cells v (by omega)
            have f0 := row_frozen HL.out.nx (v * 2)
            have f1 := row_frozen HL.out.nx (v * 2 + 1)
            have HI : Hid ((20 : Int) - ((j + 1 : Nat) : Int) = (v : Int) - 1) := by have := HV.out; unfold Hid; omega
            have HVJ : Hid (20 - v = j) := by have := HV.out; unfold Hid; omega
            have hcdl := cd_le r j
            have HCD : Hid (cd r (j + 1) = cd r j + b1 r v) := by have := HV.out; rw [← this]; exact rfl
            have HTS : Hid (trS (fun _ => zK) f r n (j + 1) = kup (trS (fun _ => zK) f r n j) v (trK f r n v)) := by have := trS_step (fun _ => zK) f r n hj8; rw [HV.out] at this; exact this
            cases hb : r.testBit v with
            | true =>
              rw [hb] at hand
              obtain ⟨fk1, fk2, _⟩ := frk_at hfk (by omega : v < 21) hb
              have HY1 : Hid (y + 1 = n + ((cd r (j + 1) : Nat) : Int)) := by have h1 := HY.out; have h2 := HCD.out; unfold b1 at h2; rw [hb] at h2; simp at h2; unfold Hid; omega
              have hyw : IntKind.i64.wrap (y + 1) = y + 1 := i64_fit _ (by have := HY.out; omega) (by have := HY.out; have := HCU.out; omega)
              have HL2 : Hid (TL w ((wr.setCell ⟨Bn, v * 2, none⟩ (.int .i64 y)).setCell ⟨Bn, v * 2 + 1, none⟩ (.int .i64 0)) f Bn (kup (trS (fun _ => zK) f r n j) v ⟨y, 0⟩)) := HL.out.set v (by omega) y 0
              clear fk1 fk2
              go_wp2_with fail
              go_roundw
              case rel =>
                refine ⟨j + 1, by omega, by rw [HI.out], by rw [← HY1.out], ?_, fun m hm => ?_⟩
                · rw [HTS.out, trK_new hb, HVJ.out, HY.out]
                  exact HL2.out
                · rcases Nat.lt_or_ge m j with h | h
                  · exact HSK.out m h
                  · obtain rfl : m = j := by omega
                    unfold skk
                    rw [HV.out, hb]
                    rfl
              case measure => simp [intOf]
            | false =>
              rw [hb] at hand
              obtain ⟨d0, d1⟩ := HL.out.ts.ks.cells v (by omega)
              obtain ⟨hG, _⟩ := (kchk_iff.1 hkc).1 v (by omega)
              have HY1 : Hid (y = n + ((cd r (j + 1) : Nat) : Int)) := by have h1 := HY.out; have h2 := HCD.out; unfold b1 at h2; rw [hb] at h2; simp at h2; unfold Hid; omega
              have HTK : Hid (trK f r n v = ⟨(f v).bas, (f v).stp + 1⟩) := trK_old hb
              have HSV : Hid (skk f r v = decide (254 < (f v).stp)) := by unfold skk; rw [hb]; rfl
              obtain ⟨e, he⟩ : ∃ e, f v = e := ⟨_, rfl⟩
              rw [he] at d0 d1 hG HTK HSV
              have HFE : Hid (f v = e) := he
              clear he
              by_cases hst : 254 < e.stp
              · have ha := ahead_far e.bas e.stp 1 hG (Or.inr (by omega)) wr
                clear c0 c1 f0 f1
                go_wp2_with fail
                refine ha.mono ?_
                rintro a w7 ⟨rfl, hb7⟩
                have hT8 := (HL.out.ts.later hb7).later (below_alloc w7 (.cells #[.int .i64 0, .int .i64 0] 31))
                clear ha hb7 d0 d1
                go_wp2_with (refine stK (g := fun _ => zK) hT8.ze rfl _ _ rfl rfl zero42' ?_)
                refine bodyPost_ret (results_ks3 (p := 6) (t := 7) (u := 8) rfl _ _ (w.heap.size + 1) (fun _ => zK) rfl (hT8.ze.row _)) rfl ?_
                exact ⟨TurnA.no (trE_step hkc hr2 hfk (stuck_yes (v := v) (by omega) (by rw [HSV.out]; exact decide_eq_true hst))) (by decide), setRow_below (by omega) hT8.bel _⟩
              · have ha := ahead_yes e.bas e.stp 1 hG (by omega) (by omega) wr
                clear c0 c1 f0 f1
                go_wp2_with fail
                refine ha.mono ?_
                rintro a w7 ⟨rfl, hb7⟩
                have hL8 := (HL.out.later hb7).later (below_alloc w7 (.cells #[.int .i64 e.bas, .int .i64 (e.stp + 1)] 31))
                obtain ⟨c0, c1⟩ := hL8.nx.cells v (by omega)
                have f0 := row_frozen hL8.nx (v * 2)
                have f1 := row_frozen hL8.nx (v * 2 + 1)
                have HL9 : Hid (TL w (((w7.alloc (.cells #[.int .i64 e.bas, .int .i64 (e.stp + 1)] 31)).setCell ⟨Bn, v * 2, none⟩ (.int .i64 e.bas)).setCell ⟨Bn, v * 2 + 1, none⟩ (.int .i64 (e.stp + 1))) f Bn (kup (trS (fun _ => zK) f r n j) v ⟨e.bas, e.stp + 1⟩)) := hL8.set v (by omega) e.bas (e.stp + 1)
                clear ha hb7 d0 d1 hL8
                go_wp2_with fail
                go_roundw
                case rel =>
                  refine ⟨j + 1, by omega, by rw [HI.out], by rw [← HY1.out], ?_, fun m hm => ?_⟩
                  · rw [HTS.out, HTK.out]
                    exact HL9.out
                  · rcases Nat.lt_or_ge m j with h | h
                    · exact HSK.out m h
                    · obtain rfl : m = j := by omega
                      rw [HV.out, HSV.out]
                      exact decide_eq_false (by omega)
                case measure => simp [intOf]
          · obtain rfl : j = 21 := by omega
            have HE0 : Hid (trE f r n = 0) := trE_ok hkc hr2 hfk (stuck_no fun v hv => by have := HSK.out (20 - v) (by omega); rw [show 20 - (20 - v) = v by omega] at this; exact this)
            have hN := HL.out.nx.congr (trS_all _ _ _ _)
            rw [show cd r 21 = cu r 21 from cd_all r]
            obtain ⟨y, hy⟩ : ∃ y : Int, n + ((cu r 21 : Nat) : Int) = y := ⟨_, rfl⟩
            rw [hy]
            have HY : Hid (n + ((cu r 21 : Nat) : Int) = y) := hy
            clear hy
            go_upto_region 19 with (fail)
            refine wp_region_lit ?_
            refine ldK hN rfl _ rfl rfl ?_
            go_wp2_with (refine stK (g := trK f r n) HL.out.ts.ze rfl _ _ rfl rfl rfl ?_)
            refine bodyPost_ret (results_ks3 (p := 6) (t := 7) (u := 8) rfl _ _ (w.heap.size + 1) (trK f r n) rfl (HL.out.ts.ze.row _)) rfl ?_
            refine ⟨?_, setRow_below (by omega) HL.out.ts.bel _⟩
            rw [← TurnA.yes HE0.out, HY.out]
            rfl
    · have hs : ((r : Int) / 2097152 == 0) = false := by simp; omega
      have hs2 : ¬ ((r : Int) / 2097152 = 0) := by omega
      go_wp2_with (refine stK (g := fun _ => zK) hT2.ze rfl _ _ rfl rfl zero42' ?_)
      refine bodyPost_ret (results_ks3 (p := 6) (t := 7) (u := 8) rfl _ _ (w.heap.size + 1) (fun _ => zK) rfl (hT2.ze.row _)) rfl ?_
      exact ⟨TurnA.no (trE_node hkc hr2) (by decide), setRow_below (by omega) hT2.bel _⟩

open Go.RowKit Go.Great

def pcs (f : Nat → Ky) : Array Value := Array.ofFn (n := 6) fun i => .int .i64 ((f (i.1 / 2)).fld (i.1 % 2))
@[simp] theorem pcs_size (f : Nat → Ky) : (pcs f).size = 6 := by simp [pcs]
theorem pcs_at (f : Nat → Ky) (j : Nat) (h : j < 6) : (pcs f)[j]? = some (.int .i64 ((f (j / 2)).fld (j % 2))) := by
  rw [Array.getElem?_eq_getElem (by simpa using h)]
  simp [pcs]
theorem pcs_get (f : Nat → Ky) (i : Nat) (h : i < 3) : (pcs f)[i * 2]? = some (.int .i64 (f i).bas) ∧ (pcs f)[i * 2 + 1]? = some (.int .i64 (f i).stp) := by
  refine ⟨?_, ?_⟩
  · rw [pcs_at f _ (by omega), show i * 2 / 2 = i by omega, show i * 2 % 2 = 0 by omega]; rfl
  · rw [pcs_at f _ (by omega), show (i * 2 + 1) / 2 = i by omega, show (i * 2 + 1) % 2 = 1 by omega]; rfl
theorem pcs_congr {f g : Nat → Ky} (h : ∀ i, i < 3 → f i = g i) : pcs f = pcs g := by
  unfold pcs
  congr 1
  funext i
  rw [h (i.1 / 2) (by have := i.2; omega)]
theorem pcs_one (f : Nat → Ky) : (pcs f).all (·.oneCell') = true := by
  rw [Array.all_eq_true]
  intro i h
  simp [pcs, Value.oneCell']
theorem pcs_set (f : Nat → Ky) (k : Nat) (e : Ky) (hk : k < 3) :
    ((pcs f).setIfInBounds (k * 2) (.int .i64 e.bas)).setIfInBounds (k * 2 + 1) (.int .i64 e.stp) = pcs (kup f k e) := by
  apply Array.ext
  · simp
  · intro i h1 h2
    simp at h1
    rw [Array.getElem_setIfInBounds (by simpa using h1), Array.getElem_setIfInBounds (by simpa using h1)]
    simp only [pcs, Array.getElem_ofFn]
    by_cases h : i / 2 = k
    · rw [h, kup_same]
      by_cases c1 : k * 2 + 1 = i
      · rw [if_pos c1, show i % 2 = 1 by omega]; rfl
      · rw [if_neg c1, if_pos (by omega), show i % 2 = 0 by omega]; rfl
    · rw [if_neg (by omega), if_neg (by omega), kup_ne _ _ h]
theorem infoP : (Tryz.prog.info? 72).map (·.size) = some 6 := by kernel_rfl
def PaAt (w : World) (B : Nat) (f : Nat → Ky) : Prop := w.heap[B]? = some (.cells (pcs f) 72 (0, 0))
theorem PaAt.lt {w : World} {B : Nat} {f : Nat → Ky} (h : PaAt w B f) : B < w.heap.size := (Array.getElem?_eq_some_iff.1 h).1
theorem PaAt.below {n : Nat} {w w' : World} {B : Nat} {f : Nat → Ky} (h : PaAt w B f) (hb : Below n w w') (hn : B < n) : PaAt w' B f := (hb.block B hn).trans h
theorem PaAt.later {w w' : World} {B : Nat} {f : Nat → Ky} (h : PaAt w B f) (hb : Below w.heap.size w w') : PaAt w' B f := h.below hb h.lt
theorem PaAt.new (w : World) (f : Nat → Ky) : PaAt (w.alloc (.cells (pcs f) 72)) w.heap.size f := heap_alloc_last w _
theorem PaAt.congr {w : World} {B : Nat} {f g : Nat → Ky} (h : PaAt w B f) (e : pcs f = pcs g) : PaAt w B g := by unfold PaAt at *; rw [← e]; exact h
theorem alloc_pa (w : World) (f : Nat → Ky) : Below w.heap.size w (w.alloc (.cells (pcs f) 72)) := (Below.refl _ w).alloc (Nat.le_refl _) _
theorem PaAt.cells {w : World} {B : Nat} {f : Nat → Ky} (h : PaAt w B f) (k : Nat) (hk : k < 3) : w.cell? ⟨B, k * 2, none⟩ = some (.int .i64 (f k).bas) ∧ w.cell? ⟨B, k * 2 + 1, none⟩ = some (.int .i64 (f k).stp) := by
  obtain ⟨h0, h1⟩ := pcs_get f k hk
  exact ⟨(cell_of_row w B _ _ _ _ h).trans h0, (cell_of_row w B _ _ _ _ h).trans h1⟩
theorem ldP {ops : Array Oper} {rest : List Oper} {o : Oper} {a : Act} {w : World} {Q : Exit → Act → World → Prop} {B : Nat} {f : Nat → Ky} (h : PaAt w B f) (hgd : o.guard = none) (x : Operand) (ho : o.op = .load 72 x)
    (hx : a.eval x = .pointer (some ⟨B, 0, none⟩)) (k : wpList Tryz.prog ops Q rest (a.put o.dst (.agg (pcs f))) w) : wpList Tryz.prog ops Q (o :: rest) a w :=
  wpList_load_row hgd 72 x ho B hx 72 (pcs f) (0, 0) _ h Tryz.underlying72 rfl (by rw [pcs_size]; exact infoP) k
theorem stP {ops : Array Oper} {rest : List Oper} {o : Oper} {a : Act} {w : World} {Q : Exit → Act → World → Prop} {B : Nat} {f g : Nat → Ky} (h : PaAt w B f) (hgd : o.guard = none) (x y : Operand) (ho : o.op = .store 72 x y)
    (hx : a.eval x = .pointer (some ⟨B, 0, none⟩)) (hy : a.eval y = .agg (pcs g)) (k : wpList Tryz.prog ops Q rest (a.put o.dst undef) (w.setRow B (pcs g))) : wpList Tryz.prog ops Q (o :: rest) a w :=
  wpList_store_row hgd 72 x y ho B (pcs g) hx hy 72 (pcs f) h (by rw [pcs_size]; exact infoP) (by rw [pcs_size, pcs_size]) (pcs_one g) k
theorem PaAt.row {w : World} {B : Nat} {f : Nat → Ky} (h : PaAt w B f) (g : Nat → Ky) : PaAt (w.setRow B (pcs g)) B g := heap_setRow_same h _
theorem PaAt.set2 {w : World} {B : Nat} {f : Nat → Ky} (h : PaAt w B f) (k : Nat) (hk : k < 3) (a b : Int) :
    PaAt ((w.setCell ⟨B, k * 2, none⟩ (.int .i64 a)).setCell ⟨B, k * 2 + 1, none⟩ (.int .i64 b)) B (kup f k ⟨a, b⟩) := by
  have h3 := row_setCell (row_setCell h (k * 2) (.int .i64 a)) (k * 2 + 1) (.int .i64 b)
  rw [pcs_set f k ⟨a, b⟩ hk] at h3
  exact h3
theorem zero6 : (#[Value.int .i64 0, Value.int .i64 0, Value.int .i64 0, Value.int .i64 0, Value.int .i64 0, Value.int .i64 0] : Array Value) = pcs fun _ => zK := by kernel_rfl
theorem zero6' : Value.agg #[Value.int .i64 0, Value.int .i64 0, Value.int .i64 0, Value.int .i64 0, Value.int .i64 0, Value.int .i64 0] = .agg (pcs fun _ => zK) := by rw [zero6]

theorem rAhead_yes (b s n : Int) (h : Gd b s) (h0 : 0 ≤ n) (h1 : n ≤ 255 - s) (w : World) :
    Calls Tryz.prog 80 #[.agg #[.int .i64 b, .int .i64 s], .int .i64 n] w fun e w' => e = .returned (.tuple #[.agg #[.int .i64 b, .int .i64 (s + n)], .int .i64 0]) ∧ Below w.heap.size w w' := by
  have h3 := h.2.2.1
  refine (rAhead_in b s n h h0 (by omega) w).mono ?_
  rintro e w' ⟨he, hb⟩
  rw [if_pos (by omega)] at he
  exact ⟨he, hb⟩
theorem rAhead_far (b s n : Int) (h : Gd b s) (hn : n < 0 ∨ 255 - s < n) (w : World) :
    Calls Tryz.prog 80 #[.agg #[.int .i64 b, .int .i64 s], .int .i64 n] w fun e w' => e = .returned (.tuple #[.agg #[.int .i64 0, .int .i64 0], .int .i64 4]) ∧ Below w.heap.size w w' := by
  by_cases hi : 0 ≤ n ∧ n ≤ 255
  · refine (rAhead_in b s n h hi.1 hi.2 w).mono ?_
    rintro e w' ⟨he, hb⟩
    rw [if_neg (by omega)] at he
    exact ⟨he, hb⟩
  · exact rAhead_off b s n h (by omega) w
theorem TS.set {w W : World} {g : Nat → Ky} (h : TS w W g) (k : Nat) (hk : k < 21) (a b : Int) : TS w ((W.setCell ⟨w.heap.size, k * 2, none⟩ (.int .i64 a)).setCell ⟨w.heap.size, k * 2 + 1, none⟩ (.int .i64 b)) (kup g k ⟨a, b⟩) :=
  ⟨h.ks.set2 k hk a b, (set2_other (by omega) _ _ _ _).trans h.ze, set2_below h.bel (Nat.le_refl _) _ _ _ _⟩
theorem high_bit {r : Nat} (hr : r < 4294967296) (h : ∀ i, 21 ≤ i → i < 32 → r.testBit i = false) : r < 2097152 := by
  rcases Nat.lt_or_ge r 2097152 with h1 | h1
  · exact h1
  · exfalso
    obtain ⟨i, hi, hb⟩ := Nat.exists_ge_and_testBit_of_ge_two_pow (n := 21) (x := r) (by simpa using h1)
    rcases Nat.lt_or_ge i 32 with h2 | h2
    · rw [h i hi h2] at hb
      cases hb
    · rw [Nat.testBit_lt_two_pow (Nat.lt_of_lt_of_le hr (by have := Nat.pow_le_pow_right (n := 2) (by omega) h2; simpa using this))] at hb
      cases hb
theorem low_bit {r i : Nat} (hr : r < 2097152) (hi : 21 ≤ i) : r.testBit i = false := Nat.testBit_lt_two_pow (Nat.lt_of_lt_of_le hr (by have := Nat.pow_le_pow_right (n := 2) (by omega) hi; simpa using this))
theorem frk_zero {f : Nat → Ky} {r : Nat} {n : Int} (h : cu r 21 = 0) : frk f r n = true := by unfold frk; rw [h]; rfl
theorem frk_low {f : Nat → Ky} {r : Nat} {n : Int} (h : ¬ cu r 21 = 0) (h2 : n < 1 ∨ 32768 - (cu r 21 : Int) < n) : frk f r n = false := by
  unfold frk
  rw [decide_eq_false h, Bool.false_or]
  rcases h2 with h2 | h2
  · rw [decide_eq_false (by omega), Bool.false_and]
  · rw [decide_eq_false (p := n ≤ _) (by omega), Bool.false_and, Bool.and_false]
theorem frk_clash {f : Nat → Ky} {r i : Nat} {n : Int} (h : ¬ cu r 21 = 0) (hi : i < 21) (hc : nm1 (f i) n (n + (cu r 21 : Int)) = true) : frk f r n = false := by
  unfold frk
  rw [decide_eq_false h, Bool.false_or, nmd_yes hi hc, Bool.not_true, Bool.and_false, Bool.and_false]
theorem frk_fine {f : Nat → Ky} {r : Nat} {n : Int} (h1 : 1 ≤ n) (h2 : n ≤ 32768 - (cu r 21 : Int)) (hc : ∀ i, i < 21 → nm1 (f i) n (n + (cu r 21 : Int)) = false) : frk f r n = true := by
  unfold frk
  rw [decide_eq_true h1, decide_eq_true h2, nmd_no hc]
  simp
/- Behind the tests: the nodes from the greatest down. -/
set_option maxRecDepth 100000 in
set_option maxHeartbeats 2000000 in
theorem rTurn_any (f : Nat → Ky) (r : Nat) (hr : r < 4294967296) (n : Int) (w : World) :
    Calls Tryz.prog 38 #[.agg (kcs f), .int .u32 (r : Int), .int .i64 n] w fun e w' => e = TurnA f r n ∧ Below w.heap.size w w' := by
  have hT0 := TS.new w f
  go_enter Tryz.func38, Tryz.ntmps38
  go_upto_region 1 with (fail)
  rw [zero42]
  generalize (w.alloc (.cells (kcs f) 41)).alloc (.cells (kcs fun _ => zK) 41) = w1 at *
  refine wp_region_lit ?_
  refine ldK hT0.ks rfl _ rfl rfl ?_
  have hck := rCheck_any f w1
  obtain ⟨cf, hcf⟩ : ∃ cf, kcs f = cf := ⟨_, rfl⟩
  rw [hcf] at hck ⊢
  clear hcf
  go_wp2_with fail
  refine hck.mono ?_
  rintro e w2 ⟨rfl, hb2⟩
  have hT2 := hT0.later hb2
  clear hck hb2 hT0
  cases hkc : kchk f with
  | false =>
    rw [kchkE_ff hkc]
    go_wp2_with (refine stK (g := fun _ => zK) hT2.ze rfl _ _ rfl rfl zero42' ?_)
    refine bodyPost_ret (results_ks3 (p := 6) (t := 7) (u := 8) rfl _ _ (w.heap.size + 1) (fun _ => zK) rfl (hT2.ze.row _)) rfl ?_
    exact ⟨TurnA.no (trE_wrong hkc) (by decide), setRow_below (by omega) hT2.bel _⟩
  | true =>
    rw [kchkE_tt hkc]
    go_wp2_with fail
    go_loopw [9] (fun i wx => ∃ k : Nat, 21 ≤ k ∧ k ≤ 32 ∧ i = .int .i64 (k : Int) ∧ wx = w2 ∧ ∀ m, 21 ≤ m → m < k → r.testBit m = false) (fun i _ => 32 - (intOf i).toNat)
    case atStart => exact ⟨21, by omega, by omega, rfl, rfl, fun m h1 h2 => by omega⟩
    case round =>
      obtain ⟨k, hk0, hk, rfl, rfl, hf⟩ := hrel
      have HF : Hid (∀ m, 21 ≤ m → m < k → r.testBit m = false) := hf
      clear hf
      by_cases hk8 : k < 32
      · have k8 : (k : Int) < 32 := by omega
        have hin := rIn_any r k hr hk8 wr
        cases hb : r.testBit k with
        | true =>
          rw [hb] at hin
          go_wp2_with (first | (go_at_call 78; refine hin.mono ?_; rintro e wr ⟨rfl, rfl⟩) | (refine stK (g := fun _ => zK) hT2.ze rfl _ _ rfl rfl zero42' ?_))
          refine bodyPost_ret (results_ks3 (p := 6) (t := 7) (u := 8) rfl _ _ (w.heap.size + 1) (fun _ => zK) rfl (hT2.ze.row _)) rfl ?_
          exact ⟨TurnA.no (trE_node hkc fun h => by rw [low_bit h hk0] at hb; cases hb) (by decide), setRow_below (by omega) hT2.bel _⟩
        | false =>
          rw [hb] at hin
          go_wp2_with (go_at_call 78; refine hin.mono ?_; rintro e wr ⟨rfl, rfl⟩)
          go_roundw
          case rel =>
            refine ⟨k + 1, by omega, by omega, by go_num, by first | rfl | trivial, fun m h1 h2 => ?_⟩
            rcases Nat.lt_or_ge m k with h | h
            · exact HF.out m h1 h
            · obtain rfl : m = k := by omega
              exact hb
          case measure => simp [intOf]; omega
      · obtain rfl : k = 32 := by omega
        rw [show ((32 : Nat) : Int) = 32 from rfl]
        have hr2 : r < 2097152 := high_bit hr fun i h1 h2 => HF.out i h1 h2
        clear HF hk hk0 hk8
        have hcn := rCount_any r hr wr
        have hcu := cu_le r 21
        obtain ⟨q, hq⟩ : ∃ q, cu r 21 = q := ⟨_, rfl⟩
        rw [hq] at hcn hcu
        have HQ : Hid (cu r 21 = q) := hq
        clear hq
        go_upto_region 9 with (go_at_call 79; refine hcn.mono ?_; rintro e wr ⟨rfl, rfl⟩)
        clear hcn
        have hqs : IntKind.i64.wrap (32768 - (q : Int)) = 32768 - (q : Int) := i64_fit _ (by omega) (by omega)
        by_cases hbad : 0 < q ∧ (n < 1 ∨ 32768 - (q : Int) < n)
        · obtain ⟨hq0, hbad⟩ := hbad
          have hq1 : (0 : Int) < (q : Int) := by omega
          have HFK : Hid (frk f r n = false) := frk_low (by rw [HQ.out]; omega) (by rw [HQ.out]; exact hbad)
          by_cases hn1 : n < 1
          · clear hbad
            go_wp2_with (refine stK (g := fun _ => zK) hT2.ze rfl _ _ rfl rfl zero42' ?_)
            refine bodyPost_ret (results_ks3 (p := 6) (t := 7) (u := 8) rfl _ _ (w.heap.size + 1) (fun _ => zK) rfl (hT2.ze.row _)) rfl ?_
            exact ⟨TurnA.no (trE_key hkc hr2 HFK.out) (by decide), setRow_below (by omega) hT2.bel _⟩
          · have hn2 : 32768 - (q : Int) < n := by omega
            clear hbad
            go_wp2_with (refine stK (g := fun _ => zK) hT2.ze rfl _ _ rfl rfl zero42' ?_)
            refine bodyPost_ret (results_ks3 (p := 6) (t := 7) (u := 8) rfl _ _ (w.heap.size + 1) (fun _ => zK) rfl (hT2.ze.row _)) rfl ?_
            exact ⟨TurnA.no (trE_key hkc hr2 HFK.out) (by decide), setRow_below (by omega) hT2.bel _⟩
        · by_cases hq0 : q = 0
          · subst hq0
            rw [show ((0 : Nat) : Int) = 0 from rfl]
            have hfk : frk f r n = true := frk_zero HQ.out
            clear hbad hqs hcu
            go_wp2_with fail
            go_loopw [11] (fun i wx => i = .int .i64 0 ∧ wx = wr) (fun i _ => 0)
            case atStart => exact ⟨rfl, rfl⟩
            case round =>
              obtain ⟨rfl, rfl⟩ := hrel
              have HT : Hid (TS w wr (trS f f r n 0)) := by have e : kcs (trS f f r n 0) = kcs f := trS_zero _ _ _ _; exact ⟨hT2.ks.congr e.symm, hT2.ze, hT2.bel⟩
              clear hT2
              go_wp2_with fail
              go_loopw [2, 12] (fun x i wx => ∃ j : Nat, j ≤ 21 ∧ i = .int .i64 (20 - (j : Int)) ∧ x = .int .i64 (n + ((cd r j : Nat) : Int)) ∧ TS w wx (trS f f r n j) ∧ ∀ m, m < j → skk f r (20 - m) = false) (fun _ i _ => (intOf i + 1).toNat)
              case atStart => exact ⟨0, by omega, rfl, by simp [cd], HT.out, fun m hm => by omega⟩
              case round =>
                obtain ⟨j, hj, rfl, rfl, hL, hsk⟩ := hrel
                have HL : Hid (TS w wr (trS f f r n j)) := hL
                have HSK : Hid (∀ m, m < j → skk f r (20 - m) = false) := hsk
                clear hL hsk HT
                by_cases hj8 : j < 21
                · obtain ⟨v, hv⟩ : ∃ v : Nat, 20 - j = v := ⟨_, rfl⟩
                  have hvi : (20 : Int) - (j : Int) = (v : Int) := by omega
                  rw [hvi]
                  have v0 : (0 : Int) ≤ (v : Int) := by omega
                  have v1 : (v : Int) < 21 := by omega
                  obtain ⟨y, hy⟩ : ∃ y : Int, n + ((cd r j : Nat) : Int) = y := ⟨_, rfl⟩
                  rw [hy]
                  have HY : Hid (n + ((cd r j : Nat) : Int) = y) := hy
                  have HV : Hid (20 - j = v) := hv
                  have hvl : v < 21 := by omega
                  clear hy hv hvi
                  have hin := rIn_any r v hr (by omega) wr
                  obtain ⟨c0, c1⟩ := HL.out.ks.cells v (by omega)
                  have hat : trS f f r n j v = f v := by have := trS_at f f r n hj8; rw [HV.out] at this; exact this
                  rw [hat] at c0 c1
                  clear hat
                  have f0 := row_frozen HL.out.ks (v * 2)
                  have f1 := row_frozen HL.out.ks (v * 2 + 1)
                  have HI : Hid ((20 : Int) - ((j + 1 : Nat) : Int) = (v : Int) - 1) := by have := HV.out; unfold Hid; omega
                  have HVJ : Hid (20 - v = j) := by have := HV.out; unfold Hid; omega
                  have HJ8 : Hid (j < 21) := hj8
                  have hcdl := cd_le r j
                  have HCD : Hid (cd r (j + 1) = cd r j + b1 r v) := by have := HV.out; rw [← this]; exact rfl
                  have HTS : Hid (trS f f r n (j + 1) = kup (trS f f r n j) v (trK f r n v)) := by have := trS_step f f r n hj8; rw [HV.out] at this; exact this
                  cases hb : r.testBit v with
                  | true =>
                    rw [hb] at hin
                    obtain ⟨fk1, fk2, _⟩ := frk_at hfk (by omega : v < 21) hb
                    have HY1 : Hid (y + 1 = n + ((cd r (j + 1) : Nat) : Int)) := by have h1 := HY.out; have h2 := HCD.out; unfold b1 at h2; rw [hb] at h2; simp at h2; unfold Hid; omega
                    have hyw : IntKind.i64.wrap (y + 1) = y + 1 := i64_fit _ (by have := HY.out; omega) (by have := HY.out; omega)
                    have HL2 : Hid (TS w ((wr.setCell ⟨w.heap.size, v * 2, none⟩ (.int .i64 y)).setCell ⟨w.heap.size, v * 2 + 1, none⟩ (.int .i64 0)) (kup (trS f f r n j) v ⟨y, 0⟩)) := HL.out.set v (by omega) y 0
                    clear fk1 fk2
                    go_wp2_with (go_at_call 78; refine hin.mono ?_; rintro e wr ⟨rfl, rfl⟩)
                    go_roundw
                    case rel =>
                      refine ⟨j + 1, by have := HJ8.out; omega, by rw [HI.out], by rw [← HY1.out], ?_, fun m hm => ?_⟩
                      · rw [HTS.out, trK_new hb, HVJ.out, HY.out]
                        exact HL2.out
                      · rcases Nat.lt_or_ge m j with h | h
                        · exact HSK.out m h
                        · obtain rfl : m = j := by omega
                          unfold skk
                          rw [HV.out, hb]
                          rfl
                    case measure => simp [intOf]
                  | false =>
                    rw [hb] at hin
                    obtain ⟨hG, _⟩ := (kchk_iff.1 hkc).1 v (by omega)
                    have HY1 : Hid (y = n + ((cd r (j + 1) : Nat) : Int)) := by have h1 := HY.out; have h2 := HCD.out; unfold b1 at h2; rw [hb] at h2; simp at h2; unfold Hid; omega
                    have HTK : Hid (trK f r n v = ⟨(f v).bas, (f v).stp + 1⟩) := trK_old hb
                    have HSV : Hid (skk f r v = decide (254 < (f v).stp)) := by unfold skk; rw [hb]; rfl
                    obtain ⟨e, he⟩ : ∃ e, f v = e := ⟨_, rfl⟩
                    rw [he] at c0 c1 hG HTK HSV
                    have HFE : Hid (f v = e) := he
                    clear he
                    by_cases hst : 254 < e.stp
                    · have ha := rAhead_far e.bas e.stp 1 hG (Or.inr (by omega)) wr
                      clear f0 f1
                      go_wp2_with (go_at_call 78; refine hin.mono ?_; rintro e wr ⟨rfl, rfl⟩)
                      refine ha.mono ?_
                      rintro a w7 ⟨rfl, hb7⟩
                      have hT8 := (HL.out.later hb7).later (below_alloc w7 (.cells #[.int .i64 0, .int .i64 0] 31))
                      clear ha hb7 c0 c1
                      go_wp2_with (refine stK (g := fun _ => zK) hT8.ze rfl _ _ rfl rfl zero42' ?_)
                      refine bodyPost_ret (results_ks3 (p := 6) (t := 7) (u := 8) rfl _ _ (w.heap.size + 1) (fun _ => zK) rfl (hT8.ze.row _)) rfl ?_
                      exact ⟨TurnA.no (trE_step hkc hr2 hfk (stuck_yes (v := v) hvl (by rw [HSV.out]; exact decide_eq_true hst))) (by decide), setRow_below (by omega) hT8.bel _⟩
                    · have ha := rAhead_yes e.bas e.stp 1 hG (by omega) (by omega) wr
                      clear f0 f1
                      go_wp2_with (go_at_call 78; refine hin.mono ?_; rintro e wr ⟨rfl, rfl⟩)
                      refine ha.mono ?_
                      rintro a w7 ⟨rfl, hb7⟩
                      clear c0 c1
                      have hL8 := (HL.out.later hb7).later (below_alloc w7 (.cells #[.int .i64 e.bas, .int .i64 (e.stp + 1)] 31))
                      obtain ⟨c0, c1⟩ := hL8.ks.cells v (by omega)
                      have f0 := row_frozen hL8.ks (v * 2)
                      have f1 := row_frozen hL8.ks (v * 2 + 1)
                      have HL9 : Hid (TS w (((w7.alloc (.cells #[.int .i64 e.bas, .int .i64 (e.stp + 1)] 31)).setCell ⟨w.heap.size, v * 2, none⟩ (.int .i64 e.bas)).setCell ⟨w.heap.size, v * 2 + 1, none⟩ (.int .i64 (e.stp + 1))) (kup (trS f f r n j) v ⟨e.bas, e.stp + 1⟩)) := hL8.set v (by omega) e.bas (e.stp + 1)
                      clear ha hb7 hL8
                      go_wp2_with fail
                      go_roundw
                      case rel =>
                        refine ⟨j + 1, by have := HJ8.out; omega, by rw [HI.out], by rw [← HY1.out], ?_, fun m hm => ?_⟩
                        · rw [HTS.out, HTK.out]
                          exact HL9.out
                        · rcases Nat.lt_or_ge m j with h | h
                          · exact HSK.out m h
                          · obtain rfl : m = j := by omega
                            rw [HV.out, HSV.out]
                            exact decide_eq_false (by omega)
                      case measure => simp [intOf]
                · obtain rfl : j = 21 := by omega
                  have HE0 : Hid (trE f r n = 0) := trE_ok hkc hr2 hfk (stuck_no fun v hv => by have := HSK.out (20 - v) (by omega); rw [show 20 - (20 - v) = v by omega] at this; exact this)
                  have hN := HL.out.ks.congr (trS_all _ _ _ _)
                  rw [show cd r 21 = cu r 21 from cd_all r]
                  obtain ⟨y, hy⟩ : ∃ y : Int, n + ((cu r 21 : Nat) : Int) = y := ⟨_, rfl⟩
                  rw [hy]
                  have HY : Hid (n + ((cu r 21 : Nat) : Int) = y) := hy
                  clear hy
                  go_upto_region 26 with (fail)
                  refine wp_region_lit ?_
                  refine ldK hN rfl _ rfl rfl ?_
                  go_wp2_with (refine stK (g := trK f r n) HL.out.ze rfl _ _ rfl rfl rfl ?_)
                  refine bodyPost_ret (results_ks3 (p := 6) (t := 7) (u := 8) rfl _ _ (w.heap.size + 1) (trK f r n) rfl (HL.out.ze.row _)) rfl ?_
                  refine ⟨?_, setRow_below (by omega) HL.out.bel _⟩
                  rw [← TurnA.yes HE0.out, HY.out]
                  rfl
          · have hn1 : 1 ≤ n := by omega
            have hn2 : n ≤ 32768 - (q : Int) := by omega
            have hq1 : (0 : Int) < (q : Int) := by omega
            have hnq : IntKind.i64.wrap (n + (q : Int)) = n + (q : Int) := i64_fit _ (by omega) (by omega)
            clear hbad
            go_wp2_with fail
            go_loopw [11] (fun i wx => ∃ k : Nat, k ≤ 21 ∧ i = .int .i64 (k : Int) ∧ wx = wr ∧ ∀ m, m < k → nm1 (f m) n (n + (q : Int)) = false) (fun i _ => 21 - (intOf i).toNat)
            case atStart => exact ⟨0, by omega, rfl, rfl, fun m hm => by omega⟩
            case round =>
              obtain ⟨k, hk, rfl, rfl, hf⟩ := hrel
              have HF : Hid (∀ m, m < k → nm1 (f m) n (n + (q : Int)) = false) := hf
              clear hf
              by_cases hk8 : k < 21
              · have k8 : (k : Int) < 21 := by omega
                have k0 : (0 : Int) ≤ (k : Int) := by omega
                obtain ⟨c0, c1⟩ := hT2.ks.cells k hk8
                have HN : Hid (nm1 (f k) n (n + (q : Int)) = (decide (n ≤ (f k).bas) && decide ((f k).bas < n + (q : Int)))) := rfl
                obtain ⟨b, hb⟩ : ∃ b, (f k).bas = b := ⟨_, rfl⟩
                rw [hb] at c0 HN
                clear hb c1
                by_cases g1 : n ≤ b
                · by_cases g2 : b < n + (q : Int)
                  · go_wp2_with (refine stK (g := fun _ => zK) hT2.ze rfl _ _ rfl rfl zero42' ?_)
                    refine bodyPost_ret (results_ks3 (p := 6) (t := 7) (u := 8) rfl _ _ (w.heap.size + 1) (fun _ => zK) rfl (hT2.ze.row _)) rfl ?_
                    exact ⟨TurnA.no (trE_key hkc hr2 (frk_clash (by rw [HQ.out]; omega) hk8 (by rw [HQ.out, HN.out, decide_eq_true g1, decide_eq_true g2]; rfl))) (by decide), setRow_below (by omega) hT2.bel _⟩
                  · go_wp2_with fail
                    go_roundw
                    case rel =>
                      refine ⟨k + 1, by omega, by go_num, by first | rfl | trivial, fun m hm => ?_⟩
                      rcases Nat.lt_or_ge m k with h | h
                      · exact HF.out m h
                      · obtain rfl : m = k := by omega
                        rw [HN.out, decide_eq_false g2, Bool.and_false]
                    case measure => simp [intOf]; omega
                · go_wp2_with fail
                  go_roundw
                  case rel =>
                    refine ⟨k + 1, by omega, by go_num, by first | rfl | trivial, fun m hm => ?_⟩
                    rcases Nat.lt_or_ge m k with h | h
                    · exact HF.out m h
                    · obtain rfl : m = k := by omega
                      rw [HN.out, decide_eq_false g1, Bool.false_and]
                  case measure => simp [intOf]; omega
              · obtain rfl : k = 21 := by omega
                rw [show ((21 : Nat) : Int) = 21 from rfl]
                have hfk : frk f r n = true := frk_fine hn1 (by rw [HQ.out]; exact hn2) (by rw [HQ.out]; exact HF.out)
                clear HF hk hk8 hq1 hnq hn1 hn2 hqs hcu
                have HT : Hid (TS w wr (trS f f r n 0)) := by have e : kcs (trS f f r n 0) = kcs f := trS_zero _ _ _ _; exact ⟨hT2.ks.congr e.symm, hT2.ze, hT2.bel⟩
                clear hT2
                go_wp2_with fail
                go_loopw [2, 12] (fun x i wx => ∃ j : Nat, j ≤ 21 ∧ i = .int .i64 (20 - (j : Int)) ∧ x = .int .i64 (n + ((cd r j : Nat) : Int)) ∧ TS w wx (trS f f r n j) ∧ ∀ m, m < j → skk f r (20 - m) = false) (fun _ i _ => (intOf i + 1).toNat)
                case atStart => exact ⟨0, by omega, rfl, by simp [cd], HT.out, fun m hm => by omega⟩
                case round =>
                  obtain ⟨j, hj, rfl, rfl, hL, hsk⟩ := hrel
                  have HL : Hid (TS w wr (trS f f r n j)) := hL
                  have HSK : Hid (∀ m, m < j → skk f r (20 - m) = false) := hsk
                  clear hL hsk HT
                  by_cases hj8 : j < 21
                  · obtain ⟨v, hv⟩ : ∃ v : Nat, 20 - j = v := ⟨_, rfl⟩
                    have hvi : (20 : Int) - (j : Int) = (v : Int) := by omega
                    rw [hvi]
                    have v0 : (0 : Int) ≤ (v : Int) := by omega
                    have v1 : (v : Int) < 21 := by omega
                    obtain ⟨y, hy⟩ : ∃ y : Int, n + ((cd r j : Nat) : Int) = y := ⟨_, rfl⟩
                    rw [hy]
                    have HY : Hid (n + ((cd r j : Nat) : Int) = y) := hy
                    have HV : Hid (20 - j = v) := hv
                    have hvl : v < 21 := by omega
                    clear hy hv hvi
                    have hin := rIn_any r v hr (by omega) wr
                    obtain ⟨c0, c1⟩ := HL.out.ks.cells v (by omega)
                    have hat : trS f f r n j v = f v := by have := trS_at f f r n hj8; rw [HV.out] at this; exact this
                    rw [hat] at c0 c1
                    clear hat
                    have f0 := row_frozen HL.out.ks (v * 2)
                    have f1 := row_frozen HL.out.ks (v * 2 + 1)
                    have HI : Hid ((20 : Int) - ((j + 1 : Nat) : Int) = (v : Int) - 1) := by have := HV.out; unfold Hid; omega
                    have HVJ : Hid (20 - v = j) := by have := HV.out; unfold Hid; omega
                    have HJ8 : Hid (j < 21) := hj8
                    have hcdl := cd_le r j
                    have HCD : Hid (cd r (j + 1) = cd r j + b1 r v) := by have := HV.out; rw [← this]; exact rfl
                    have HTS : Hid (trS f f r n (j + 1) = kup (trS f f r n j) v (trK f r n v)) := by have := trS_step f f r n hj8; rw [HV.out] at this; exact this
                    cases hb : r.testBit v with
                    | true =>
                      rw [hb] at hin
                      obtain ⟨fk1, fk2, _⟩ := frk_at hfk (by omega : v < 21) hb
                      have HY1 : Hid (y + 1 = n + ((cd r (j + 1) : Nat) : Int)) := by have h1 := HY.out; have h2 := HCD.out; unfold b1 at h2; rw [hb] at h2; simp at h2; unfold Hid; omega
                      have hyw : IntKind.i64.wrap (y + 1) = y + 1 := i64_fit _ (by have := HY.out; omega) (by have := HY.out; omega)
                      have HL2 : Hid (TS w ((wr.setCell ⟨w.heap.size, v * 2, none⟩ (.int .i64 y)).setCell ⟨w.heap.size, v * 2 + 1, none⟩ (.int .i64 0)) (kup (trS f f r n j) v ⟨y, 0⟩)) := HL.out.set v (by omega) y 0
                      clear fk1 fk2
                      go_wp2_with (go_at_call 78; refine hin.mono ?_; rintro e wr ⟨rfl, rfl⟩)
                      go_roundw
                      case rel =>
                        refine ⟨j + 1, by have := HJ8.out; omega, by rw [HI.out], by rw [← HY1.out], ?_, fun m hm => ?_⟩
                        · rw [HTS.out, trK_new hb, HVJ.out, HY.out]
                          exact HL2.out
                        · rcases Nat.lt_or_ge m j with h | h
                          · exact HSK.out m h
                          · obtain rfl : m = j := by omega
                            unfold skk
                            rw [HV.out, hb]
                            rfl
                      case measure => simp [intOf]
                    | false =>
                      rw [hb] at hin
                      obtain ⟨hG, _⟩ := (kchk_iff.1 hkc).1 v (by omega)
                      have HY1 : Hid (y = n + ((cd r (j + 1) : Nat) : Int)) := by have h1 := HY.out; have h2 := HCD.out; unfold b1 at h2; rw [hb] at h2; simp at h2; unfold Hid; omega
                      have HTK : Hid (trK f r n v = ⟨(f v).bas, (f v).stp + 1⟩) := trK_old hb
                      have HSV : Hid (skk f r v = decide (254 < (f v).stp)) := by unfold skk; rw [hb]; rfl
                      obtain ⟨e, he⟩ : ∃ e, f v = e := ⟨_, rfl⟩
                      rw [he] at c0 c1 hG HTK HSV
                      have HFE : Hid (f v = e) := he
                      clear he
                      by_cases hst : 254 < e.stp
                      · have ha := rAhead_far e.bas e.stp 1 hG (Or.inr (by omega)) wr
                        clear f0 f1
                        go_wp2_with (go_at_call 78; refine hin.mono ?_; rintro e wr ⟨rfl, rfl⟩)
                        refine ha.mono ?_
                        rintro a w7 ⟨rfl, hb7⟩
                        have hT8 := (HL.out.later hb7).later (below_alloc w7 (.cells #[.int .i64 0, .int .i64 0] 31))
                        clear ha hb7 c0 c1
                        go_wp2_with (refine stK (g := fun _ => zK) hT8.ze rfl _ _ rfl rfl zero42' ?_)
                        refine bodyPost_ret (results_ks3 (p := 6) (t := 7) (u := 8) rfl _ _ (w.heap.size + 1) (fun _ => zK) rfl (hT8.ze.row _)) rfl ?_
                        exact ⟨TurnA.no (trE_step hkc hr2 hfk (stuck_yes (v := v) hvl (by rw [HSV.out]; exact decide_eq_true hst))) (by decide), setRow_below (by omega) hT8.bel _⟩
                      · have ha := rAhead_yes e.bas e.stp 1 hG (by omega) (by omega) wr
                        clear f0 f1
                        go_wp2_with (go_at_call 78; refine hin.mono ?_; rintro e wr ⟨rfl, rfl⟩)
                        refine ha.mono ?_
                        rintro a w7 ⟨rfl, hb7⟩
                        clear c0 c1
                        have hL8 := (HL.out.later hb7).later (below_alloc w7 (.cells #[.int .i64 e.bas, .int .i64 (e.stp + 1)] 31))
                        obtain ⟨c0, c1⟩ := hL8.ks.cells v (by omega)
                        have f0 := row_frozen hL8.ks (v * 2)
                        have f1 := row_frozen hL8.ks (v * 2 + 1)
                        have HL9 : Hid (TS w (((w7.alloc (.cells #[.int .i64 e.bas, .int .i64 (e.stp + 1)] 31)).setCell ⟨w.heap.size, v * 2, none⟩ (.int .i64 e.bas)).setCell ⟨w.heap.size, v * 2 + 1, none⟩ (.int .i64 (e.stp + 1))) (kup (trS f f r n j) v ⟨e.bas, e.stp + 1⟩)) := hL8.set v (by omega) e.bas (e.stp + 1)
                        clear ha hb7 hL8
                        go_wp2_with fail
                        go_roundw
                        case rel =>
                          refine ⟨j + 1, by have := HJ8.out; omega, by rw [HI.out], by rw [← HY1.out], ?_, fun m hm => ?_⟩
                          · rw [HTS.out, HTK.out]
                            exact HL9.out
                          · rcases Nat.lt_or_ge m j with h | h
                            · exact HSK.out m h
                            · obtain rfl : m = j := by omega
                              rw [HV.out, HSV.out]
                              exact decide_eq_false (by omega)
                        case measure => simp [intOf]
                  · obtain rfl : j = 21 := by omega
                    have HE0 : Hid (trE f r n = 0) := trE_ok hkc hr2 hfk (stuck_no fun v hv => by have := HSK.out (20 - v) (by omega); rw [show 20 - (20 - v) = v by omega] at this; exact this)
                    have hN := HL.out.ks.congr (trS_all _ _ _ _)
                    rw [show cd r 21 = cu r 21 from cd_all r]
                    obtain ⟨y, hy⟩ : ∃ y : Int, n + ((cu r 21 : Nat) : Int) = y := ⟨_, rfl⟩
                    rw [hy]
                    have HY : Hid (n + ((cu r 21 : Nat) : Int) = y) := hy
                    clear hy
                    go_upto_region 26 with (fail)
                    refine wp_region_lit ?_
                    refine ldK hN rfl _ rfl rfl ?_
                    go_wp2_with (refine stK (g := trK f r n) HL.out.ze rfl _ _ rfl rfl rfl ?_)
                    refine bodyPost_ret (results_ks3 (p := 6) (t := 7) (u := 8) rfl _ _ (w.heap.size + 1) (trK f r n) rfl (HL.out.ze.row _)) rfl ?_
                    refine ⟨?_, setRow_below (by omega) HL.out.bel _⟩
                    rw [← TurnA.yes HE0.out, HY.out]
                    rfl
end Go.Proofs.YtpimbpfefhkojabGreatDoor.Rt
