/- ShpE, ShpF, ShpEq, ShpG, ShpJ, ShpH, joined. -/
import Derived.Test.YtpimbpfefhkojabGreatDoorShJ
import Derived.Below
import Derived.Test.YtpimbpfefhkojabGreatDoorChecked
import Derived.WalkKit
import Derived.ChangeKeysEq
namespace Go.Proofs.YtpimbpfefhkojabGreatDoor.Sh
open Go.RowKit

set_option maxHeartbeats 400000 in
theorem digits_yes (s : Int) (h0 : 0 ≤ s) (h1 : s < 64) (w : World) :
    Calls Tryz.prog 98 #[.int .i64 s] w fun e w' => e = .returned (.tuple #[.agg #[.int .u8 (s / 16), .int .u8 (s / 4 % 4), .int .u8 (s % 4)], .bool true]) ∧ Below w.heap.size w w' := by
  go_enter Tryz.func98, Tryz.ntmps98
  go_wp2_with (go_at_call 99; refine (isSlot_yes _ (by omega) (by omega) _).mono ?_; rintro e w' ⟨rfl, rfl⟩)
  refine wp_loop_rounds 4 ?_
  rw [rounds_succ]; go_wp2
  rw [rounds_succ]; go_wp2
  rw [rounds_succ]; go_wp2
  rw [rounds_succ]; go_wp2
  refine bodyPost_ret (v := .tuple #[.agg #[.int .u8 (s / 16), .int .u8 (s / 4 % 4), .int .u8 (s % 4)], .bool true]) ?_ rfl ⟨rfl, ?_⟩
  · simp [results, Tryz.results98, go_sem, and3u _ (show 0 ≤ s / 16 by omega) (show s / 16 < 64 by omega), and3u _ (show 0 ≤ s / 4 by omega) (show s / 4 < 64 by omega), and3u _ h0 h1]
    omega
  · exact ((Below.refl _ _).alloc (Nat.le_refl _) _).alloc (by simp) _
theorem digits_no (s : Int) (h : s < 0 ∨ 64 ≤ s) (w : World) :
    Calls Tryz.prog 98 #[.int .i64 s] w fun e w' => e = .returned (.tuple #[.agg #[.int .u8 0, .int .u8 0, .int .u8 0], .bool false]) ∧ Below w.heap.size w w' := by
  go_enter Tryz.func98, Tryz.ntmps98
  go_wp2_with (go_at_call 99; refine (isSlot_no _ (by omega) _).mono ?_; rintro e w' ⟨rfl, rfl⟩)
  exact bodyPost_ret (v := .tuple #[.agg #[.int .u8 0, .int .u8 0, .int .u8 0], .bool false]) (by simp [results, Tryz.results98, go_sem]) rfl ⟨rfl, (Below.refl _ _).alloc (Nat.le_refl _) _⟩

theorem child_yes (v i : Int) (h0 : 0 ≤ v) (h1 : v < 21) (h2 : 0 ≤ i) (h3 : i < 4) (w : World) :
    Calls Tryz.prog 62 #[.int .i64 v, .int .i64 i] w fun e w' => e = .returned (.int .i64 (4 * v + 1 + i)) ∧ w' = w := by
  rw [← chd_yes h0 h1 h2 h3]; exact child_any v i w
theorem idx0 (x y z : Value) (w : World) : (Instr.index 150 (.agg #[x, y, z]) (.int .i64 0)).run Tryz.prog w = .ok x w := by kernel_rfl
theorem idx1 (x y z : Value) (w : World) : (Instr.index 150 (.agg #[x, y, z]) (.int .i64 1)).run Tryz.prog w = .ok y w := by kernel_rfl
theorem idx2 (x y z : Value) (w : World) : (Instr.index 150 (.agg #[x, y, z]) (.int .i64 2)).run Tryz.prog w = .ok z w := by kernel_rfl
theorem bcell {W w1 : World} (hb : Below W.heap.size W w1) : (∀ b o, b < W.heap.size → w1.cell? ⟨b, o, none⟩ = W.cell? ⟨b, o, none⟩) ∧ (∀ b o, b < W.heap.size → w1.frozen? ⟨b, o, none⟩ = W.frozen? ⟨b, o, none⟩) :=
  ⟨fun b o h => hb.cell (p := ⟨b, o, none⟩) h, fun b o h => hb.frozen (p := ⟨b, o, none⟩) h⟩

set_option maxHeartbeats 1000000 in
theorem path_yes (s : Int) (h0 : 0 ≤ s) (h1 : s < 64) (w : World) :
    Calls Tryz.prog 64 #[.int .i64 s] w fun e w' => e = .returned (.tuple #[.agg #[.int .i64 (5 + s / 4), .int .i64 (1 + s / 16), .int .i64 0], .bool true]) ∧ Below w.heap.size w w' := by
  go_enter Tryz.func64, Tryz.ntmps64
  go_wp2_with fail
  refine (digits_yes _ h0 h1 _).mono ?_
  rintro e w1 ⟨rfl, hb⟩
  obtain ⟨hc, hf⟩ := bcell hb
  have hz : w.heap.size < w1.heap.size := by have := hb.size; simp at this; omega
  have i0 := fun w => idx0 (.int .u8 (s / 16)) (.int .u8 (s / 4 % 4)) (.int .u8 (s % 4)) w
  have i1 := fun w => idx1 (.int .u8 (s / 16)) (.int .u8 (s / 4 % 4)) (.int .u8 (s % 4)) w
  have i2 := fun w => idx2 (.int .u8 (s / 16)) (.int .u8 (s / 4 % 4)) (.int .u8 (s % 4)) w
  go_wp2_with fail
  refine wp_loop_rounds 4 ?_
  rw [rounds_succ]; go_wp2_with (go_at_call 62; refine (child_yes _ _ (by omega) (by omega) (by omega) (by omega) _).mono ?_; rintro e w' ⟨rfl, rfl⟩)
  rw [rounds_succ]; go_wp2_with (go_at_call 62; refine (child_yes _ _ (by omega) (by omega) (by omega) (by omega) _).mono ?_; rintro e w' ⟨rfl, rfl⟩)
  rw [rounds_succ]; go_wp2_with (go_at_call 62; refine (child_yes _ _ (by omega) (by omega) (by omega) (by omega) _).mono ?_; rintro e w' ⟨rfl, rfl⟩)
  rw [rounds_succ]; go_wp2
  refine bodyPost_ret (v := .tuple #[.agg #[.int .i64 (5 + s / 4), .int .i64 (1 + s / 16), .int .i64 0], .bool true]) ?_ rfl ⟨rfl, ?_⟩
  · simp [results, Tryz.results64, go_sem, hc, hz]
    omega
  · have hb0 : Below w.heap.size w w1 := ((Below.refl _ _).alloc (Nat.le_refl _) _).trans (hb.mono (by simp))
    exact ((((hb0.setCell (by simp) _).setCell (by simp) _).setCell (by simp) _).alloc (by simp; omega) _).alloc (by simp; omega) _

theorem path_no (s : Int) (h : s < 0 ∨ 64 ≤ s) (w : World) :
    Calls Tryz.prog 64 #[.int .i64 s] w fun e w' => e = .returned (.tuple #[.agg #[.int .i64 0, .int .i64 0, .int .i64 0], .bool false]) ∧ Below w.heap.size w w' := by
  go_enter Tryz.func64, Tryz.ntmps64
  go_wp2_with fail
  refine (digits_no _ h _).mono ?_
  rintro e w1 ⟨rfl, hb⟩
  obtain ⟨hc, hf⟩ := bcell hb
  have hz : w.heap.size < w1.heap.size := by have := hb.size; simp at this; omega
  go_wp2
  refine bodyPost_ret (v := .tuple #[.agg #[.int .i64 0, .int .i64 0, .int .i64 0], .bool false]) ?_ rfl ⟨rfl, ?_⟩
  · simp [results, Tryz.results64, go_sem, hc, hz]
  · have hb0 : Below w.heap.size w w1 := ((Below.refl _ _).alloc (Nat.le_refl _) _).trans (hb.mono (by simp))
    exact ((((hb0.setCell (by simp) _).setCell (by simp) _).setCell (by simp) _).alloc (by simp; omega) _)


theorem rParent_yes (v : Int) (h0 : 1 ≤ v) (h1 : v < 85) (w : World) :
    Calls Tryz.prog 85 #[.int .i64 v] w fun e w' => e = .returned (.int .i64 ((v - 1) / 4)) ∧ w' = w := by
  rw [← par_yes h0 h1]; exact rParent_any v w
theorem rLeaf_yes (v : Int) (h0 : 0 ≤ v) (h1 : v < 64) (w : World) :
    Calls Tryz.prog 47 #[.int .i64 v] w fun e w' => e = .returned (.int .i64 (21 + v)) ∧ w' = w := by
  rw [← lef_yes h0 h1]; exact rLeaf_any v w
theorem rLeaf_no (v : Int) (h : v < 0 ∨ 64 ≤ v) (w : World) :
    Calls Tryz.prog 47 #[.int .i64 v] w fun e w' => e = .returned (.int .i64 (-1)) ∧ w' = w := by
  rw [← lef_no h]; exact rLeaf_any v w

theorem rPath_yes (s : Int) (h0 : 0 ≤ s) (h1 : s < 64) (w : World) :
    Calls Tryz.prog 83 #[.int .i64 s] w fun e w' => e = .returned (.tuple #[.agg #[.int .i64 (5 + s / 4), .int .i64 (1 + s / 16), .int .i64 0], .bool true]) ∧ Below w.heap.size w w' := by
  go_enter Tryz.func83, Tryz.ntmps83
  go_wp2_with (go_at_call 47; refine (rLeaf_yes _ (by omega) (by omega) _).mono ?_; rintro e w' ⟨rfl, rfl⟩)
  refine wp_loop_rounds 4 ?_
  rw [rounds_succ]; go_wp2_with (go_at_call 85; refine (rParent_yes _ (by omega) (by omega) _).mono ?_; rintro e w' ⟨rfl, rfl⟩)
  rw [rounds_succ]; go_wp2_with (go_at_call 85; refine (rParent_yes _ (by omega) (by omega) _).mono ?_; rintro e w' ⟨rfl, rfl⟩)
  rw [rounds_succ]; go_wp2_with (go_at_call 85; refine (rParent_yes _ (by omega) (by omega) _).mono ?_; rintro e w' ⟨rfl, rfl⟩)
  rw [rounds_succ]; go_wp2
  refine bodyPost_ret (v := .tuple #[.agg #[.int .i64 (5 + s / 4), .int .i64 (1 + s / 16), .int .i64 0], .bool true]) ?_ rfl ⟨rfl, ?_⟩
  · simp [results, Tryz.results83, go_sem]
    omega
  · exact ((Below.refl _ _).alloc (Nat.le_refl _) _).alloc (by simp) _
theorem rPath_no (s : Int) (h : s < 0 ∨ 64 ≤ s) (w : World) :
    Calls Tryz.prog 83 #[.int .i64 s] w fun e w' => e = .returned (.tuple #[.agg #[.int .i64 0, .int .i64 0, .int .i64 0], .bool false]) ∧ Below w.heap.size w w' := by
  go_enter Tryz.func83, Tryz.ntmps83
  go_wp2_with (go_at_call 47; refine (rLeaf_no _ h _).mono ?_; rintro e w' ⟨rfl, rfl⟩)
  exact bodyPost_ret (v := .tuple #[.agg #[.int .i64 0, .int .i64 0, .int .i64 0], .bool false]) (by simp [results, Tryz.results83, go_sem]) rfl ⟨rfl, ((Below.refl _ _).alloc (Nat.le_refl _) _).alloc (by simp) _⟩


set_option maxRecDepth 20000

theorem level_of {v k : Int} (h : lev v = k) (w : World) :
    Calls Tryz.prog 96 #[.int .i64 v] w fun e w' => e = .returned (.int .i64 k) ∧ w' = w := by rw [← h]; exact level_any v w
theorem first0 (w : World) : Calls Tryz.prog 97 #[.int .i64 0] w fun e w' => e = .returned (.int .i64 0) ∧ w' = w := first_any 0 (by omega) w
theorem first1 (w : World) : Calls Tryz.prog 97 #[.int .i64 1] w fun e w' => e = .returned (.int .i64 1) ∧ w' = w := first_any 1 (by omega) w
theorem first2 (w : World) : Calls Tryz.prog 97 #[.int .i64 2] w fun e w' => e = .returned (.int .i64 5) ∧ w' = w := first_any 2 (by omega) w
theorem first3 (w : World) : Calls Tryz.prog 97 #[.int .i64 3] w fun e w' => e = .returned (.int .i64 21) ∧ w' = w := first_any 3 (by omega) w

theorem mask_0 (w : World) :
    Calls Tryz.prog 63 #[.int .i64 0] w fun e w' => e = .returned (.int .u64 (msk 0)) ∧ w' = w := by
  rw [msk0_all]
  go_enter Tryz.func63, Tryz.ntmps63
  go_wp2_with (first | (go_at_call 95; refine (isNode_yes _ (by omega) (by omega) _).mono ?_; rintro e w' ⟨rfl, rfl⟩) | (go_at_call 96; refine (level_of (show lev 0 = 0 by decide) _).mono ?_; rintro e w' ⟨rfl, rfl⟩) | (go_at_call 97; refine (first0 _).mono ?_; rintro e w' ⟨rfl, rfl⟩))
  go_ret
  exact ⟨rfl, rfl⟩
theorem mask_1 (v : Int) (h0 : 1 ≤ v) (h1 : v < 5) (w : World) :
    Calls Tryz.prog 63 #[.int .i64 v] w fun e w' => e = .returned (.int .u64 (msk v)) ∧ w' = w := by
  go_enter Tryz.func63, Tryz.ntmps63
  go_wp2_with (first | (go_at_call 95; refine (isNode_yes _ (by omega) (by omega) _).mono ?_; rintro e w' ⟨rfl, rfl⟩) | (go_at_call 96; refine (level_of (lev1 h0 h1) _).mono ?_; rintro e w' ⟨rfl, rfl⟩) | (go_at_call 97; refine (first1 _).mono ?_; rintro e w' ⟨rfl, rfl⟩))
  go_ret
  exact ⟨ret_int (msk1_of h0 h1), rfl⟩
theorem mask_2 (v : Int) (h0 : 5 ≤ v) (h1 : v < 21) (w : World) :
    Calls Tryz.prog 63 #[.int .i64 v] w fun e w' => e = .returned (.int .u64 (msk v)) ∧ w' = w := by
  go_enter Tryz.func63, Tryz.ntmps63
  go_wp2_with (first | (go_at_call 95; refine (isNode_yes _ (by omega) (by omega) _).mono ?_; rintro e w' ⟨rfl, rfl⟩) | (go_at_call 96; refine (level_of (lev2 h0 h1) _).mono ?_; rintro e w' ⟨rfl, rfl⟩) | (go_at_call 97; refine (first2 _).mono ?_; rintro e w' ⟨rfl, rfl⟩))
  go_ret
  exact ⟨ret_int (msk2_of h0 h1), rfl⟩
theorem mask_3 (v : Int) (h0 : 21 ≤ v) (h1 : v < 85) (w : World) :
    Calls Tryz.prog 63 #[.int .i64 v] w fun e w' => e = .returned (.int .u64 (msk v)) ∧ w' = w := by
  go_enter Tryz.func63, Tryz.ntmps63
  go_wp2_with (first | (go_at_call 95; refine (isNode_yes _ (by omega) (by omega) _).mono ?_; rintro e w' ⟨rfl, rfl⟩) | (go_at_call 96; refine (level_of (lev_leaf h0 h1) _).mono ?_; rintro e w' ⟨rfl, rfl⟩) | (go_at_call 97; refine (first3 _).mono ?_; rintro e w' ⟨rfl, rfl⟩))
  go_ret
  exact ⟨ret_int (msk3_of h0 h1), rfl⟩
theorem mask_any (v : Int) (w : World) :
    Calls Tryz.prog 63 #[.int .i64 v] w fun e w' => e = .returned (.int .u64 (msk v)) ∧ w' = w := by
  by_cases h : 0 ≤ v ∧ v < 85
  · by_cases h1 : v < 1
    · obtain rfl : v = 0 := by omega
      exact mask_0 w
    · by_cases h2 : v < 5
      · exact mask_1 v (by omega) h2 w
      · by_cases h3 : v < 21
        · exact mask_2 v (by omega) h3 w
        · exact mask_3 v (by omega) h.2 w
  · have hp : Hid (msk v = 0) := msk_no (by omega)
    go_enter Tryz.func63, Tryz.ntmps63
    go_wp2_with (go_at_call 95; refine (isNode_no _ (by omega) _).mono ?_; rintro e w' ⟨rfl, rfl⟩)
    go_ret
    exact ⟨ret_int hp.out.symm, rfl⟩


set_option maxHeartbeats 400000 in
theorem above_any (X : Int) (h0 : 0 ≤ X) (h1 : X < 18446744073709551616) (w : World) :
    Calls Tryz.prog 54 #[.int .u64 X] w fun e w' => e = .returned (.int .u32 (abvTo X 21)) ∧ w' = w := by
  go_enter Tryz.func54, Tryz.ntmps54
  go_wp2
  go_loop [3, 4, 5] (fun m _ v => ∃ k : Nat, k ≤ 21 ∧ m = .int .u32 (abvTo X k) ∧ v = .int .i64 k) (fun _ _ v => 21 - (intOf v).toNat)
  case atStart => exact ⟨0, by omega, rfl, rfl⟩
  case round =>
    obtain ⟨k, hk, rfl, rfl⟩ := hrel
    by_cases hlt : k < 21
    · have hit : (bits .and .u64 (msk k) X != 0) = hitTo X k 64 := hit_and k X h0 h1
      cases hh : hitTo X k 64
      · rw [hh] at hit
        have HR : Hid (abvTo X (k + 1) = abvTo X k) := by show abvTo X (k + 1) = abvTo X k; simp [abvTo, hh]
        clear hh
        go_wp2_with (go_at_call 63; refine (mask_any _ _).mono ?_; rintro e w' ⟨rfl, rfl⟩)
        go_round
        case rel => exact ⟨k + 1, by omega, by rw [HR.out], by go_num⟩
        case measure => simp [intOf]; omega
      · rw [hh] at hit
        have HR : Hid (abvTo X (k + 1) = abvTo X k + 2 ^ k) := by show abvTo X (k + 1) = abvTo X k + 2 ^ k; simp [abvTo, hh]
        clear hh
        go_wp2_with (go_at_call 63; refine (mask_any _ _).mono ?_; rintro e w' ⟨rfl, rfl⟩)
        go_round
        case rel => exact ⟨k + 1, by omega, by rw [HR.out, or_unit _ k hlt (abvTo_bd X k).1 (abvTo_bd X k).2], by go_num⟩
        case measure => simp [intOf]; omega
    · obtain rfl : k = 21 := by omega
      go_wp2
      go_ret
      exact ⟨rfl, rfl⟩

theorem rBelow_any (v u : Int) (w : World) :
    Calls Tryz.prog 46 #[.int .i64 v, .int .i64 u] w fun e w' => e = .returned (.bool (belB v u)) ∧ w' = w := by
  by_cases h : 0 ≤ v ∧ v < 85
  · obtain ⟨h0, h1⟩ := h
    by_cases h : 0 ≤ u ∧ u < 85
    · obtain ⟨h2, h3⟩ := h
      go_enter Tryz.func46, Tryz.ntmps46
      go_wp2_with (go_at_call 84; refine (rNode_yes _ (by omega) (by omega) _).mono ?_; rintro e w' ⟨rfl, rfl⟩)
      go_loop [1] (fun b => ∃ x : Int, 0 ≤ x ∧ x < 85 ∧ Hid (belB v x = belB v u) ∧ b = .int .i64 x) (fun b => (intOf b).toNat)
      case atStart => exact ⟨u, h2, h3, rfl, rfl⟩
      case round =>
        obtain ⟨x, hx0, hx1, hm, rfl⟩ := hrel
        by_cases hlt : v < x
        · have hp := par_bd (v := x) (by omega) hx1
          have hq : Hid (belB v (par x) = belB v u) := by show belB v (par x) = belB v u; rw [← belB_up h0 hlt hx1, hm.out]
          go_wp2_with (go_at_call 85; refine (rParent_any _ _).mono ?_; rintro e w' ⟨rfl, rfl⟩)
          go_round
          case rel => exact ⟨par x, by omega, by omega, hq, rfl⟩
          case measure => simp [intOf]; omega
        · have hq : Hid ((x == v) = belB v u) := by show (x == v) = belB v u; rw [← hm.out, belB_at hx0 (by omega) h1]
          go_wp2
          go_ret
          exact ⟨ret_bool hq.out, rfl⟩
    · have hp : Hid (belB v u = false) := belB_no' (nodeB_no (by omega))
      have hN : Hid (∀ w, Calls Tryz.prog 84 #[.int .i64 u] w fun e w' => e = .returned (.bool false) ∧ w' = w) := rNode_no u (by omega)
      clear h
      go_enter Tryz.func46, Tryz.ntmps46
      go_wp2_with fail
      refine (rNode_yes _ h0 h1 _).mono ?_
      rintro e w' ⟨rfl, rfl⟩
      go_wp2_with fail
      refine (hN.out _).mono ?_
      rintro e w' ⟨rfl, rfl⟩
      go_wp2
      go_ret
      exact ⟨ret_bool hp.out.symm, rfl⟩
  · have hp : Hid (belB v u = false) := belB_no (nodeB_no (by omega))
    go_enter Tryz.func46, Tryz.ntmps46
    go_wp2_with (go_at_call 84; refine (rNode_no _ (by omega) _).mono ?_; rintro e w' ⟨rfl, rfl⟩)
    go_ret
    exact ⟨ret_bool hp.out.symm, rfl⟩

end Go.Proofs.YtpimbpfefhkojabGreatDoor.Sh
