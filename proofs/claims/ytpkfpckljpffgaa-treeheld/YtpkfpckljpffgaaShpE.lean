/- Contracts: digits and paths. -/
import Derived.Test.YtpkfpckljpffgaaShpD
import Derived.Below
namespace Go.Proofs.Ytpkfpckljpffgaa.Sh
open Go.RowKit

set_option maxHeartbeats 400000 in
theorem digits_yes (s : Int) (h0 : 0 ≤ s) (h1 : s < 64) (w : World) :
    Calls Try.prog 60 #[.int .i64 s] w fun e w' => e = .returned (.tuple #[.agg #[.int .u8 (s / 16), .int .u8 (s / 4 % 4), .int .u8 (s % 4)], .bool true]) ∧ Below w.heap.size w w' := by
  go_enter Try.func60, Try.ntmps60
  go_wp2_with (go_at_call 65; refine (isSlot_yes _ (by omega) (by omega) _).mono ?_; rintro e w' ⟨rfl, rfl⟩)
  refine wp_loop_rounds 4 ?_
  rw [rounds_succ]; go_wp2
  rw [rounds_succ]; go_wp2
  rw [rounds_succ]; go_wp2
  rw [rounds_succ]; go_wp2
  refine bodyPost_ret (v := .tuple #[.agg #[.int .u8 (s / 16), .int .u8 (s / 4 % 4), .int .u8 (s % 4)], .bool true]) ?_ rfl ⟨rfl, ?_⟩
  · simp [results, Try.results60, go_sem, and3u _ (show 0 ≤ s / 16 by omega) (show s / 16 < 64 by omega), and3u _ (show 0 ≤ s / 4 by omega) (show s / 4 < 64 by omega), and3u _ h0 h1]
    omega
  · exact ((Below.refl _ _).alloc (Nat.le_refl _) _).alloc (by simp) _
theorem digits_no (s : Int) (h : s < 0 ∨ 64 ≤ s) (w : World) :
    Calls Try.prog 60 #[.int .i64 s] w fun e w' => e = .returned (.tuple #[.agg #[.int .u8 0, .int .u8 0, .int .u8 0], .bool false]) ∧ Below w.heap.size w w' := by
  go_enter Try.func60, Try.ntmps60
  go_wp2_with (go_at_call 65; refine (isSlot_no _ (by omega) _).mono ?_; rintro e w' ⟨rfl, rfl⟩)
  exact bodyPost_ret (v := .tuple #[.agg #[.int .u8 0, .int .u8 0, .int .u8 0], .bool false]) (by simp [results, Try.results60, go_sem]) rfl ⟨rfl, (Below.refl _ _).alloc (Nat.le_refl _) _⟩

theorem child_yes (v i : Int) (h0 : 0 ≤ v) (h1 : v < 21) (h2 : 0 ≤ i) (h3 : i < 4) (w : World) :
    Calls Try.prog 61 #[.int .i64 v, .int .i64 i] w fun e w' => e = .returned (.int .i64 (4 * v + 1 + i)) ∧ w' = w := by
  rw [← chd_yes h0 h1 h2 h3]; exact child_any v i w
theorem idx0 (x y z : Value) (w : World) : (Instr.index 78 (.agg #[x, y, z]) (.int .i64 0)).run Try.prog w = .ok x w := by kernel_rfl
theorem idx1 (x y z : Value) (w : World) : (Instr.index 78 (.agg #[x, y, z]) (.int .i64 1)).run Try.prog w = .ok y w := by kernel_rfl
theorem idx2 (x y z : Value) (w : World) : (Instr.index 78 (.agg #[x, y, z]) (.int .i64 2)).run Try.prog w = .ok z w := by kernel_rfl
theorem bcell {W w1 : World} (hb : Below W.heap.size W w1) : (∀ b o, b < W.heap.size → w1.cell? ⟨b, o, none⟩ = W.cell? ⟨b, o, none⟩) ∧ (∀ b o, b < W.heap.size → w1.frozen? ⟨b, o, none⟩ = W.frozen? ⟨b, o, none⟩) :=
  ⟨fun b o h => hb.cell (p := ⟨b, o, none⟩) h, fun b o h => hb.frozen (p := ⟨b, o, none⟩) h⟩

set_option maxHeartbeats 1000000 in
theorem path_yes (s : Int) (h0 : 0 ≤ s) (h1 : s < 64) (w : World) :
    Calls Try.prog 38 #[.int .i64 s] w fun e w' => e = .returned (.tuple #[.agg #[.int .i64 (5 + s / 4), .int .i64 (1 + s / 16), .int .i64 0], .bool true]) ∧ Below w.heap.size w w' := by
  go_enter Try.func38, Try.ntmps38
  go_wp2_with fail
  refine (digits_yes _ h0 h1 _).mono ?_
  rintro e w1 ⟨rfl, hb⟩
  obtain ⟨hc, hf⟩ := bcell hb
  have hz : w.heap.size < w1.heap.size := by have := hb.size; simp at this; omega
  have i0 := fun w => idx0 (.int .u8 (s / 16)) (.int .u8 (s / 4 % 4)) (.int .u8 (s % 4)) w
  have i1 := fun w => idx1 (.int .u8 (s / 16)) (.int .u8 (s / 4 % 4)) (.int .u8 (s % 4)) w
  have i2 := fun w => idx2 (.int .u8 (s / 16)) (.int .u8 (s / 4 % 4)) (.int .u8 (s % 4)) w
  go_wp2_with fail
  refine wp_loop_rounds 4 ?_
  rw [rounds_succ]; go_wp2_with (go_at_call 61; refine (child_yes _ _ (by omega) (by omega) (by omega) (by omega) _).mono ?_; rintro e w' ⟨rfl, rfl⟩)
  rw [rounds_succ]; go_wp2_with (go_at_call 61; refine (child_yes _ _ (by omega) (by omega) (by omega) (by omega) _).mono ?_; rintro e w' ⟨rfl, rfl⟩)
  rw [rounds_succ]; go_wp2_with (go_at_call 61; refine (child_yes _ _ (by omega) (by omega) (by omega) (by omega) _).mono ?_; rintro e w' ⟨rfl, rfl⟩)
  rw [rounds_succ]; go_wp2
  refine bodyPost_ret (v := .tuple #[.agg #[.int .i64 (5 + s / 4), .int .i64 (1 + s / 16), .int .i64 0], .bool true]) ?_ rfl ⟨rfl, ?_⟩
  · simp [results, Try.results38, go_sem, hc, hz]
    omega
  · have hb0 : Below w.heap.size w w1 := ((Below.refl _ _).alloc (Nat.le_refl _) _).trans (hb.mono (by simp))
    exact ((((hb0.setCell (by simp) _).setCell (by simp) _).setCell (by simp) _).alloc (by simp; omega) _).alloc (by simp; omega) _

theorem path_no (s : Int) (h : s < 0 ∨ 64 ≤ s) (w : World) :
    Calls Try.prog 38 #[.int .i64 s] w fun e w' => e = .returned (.tuple #[.agg #[.int .i64 0, .int .i64 0, .int .i64 0], .bool false]) ∧ Below w.heap.size w w' := by
  go_enter Try.func38, Try.ntmps38
  go_wp2_with fail
  refine (digits_no _ h _).mono ?_
  rintro e w1 ⟨rfl, hb⟩
  obtain ⟨hc, hf⟩ := bcell hb
  have hz : w.heap.size < w1.heap.size := by have := hb.size; simp at this; omega
  go_wp2
  refine bodyPost_ret (v := .tuple #[.agg #[.int .i64 0, .int .i64 0, .int .i64 0], .bool false]) ?_ rfl ⟨rfl, ?_⟩
  · simp [results, Try.results38, go_sem, hc, hz]
  · have hb0 : Below w.heap.size w w1 := ((Below.refl _ _).alloc (Nat.le_refl _) _).trans (hb.mono (by simp))
    exact ((((hb0.setCell (by simp) _).setCell (by simp) _).setCell (by simp) _).alloc (by simp; omega) _)

end Go.Proofs.Ytpkfpckljpffgaa.Sh
