/- right, where the data are asked for and are enough. -/
import Derived.Test.YtohgflimdoebiaaFrA
import Derived.BigQuiet
import Derived.Deep.QuietTactic
import Derived.WalkSmall
namespace Go.Proofs.Ytohgflimdoebiaa
open Go.RowKit Go.Maps
set_option linter.unusedVariables false
set_option linter.unusedSimpArgs false

set_option maxHeartbeats 4000000 in
set_option maxRecDepth 100000 in
theorem right_yes (q p n : Int) (d : ByteArray) (w : World) (g0 : gs q = true) (g1 : decide (1 ≤ n) = true) (g2 : decide (n ≤ 255) = true) (g3 : decide (0 ≤ p) = true) (g4 : decide (p < n) = true) (g5 : decide (lea p n ≤ (d.size : Int)) = true) : Calls Try.prog 62 #[.agg #[.int .i64 q, .int .i64 p, .int .i64 n, .string d]] w fun e w' => e = .returned (.bool (rt q p n d.size)) ∧ Below w.heap.size w w' := by
  have n1 : 1 ≤ n := by simpa using g1
  have n2 : n ≤ 255 := by simpa using g2
  have hle := fun W => least_any q p n d (by omega) (by omega) W
  have hgs := fun W => goodSeq_any q W
  rw [g0] at hgs
  go_enter Try.func62, Try.ntmps62
  go_wp2_with fail
  have hS : Below w.heap.size w (w.alloc (.cells #[.int .i64 q, .int .i64 p, .int .i64 n, .string d] 93)) ∧ (w.alloc (.cells #[.int .i64 q, .int .i64 p, .int .i64 n, .string d] 93)).cell? ⟨w.heap.size, 0, none⟩ = some (.int .i64 q) ∧ (w.alloc (.cells #[.int .i64 q, .int .i64 p, .int .i64 n, .string d] 93)).cell? ⟨w.heap.size, 1, none⟩ = some (.int .i64 p) ∧ (w.alloc (.cells #[.int .i64 q, .int .i64 p, .int .i64 n, .string d] 93)).cell? ⟨w.heap.size, 2, none⟩ = some (.int .i64 n) ∧ (w.alloc (.cells #[.int .i64 q, .int .i64 p, .int .i64 n, .string d] 93)).cell? ⟨w.heap.size, 3, none⟩ = some (.string d) := ⟨below1 _ _, by simp [go_sem], by simp [go_sem], by simp [go_sem], by simp [go_sem]⟩
  generalize w.alloc (.cells #[.int .i64 q, .int .i64 p, .int .i64 n, .string d] 93) = w1 at hS ⊢
  obtain ⟨hB1, c0, c1, c2, c3⟩ := hS
  have HB1 : Hid (Below w.heap.size w w1) := hB1
  clear hB1
  go_region_held3 (fun w' => Below w.heap.size w w' ∧ w'.cell? ⟨w.heap.size, 0, none⟩ = some (.int .i64 q) ∧ w'.cell? ⟨w.heap.size, 1, none⟩ = some (.int .i64 p) ∧ w'.cell? ⟨w.heap.size, 2, none⟩ = some (.int .i64 n) ∧ w'.cell? ⟨w.heap.size, 3, none⟩ = some (.string d)) (first | exact ⟨HB1.out.drew, c0, c1, c2, c3⟩ | exact keepB (by assumption) hb | assumption) (first | (go_at_call 52; refine (hgs _).mono ?_; rintro e w' ⟨rfl, rfl⟩) | (go_at_call 73; refine (hle _).mono ?_; rintro e w' ⟨rfl, hb⟩))
  all_goals go_wp2
  all_goals go_ret
  all_goals exact ⟨ret_bool (by simp [rt, *]), by rename_i hh; exact hh.1⟩
end Go.Proofs.Ytohgflimdoebiaa
