/- right, where it is refused ahead of its data. -/
import Derived.Test.YtohgflimdoebiaaFrA
import Derived.BigQuiet
import Derived.Deep.QuietTactic
import Derived.WalkSmall
namespace Go.Proofs.Ytohgflimdoebiaa
open Go.RowKit Go.Maps
set_option linter.unusedVariables false
set_option linter.unusedSimpArgs false

set_option maxHeartbeats 4000000 in
set_option maxRecDepth 100000 in
theorem right_no0 (q p n : Int) (d : ByteArray) (w : World) (g0 : gs q = false) : Calls Try.prog 62 #[.agg #[.int .i64 q, .int .i64 p, .int .i64 n, .string d]] w fun e w' => e = .returned (.bool (rt q p n d.size)) ∧ Below w.heap.size w w' := by
  have hgs := fun W => goodSeq_any q W
  rw [g0] at hgs
  go_enter Try.func62, Try.ntmps62
  go_wp2_with fail
  have hS : Below w.heap.size w (w.alloc (.cells #[.int .i64 q, .int .i64 p, .int .i64 n, .string d] 93)) ∧ (w.alloc (.cells #[.int .i64 q, .int .i64 p, .int .i64 n, .string d] 93)).cell? ⟨w.heap.size, 0, none⟩ = some (.int .i64 q) ∧ (w.alloc (.cells #[.int .i64 q, .int .i64 p, .int .i64 n, .string d] 93)).cell? ⟨w.heap.size, 1, none⟩ = some (.int .i64 p) ∧ (w.alloc (.cells #[.int .i64 q, .int .i64 p, .int .i64 n, .string d] 93)).cell? ⟨w.heap.size, 2, none⟩ = some (.int .i64 n) ∧ (w.alloc (.cells #[.int .i64 q, .int .i64 p, .int .i64 n, .string d] 93)).cell? ⟨w.heap.size, 3, none⟩ = some (.string d) := ⟨below1 _ _, by simp [go_sem], by simp [go_sem], by simp [go_sem], by simp [go_sem]⟩
  generalize w.alloc (.cells #[.int .i64 q, .int .i64 p, .int .i64 n, .string d] 93) = w1 at hS ⊢
  obtain ⟨hB1, c0, c1, c2, c3⟩ := hS
  have HB1 : Hid (Below w.heap.size w w1) := hB1
  clear hB1
  go_quiet ((go_at_call 52; exact Calls.quiet_of_same (hgs _)))
  go_wp2
  go_ret
  exact ⟨ret_bool (by simp [rt, *]), below_drewN HB1.out _⟩
set_option maxHeartbeats 4000000 in
set_option maxRecDepth 100000 in
theorem right_no1 (q p n : Int) (d : ByteArray) (w : World) (g0 : gs q = true) (g1 : decide (1 ≤ n) = false) : Calls Try.prog 62 #[.agg #[.int .i64 q, .int .i64 p, .int .i64 n, .string d]] w fun e w' => e = .returned (.bool (rt q p n d.size)) ∧ Below w.heap.size w w' := by
  have hgs := fun W => goodSeq_any q W
  rw [g0] at hgs
  go_enter Try.func62, Try.ntmps62
  go_wp2_with fail
  have hS : Below w.heap.size w (w.alloc (.cells #[.int .i64 q, .int .i64 p, .int .i64 n, .string d] 93)) ∧ (w.alloc (.cells #[.int .i64 q, .int .i64 p, .int .i64 n, .string d] 93)).cell? ⟨w.heap.size, 0, none⟩ = some (.int .i64 q) ∧ (w.alloc (.cells #[.int .i64 q, .int .i64 p, .int .i64 n, .string d] 93)).cell? ⟨w.heap.size, 1, none⟩ = some (.int .i64 p) ∧ (w.alloc (.cells #[.int .i64 q, .int .i64 p, .int .i64 n, .string d] 93)).cell? ⟨w.heap.size, 2, none⟩ = some (.int .i64 n) ∧ (w.alloc (.cells #[.int .i64 q, .int .i64 p, .int .i64 n, .string d] 93)).cell? ⟨w.heap.size, 3, none⟩ = some (.string d) := ⟨below1 _ _, by simp [go_sem], by simp [go_sem], by simp [go_sem], by simp [go_sem]⟩
  generalize w.alloc (.cells #[.int .i64 q, .int .i64 p, .int .i64 n, .string d] 93) = w1 at hS ⊢
  obtain ⟨hB1, c0, c1, c2, c3⟩ := hS
  have HB1 : Hid (Below w.heap.size w w1) := hB1
  clear hB1
  go_quiet ((go_at_call 52; exact Calls.quiet_of_same (hgs _)))
  go_wp2
  go_ret
  exact ⟨ret_bool (by simp [rt, *]), below_drewN HB1.out _⟩
set_option maxHeartbeats 4000000 in
set_option maxRecDepth 100000 in
theorem right_no2 (q p n : Int) (d : ByteArray) (w : World) (g0 : gs q = true) (g1 : decide (1 ≤ n) = true) (g2 : decide (n ≤ 255) = false) : Calls Try.prog 62 #[.agg #[.int .i64 q, .int .i64 p, .int .i64 n, .string d]] w fun e w' => e = .returned (.bool (rt q p n d.size)) ∧ Below w.heap.size w w' := by
  have hgs := fun W => goodSeq_any q W
  rw [g0] at hgs
  go_enter Try.func62, Try.ntmps62
  go_wp2_with fail
  have hS : Below w.heap.size w (w.alloc (.cells #[.int .i64 q, .int .i64 p, .int .i64 n, .string d] 93)) ∧ (w.alloc (.cells #[.int .i64 q, .int .i64 p, .int .i64 n, .string d] 93)).cell? ⟨w.heap.size, 0, none⟩ = some (.int .i64 q) ∧ (w.alloc (.cells #[.int .i64 q, .int .i64 p, .int .i64 n, .string d] 93)).cell? ⟨w.heap.size, 1, none⟩ = some (.int .i64 p) ∧ (w.alloc (.cells #[.int .i64 q, .int .i64 p, .int .i64 n, .string d] 93)).cell? ⟨w.heap.size, 2, none⟩ = some (.int .i64 n) ∧ (w.alloc (.cells #[.int .i64 q, .int .i64 p, .int .i64 n, .string d] 93)).cell? ⟨w.heap.size, 3, none⟩ = some (.string d) := ⟨below1 _ _, by simp [go_sem], by simp [go_sem], by simp [go_sem], by simp [go_sem]⟩
  generalize w.alloc (.cells #[.int .i64 q, .int .i64 p, .int .i64 n, .string d] 93) = w1 at hS ⊢
  obtain ⟨hB1, c0, c1, c2, c3⟩ := hS
  have HB1 : Hid (Below w.heap.size w w1) := hB1
  clear hB1
  go_quiet ((go_at_call 52; exact Calls.quiet_of_same (hgs _)))
  go_wp2
  go_ret
  exact ⟨ret_bool (by simp [rt, *]), below_drewN HB1.out _⟩
set_option maxHeartbeats 4000000 in
set_option maxRecDepth 100000 in
theorem right_no3 (q p n : Int) (d : ByteArray) (w : World) (g0 : gs q = true) (g1 : decide (1 ≤ n) = true) (g2 : decide (n ≤ 255) = true) (g3 : decide (0 ≤ p) = false) : Calls Try.prog 62 #[.agg #[.int .i64 q, .int .i64 p, .int .i64 n, .string d]] w fun e w' => e = .returned (.bool (rt q p n d.size)) ∧ Below w.heap.size w w' := by
  have hgs := fun W => goodSeq_any q W
  rw [g0] at hgs
  go_enter Try.func62, Try.ntmps62
  go_wp2_with fail
  have hS : Below w.heap.size w (w.alloc (.cells #[.int .i64 q, .int .i64 p, .int .i64 n, .string d] 93)) ∧ (w.alloc (.cells #[.int .i64 q, .int .i64 p, .int .i64 n, .string d] 93)).cell? ⟨w.heap.size, 0, none⟩ = some (.int .i64 q) ∧ (w.alloc (.cells #[.int .i64 q, .int .i64 p, .int .i64 n, .string d] 93)).cell? ⟨w.heap.size, 1, none⟩ = some (.int .i64 p) ∧ (w.alloc (.cells #[.int .i64 q, .int .i64 p, .int .i64 n, .string d] 93)).cell? ⟨w.heap.size, 2, none⟩ = some (.int .i64 n) ∧ (w.alloc (.cells #[.int .i64 q, .int .i64 p, .int .i64 n, .string d] 93)).cell? ⟨w.heap.size, 3, none⟩ = some (.string d) := ⟨below1 _ _, by simp [go_sem], by simp [go_sem], by simp [go_sem], by simp [go_sem]⟩
  generalize w.alloc (.cells #[.int .i64 q, .int .i64 p, .int .i64 n, .string d] 93) = w1 at hS ⊢
  obtain ⟨hB1, c0, c1, c2, c3⟩ := hS
  have HB1 : Hid (Below w.heap.size w w1) := hB1
  clear hB1
  go_quiet ((go_at_call 52; exact Calls.quiet_of_same (hgs _)))
  go_wp2
  go_ret
  exact ⟨ret_bool (by simp [rt, *]), below_drewN HB1.out _⟩
set_option maxHeartbeats 4000000 in
set_option maxRecDepth 100000 in
theorem right_no4 (q p n : Int) (d : ByteArray) (w : World) (g0 : gs q = true) (g1 : decide (1 ≤ n) = true) (g2 : decide (n ≤ 255) = true) (g3 : decide (0 ≤ p) = true) (g4 : decide (p < n) = false) : Calls Try.prog 62 #[.agg #[.int .i64 q, .int .i64 p, .int .i64 n, .string d]] w fun e w' => e = .returned (.bool (rt q p n d.size)) ∧ Below w.heap.size w w' := by
  have hgs := fun W => goodSeq_any q W
  rw [g0] at hgs
  go_enter Try.func62, Try.ntmps62
  go_wp2_with fail
  have hS : Below w.heap.size w (w.alloc (.cells #[.int .i64 q, .int .i64 p, .int .i64 n, .string d] 93)) ∧ (w.alloc (.cells #[.int .i64 q, .int .i64 p, .int .i64 n, .string d] 93)).cell? ⟨w.heap.size, 0, none⟩ = some (.int .i64 q) ∧ (w.alloc (.cells #[.int .i64 q, .int .i64 p, .int .i64 n, .string d] 93)).cell? ⟨w.heap.size, 1, none⟩ = some (.int .i64 p) ∧ (w.alloc (.cells #[.int .i64 q, .int .i64 p, .int .i64 n, .string d] 93)).cell? ⟨w.heap.size, 2, none⟩ = some (.int .i64 n) ∧ (w.alloc (.cells #[.int .i64 q, .int .i64 p, .int .i64 n, .string d] 93)).cell? ⟨w.heap.size, 3, none⟩ = some (.string d) := ⟨below1 _ _, by simp [go_sem], by simp [go_sem], by simp [go_sem], by simp [go_sem]⟩
  generalize w.alloc (.cells #[.int .i64 q, .int .i64 p, .int .i64 n, .string d] 93) = w1 at hS ⊢
  obtain ⟨hB1, c0, c1, c2, c3⟩ := hS
  have HB1 : Hid (Below w.heap.size w w1) := hB1
  clear hB1
  go_quiet ((go_at_call 52; exact Calls.quiet_of_same (hgs _)))
  go_wp2
  go_ret
  exact ⟨ret_bool (by simp [rt, *]), below_drewN HB1.out _⟩
end Go.Proofs.Ytohgflimdoebiaa
