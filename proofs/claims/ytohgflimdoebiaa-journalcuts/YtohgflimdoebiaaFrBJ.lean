/- FrB, FrB2, FrB3, joined. -/
import Derived.Test.YtohgflimdoebiaaFrA
import Derived.BigQuiet
import Derived.Deep.QuietTactic
import Derived.WalkSmall
/- right, where it is refused ahead of its data. -/
namespace Go.Proofs.Ytohgflimdoebiaa
open Go.RowKit Go.Maps
set_option linter.unusedVariables false
set_option linter.unusedSimpArgs false

set_option maxHeartbeats 4000000 in
set_option maxRecDepth 100000 in
theorem right_no0 (q p n : Int) (d : ByteArray) (w : World) (g0 : gs q = false) : Calls Try.prog 62 #[.agg #[.int .i64 q, .int .i64 p, .int .i64 n, .string d]] w fun e w' => e = .returned (.bool (rt q p n d.size)) ∧ Below w.heap.size w w' := by
  have hgs := fun W => goodSeq_any q W
  rw [g0] at hgs
  go_enter Try.func62, Try.ntmps62
  go_wp2_with fail
  have hS : Below w.heap.size w (w.alloc (.cells #[.int .i64 q, .int .i64 p, .int .i64 n, .string d] 93)) ∧ (w.alloc (.cells #[.int .i64 q, .int .i64 p, .int .i64 n, .string d] 93)).cell? ⟨w.heap.size, 0, none⟩ = some (.int .i64 q) ∧ (w.alloc (.cells #[.int .i64 q, .int .i64 p, .int .i64 n, .string d] 93)).cell? ⟨w.heap.size, 1, none⟩ = some (.int .i64 p) ∧ (w.alloc (.cells #[.int .i64 q, .int .i64 p, .int .i64 n, .string d] 93)).cell? ⟨w.heap.size, 2, none⟩ = some (.int .i64 n) ∧ (w.alloc (.cells #[.int .i64 q, .int .i64 p, .int .i64 n, .string d] 93)).cell? ⟨w.heap.size, 3, none⟩ = some (.string d) := ⟨below1 _ _, by simp [go_sem], by simp [go_sem], by simp [go_sem], by simp [go_sem]⟩
  generalize w.alloc (.cells #[.int .i64 q, .int .i64 p, .int .i64 n, .string d] 93) = w1 at hS ⊢
  obtain ⟨hB1, c0, c1, c2, c3⟩ := hS
  have HB1 : Hid (Below w.heap.size w w1) := hB1
  clear hB1
  go_quiet ((go_at_call 52; exact Calls.quiet_of_same (hgs _)))
  go_wp2
  go_ret
  exact ⟨ret_bool (by simp [rt, *]), below_drewN HB1.out _⟩
set_option maxHeartbeats 4000000 in
set_option maxRecDepth 100000 in
theorem right_no1 (q p n : Int) (d : ByteArray) (w : World) (g0 : gs q = true) (g1 : decide (1 ≤ n) = false) : Calls Try.prog 62 #[.agg #[.int .i64 q, .int .i64 p, .int .i64 n, .string d]] w fun e w' => e = .returned (.bool (rt q p n d.size)) ∧ Below w.heap.size w w' := by
  have hgs := fun W => goodSeq_any q W
  rw [g0] at hgs
  go_enter Try.func62, Try.ntmps62
  go_wp2_with fail
  have hS : Below w.heap.size w (w.alloc (.cells #[.int .i64 q, .int .i64 p, .int .i64 n, .string d] 93)) ∧ (w.alloc (.cells #[.int .i64 q, .int .i64 p, .int .i64 n, .string d] 93)).cell? ⟨w.heap.size, 0, none⟩ = some (.int .i64 q) ∧ (w.alloc (.cells #[.int .i64 q, .int .i64 p, .int .i64 n, .string d] 93)).cell? ⟨w.heap.size, 1, none⟩ = some (.int .i64 p) ∧ (w.alloc (.cells #[.int .i64 q, .int .i64 p, .int .i64 n, .string d] 93)).cell? ⟨w.heap.size, 2, none⟩ = some (.int .i64 n) ∧ (w.alloc (.cells #[.int .i64 q, .int .i64 p, .int .i64 n, .string d] 93)).cell? ⟨w.heap.size, 3, none⟩ = some (.string d) := ⟨below1 _ _, by simp [go_sem], by simp [go_sem], by simp [go_sem], by simp [go_sem]⟩
  generalize w.alloc (.cells #[.int .i64 q, .int .i64 p, .int .i64 n, .string d] 93) = w1 at hS ⊢
  obtain ⟨hB1, c0, c1, c2, c3⟩ := hS
  have HB1 : Hid (Below w.heap.size w w1) := hB1
  clear hB1
  go_quiet ((go_at_call 52; exact Calls.quiet_of_same (hgs _)))
  go_wp2
  go_ret
  exact ⟨ret_bool (by simp [rt, *]), below_drewN HB1.out _⟩
set_option maxHeartbeats 4000000 in
set_option maxRecDepth 100000 in
theorem right_no2 (q p n : Int) (d : ByteArray) (w : World) (g0 : gs q = true) (g1 : decide (1 ≤ n) = true) (g2 : decide (n ≤ 255) = false) : Calls Try.prog 62 #[.agg #[.int .i64 q, .int .i64 p, .int .i64 n, .string d]] w fun e w' => e = .returned (.bool (rt q p n d.size)) ∧ Below w.heap.size w w' := by
  have hgs := fun W => goodSeq_any q W
  rw [g0] at hgs
  go_enter Try.func62, Try.ntmps62
  go_wp2_with fail
  have hS : Below w.heap.size w (w.alloc (.cells #[.int .i64 q, .int .i64 p, .int .i64 n, .string d] 93)) ∧ (w.alloc (.cells #[.int .i64 q, .int .i64 p, .int .i64 n, .string d] 93)).cell? ⟨w.heap.size, 0, none⟩ = some (.int .i64 q) ∧ (w.alloc (.cells #[.int .i64 q, .int .i64 p, .int .i64 n, .string d] 93)).cell? ⟨w.heap.size, 1, none⟩ = some (.int .i64 p) ∧ (w.alloc (.cells #[.int .i64 q, .int .i64 p, .int .i64 n, .string d] 93)).cell? ⟨w.heap.size, 2, none⟩ = some (.int .i64 n) ∧ (w.alloc (.cells #[.int .i64 q, .int .i64 p, .int .i64 n, .string d] 93)).cell? ⟨w.heap.size, 3, none⟩ = some (.string d) := ⟨below1 _ _, by simp [go_sem], by simp [go_sem], by simp [go_sem], by simp [go_sem]⟩
  generalize w.alloc (.cells #[.int .i64 q, .int .i64 p, .int .i64 n, .string d] 93) = w1 at hS ⊢
  obtain ⟨hB1, c0, c1, c2, c3⟩ := hS
  have HB1 : Hid (Below w.heap.size w w1) := hB1
  clear hB1
  go_quiet ((go_at_call 52; exact Calls.quiet_of_same (hgs _)))
  go_wp2
  go_ret
  exact ⟨ret_bool (by simp [rt, *]), below_drewN HB1.out _⟩
set_option maxHeartbeats 4000000 in
set_option maxRecDepth 100000 in
theorem right_no3 (q p n : Int) (d : ByteArray) (w : World) (g0 : gs q = true) (g1 : decide (1 ≤ n) = true) (g2 : decide (n ≤ 255) = true) (g3 : decide (0 ≤ p) = false) : Calls Try.prog 62 #[.agg #[.int .i64 q, .int .i64 p, .int .i64 n, .string d]] w fun e w' => e = .returned (.bool (rt q p n d.size)) ∧ Below w.heap.size w w' := by
  have hgs := fun W => goodSeq_any q W
  rw [g0] at hgs
  go_enter Try.func62, Try.ntmps62
  go_wp2_with fail
  have hS : Below w.heap.size w (w.alloc (.cells #[.int .i64 q, .int .i64 p, .int .i64 n, .string d] 93)) ∧ (w.alloc (.cells #[.int .i64 q, .int .i64 p, .int .i64 n, .string d] 93)).cell? ⟨w.heap.size, 0, none⟩ = some (.int .i64 q) ∧ (w.alloc (.cells #[.int .i64 q, .int .i64 p, .int .i64 n, .string d] 93)).cell? ⟨w.heap.size, 1, none⟩ = some (.int .i64 p) ∧ (w.alloc (.cells #[.int .i64 q, .int .i64 p, .int .i64 n, .string d] 93)).cell? ⟨w.heap.size, 2, none⟩ = some (.int .i64 n) ∧ (w.alloc (.cells #[.int .i64 q, .int .i64 p, .int .i64 n, .string d] 93)).cell? ⟨w.heap.size, 3, none⟩ = some (.string d) := ⟨below1 _ _, by simp [go_sem], by simp [go_sem], by simp [go_sem], by simp [go_sem]⟩
  generalize w.alloc (.cells #[.int .i64 q, .int .i64 p, .int .i64 n, .string d] 93) = w1 at hS ⊢
  obtain ⟨hB1, c0, c1, c2, c3⟩ := hS
  have HB1 : Hid (Below w.heap.size w w1) := hB1
  clear hB1
  go_quiet ((go_at_call 52; exact Calls.quiet_of_same (hgs _)))
  go_wp2
  go_ret
  exact ⟨ret_bool (by simp [rt, *]), below_drewN HB1.out _⟩
set_option maxHeartbeats 4000000 in
set_option maxRecDepth 100000 in
theorem right_no4 (q p n : Int) (d : ByteArray) (w : World) (g0 : gs q = true) (g1 : decide (1 ≤ n) = true) (g2 : decide (n ≤ 255) = true) (g3 : decide (0 ≤ p) = true) (g4 : decide (p < n) = false) : Calls Try.prog 62 #[.agg #[.int .i64 q, .int .i64 p, .int .i64 n, .string d]] w fun e w' => e = .returned (.bool (rt q p n d.size)) ∧ Below w.heap.size w w' := by
  have hgs := fun W => goodSeq_any q W
  rw [g0] at hgs
  go_enter Try.func62, Try.ntmps62
  go_wp2_with fail
  have hS : Below w.heap.size w (w.alloc (.cells #[.int .i64 q, .int .i64 p, .int .i64 n, .string d] 93)) ∧ (w.alloc (.cells #[.int .i64 q, .int .i64 p, .int .i64 n, .string d] 93)).cell? ⟨w.heap.size, 0, none⟩ = some (.int .i64 q) ∧ (w.alloc (.cells #[.int .i64 q, .int .i64 p, .int .i64 n, .string d] 93)).cell? ⟨w.heap.size, 1, none⟩ = some (.int .i64 p) ∧ (w.alloc (.cells #[.int .i64 q, .int .i64 p, .int .i64 n, .string d] 93)).cell? ⟨w.heap.size, 2, none⟩ = some (.int .i64 n) ∧ (w.alloc (.cells #[.int .i64 q, .int .i64 p, .int .i64 n, .string d] 93)).cell? ⟨w.heap.size, 3, none⟩ = some (.string d) := ⟨below1 _ _, by simp [go_sem], by simp [go_sem], by simp [go_sem], by simp [go_sem]⟩
  generalize w.alloc (.cells #[.int .i64 q, .int .i64 p, .int .i64 n, .string d] 93) = w1 at hS ⊢
  obtain ⟨hB1, c0, c1, c2, c3⟩ := hS
  have HB1 : Hid (Below w.heap.size w w1) := hB1
  clear hB1
  go_quiet ((go_at_call 52; exact Calls.quiet_of_same (hgs _)))
  go_wp2
  go_ret
  exact ⟨ret_bool (by simp [rt, *]), below_drewN HB1.out _⟩
end Go.Proofs.Ytohgflimdoebiaa
/- right, where the data are asked for and are enough. -/
namespace Go.Proofs.Ytohgflimdoebiaa
open Go.RowKit Go.Maps
set_option linter.unusedVariables false
set_option linter.unusedSimpArgs false

set_option maxHeartbeats 4000000 in
set_option maxRecDepth 100000 in
theorem right_yes (q p n : Int) (d : ByteArray) (w : World) (g0 : gs q = true) (g1 : decide (1 ≤ n) = true) (g2 : decide (n ≤ 255) = true) (g3 : decide (0 ≤ p) = true) (g4 : decide (p < n) = true) (g5 : decide (lea p n ≤ (d.size : Int)) = true) : Calls Try.prog 62 #[.agg #[.int .i64 q, .int .i64 p, .int .i64 n, .string d]] w fun e w' => e = .returned (.bool (rt q p n d.size)) ∧ Below w.heap.size w w' := by
  have n1 : 1 ≤ n := by simpa using g1
  have n2 : n ≤ 255 := by simpa using g2
  have hle := fun W => least_any q p n d (by omega) (by omega) W
  have hgs := fun W => goodSeq_any q W
  rw [g0] at hgs
  go_enter Try.func62, Try.ntmps62
  go_wp2_with fail
  have hS : Below w.heap.size w (w.alloc (.cells #[.int .i64 q, .int .i64 p, .int .i64 n, .string d] 93)) ∧ (w.alloc (.cells #[.int .i64 q, .int .i64 p, .int .i64 n, .string d] 93)).cell? ⟨w.heap.size, 0, none⟩ = some (.int .i64 q) ∧ (w.alloc (.cells #[.int .i64 q, .int .i64 p, .int .i64 n, .string d] 93)).cell? ⟨w.heap.size, 1, none⟩ = some (.int .i64 p) ∧ (w.alloc (.cells #[.int .i64 q, .int .i64 p, .int .i64 n, .string d] 93)).cell? ⟨w.heap.size, 2, none⟩ = some (.int .i64 n) ∧ (w.alloc (.cells #[.int .i64 q, .int .i64 p, .int .i64 n, .string d] 93)).cell? ⟨w.heap.size, 3, none⟩ = some (.string d) := ⟨below1 _ _, by simp [go_sem], by simp [go_sem], by simp [go_sem], by simp [go_sem]⟩
  generalize w.alloc (.cells #[.int .i64 q, .int .i64 p, .int .i64 n, .string d] 93) = w1 at hS ⊢
  obtain ⟨hB1, c0, c1, c2, c3⟩ := hS
  have HB1 : Hid (Below w.heap.size w w1) := hB1
  clear hB1
  go_region_held3 (fun w' => Below w.heap.size w w' ∧ w'.cell? ⟨w.heap.size, 0, none⟩ = some (.int .i64 q) ∧ w'.cell? ⟨w.heap.size, 1, none⟩ = some (.int .i64 p) ∧ w'.cell? ⟨w.heap.size, 2, none⟩ = some (.int .i64 n) ∧ w'.cell? ⟨w.heap.size, 3, none⟩ = some (.string d)) (first | exact ⟨HB1.out.drew, c0, c1, c2, c3⟩ | exact keepB (by assumption) hb | assumption) (first | (go_at_call 52; refine (hgs _).mono ?_; rintro e w' ⟨rfl, rfl⟩) | (go_at_call 73; refine (hle _).mono ?_; rintro e w' ⟨rfl, hb⟩))
  all_goals go_wp2
  all_goals go_ret
  all_goals exact ⟨ret_bool (by simp [rt, *]), by rename_i hh; exact hh.1⟩
end Go.Proofs.Ytohgflimdoebiaa
/- right, where the data are too few. -/
namespace Go.Proofs.Ytohgflimdoebiaa
open Go.RowKit Go.Maps
set_option linter.unusedVariables false
set_option linter.unusedSimpArgs false

set_option maxHeartbeats 4000000 in
set_option maxRecDepth 100000 in
theorem right_few (q p n : Int) (d : ByteArray) (w : World) (g0 : gs q = true) (g1 : decide (1 ≤ n) = true) (g2 : decide (n ≤ 255) = true) (g3 : decide (0 ≤ p) = true) (g4 : decide (p < n) = true) (g5 : decide (lea p n ≤ (d.size : Int)) = false) : Calls Try.prog 62 #[.agg #[.int .i64 q, .int .i64 p, .int .i64 n, .string d]] w fun e w' => e = .returned (.bool (rt q p n d.size)) ∧ Below w.heap.size w w' := by
  have n1 : 1 ≤ n := by simpa using g1
  have n2 : n ≤ 255 := by simpa using g2
  have hle := fun W => least_any q p n d (by omega) (by omega) W
  have hgs := fun W => goodSeq_any q W
  rw [g0] at hgs
  go_enter Try.func62, Try.ntmps62
  go_wp2_with fail
  have hS : Below w.heap.size w (w.alloc (.cells #[.int .i64 q, .int .i64 p, .int .i64 n, .string d] 93)) ∧ (w.alloc (.cells #[.int .i64 q, .int .i64 p, .int .i64 n, .string d] 93)).cell? ⟨w.heap.size, 0, none⟩ = some (.int .i64 q) ∧ (w.alloc (.cells #[.int .i64 q, .int .i64 p, .int .i64 n, .string d] 93)).cell? ⟨w.heap.size, 1, none⟩ = some (.int .i64 p) ∧ (w.alloc (.cells #[.int .i64 q, .int .i64 p, .int .i64 n, .string d] 93)).cell? ⟨w.heap.size, 2, none⟩ = some (.int .i64 n) ∧ (w.alloc (.cells #[.int .i64 q, .int .i64 p, .int .i64 n, .string d] 93)).cell? ⟨w.heap.size, 3, none⟩ = some (.string d) := ⟨below1 _ _, by simp [go_sem], by simp [go_sem], by simp [go_sem], by simp [go_sem]⟩
  generalize w.alloc (.cells #[.int .i64 q, .int .i64 p, .int .i64 n, .string d] 93) = w1 at hS ⊢
  obtain ⟨hB1, c0, c1, c2, c3⟩ := hS
  have HB1 : Hid (Below w.heap.size w w1) := hB1
  clear hB1
  refine wp_region_held_drew (S := fun w' => Below w.heap.size w w' ∧ w'.cell? ⟨w.heap.size, 0, none⟩ = some (.int .i64 q) ∧ w'.cell? ⟨w.heap.size, 1, none⟩ = some (.int .i64 p) ∧ w'.cell? ⟨w.heap.size, 2, none⟩ = some (.int .i64 n) ∧ w'.cell? ⟨w.heap.size, 3, none⟩ = some (.string d)) (by kernel_rfl) ⟨HB1.out.drew, c0, c1, c2, c3⟩ (fun hHeld => ?_)
  clear c0 c1 c2 c3
  refine wpAnyH_take (i := 0) (oi := { dst := some 3, op := Op.fieldAddr 93 (Operand.tmp 1) 0, type := 0, pos := _, after := #[], guard := none }) (v := .pointer (some ⟨w.heap.size, 0, none⟩)) rfl (by kernel_rfl) (by kernel_rfl) (by kernel_rfl) (fun _ _ _ h => h) (Or.inl ⟨by rfl, fun w hSw => by (try dsimp only at hSw); go_simp⟩) (by assumption) ?_
  simp only [Act.put, List.setIfInBounds_toArray, List.set_cons_zero, List.set_cons_succ]
  refine wpAnyH_take (i := 1) (oi := { dst := some 4, op := Op.load 3 (Operand.tmp 3), type := 3, pos := _, after := #[{ on := 0, ground := Ground.data }], guard := none }) (v := .int .i64 q) rfl (by kernel_rfl) (by kernel_rfl) (by kernel_rfl) (fun _ _ _ h => h) (Or.inl ⟨by rfl, fun w hSw => by (try dsimp only at hSw); go_simp⟩) (by assumption) ?_
  simp only [Act.put, List.setIfInBounds_toArray, List.set_cons_zero, List.set_cons_succ]
  refine wpAnyH_ready (rs := [2]) (by kernel_rfl) (by simp) ?_
  refine AllReadyH.cons (o := { dst := some 5, op := Op.call { callee := Callee.value (Operand.func 52), args := #[Operand.tmp 4], argTypes := #[3 ] }, type := 4, pos := _, after := #[{ on := 1, ground := Ground.data }], guard := none }) rfl (fun K hK => ?_) AllReadyH.nil
  go_simp
  refine (hgs _).mono ?_
  rintro e w' ⟨rfl, rfl⟩
  go_wp2_with fail
  refine hK.out _ _ hHeld (fun hHeld' => ?_)
  clear hK K
  try simp only [Act.put, List.setIfInBounds_toArray, List.set_cons_zero, List.set_cons_succ]
  refine wpAnyH_take (i := 3) (oi := { dst := some 6, op := Op.move (Operand.tmp 5), type := 4, pos := _, after := #[{ on := 2, ground := Ground.data }, { on := 2, ground := Ground.chain }], guard := none }) (v := .bool true) rfl (by kernel_rfl) (by kernel_rfl) (by kernel_rfl) (fun _ _ _ h => h) (Or.inl ⟨by rfl, fun w hSw => by (try dsimp only at hSw); go_simp⟩) (by assumption) ?_
  simp only [Act.put, List.setIfInBounds_toArray, List.set_cons_zero, List.set_cons_succ]
  refine wpAnyH_take (i := 4) (oi := { dst := some 7, op := Op.fieldAddr 93 (Operand.tmp 1) 2, type := 0, pos := _, after := #[{ on := 3, ground := Ground.guard }], guard := some (3, true) }) (v := .pointer (some ⟨w.heap.size, 2, none⟩)) rfl (by kernel_rfl) (by kernel_rfl) (by kernel_rfl) (fun _ _ _ h => h) (Or.inl ⟨by rfl, fun w hSw => by (try dsimp only at hSw); go_simp⟩) (by assumption) ?_
  simp only [Act.put, List.setIfInBounds_toArray, List.set_cons_zero, List.set_cons_succ]
  refine wpAnyH_take (i := 5) (oi := { dst := some 8, op := Op.load 3 (Operand.tmp 7), type := 3, pos := _, after := #[{ on := 4, ground := Ground.data }, { on := 3, ground := Ground.guard }], guard := some (3, true) }) (v := .int .i64 n) rfl (by kernel_rfl) (by kernel_rfl) (by kernel_rfl) (fun _ _ _ h => h) (Or.inl ⟨by rfl, fun w hSw => by (try dsimp only at hSw); go_simp⟩) (by assumption) ?_
  simp only [Act.put, List.setIfInBounds_toArray, List.set_cons_zero, List.set_cons_succ]
  refine wpAnyH_take (i := 6) (oi := { dst := some 9, op := Op.binOp BinOp.geq 3 (Operand.tmp 8) (Operand.const (Value.int IntKind.i64 1)) 3, type := 4, pos := _, after := #[{ on := 5, ground := Ground.data }, { on := 3, ground := Ground.guard }], guard := some (3, true) }) (v := .bool true) rfl (by kernel_rfl) (by kernel_rfl) (by kernel_rfl) (fun _ _ _ h => h) (Or.inl ⟨by rfl, fun w hSw => by (try dsimp only at hSw); go_simp⟩) (by assumption) ?_
  simp only [Act.put, List.setIfInBounds_toArray, List.set_cons_zero, List.set_cons_succ]
  refine wpAnyH_take (i := 7) (oi := { dst := some 10, op := Op.pick (Operand.tmp 6) (Operand.tmp 9) (Operand.const (Value.bool false)), type := 4, pos := _, after := #[{ on := 3, ground := Ground.data }, { on := 6, ground := Ground.data }], guard := none }) (v := .bool true) rfl (by kernel_rfl) (by kernel_rfl) (by kernel_rfl) (fun _ _ _ h => h) (Or.inl ⟨by rfl, fun w hSw => by (try dsimp only at hSw); go_simp⟩) (by assumption) ?_
  simp only [Act.put, List.setIfInBounds_toArray, List.set_cons_zero, List.set_cons_succ]
  refine wpAnyH_take (i := 8) (oi := { dst := some 11, op := Op.move (Operand.tmp 10), type := 4, pos := _, after := #[{ on := 7, ground := Ground.data }, { on := 3, ground := Ground.chain }], guard := none }) (v := .bool true) rfl (by kernel_rfl) (by kernel_rfl) (by kernel_rfl) (fun _ _ _ h => h) (Or.inl ⟨by rfl, fun w hSw => by (try dsimp only at hSw); go_simp⟩) (by assumption) ?_
  simp only [Act.put, List.setIfInBounds_toArray, List.set_cons_zero, List.set_cons_succ]
  refine wpAnyH_take (i := 9) (oi := { dst := some 12, op := Op.fieldAddr 93 (Operand.tmp 1) 2, type := 0, pos := _, after := #[{ on := 8, ground := Ground.guard }], guard := some (8, true) }) (v := .pointer (some ⟨w.heap.size, 2, none⟩)) rfl (by kernel_rfl) (by kernel_rfl) (by kernel_rfl) (fun _ _ _ h => h) (Or.inl ⟨by rfl, fun w hSw => by (try dsimp only at hSw); go_simp⟩) (by assumption) ?_
  simp only [Act.put, List.setIfInBounds_toArray, List.set_cons_zero, List.set_cons_succ]
  refine wpAnyH_take (i := 10) (oi := { dst := some 13, op := Op.load 3 (Operand.tmp 12), type := 3, pos := _, after := #[{ on := 9, ground := Ground.data }, { on := 8, ground := Ground.guard }], guard := some (8, true) }) (v := .int .i64 n) rfl (by kernel_rfl) (by kernel_rfl) (by kernel_rfl) (fun _ _ _ h => h) (Or.inl ⟨by rfl, fun w hSw => by (try dsimp only at hSw); go_simp⟩) (by assumption) ?_
  simp only [Act.put, List.setIfInBounds_toArray, List.set_cons_zero, List.set_cons_succ]
  refine wpAnyH_take (i := 11) (oi := { dst := some 14, op := Op.binOp BinOp.leq 3 (Operand.tmp 13) (Operand.const (Value.int IntKind.i64 255)) 3, type := 4, pos := _, after := #[{ on := 10, ground := Ground.data }, { on := 8, ground := Ground.guard }], guard := some (8, true) }) (v := .bool true) rfl (by kernel_rfl) (by kernel_rfl) (by kernel_rfl) (fun _ _ _ h => h) (Or.inl ⟨by rfl, fun w hSw => by (try dsimp only at hSw); go_simp⟩) (by assumption) ?_
  simp only [Act.put, List.setIfInBounds_toArray, List.set_cons_zero, List.set_cons_succ]
  refine wpAnyH_take (i := 12) (oi := { dst := some 15, op := Op.pick (Operand.tmp 11) (Operand.tmp 14) (Operand.const (Value.bool false)), type := 4, pos := _, after := #[{ on := 8, ground := Ground.data }, { on := 11, ground := Ground.data }], guard := none }) (v := .bool true) rfl (by kernel_rfl) (by kernel_rfl) (by kernel_rfl) (fun _ _ _ h => h) (Or.inl ⟨by rfl, fun w hSw => by (try dsimp only at hSw); go_simp⟩) (by assumption) ?_
  simp only [Act.put, List.setIfInBounds_toArray, List.set_cons_zero, List.set_cons_succ]
  refine wpAnyH_take (i := 13) (oi := { dst := some 16, op := Op.move (Operand.tmp 15), type := 4, pos := _, after := #[{ on := 12, ground := Ground.data }, { on := 8, ground := Ground.chain }], guard := none }) (v := .bool true) rfl (by kernel_rfl) (by kernel_rfl) (by kernel_rfl) (fun _ _ _ h => h) (Or.inl ⟨by rfl, fun w hSw => by (try dsimp only at hSw); go_simp⟩) (by assumption) ?_
  simp only [Act.put, List.setIfInBounds_toArray, List.set_cons_zero, List.set_cons_succ]
  refine wpAnyH_take (i := 14) (oi := { dst := some 17, op := Op.fieldAddr 93 (Operand.tmp 1) 1, type := 0, pos := _, after := #[{ on := 13, ground := Ground.guard }], guard := some (13, true) }) (v := .pointer (some ⟨w.heap.size, 1, none⟩)) rfl (by kernel_rfl) (by kernel_rfl) (by kernel_rfl) (fun _ _ _ h => h) (Or.inl ⟨by rfl, fun w hSw => by (try dsimp only at hSw); go_simp⟩) (by assumption) ?_
  simp only [Act.put, List.setIfInBounds_toArray, List.set_cons_zero, List.set_cons_succ]
  refine wpAnyH_take (i := 15) (oi := { dst := some 18, op := Op.load 3 (Operand.tmp 17), type := 3, pos := _, after := #[{ on := 14, ground := Ground.data }, { on := 13, ground := Ground.guard }], guard := some (13, true) }) (v := .int .i64 p) rfl (by kernel_rfl) (by kernel_rfl) (by kernel_rfl) (fun _ _ _ h => h) (Or.inl ⟨by rfl, fun w hSw => by (try dsimp only at hSw); go_simp⟩) (by assumption) ?_
  simp only [Act.put, List.setIfInBounds_toArray, List.set_cons_zero, List.set_cons_succ]
  refine wpAnyH_take (i := 16) (oi := { dst := some 19, op := Op.binOp BinOp.geq 3 (Operand.tmp 18) (Operand.const (Value.int IntKind.i64 0)) 3, type := 4, pos := _, after := #[{ on := 15, ground := Ground.data }, { on := 13, ground := Ground.guard }], guard := some (13, true) }) (v := .bool true) rfl (by kernel_rfl) (by kernel_rfl) (by kernel_rfl) (fun _ _ _ h => h) (Or.inl ⟨by rfl, fun w hSw => by (try dsimp only at hSw); go_simp⟩) (by assumption) ?_
  simp only [Act.put, List.setIfInBounds_toArray, List.set_cons_zero, List.set_cons_succ]
  refine wpAnyH_take (i := 17) (oi := { dst := some 20, op := Op.pick (Operand.tmp 16) (Operand.tmp 19) (Operand.const (Value.bool false)), type := 4, pos := _, after := #[{ on := 13, ground := Ground.data }, { on := 16, ground := Ground.data }], guard := none }) (v := .bool true) rfl (by kernel_rfl) (by kernel_rfl) (by kernel_rfl) (fun _ _ _ h => h) (Or.inl ⟨by rfl, fun w hSw => by (try dsimp only at hSw); go_simp⟩) (by assumption) ?_
  simp only [Act.put, List.setIfInBounds_toArray, List.set_cons_zero, List.set_cons_succ]
  refine wpAnyH_take (i := 18) (oi := { dst := some 21, op := Op.move (Operand.tmp 20), type := 4, pos := _, after := #[{ on := 17, ground := Ground.data }, { on := 13, ground := Ground.chain }], guard := none }) (v := .bool true) rfl (by kernel_rfl) (by kernel_rfl) (by kernel_rfl) (fun _ _ _ h => h) (Or.inl ⟨by rfl, fun w hSw => by (try dsimp only at hSw); go_simp⟩) (by assumption) ?_
  simp only [Act.put, List.setIfInBounds_toArray, List.set_cons_zero, List.set_cons_succ]
  refine wpAnyH_take (i := 19) (oi := { dst := some 22, op := Op.fieldAddr 93 (Operand.tmp 1) 1, type := 0, pos := _, after := #[{ on := 18, ground := Ground.guard }], guard := some (18, true) }) (v := .pointer (some ⟨w.heap.size, 1, none⟩)) rfl (by kernel_rfl) (by kernel_rfl) (by kernel_rfl) (fun _ _ _ h => h) (Or.inl ⟨by rfl, fun w hSw => by (try dsimp only at hSw); go_simp⟩) (by assumption) ?_
  simp only [Act.put, List.setIfInBounds_toArray, List.set_cons_zero, List.set_cons_succ]
  refine wpAnyH_take (i := 20) (oi := { dst := some 23, op := Op.load 3 (Operand.tmp 22), type := 3, pos := _, after := #[{ on := 19, ground := Ground.data }, { on := 18, ground := Ground.guard }], guard := some (18, true) }) (v := .int .i64 p) rfl (by kernel_rfl) (by kernel_rfl) (by kernel_rfl) (fun _ _ _ h => h) (Or.inl ⟨by rfl, fun w hSw => by (try dsimp only at hSw); go_simp⟩) (by assumption) ?_
  simp only [Act.put, List.setIfInBounds_toArray, List.set_cons_zero, List.set_cons_succ]
  refine wpAnyH_take (i := 21) (oi := { dst := some 24, op := Op.fieldAddr 93 (Operand.tmp 1) 2, type := 0, pos := _, after := #[{ on := 18, ground := Ground.guard }], guard := some (18, true) }) (v := .pointer (some ⟨w.heap.size, 2, none⟩)) rfl (by kernel_rfl) (by kernel_rfl) (by kernel_rfl) (fun _ _ _ h => h) (Or.inl ⟨by rfl, fun w hSw => by (try dsimp only at hSw); go_simp⟩) (by assumption) ?_
  simp only [Act.put, List.setIfInBounds_toArray, List.set_cons_zero, List.set_cons_succ]
  refine wpAnyH_take (i := 22) (oi := { dst := some 25, op := Op.load 3 (Operand.tmp 24), type := 3, pos := _, after := #[{ on := 21, ground := Ground.data }, { on := 18, ground := Ground.guard }], guard := some (18, true) }) (v := .int .i64 n) rfl (by kernel_rfl) (by kernel_rfl) (by kernel_rfl) (fun _ _ _ h => h) (Or.inl ⟨by rfl, fun w hSw => by (try dsimp only at hSw); go_simp⟩) (by assumption) ?_
  simp only [Act.put, List.setIfInBounds_toArray, List.set_cons_zero, List.set_cons_succ]
  refine wpAnyH_take (i := 23) (oi := { dst := some 26, op := Op.binOp BinOp.lss 3 (Operand.tmp 23) (Operand.tmp 25) 3, type := 4, pos := _, after := #[{ on := 20, ground := Ground.data }, { on := 22, ground := Ground.data }, { on := 18, ground := Ground.guard }], guard := some (18, true) }) (v := .bool true) rfl (by kernel_rfl) (by kernel_rfl) (by kernel_rfl) (fun _ _ _ h => h) (Or.inl ⟨by rfl, fun w hSw => by (try dsimp only at hSw); go_simp⟩) (by assumption) ?_
  simp only [Act.put, List.setIfInBounds_toArray, List.set_cons_zero, List.set_cons_succ]
  refine wpAnyH_take (i := 24) (oi := { dst := some 27, op := Op.pick (Operand.tmp 21) (Operand.tmp 26) (Operand.const (Value.bool false)), type := 4, pos := _, after := #[{ on := 18, ground := Ground.data }, { on := 23, ground := Ground.data }], guard := none }) (v := .bool true) rfl (by kernel_rfl) (by kernel_rfl) (by kernel_rfl) (fun _ _ _ h => h) (Or.inl ⟨by rfl, fun w hSw => by (try dsimp only at hSw); go_simp⟩) (by assumption) ?_
  simp only [Act.put, List.setIfInBounds_toArray, List.set_cons_zero, List.set_cons_succ]
  refine wpAnyH_take (i := 25) (oi := { dst := some 28, op := Op.move (Operand.tmp 27), type := 4, pos := _, after := #[{ on := 24, ground := Ground.data }, { on := 18, ground := Ground.chain }], guard := none }) (v := .bool true) rfl (by kernel_rfl) (by kernel_rfl) (by kernel_rfl) (fun _ _ _ h => h) (Or.inl ⟨by rfl, fun w hSw => by (try dsimp only at hSw); go_simp⟩) (by assumption) ?_
  simp only [Act.put, List.setIfInBounds_toArray, List.set_cons_zero, List.set_cons_succ]
  refine wpAnyH_take (i := 26) (oi := { dst := some 29, op := Op.fieldAddr 93 (Operand.tmp 1) 3, type := 0, pos := _, after := #[{ on := 25, ground := Ground.guard }], guard := some (25, true) }) (v := .pointer (some ⟨w.heap.size, 3, none⟩)) rfl (by kernel_rfl) (by kernel_rfl) (by kernel_rfl) (fun _ _ _ h => h) (Or.inl ⟨by rfl, fun w hSw => by (try dsimp only at hSw); go_simp⟩) (by assumption) ?_
  simp only [Act.put, List.setIfInBounds_toArray, List.set_cons_zero, List.set_cons_succ]
  refine wpAnyH_take (i := 27) (oi := { dst := some 30, op := Op.load 9 (Operand.tmp 29), type := 9, pos := _, after := #[{ on := 26, ground := Ground.data }, { on := 25, ground := Ground.guard }], guard := some (25, true) }) (v := .string d) rfl (by kernel_rfl) (by kernel_rfl) (by kernel_rfl) (fun _ _ _ h => h) (Or.inl ⟨by rfl, fun w hSw => by (try dsimp only at hSw); go_simp⟩) (by assumption) ?_
  simp only [Act.put, List.setIfInBounds_toArray, List.set_cons_zero, List.set_cons_succ]
  refine wpAnyH_take (i := 28) (oi := { dst := some 31, op := Op.call { callee := Callee.builtin Builtin.len, args := #[Operand.tmp 30], argTypes := #[9 ] }, type := 3, pos := _, after := #[{ on := 27, ground := Ground.data }, { on := 25, ground := Ground.guard }], guard := some (25, true) }) (v := .int .i64 (d.size : Int)) rfl (by kernel_rfl) (by kernel_rfl) (by kernel_rfl) (fun _ _ _ h => h) (Or.inl ⟨by rfl, fun w hSw => by (try dsimp only at hSw); go_simp⟩) (by assumption) ?_
  simp only [Act.put, List.setIfInBounds_toArray, List.set_cons_zero, List.set_cons_succ]
  refine wpAnyH_take (i := 29) (oi := { dst := some 32, op := Op.load 93 (Operand.tmp 1), type := 93, pos := _, after := #[{ on := 25, ground := Ground.guard }], guard := some (25, true) }) (v := .agg #[.int .i64 q, .int .i64 p, .int .i64 n, .string d]) rfl (by kernel_rfl) (by kernel_rfl) (by kernel_rfl) (fun _ _ _ h => h) (Or.inl ⟨by rfl, fun w hSw => by (try dsimp only at hSw); go_simp⟩) (by assumption) ?_
  simp only [Act.put, List.setIfInBounds_toArray, List.set_cons_zero, List.set_cons_succ]
  refine wpAnyH_ready (rs := [30]) (by kernel_rfl) (by simp) ?_
  refine AllReadyH.cons (o := { dst := some 33, op := Op.call { callee := Callee.value (Operand.func 73), args := #[Operand.tmp 32], argTypes := #[93 ] }, type := 3, pos := _, after := #[{ on := 29, ground := Ground.data }, { on := 25, ground := Ground.chain }, { on := 25, ground := Ground.guard }], guard := some (25, true) }) rfl (fun K hK => ?_) AllReadyH.nil
  go_simp
  refine (hle _).mono ?_
  rintro e w' ⟨rfl, hb⟩
  go_wp2_with fail
  refine hK.out _ _ (keepB hHeld hb) (fun hHeld2 => ?_)
  clear hK K hHeld hHeld' hb
  try simp only [Act.put, List.setIfInBounds_toArray, List.set_cons_zero, List.set_cons_succ]
  refine wpAnyH_take (i := 31) (oi := { dst := some 34, op := Op.binOp BinOp.geq 3 (Operand.tmp 31) (Operand.tmp 33) 3, type := 4, pos := _, after := #[{ on := 28, ground := Ground.data }, { on := 30, ground := Ground.data }, { on := 25, ground := Ground.guard }], guard := some (25, true) }) (v := .bool false) rfl (by kernel_rfl) (by kernel_rfl) (by kernel_rfl) (fun _ _ _ h => h) (Or.inl ⟨by rfl, fun w hSw => by (try dsimp only at hSw); go_simp⟩) (by assumption) ?_
  simp only [Act.put, List.setIfInBounds_toArray, List.set_cons_zero, List.set_cons_succ]
  refine wpAnyH_take (i := 32) (oi := { dst := some 35, op := Op.pick (Operand.tmp 28) (Operand.tmp 34) (Operand.const (Value.bool false)), type := 4, pos := _, after := #[{ on := 25, ground := Ground.data }, { on := 31, ground := Ground.data }], guard := none }) (v := .bool false) rfl (by kernel_rfl) (by kernel_rfl) (by kernel_rfl) (fun _ _ _ h => h) (Or.inl ⟨by rfl, fun w hSw => by (try dsimp only at hSw); go_simp⟩) (by assumption) ?_
  simp only [Act.put, List.setIfInBounds_toArray, List.set_cons_zero, List.set_cons_succ]
  refine wpAnyH_take (i := 33) (oi := { dst := some 36, op := Op.move (Operand.tmp 35), type := 4, pos := _, after := #[{ on := 32, ground := Ground.data }, { on := 30, ground := Ground.chain }], guard := none }) (v := .bool false) rfl (by kernel_rfl) (by kernel_rfl) (by kernel_rfl) (fun _ _ _ h => h) (Or.inl ⟨by rfl, fun w hSw => by (try dsimp only at hSw); go_simp⟩) (by assumption) ?_
  simp only [Act.put, List.setIfInBounds_toArray, List.set_cons_zero, List.set_cons_succ]
  refine wpAnyH_take (i := 34) (oi := { dst := some 37, op := Op.fieldAddr 93 (Operand.tmp 1) 3, type := 0, pos := _, after := #[{ on := 33, ground := Ground.guard }], guard := some (33, true) }) (v := undef) rfl (by kernel_rfl) (by kernel_rfl) (by kernel_rfl) (fun _ _ _ h => h) (Or.inr ⟨by rfl, rfl⟩) (by assumption) ?_
  simp only [Act.put, List.setIfInBounds_toArray, List.set_cons_zero, List.set_cons_succ]
  refine wpAnyH_take (i := 35) (oi := { dst := some 38, op := Op.load 9 (Operand.tmp 37), type := 9, pos := _, after := #[{ on := 34, ground := Ground.data }, { on := 33, ground := Ground.guard }], guard := some (33, true) }) (v := undef) rfl (by kernel_rfl) (by kernel_rfl) (by kernel_rfl) (fun _ _ _ h => h) (Or.inr ⟨by rfl, rfl⟩) (by assumption) ?_
  simp only [Act.put, List.setIfInBounds_toArray, List.set_cons_zero, List.set_cons_succ]
  refine wpAnyH_take (i := 36) (oi := { dst := some 39, op := Op.call { callee := Callee.builtin Builtin.len, args := #[Operand.tmp 38], argTypes := #[9 ] }, type := 3, pos := _, after := #[{ on := 35, ground := Ground.data }, { on := 33, ground := Ground.guard }], guard := some (33, true) }) (v := undef) rfl (by kernel_rfl) (by kernel_rfl) (by kernel_rfl) (fun _ _ _ h => h) (Or.inr ⟨by rfl, rfl⟩) (by assumption) ?_
  simp only [Act.put, List.setIfInBounds_toArray, List.set_cons_zero, List.set_cons_succ]
  refine wpAnyH_take (i := 37) (oi := { dst := some 40, op := Op.binOp BinOp.leq 3 (Operand.tmp 39) (Operand.const (Value.int IntKind.i64 23)) 3, type := 4, pos := _, after := #[{ on := 36, ground := Ground.data }, { on := 33, ground := Ground.guard }], guard := some (33, true) }) (v := undef) rfl (by kernel_rfl) (by kernel_rfl) (by kernel_rfl) (fun _ _ _ h => h) (Or.inr ⟨by rfl, rfl⟩) (by assumption) ?_
  simp only [Act.put, List.setIfInBounds_toArray, List.set_cons_zero, List.set_cons_succ]
  refine wpAnyH_take (i := 38) (oi := { dst := some 41, op := Op.pick (Operand.tmp 36) (Operand.tmp 40) (Operand.const (Value.bool false)), type := 4, pos := _, after := #[{ on := 33, ground := Ground.data }, { on := 37, ground := Ground.data }], guard := none }) (v := .bool false) rfl (by kernel_rfl) (by kernel_rfl) (by kernel_rfl) (fun _ _ _ h => h) (Or.inl ⟨by rfl, fun w hSw => by (try dsimp only at hSw); go_simp⟩) (by assumption) ?_
  simp only [Act.put, List.setIfInBounds_toArray, List.set_cons_zero, List.set_cons_succ]
  refine wpAnyH_take (i := 39) (oi := { dst := some 2, op := Op.assign (Operand.tmp 41), type := 4, pos := _, after := _, guard := none }) (v := .bool false) rfl (by kernel_rfl) (by kernel_rfl) (by kernel_rfl) (fun _ _ _ h => h) (Or.inl ⟨by rfl, fun w hSw => by (try dsimp only at hSw); go_simp⟩) (by assumption) ?_
  simp only [Act.put, List.setIfInBounds_toArray, List.set_cons_zero, List.set_cons_succ]
  refine wpAnyH_done (by kernel_rfl) ?_ _
  go_wp2
  go_ret
  exact ⟨ret_bool (by simp [rt, *]), hHeld2.1⟩
end Go.Proofs.Ytohgflimdoebiaa
