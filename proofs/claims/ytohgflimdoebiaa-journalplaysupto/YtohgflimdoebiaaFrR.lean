/- Contract: the document's Right. -/
import Derived.Test.YtohgflimdoebiaaFrA
namespace Go.Proofs.Ytohgflimdoebiaa
open Go.RowKit Go.Maps
set_option linter.unusedVariables false
set_option linter.unusedSimpArgs false

theorem rt_iff (q p n z : Int) : rt q p n z = true ↔ 1 ≤ q ∧ q ≤ 65535 ∧ 1 ≤ n ∧ n ≤ 255 ∧ 0 ≤ p ∧ p < n ∧ lea p n ≤ z ∧ z ≤ 23 := by
  simp [rt, gs]; omega
theorem rt_yes {q p n z : Int} (h : 1 ≤ q ∧ q ≤ 65535 ∧ 1 ≤ n ∧ n ≤ 255 ∧ 0 ≤ p ∧ p < n ∧ lea p n ≤ z ∧ z ≤ 23) : true = rt q p n z := ((rt_iff q p n z).2 h).symm
theorem rt_no {q p n z : Int} (h : ¬ (1 ≤ q ∧ q ≤ 65535 ∧ 1 ≤ n ∧ n ≤ 255 ∧ 0 ≤ p ∧ p < n ∧ lea p n ≤ z ∧ z ≤ 23)) : false = rt q p n z := by
  cases e : rt q p n z with
  | false => rfl
  | true => exact absurd ((rt_iff q p n z).1 e) h
set_option maxHeartbeats 4000000 in
set_option maxRecDepth 100000 in
theorem rRight_any (q p n : Int) (d : ByteArray) (w : World) : Calls Try.prog 58 #[.agg #[.int .i64 q, .int .i64 p, .int .i64 n, .string d]] w fun e w' => e = .returned (.bool (rt q p n d.size)) ∧ Below w.heap.size w w' := by
  obtain ⟨z, hz⟩ : ∃ z, d.size = z := ⟨_, rfl⟩
  rw [hz]
  by_cases a0 : q < 1
  ·
    go_enter Try.func58, Try.ntmps58
    go_wp2
    go_ret
    exact ⟨ret_bool (rt_no (by omega)), below1 _ _⟩
  by_cases a1 : 65535 < q
  ·
    go_enter Try.func58, Try.ntmps58
    go_wp2
    go_ret
    exact ⟨ret_bool (rt_no (by omega)), below1 _ _⟩
  by_cases a2 : n < 1
  ·
    go_enter Try.func58, Try.ntmps58
    go_wp2
    go_ret
    exact ⟨ret_bool (rt_no (by omega)), below1 _ _⟩
  by_cases a3 : 255 < n
  ·
    go_enter Try.func58, Try.ntmps58
    go_wp2
    go_ret
    exact ⟨ret_bool (rt_no (by omega)), below1 _ _⟩
  by_cases a4 : p < 0
  ·
    go_enter Try.func58, Try.ntmps58
    go_wp2
    go_ret
    exact ⟨ret_bool (rt_no (by omega)), below1 _ _⟩
  by_cases a5 : n ≤ p
  ·
    go_enter Try.func58, Try.ntmps58
    go_wp2
    go_ret
    exact ⟨ret_bool (rt_no (by omega)), below1 _ _⟩
  by_cases a6 : 23 < (z : Int)
  ·
    go_enter Try.func58, Try.ntmps58
    go_wp2
    go_ret
    exact ⟨ret_bool (rt_no (by omega)), below1 _ _⟩
  by_cases a7 : p < n - 1
  · cases a8 : ((z : Int) == 23) with
    | true =>
      have a9 : (z : Int) = 23 := by simpa using a8
      have A9 : Hid ((z : Int) = 23) := a9
      clear a9
      go_enter Try.func58, Try.ntmps58
      go_wp2
      go_ret
      have a9 := A9.out
      exact ⟨ret_bool (rt_yes (by unfold lea; split <;> (try split) <;> omega)), below1 _ _⟩
    | false =>
      have a9 : (z : Int) ≠ 23 := by simpa using a8
      have A9 : Hid ((z : Int) ≠ 23) := a9
      clear a9
      go_enter Try.func58, Try.ntmps58
      go_wp2
      go_ret
      have a9 := A9.out
      exact ⟨ret_bool (rt_no (by unfold lea; split <;> (try split) <;> omega)), below1 _ _⟩
  have a7' : decide (p < n - 1) = false := by simp; omega
  by_cases a8 : 0 < (z : Int)
  ·
    go_enter Try.func58, Try.ntmps58
    go_wp2
    go_ret
    exact ⟨ret_bool (rt_yes (by unfold lea; split <;> (try split) <;> omega)), below1 _ _⟩
  have a8' : decide (0 < (z : Int)) = false := by simp; omega
  by_cases a9 : n = 1
  · subst a9
    go_enter Try.func58, Try.ntmps58
    go_wp2
    go_ret
    exact ⟨ret_bool (rt_yes (by unfold lea; split <;> (try split) <;> omega)), below1 _ _⟩
  have a9' : (n == 1) = false := by simp [a9]
  go_enter Try.func58, Try.ntmps58
  go_wp2
  go_ret
  exact ⟨ret_bool (rt_no (by unfold lea; split <;> (try split) <;> omega)), below1 _ _⟩
end Go.Proofs.Ytohgflimdoebiaa
