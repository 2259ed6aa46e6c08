/- Contracts of the small functions of package bits. -/
import Derived.Test.YtdkfifnhmfbagaaChecked
import Derived.Test.YtdkfifnhmfbagaaBitMath
namespace Go.Proofs.Ytdkfifnhmfbagaa.Bt
open Go.RowKit
set_option linter.unusedVariables false

theorem ret_int {k : IntKind} {a b : Int} (h : a = b) : Ending.returned (.int k a) = .returned (.int k b) := by rw [h]
theorem ret_bool {a b : Bool} (h : a = b) : Ending.returned (.bool a) = .returned (.bool b) := by rw [h]
def Gw (n : Int) : Prop := 1 ≤ n ∧ n ≤ 64
def gw (n : Int) : Bool := decide (1 ≤ n) && decide (n ≤ 64)
theorem gw_yes {n : Int} (h : Gw n) : gw n = true := by simp [gw, h.1, h.2]
theorem gw_no {n : Int} (h : ¬ Gw n) : gw n = false := by
  rw [Bool.eq_false_iff]
  intro hh
  simp [gw] at hh
  exact h hh
theorem goodWidth_any (n : Int) (w : World) : Calls Try.prog 85 #[.int .i64 n] w fun e w' => e = .returned (.bool (gw n)) ∧ w' = w := by
  by_cases h1 : 1 ≤ n
  · by_cases h2 : n ≤ 64
    · go_enter Try.func85, Try.ntmps85
      go_wp2
      go_ret
      exact ⟨ret_bool (by simp [gw, h1, h2]), rfl⟩
    · go_enter Try.func85, Try.ntmps85
      go_wp2
      go_ret
      exact ⟨ret_bool (by simp [gw, h1, h2]), rfl⟩
  · go_enter Try.func85, Try.ntmps85
    go_wp2
    go_ret
    exact ⟨ret_bool (by simp [gw]; omega), rfl⟩
theorem lowest_any (n : Nat) (hn : n ≤ 8) (w : World) : Calls Try.prog 69 #[.int .i64 (n : Int)] w fun e w' => e = .returned (.int .u64 ((2 ^ n - 1 : Nat) : Int)) ∧ w' = w := by
  have h : n = 0 ∨ n = 1 ∨ n = 2 ∨ n = 3 ∨ n = 4 ∨ n = 5 ∨ n = 6 ∨ n = 7 ∨ n = 8 := by omega
  rcases h with rfl | rfl | rfl | rfl | rfl | rfl | rfl | rfl | rfl <;>
  · go_enter Try.func69, Try.ntmps69
    go_wp2
    go_ret
    exact ⟨rfl, rfl⟩
theorem place_any (g c : Nat) (w : World) (hb : c < 4611686018427387904) (hc : w.cell? ⟨g, 0, none⟩ = some (.int .i64 (c : Int))) : Calls Try.prog 67 #[.pointer (some ⟨g, 0, none⟩)] w fun e w' => e = .returned (.int .i64 ((c / 8 : Nat) : Int)) ∧ w' = w := by
  go_enter Try.func67, Try.ntmps67
  go_wp2
  go_ret
  exact ⟨ret_int (by omega), rfl⟩
theorem room_any (g c : Nat) (w : World) (hb : c < 4611686018427387904) (hc : w.cell? ⟨g, 0, none⟩ = some (.int .i64 (c : Int))) : Calls Try.prog 68 #[.pointer (some ⟨g, 0, none⟩)] w fun e w' => e = .returned (.int .i64 ((8 - c % 8 : Nat) : Int)) ∧ w' = w := by
  go_enter Try.func68, Try.ntmps68
  go_wp2
  go_ret
  exact ⟨ret_int (by omega), rfl⟩
theorem add_any (g c n : Nat) (w : World) (hs : c + n < 4611686018427387904) (hc : w.cell? ⟨g, 0, none⟩ = some (.int .i64 (c : Int))) (hf : w.frozen? ⟨g, 0, none⟩ = false) : Calls Try.prog 70 #[.pointer (some ⟨g, 0, none⟩), .int .i64 (n : Int)] w fun e w' => e = .returned (.tuple #[]) ∧ w' = w.setCell ⟨g, 0, none⟩ (.int .i64 ((c + n : Nat) : Int)) := by
  go_enter Try.func70, Try.ntmps70
  go_wp2
  go_end0
  exact ⟨rfl, by simp⟩
theorem div_zero_iff (v k : Nat) : ((v : Int) / 2 ^ k == 0) = decide (v < 2 ^ k) := by
  have e : (v : Int) / 2 ^ k = ((v / 2 ^ k : Nat) : Int) := by simp
  rw [e]
  have h := Nat.two_pow_pos k
  by_cases hv : v < 2 ^ k
  · simp [hv, Nat.div_eq_of_lt hv]
  · have : 0 < v / 2 ^ k := Nat.div_pos (by omega) h
    simp [hv]; omega
theorem right_any (v : Nat) (n : Int) (w : World) (hv : v < 18446744073709551616) : Calls Try.prog 66 #[.int .u64 (v : Int), .int .i64 n] w fun e w' => e = .returned (.bool (gw n && decide (v < 2 ^ n.toNat))) ∧ w' = w := by
  by_cases h : Gw n
  · obtain ⟨h1, h2⟩ := id h
    have hg := gw_yes h
    go_enter Try.func66, Try.ntmps66
    go_wp2_with (go_at_call 85; refine (goodWidth_any _ _).mono ?_; rintro e w' ⟨rfl, rfl⟩)
    go_ret
    exact ⟨ret_bool (by rw [hg, div_zero_iff]; rfl), rfl⟩
  · have hg := gw_no h
    go_enter Try.func66, Try.ntmps66
    go_wp2_with (go_at_call 85; refine (goodWidth_any _ _).mono ?_; rintro e w' ⟨rfl, rfl⟩)
    go_ret
    exact ⟨ret_bool (by simp [hg]), rfl⟩
theorem new_any (w : World) : Calls Try.prog 12 #[] w fun e w' => e = .returned (.pointer (some ⟨w.heap.size, 0, none⟩)) ∧ w' = w.alloc (.cells #[.int .i64 0, .slice none 0 0] 73) := by
  go_enter Try.func12, Try.ntmps12
  go_wp2
  go_ret
  exact ⟨rfl, rfl⟩
theorem read_any (s : ByteArray) (w : World) : Calls Try.prog 25 #[.string s] w fun e w' => e = .returned (.pointer (some ⟨w.heap.size, 0, none⟩)) ∧ w' = w.alloc (.cells #[.int .i64 0, .string s] 96) := by
  go_enter Try.func25, Try.ntmps25
  go_wp2
  go_ret
  exact ⟨rfl, rfl⟩
end Go.Proofs.Ytdkfifnhmfbagaa.Bt
