/- Contracts: Parts, goodSeq, least, right; the document's Parts and Right. -/
import Derived.Test.YtohgflimdoebiaaChecked
import Derived.WalkKit
import Derived.ProofKit
import Derived.Below
import Derived.WalkSpells
import Derived.LoopTactic
import Derived.Maps.AppendAt
import Derived.Laws.OwnMore
import Derived.Deep.AppendLies
import Derived.Deep.RegionHeld3
import Derived.Deep.RegionWith
namespace Go.Proofs.Ytohgflimdoebiaa
open Go.RowKit Go.Maps
set_option linter.unusedVariables false
set_option linter.unusedSimpArgs false

theorem ret_int {k : IntKind} {a b : Int} (h : a = b) : Ending.returned (.int k a) = .returned (.int k b) := by rw [h]
theorem ret_bool {a b : Bool} (h : a = b) : Ending.returned (.bool a) = .returned (.bool b) := by rw [h]
theorem ret_str {a b : ByteArray} (h : a = b) : Ending.returned (.string a) = .returned (.string b) := by rw [h]
theorem below1 (w : World) (o : Obj) : Below w.heap.size w (w.alloc o) := (Below.refl _ w).alloc (Nat.le_refl _) o
theorem Below.more {w w' : World} (h : Below w.heap.size w w') (o : Obj) : Below w.heap.size w (w'.alloc o) := h.alloc h.size o
theorem Below.then {w0 w w' : World} (h : Below w0.heap.size w0 w) (hb : Below w.heap.size w w') : Below w0.heap.size w0 w' := h.trans (hb.mono h.size)
theorem cell_later {w w' : World} {a : Addr} {v : Value} (hb : Below w.heap.size w w') (hc : w.cell? a = some v) : w'.cell? a = some v :=
  (World.cell?_of_block (hb.block a.block (World.block_lt_of_cell? w a hc))).trans hc
theorem keepB {w w1 w2 : World} {g : Nat} {a b c d : Value} (h : Below w.heap.size w w1 ∧ w1.cell? ⟨g, 0, none⟩ = some a ∧ w1.cell? ⟨g, 1, none⟩ = some b ∧ w1.cell? ⟨g, 2, none⟩ = some c ∧ w1.cell? ⟨g, 3, none⟩ = some d) (hb : Below w1.heap.size w1 w2) : Below w.heap.size w w2 ∧ w2.cell? ⟨g, 0, none⟩ = some a ∧ w2.cell? ⟨g, 1, none⟩ = some b ∧ w2.cell? ⟨g, 2, none⟩ = some c ∧ w2.cell? ⟨g, 3, none⟩ = some d :=
  ⟨Below.then h.1 hb, cell_later hb h.2.1, cell_later hb h.2.2.1, cell_later hb h.2.2.2.1, cell_later hb h.2.2.2.2⟩

def gs (q : Int) : Bool := decide (1 ≤ q) && decide (q ≤ 65535)
def lea (p n : Int) : Int := if p < n - 1 then 23 else if 1 < n then 1 else 0
def pt (n : Int) : Int := if n < 0 ∨ 5865 < n then 0 else if n = 0 then 1 else (n + 22) / 23
def rt (q p n z : Int) : Bool := gs q && (decide (1 ≤ n) && (decide (n ≤ 255) && (decide (0 ≤ p) && (decide (p < n) && (decide (lea p n ≤ z) && decide (z ≤ 23))))))
theorem goodSeq_any (q : Int) (w : World) : Calls Try.prog 52 #[.int .i64 q] w fun e w' => e = .returned (.bool (gs q)) ∧ w' = w := by
  by_cases h1 : 1 ≤ q
  · by_cases h2 : q ≤ 65535
    · go_enter Try.func52, Try.ntmps52
      go_wp2
      go_ret
      exact ⟨ret_bool (by simp [gs, h1, h2]), rfl⟩
    · go_enter Try.func52, Try.ntmps52
      go_wp2
      go_ret
      exact ⟨ret_bool (by simp [gs, h1, h2]), rfl⟩
  · go_enter Try.func52, Try.ntmps52
    go_wp2
    go_ret
    exact ⟨ret_bool (by simp [gs]; omega), rfl⟩
theorem parts_any (n : Int) (h1 : -9223372036854775808 ≤ n) (h2 : n ≤ 9223372036854775807) (w : World) : Calls Try.prog 42 #[.int .i64 n] w fun e w' => e = .returned (.int .i64 (pt n)) ∧ w' = w := by
  by_cases h0 : n < 0
  · go_enter Try.func42, Try.ntmps42
    go_wp2
    go_ret
    exact ⟨ret_int (by simp [pt, h0]), rfl⟩
  · by_cases h5 : 5865 < n
    · go_enter Try.func42, Try.ntmps42
      go_wp2
      go_ret
      exact ⟨ret_int (by simp [pt, h0, h5]), rfl⟩
    · by_cases hz : n = 0
      · subst hz
        go_enter Try.func42, Try.ntmps42
        go_wp2
        go_ret
        exact ⟨ret_int (by simp [pt]), rfl⟩
      · have hz' : (n == 0) = false := by simp [hz]
        go_enter Try.func42, Try.ntmps42
        go_wp2
        go_ret
        exact ⟨ret_int (by simp [pt, h0, h5, hz]; omega), rfl⟩
set_option maxRecDepth 100000 in
theorem rParts_any (n : Int) (w : World) : Calls Try.prog 27 #[.int .i64 n] w fun e w' => e = .returned (.int .i64 (pt n)) ∧ w' = w := by
  by_cases h0 : n < 0
  · go_enter Try.func27, Try.ntmps27
    go_wp2
    go_ret
    exact ⟨ret_int (by simp [pt, h0]), rfl⟩
  · by_cases h5 : 5865 < n
    · go_enter Try.func27, Try.ntmps27
      go_wp2
      go_ret
      exact ⟨ret_int (by simp [pt, h0, h5]), rfl⟩
    · go_enter Try.func27, Try.ntmps27
      go_wp2
      go_loop [0, 3] (fun x k => ∃ j m : Nat, x = .int .i64 (m : Int) ∧ k = .int .i64 ((j : Int) + 1) ∧ (m : Int) + 23 * (j : Int) = n ∧ (j = 0 ∨ 1 ≤ m)) (fun x _ => (intOf x).toNat)
      case atStart => exact ⟨0, n.toNat, by congr 1; omega, rfl, by omega, .inl rfl⟩
      case round =>
        obtain ⟨j, m, rfl, rfl, hm, hj⟩ := hrel
        by_cases h23 : (23 : Int) < (m : Int)
        · go_wp2
          go_round
          case rel => exact ⟨j + 1, m - 23, by congr 1; omega, by go_num, by omega, .inr (by omega)⟩
          case measure => simp [intOf]; omega
        · have h23' : decide ((23 : Int) < (m : Int)) = false := by simp; omega
          go_wp2
          go_ret
          refine ⟨ret_int ?_, rfl⟩
          simp only [pt, h0, h5, or_self, if_false]
          split <;> omega
theorem least_any (q p n : Int) (d : ByteArray) (h1 : -9223372036854775808 < n) (h2 : n ≤ 9223372036854775807) (w : World) : Calls Try.prog 73 #[.agg #[.int .i64 q, .int .i64 p, .int .i64 n, .string d]] w fun e w' => e = .returned (.int .i64 (lea p n)) ∧ Below w.heap.size w w' := by
  by_cases ha : p < n - 1
  · go_enter Try.func73, Try.ntmps73
    go_wp2
    go_ret
    exact ⟨ret_int (by simp [lea, ha]), below1 _ _⟩
  · have ha' : decide (p < n - 1) = false := by simp; omega
    by_cases hb : 1 < n
    · go_enter Try.func73, Try.ntmps73
      go_wp2
      go_ret
      exact ⟨ret_int (by simp [lea, ha, hb]), below1 _ _⟩
    · have hb' : decide (1 < n) = false := by simp; omega
      go_enter Try.func73, Try.ntmps73
      go_wp2
      go_ret
      exact ⟨ret_int (by unfold lea; rw [if_neg (by omega), if_neg (by omega)]), below1 _ _⟩
end Go.Proofs.Ytohgflimdoebiaa
