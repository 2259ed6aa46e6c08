/- Contracts: the least slot (least, Lowest, Next). -/
import Derived.Test.YtieagbjempndnabDoorStC
namespace Go.Proofs.YtieagbjempndnabDoor
open Go.RowKit Go.Maps Go.Shelf
attribute [local go_sem] Oper.semAt_some
set_option linter.unusedVariables false
set_option linter.unusedSimpArgs false

theorem below_putObj {n0 : Nat} {w : World} (hn : n0 ≤ w.heap.size) : ∀ (W : World) (l : Nat) (o o' : Obj), w.heap.size ≤ l → W.heap[l]? = some o → o.isCells = false → o.isWalk = false → Below n0 W (W.putObj l o') := belowK_b hn
theorem pure_own {β : Type} {B : Nat} (p : β → Prop) : OwnFrom B (fun (s : β) (_ : World) => p s) := fun s W W' row hs _ _ => hs
/- The end: the deferred calls that were gathered are none; the result lies in its cell. -/
theorem cell_put {W : World} {B D : Nat} {t : TypeId} {v : Value} {o o' : Obj} (h : Boxed W B t v) (hD : W.heap[D]? = some o) (hne : B ≠ D) : Boxed (W.putObj D o') B t v := by
  show (W.putObj D o').heap[B]? = _
  rw [World.putObj_heap_other hne]
  exact h
theorem results_int_cell {fn : Func} (hf : fn.results = #[.cell 2 3 ]) (tmps : Array Value) (W : World) (B : Nat) (z : Int) (hp : tmps[2]? = some (.pointer (some ⟨B, 0, none⟩))) (hb : Boxed W B 3 (.int .i64 z)) :
    (results fn tmps).run Tryd.prog W = .ok (.int .i64 z) W := by
  have hc := hb.cell
  simp [results, hf, hp, asAddr, go_sem, hc]
theorem xor_all {s : Nat} (hs : s < 18446744073709551616) : 18446744073709551615 ^^^ s = nt s := by
  have h64 : (18446744073709551615 : Nat) ^^^ s < 18446744073709551616 := Nat.xor_lt_two_pow (n := 64) (by decide) hs
  apply eq_of_bits h64 (nt_lt s)
  intro i hi
  rw [nt_bit hs hi, Nat.testBit_xor, show (18446744073709551615 : Nat) = 2 ^ 64 - 1 by decide, Nat.testBit_two_pow_sub_one]
  simp [hi]
theorem not_u64 (s : Nat) (h : s < 18446744073709551616) : bits BinOp.xor IntKind.u64 IntKind.u64.max (s : Int) = ((nt s : Nat) : Int) := by
  rw [show IntKind.u64.max = ((18446744073709551615 : Nat) : Int) by decide, u64_xor_nat _ _ (by decide) h, xor_all h]
/- From a number on. -/
def fm (n : Int) : Nat := (max n 0).toNat
def nx (s : Nat) (n : Int) : Int := hd (bf s (fm n) (64 - fm n))
theorem fr_int {s : Nat} (hs : s < 18446744073709551616) {k : Nat} : IntKind.u64.wrap ((s : Int) / 2 ^ min k 64 * 2 ^ min k 64) = ((fr s k : Nat) : Int) := by
  have h1 : fr s (min k 64) = fr s k := by
    by_cases h : k ≤ 64
    · rw [Nat.min_eq_left h]
    · rw [Nat.min_eq_right (by omega), fr_high hs (Nat.le_refl _), fr_high hs (by omega)]
  have h2 : (s : Int) / 2 ^ min k 64 * 2 ^ min k 64 = ((fr s (min k 64) : Nat) : Int) := by unfold fr; simp
  have h3 := fr_lt (b := k) hs
  rw [h2, h1, u64_fit _ (by omega) (by omega)]
end Go.Proofs.YtieagbjempndnabDoor
