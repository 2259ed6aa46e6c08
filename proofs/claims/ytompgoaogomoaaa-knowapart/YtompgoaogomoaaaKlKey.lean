/- Keys as keys of a map, and as its elements. -/
import Derived.Test.YtompgoaogomoaaaKlMap
import Derived.Test.YtompgoaogomoaaaChecked
import Derived.Maps.RangeWalk
import Derived.DeepKeys4
namespace Go.Proofs.Ytompgoaogomoaaa.Rt
open Go.Maps Go.RowKit
set_option maxRecDepth 20000

theorem laidOut0 : laidOutB Try.prog = true := by kernel_rfl
theorem keyRow : 33 < Try.prog.types.size := of_decide_eq_true (by kernel_rfl)
theorem keyLaw : Keyed Try.prog 33 := Keyed.of_law (deep_law_laid laidOut0 (m := 2) (by omega) keyRow (by kernel_rfl) (by kernel_rfl))
theorem keyCells : Try.prog.cellsOf 33 = 2 := by kernel_rfl
theorem intCells : Try.prog.cellsOf 3 = 1 := by kernel_rfl
theorem keyType0 : Try.prog.keyType 33 = true := by kernel_rfl
theorem types2 : ∃ d, Try.prog.types.size + 1 = d + 2 := ⟨Try.prog.types.size - 1, by have := keyRow; omega⟩
def mkKey (k : Int × Int) : Value := .agg #[.int .i64 k.1, .int .i64 k.2]
def elKey (b s : Int) : DataW Unit := .agg [.lit (.int .i64 b), .lit (.int .i64 s)]
def keyElem (v : Value) : Option (DataW Unit × List MemPlace) :=
  match v with
  | .agg cs => (match cs.toList with | [.int .i64 a, .int .i64 b] => some (elKey a b, []) | _ => none)
  | _ => none
theorem keyElem_mk (b s : Int) : keyElem (.agg #[.int .i64 b, .int .i64 s]) = some (elKey b s, []) := rfl
theorem keyElem_inv {v : Value} {y : DataW Unit × List MemPlace} (h : keyElem v = some y) : ∃ k : Int × Int, v = mkKey k ∧ y = (elKey k.1 k.2, []) := by
  unfold keyElem at h
  split at h
  · rename_i cs
    split at h
    · rename_i a b e
      simp only [Option.some.injEq] at h
      refine ⟨(a, b), ?_, h.symm⟩
      obtain ⟨l⟩ := cs
      simp at e
      rw [e]; rfl
    · cases h
  · cases h
theorem elKey_inj {b s c t : Int} (h : elKey b s = elKey c t) : b = c ∧ s = t := by
  simp [elKey] at h; exact h
theorem lits1 (d : Nat) (n : Int) (hw : (Lit.int .i64 n).wf = true) : Try.prog.keyLits (d + 1) 3 [.int .i64 n] = some [.int .i64 n] := by
  unfold Program.keyLits
  rw [Try.underlying3 ]
  simp [hw]
theorem lits_inv {d : Nat} {c : Value} {l : List Lit} (h : Try.prog.keyLits (d + 1) 3 [c] = some l) : ∃ n, c = .int .i64 n := by
  unfold Program.keyLits at h
  rw [Try.underlying3 ] at h
  cases c <;> simp at h
  obtain ⟨⟨rfl, _⟩, _⟩ := h
  exact ⟨_, rfl⟩
theorem keyOf_mk (b s : Int) (hb : (Lit.int .i64 b).wf = true) (hs : (Lit.int .i64 s).wf = true) : keyOf Try.prog 33 (.agg #[.int .i64 b, .int .i64 s]) = some (.string (keyBytes [.int .i64 b, .int .i64 s])) := by
  obtain ⟨d, hd⟩ := types2
  have hf : (Value.agg #[.int .i64 b, .int .i64 s]).formed Try.prog 33 = true := by simp [Value.formed, Try.underlying33, keyCells]
  unfold keyOf
  rw [Try.underlying33 ]
  simp only [keyType0, hf, Bool.and_self, if_true, hd]
  unfold Program.keyLits
  rw [Try.underlying33 ]
  simp [Value.cells, keyCells, intCells, lits1, hb, hs]
theorem keyOf_inv {v : Value} {kl : Lit} (h : keyOf Try.prog 33 v = some kl) : ∃ k : Int × Int, v = mkKey k := by
  obtain ⟨d, hd⟩ := types2
  unfold keyOf at h
  rw [Try.underlying33 ] at h
  simp only [keyType0, hd] at h
  cases v with
  | agg cs =>
    by_cases hc : cs.size = 2
    · obtain ⟨c0, c1, rfl⟩ : ∃ c0 c1, cs = #[c0, c1] := by
        obtain ⟨l⟩ := cs
        match l, hc with
        | [x, y], _ => exact ⟨x, y, rfl⟩
      unfold Program.keyLits at h
      rw [Try.underlying33 ] at h
      simp [Value.cells, keyCells, intCells, Value.formed, Try.underlying33 ] at h
      cases h0 : Try.prog.keyLits (d + 1) 3 [c0] with
      | none => rw [h0] at h; cases h
      | some l0 =>
        cases h1 : Try.prog.keyLits (d + 1) 3 [c1] with
        | none => rw [h0, h1] at h; cases h
        | some l1 =>
          obtain ⟨n0, rfl⟩ := lits_inv h0
          obtain ⟨n1, rfl⟩ := lits_inv h1
          exact ⟨(n0, n1), rfl⟩
    · simp [Value.formed, Try.underlying33, keyCells, hc] at h
  | _ => simp [Value.formed, Try.underlying33 ] at h

def kk (b : Int) : Lit := .string (keyBytes [.int .i64 b, .int .i64 0])
theorem wf_of {b : Int} (h1 : -9223372036854775808 ≤ b) (h2 : b ≤ 9223372036854775807) : (Lit.int .i64 b).wf = true := WalkArith.wf_i64 (by omega)
theorem keyOf_kk (b : Int) (h1 : 1 ≤ b) (h2 : b ≤ 65535) : keyOf Try.prog 33 (.agg #[.int .i64 b, .int .i64 0]) = some (kk b) := keyOf_mk b 0 (wf_of (by omega) (by omega)) (wf_of (by omega) (by omega))
theorem kk_inj : Inj kk := fun b c b1 b2 c1 c2 h => by
  have := keyLaw.inj (keyOf_kk b b1 b2) (by rw [h]; exact keyOf_kk c c1 c2)
  simp at this; exact this
theorem zeroKey (w : World) : (zeroValue 33).run Try.prog w = .ok (.agg #[.int .i64 0, .int .i64 0]) w := by kernel_rfl
section
variable (w : World) {ops : Array Oper} {rest : List Oper} {o : Oper} {a : Act} {Q : Exit → Act → World → Prop}
theorem wpList_lookup_key (hg : o.guard = none) (m x : Operand) (t : TypeId) (hop : o.op = Op.lookup t m x true)
    (ht : Try.prog.underlying t = some (.map 33 33)) (b n : Nat) (D : DataW Unit)
    (hm : a.eval m = .map (some b)) (hown : w.ownsMap Try.prog 33 keyElem b n D) (key : Value) (kl : Lit) (hx : a.eval x = key) (hkey : keyOf Try.prog 33 key = some kl)
    (hK : ∀ p q : Int, D.atKey kl (elKey 0 0) = elKey p q → wpList Try.prog ops Q rest (a.put o.dst (.tuple #[.agg #[.int .i64 p, .int .i64 q], .bool (Maps.has D kl)])) w) :
    wpList Try.prog ops Q (o :: rest) a w :=
  wpList_lookup_own_ok w hg m x t hop 33 33 keyLaw ht keyElem (zeroKey w) (elKey 0 0) [] rfl b n D hm hown key kl hx hkey (fun v ps hv => by
    obtain ⟨c, rfl, hc⟩ := keyElem_inv hv
    exact hK c.1 c.2 (congrArg Prod.fst hc))
end
end Go.Proofs.Ytompgoaogomoaaa.Rt
