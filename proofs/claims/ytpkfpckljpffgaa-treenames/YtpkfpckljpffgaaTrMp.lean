/- Maps of marks (names that have been seen): a map from integers to integers that holds 1 at just those of a list; no two nodes of a right tree have keys of one name, on plain data. -/
import Derived.Test.YtpkfpckljpffgaaTrL
import Derived.Maps.Own
import Derived.Maps.OwnOps
import Derived.Maps.StringElems
namespace Go.Proofs.Ytpkfpckljpffgaa
open Go.RowKit Go.Maps
open Rt (Ky zK KyAt)
open Rs (En tkn)
set_option linter.unusedVariables false
set_option linter.unusedSimpArgs false

theorem intK : Keyed Try.prog 3 := int_keyed Try.underlying3
def mrk (l : List Int) (x : Int) : Int := if x ∈ l then 1 else 0
def Mi (w : World) (b n : Nat) (l : List Int) : Prop := ∃ D : DataW Unit, w.ownsMap Try.prog 3 (plainElem Try.prog 3) b n D ∧ ∀ x : Int, D.atKey (.int .i64 x) (.lit (.int .i64 0)) = .lit (.int .i64 (mrk l x))
theorem Mi.lt {w : World} {b n : Nat} {l : List Int} (h : Mi w b n l) : b < w.heap.size := by
  obtain ⟨D, h1, _⟩ := h
  exact World.ownsMap.lt h1
theorem Mi.isMap {w : World} {b n : Nat} {l : List Int} (h : Mi w b n l) : ∃ es cl, w.heap[b]? = some (.map es cl) := by
  obtain ⟨D, ⟨es, cl, h1, _⟩, _⟩ := h
  exact ⟨es, cl, h1⟩
theorem Mi.later {w w' : World} {b n : Nat} {l : List Int} (h : Mi w b n l) (hb : Below w.heap.size w w') : Mi w' b n l := by
  have hlt := h.lt
  obtain ⟨D, ⟨es, cl, hh, r⟩, h2⟩ := h
  exact ⟨D, ⟨es, cl, (hb.block b hlt).trans hh, r⟩, h2⟩
theorem Mi.new (w : World) : Mi (w.alloc (.map #[] 0)) w.heap.size 0 [] := ⟨_, World.ownsMap_made w Try.prog 3 _, fun x => rfl⟩
theorem zeroI (w : World) : (zeroValue 3).run Try.prog w = .ok (.int .i64 0) w := by kernel_rfl
theorem Mi.look {w : World} {b n : Nat} {l : List Int} (h : Mi w b n l) {x : Int} (hx : (Lit.int .i64 x).wf = true) : (Instr.lookup 59 (.map (some b)) (.int .i64 x) false).run Try.prog w = .ok (.int .i64 (mrk l x)) w := by
  obtain ⟨D, h1, h2⟩ := h
  obtain ⟨c, hrun, hat, _⟩ := h1.lookup_int intK Try.underlying59 Try.underlying3 (zeroI w) (keyOf_int_mk Try.underlying3 hx)
  rw [h2 x] at hat
  have e : mrk l x = c := by simpa using hat
  rw [e]
  exact hrun
theorem Mi.exec {w : World} {b n : Nat} {l : List Int} (h : Mi w b n l) {z c : Int} (hz : (Lit.int .i64 z).wf = true) (hc : mrk l z = c) {a : Act} {o : Oper} {m x : Operand} (ho : o.op = .lookup 59 m x false) (hm : a.eval m = .map (some b)) (hx : a.eval x = .int .i64 z) : (execOp a.eval o).run Try.prog w = .ok (.value (.int .i64 c)) w := by
  have := h.look hz
  rw [hc] at this
  simp [execOp, ho, hm, hx, this, Sem.run_bind, Result.andThen]
theorem Mi.upd {ops : Array Oper} {rest : List Oper} {o : Oper} {a : Act} {w : World} {Q : Exit → Act → World → Prop} {b n : Nat} {l : List Int} (h : Mi w b n l) (hn : n < 4611686018427387904) {z : Int} (hz : (Lit.int .i64 z).wf = true) (hgd : o.guard = none) (m x y : Operand) (ho : o.op = .mapUpdate 59 m x y)
    (hm : a.eval m = .map (some b)) (hx : a.eval x = .int .i64 z) (hy : a.eval y = .int .i64 1) (k : ∀ w', Mi w' b (n + 1) (l ++ [z]) → w.grownBy w' (some b) → wpList Try.prog ops Q rest (a.put o.dst undef) w') : wpList Try.prog ops Q (o :: rest) a w := by
  obtain ⟨D, h1, h2⟩ := h
  have hkey := keyOf_int_mk Try.underlying3 hz
  refine wpList_mapUpdate_own w hgd m x y 59 ho 3 3 intK Try.underlying59 _ b n D hm h1 (by unfold maxLen; omega) _ _ _ hx hy hkey _ [] (plainElem_int (H := Unit) Try.underlying3 (by decide)) ?_
  intro w1 hown hg
  refine k w1 ⟨_, hown, fun q => ?_⟩ hg
  have hD := World.ownsMap.isMap h1
  by_cases e : q = z
  · subst e
    rw [Maps.atKey_put_same hD (by trivial)]
    simp [mrk]
  · rw [Maps.atKey_put_other (by intro h; simp at h; exact e h), h2 q]
    have : mrk (l ++ [z]) q = mrk l q := by simp [mrk, e]
    rw [this]
theorem block_not_map {w : World} {b n : Nat} {l : List Int} (h : Mi w b n l) {B : Nat} {cs : Array Value} {t : TypeId} {fr : Nat × Nat} (hB : w.heap[B]? = some (.cells cs t fr)) : B ≠ b := by
  obtain ⟨es, cl, hm⟩ := h.isMap
  intro e
  subst e
  rw [hm] at hB
  cases hB
/- What stands while the names are counted. -/
structure SN (w W : World) (B b n : Nat) (t : Tr) (l : List Int) : Prop where
  tr : TrAt W B t
  mi : Mi W b n l
  bel : Below w.heap.size w W
  ge : w.heap.size ≤ b
theorem SN.later {w W W' : World} {B b n : Nat} {t : Tr} {l : List Int} (h : SN w W B b n t l) (hb : Below W.heap.size W W') : SN w W' B b n t l := ⟨h.tr.later hb, h.mi.later hb, h.bel.trans (hb.mono h.bel.size), h.ge⟩
theorem grown_row {W W' : World} {b n : Nat} {l : List Int} (hm : Mi W b n l) (hg : W.grownBy W' (some b)) {B : Nat} {cs : Array Value} {T : TypeId} {fz : Nat × Nat} (h : W.heap[B]? = some (.cells cs T fz)) : W'.heap[B]? = some (.cells cs T fz) :=
  (hg.block B (Array.getElem?_eq_some_iff.1 h).1 (fun e => block_not_map hm h (Option.some.inj e))).trans h
theorem SN.mark {w W W' : World} {B b n : Nat} {t : Tr} {l l' : List Int} (h : SN w W B b n t l) (hm : Mi W' b (n + 1) l') (hg : W.grownBy W' (some b)) : SN w W' B b (n + 1) t l' :=
  ⟨grown_row h.mi hg h.tr, hm, h.bel.trans ⟨hg.os, hg.tape, hg.output, hg.size, fun k hk => hg.block k (Nat.lt_of_lt_of_le hk h.bel.size) (fun e => by have := Option.some.inj e; have := h.ge; omega)⟩, h.ge⟩
/- The key of a node, in a right tree. -/
theorem kn {t : Tr} (h : tck t = true) {k : Nat} (hk : k < 85) (h0 : koE t (k : Int) = 0) : (k < 21 ∧ koK t (k : Int) = t.ks k) ∨ ∃ s, s < 64 ∧ k = 21 + s ∧ tkn (t.ro s) = true ∧ koK t (k : Int) = ⟨(t.ro s).bas, t.ep - (t.ro s).snc⟩ := by
  by_cases hi : k < 21
  · left
    refine ⟨hi, ?_⟩
    unfold koK
    rw [h0, if_pos rfl, if_pos (by omega), Int.toNat_natCast]
  · right
    refine ⟨k - 21, by omega, by omega, ?_, ?_⟩
    · have e : (k : Int) = 21 + ((k - 21 : Nat) : Int) := by omega
      rw [e, koE_leaf h (by omega)] at h0
      cases ht : tkn (t.ro (k - 21)) with
      | true => rfl
      | false => rw [leaf_free ht] at h0; cases h0
    · unfold koK
      rw [h0, if_pos rfl, if_neg (by omega), show ((k : Int) - 21).toNat = k - 21 by omega]
theorem kn_fit {t : Tr} (h : tck t = true) {k : Nat} (hk : k < 85) (h0 : koE t (k : Int) = 0) : 1 ≤ (koK t (k : Int)).bas ∧ (koK t (k : Int)).bas < t.fr ∧ (koK t (k : Int)).stp ≤ t.ep := by
  have hr := tck_right h
  rcases kn h hk h0 with ⟨hi, e⟩ | ⟨s, hs, _, ht, e⟩
  · rw [e]
    have h1 := hr.fk k hi
    have h2 := ((Rt.kchk_iff.1 hr.ks).1 k hi).1.1
    exact ⟨h2, h1.1, h1.2⟩
  · rw [e]
    have h1 := hr.fs s hs
    have h2 := hr.taken hs ht
    exact ⟨h2.1, h1.1, by dsimp only; omega⟩
theorem ent_ne {t : Tr} (h : tck t = true) {i j : Nat} (hij : i < j) (hj : j < 64) (hi : tkn (t.ro i) = true) (hj2 : tkn (t.ro j) = true) : (t.ro i).bas ≠ (t.ro j).bas := by
  have hk := Rs.chk_at (tck_right h).ro hj
  unfold Rs.okp at hk
  rw [Bool.and_eq_true] at hk
  have := all_at hk.2 hij
  intro e
  unfold Rs.clh Rs.alike at this
  rw [hi, hj2, e] at this
  simp at this
theorem kn_ne {t : Tr} (h : tck t = true) {j k : Nat} (hjk : j < k) (hk : k < 85) (hj0 : koE t (j : Int) = 0) (hk0 : koE t (k : Int) = 0) : (koK t (j : Int)).bas ≠ (koK t (k : Int)).bas := by
  have hr := tck_right h
  rcases kn h (by omega) hj0 with ⟨ji, ej⟩ | ⟨s, hs, js, jt, ej⟩
  · rcases kn h hk hk0 with ⟨ki, ek⟩ | ⟨s', hs', ks, kt, ek⟩
    · rw [ej, ek]
      exact Rt.kchk_ne hr.ks ji ki (by omega)
    · rw [ej, ek]
      exact (hr.fs s' hs').2.2 j ji
  · rcases kn h hk hk0 with ⟨ki, ek⟩ | ⟨s', hs', ks, kt, ek⟩
    · omega
    · rw [ej, ek]
      exact ent_ne h (by omega) hs' jt kt
end Go.Proofs.Ytpkfpckljpffgaa
