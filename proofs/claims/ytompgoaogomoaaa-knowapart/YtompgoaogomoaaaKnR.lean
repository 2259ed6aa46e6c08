/- The maps of the program's know: sets of boxes and of texts, the least keys, the keys in boxes that are shut. -/
import Derived.Test.YtompgoaogomoaaaKnQ
import Derived.Test.YtompgoaogomoaaaOpenKn
import Derived.Test.YtompgoaogomoaaaKlKey
import Derived.Maps.OwnSet
namespace Go.Proofs.Ytompgoaogomoaaa.Kn
open Go.Maps Go.RowKit
open Rt (Gd gd gd_yes gd_no keyElem elKey keyElem_mk keyElem_inv zeroKey MapIs)
set_option linter.unusedVariables false
set_option linter.unusedSimpArgs false
set_option maxRecDepth 20000

/- Boxes and sealed texts as keys of a map. -/
theorem laidK : laidOutB Try.prog = true := by kernel_rfl
theorem boxRow : 35 < Try.prog.types.size := of_decide_eq_true (by kernel_rfl)
theorem sldRow : 37 < Try.prog.types.size := of_decide_eq_true (by kernel_rfl)
theorem boxLaw : Keyed Try.prog 35 := Keyed.of_law (deep_law_laid laidK (m := 4) (by omega) boxRow (by kernel_rfl) (by kernel_rfl))
theorem sldLaw : Keyed Try.prog 37 := Keyed.of_law (deep_law_laid laidK (m := 4) (by omega) sldRow (by kernel_rfl) (by kernel_rfl))
theorem boxKeyT : Try.prog.keyType 35 = true := by kernel_rfl
theorem sldKeyT : Try.prog.keyType 37 = true := by kernel_rfl
theorem types3 : ∃ d, Try.prog.types.size + 1 = d + 3 := ⟨Try.prog.types.size - 2, by have : 10 < Try.prog.types.size := of_decide_eq_true (by kernel_rfl); omega⟩
theorem ltI (d : Nat) (n : Int) (hw : wI n) : Try.prog.keyLits (d + 1) 3 [.int .i64 n] = some [.int .i64 n] := by
  unfold Program.keyLits
  rw [Try.underlying3 ]
  simp [show (Lit.int .i64 n).wf = true from hw]
theorem ltS (d : Nat) (s : ByteArray) (hw : s.size ≤ 9223372036854775807) : Try.prog.keyLits (d + 1) 9 [.string s] = some [.string s.data.toList] := by
  unfold Program.keyLits
  rw [Try.underlying9 ]
  simp [maxLen, hw]
theorem ltK (d : Nat) (a b : Int) (ha : wI a) (hb : wI b) : Try.prog.keyLits (d + 2) 33 [.int .i64 a, .int .i64 b] = some [.int .i64 a, .int .i64 b] := by
  unfold Program.keyLits
  rw [Try.underlying33 ]
  simp [celK, celI, ltI, ha, hb]
def wfB (b : B2) : Prop := wI b.1.1 ∧ wI b.1.2 ∧ wI b.2.1 ∧ wI b.2.2
def wX (d : Sd) : Prop := wI d.1 ∧ wI d.2.1.1 ∧ wI d.2.1.2 ∧ d.2.2.size ≤ 9223372036854775807
def bV (b : B2) : Value := .agg #[.int .i64 b.1.1, .int .i64 b.1.2, .int .i64 b.2.1, .int .i64 b.2.2]
def xV (d : Sd) : Value := .agg #[.int .i64 d.1, .int .i64 d.2.1.1, .int .i64 d.2.1.2, .string d.2.2]
def kV (k : K2) : Value := .agg #[.int .i64 k.1, .int .i64 k.2]
def kB (b : B2) : Lit := .string (keyBytes [.int .i64 b.1.1, .int .i64 b.1.2, .int .i64 b.2.1, .int .i64 b.2.2])
def kX (d : Sd) : Lit := .string (keyBytes [.int .i64 d.1, .int .i64 d.2.1.1, .int .i64 d.2.1.2, .string d.2.2.data.toList])
def kU (k : K2) : Lit := .string (keyBytes [.int .i64 k.1, .int .i64 k.2])
theorem keyOf_B (b : B2) (h : wfB b) : keyOf Try.prog 35 (bV b) = some (kB b) := by
  obtain ⟨d, hd⟩ := types3
  obtain ⟨w0, w1, w2, w3⟩ := h
  have hf : (bV b).formed Try.prog 35 = true := by simp [bV, Value.formed, Try.underlying35, celB]
  unfold keyOf
  rw [Try.underlying35 ]
  simp only [boxKeyT, hf, Bool.and_self, if_true, hd]
  unfold Program.keyLits
  rw [Try.underlying35 ]
  simp [bV, kB, Value.cells, celB, celK, ltK, w0, w1, w2, w3]
theorem keyOf_X (d : Sd) (h : wX d) : keyOf Try.prog 37 (xV d) = some (kX d) := by
  obtain ⟨e, hd⟩ := types3
  obtain ⟨w0, w1, w2, w3⟩ := h
  have hf : (xV d).formed Try.prog 37 = true := by simp [xV, Value.formed, Try.underlying37, celD]
  unfold keyOf
  rw [Try.underlying37 ]
  simp only [sldKeyT, hf, Bool.and_self, if_true, hd]
  unfold Program.keyLits
  rw [Try.underlying37 ]
  simp [xV, kX, Value.cells, celD, celK, celI, celT, ltK, ltI, ltS, w0, w1, w2, w3]
theorem keyOf_U (k : K2) (h0 : wI k.1) (h1 : wI k.2) : keyOf Try.prog 33 (kV k) = some (kU k) := Rt.keyOf_mk k.1 k.2 h0 h1
theorem kB_inj {b c : B2} (hb : wfB b) (hc : wfB c) (h : kB b = kB c) : b = c := by
  have := boxLaw.inj (keyOf_B b hb) (by rw [h]; exact keyOf_B c hc)
  simp [bV] at this
  obtain ⟨⟨p, q⟩, ⟨r, s⟩⟩ := b
  obtain ⟨⟨e, f⟩, ⟨g, i⟩⟩ := c
  simp at this
  obtain ⟨rfl, rfl, rfl, rfl⟩ := this
  rfl
theorem kX_inj {b c : Sd} (hb : wX b) (hc : wX c) (h : kX b = kX c) : b = c := by
  have := sldLaw.inj (keyOf_X b hb) (by rw [h]; exact keyOf_X c hc)
  simp [xV] at this
  obtain ⟨a, ⟨b, d⟩, s⟩ := b
  obtain ⟨e, ⟨f, g⟩, t⟩ := c
  simp at this
  obtain ⟨rfl, rfl, rfl, rfl⟩ := this
  rfl
theorem kU_inj {b c : K2} (h0 : wI b.1) (h1 : wI b.2) (h2 : wI c.1) (h3 : wI c.2) (h : kU b = kU c) : b = c := by
  have := Rt.keyLaw.inj (keyOf_U b h0 h1) (by rw [h]; exact keyOf_U c h2 h3)
  simp [kV] at this
  exact Prod.ext this.1 this.2
theorem own_tight {H : Type} {k : TypeId} {R : Value → Option (DataW H × List MemPlace)} {w : World} {b n : Nat} {D : DataW H} (h : w.ownsMap Try.prog k R b n D) : w.ownsMap Try.prog k R b (Maps.size D) D := by
  obtain ⟨es, cl, hb, F, hs, hD⟩ := h
  exact ⟨es, cl, hb, F, by rw [hD]; simp [Maps.size, length_sorted], hD⟩
/- A map that is kept while other blocks turn; a copy of it. -/
theorem map_kept {H : Type} {k : TypeId} {R : Value → Option (DataW H × List MemPlace)} {w w' : World} {b n : Nat} {D : DataW H} {F : Nat → Prop} (h : w.ownsMap Try.prog k R b n D) (hk : Kept F w w') (hb : ¬ F b) : w'.ownsMap Try.prog k R b n D := by
  have hlt := h.lt
  obtain ⟨es, cl, hh, r⟩ := h
  exact ⟨es, cl, (hk.block b hlt hb).trans hh, r⟩
/- Sets: what lies at a key is nothing. -/
def Us {α : Type} (K : TypeId) (kl : α → Lit) (ok : α → Prop) (w : World) (b n : Nat) (S : α → Prop) : Prop := ∃ D : DataW Unit, w.ownsMap Try.prog K unitElem b n D ∧ ∀ c, ok c → (Maps.has D (kl c) = true ↔ S c)
structure KT {α : Type} (K : TypeId) (val : α → Value) (kl : α → Lit) (ok : α → Prop) : Prop where
  law : Keyed Try.prog K
  key : ∀ c, ok c → keyOf Try.prog K (val c) = some (kl c)
  inj : ∀ c d, ok c → ok d → kl c = kl d → c = d
theorem boxT : KT 35 bV kB wfB := ⟨boxLaw, keyOf_B, fun _ _ h1 h2 h => kB_inj h1 h2 h⟩
theorem sldT : KT 37 xV kX wX := ⟨sldLaw, keyOf_X, fun _ _ h1 h2 h => kX_inj h1 h2 h⟩
theorem zeroU (w : World) : (zeroValue 72).run Try.prog w = .ok (.agg #[]) w := by kernel_rfl
section
variable {α : Type} {K t : TypeId} {val : α → Value} {kl : α → Lit} {ok : α → Prop} {w w' : World} {b n : Nat} {S S' : α → Prop} {F : Nat → Prop} {c : α}
theorem Us.new (w : World) : Us K kl ok (w.alloc (.map #[] 0)) w.heap.size 0 (fun _ => False) := ⟨_, World.ownsMap_made w Try.prog K unitElem, fun c _ => by simp [Maps.has]⟩
theorem Us.kept (h : Us K kl ok w b n S) (hk : Kept F w w') (hb : ¬ F b) : Us K kl ok w' b n S := by
  obtain ⟨D, h1, h2⟩ := h
  exact ⟨D, map_kept h1 hk hb, h2⟩
theorem Us.later (h : Us K kl ok w b n S) (hb : Below w.heap.size w w') : Us K kl ok w' b n S := h.kept (Kept.ofBelow (F := fun _ => False) hb) id
theorem Us.lt (h : Us K kl ok w b n S) : b < w.heap.size := by
  obtain ⟨D, h1, _⟩ := h
  exact h1.lt
theorem Us.isMap (h : Us K kl ok w b n S) : ∃ es cl, w.heap[b]? = some (.map es cl) := by
  obtain ⟨D, ⟨es, cl, h1, _⟩, _⟩ := h
  exact ⟨es, cl, h1⟩
theorem Us.mono (h : Us K kl ok w b n S) {m : Nat} (hm : n ≤ m) (hS : ∀ c, S c ↔ S' c) : Us K kl ok w b m S' := by
  obtain ⟨D, h1, h2⟩ := h
  exact ⟨D, h1.mono hm, fun c hc => (h2 c hc).trans (hS c)⟩
theorem Us.look (h : Us K kl ok w b n S) (kt : KT K val kl ok) (ht : Try.prog.underlying t = some (.map K 72)) (hc : ok c) {v : Bool} (hv : v = true ↔ S c) :
    (Instr.lookup t (.map (some b)) (val c) true).run Try.prog w = .ok (.tuple #[.agg #[], .bool v]) w := by
  obtain ⟨D, h1, h2⟩ := h
  obtain ⟨x, ps, hrun, hx⟩ := h1.look_ok kt.law ht (zeroU w) unitElem_mk (kt.key c hc)
  obtain ⟨rfl, _⟩ := unitElem_inv hx
  rw [hrun]
  have : Maps.has D (kl c) = v := by rw [Bool.eq_iff_iff, h2 c hc, hv]
  rw [this]
theorem Us.put (h : Us K kl ok w b n S) (kt : KT K val kl ok) (ht : Try.prog.underlying t = some (.map K 72)) (hc : ok c) (hn : n < 4611686018427387904) :
    ∃ w', (Instr.mapUpdate t (.map (some b)) (val c) (.agg #[])).run Try.prog w = .ok () w' ∧ Us K kl ok w' b (n + 1) (fun d => S d ∨ d = c) ∧ w.grownBy w' (some b) := by
  obtain ⟨D, h1, h2⟩ := h
  obtain ⟨w', hrun, hown, hg⟩ := h1.update kt.law ht (by unfold maxLen; omega) (kt.key c hc) (unitElem_mk (H := Unit))
  have hD := World.ownsMap.isMap h1
  have hil := kt.law.key (kt.key c hc)
  refine ⟨w', hrun, ⟨_, hown, fun d hd => ?_⟩, hg⟩
  by_cases e : d = c
  · subst e
    simp [Maps.has_put_same hD hil]
  · rw [Maps.has_put_other (fun h => e (kt.inj d c hd hc h)), h2 d hd]
    simp [e]
end
/- A store into a map at a step of a region. -/
theorem if_wpK {P : Program} {o : Oper} {a : Act} {w : World} {K : Act → World → Prop} {Q : Exit → Act → World → Prop} {c : Prop} [Decidable c] (hc : c) {X : Prop} (h : Oper.wp P o a w K Q) : if c then Oper.wp P o a w K Q else X := by rw [if_pos hc]; exact h
theorem wp_mapUpd {P : Program} {o : Oper} {a : Act} {w w' : World} {K : Act → World → Prop} {Q : Exit → Act → World → Prop} (t : TypeId) (m x v : Operand) (ho : o.op = .mapUpdate t m x v) {M X V : Value} (hm : a.eval m = M) (hx : a.eval x = X) (hv : a.eval v = V) (hd : o.dst = none)
    (hrun : (Instr.mapUpdate t M X V).run P w = .ok () w') (h : K a w') : o.wp P a w K Q := by
  unfold Oper.wp execOp
  simp only [ho, hm, hx, hv, Sem.run_bind, Sem.run_pure, hrun, Result.andThen_ok]
  have e : a.put o.dst undef = a := by rw [hd]; rfl
  show K (a.put o.dst undef) w'
  rw [e]
  exact h
/- The least keys. -/
def LF (f : Nat → Int) (x : Int) : Option Int := if x < 1 ∨ 32768 ≤ x ∨ f x.toNat = 0 then none else some (f x.toNat - 1)
def kI (b : Int) : Lit := .int .i64 b
theorem kI_inj : Rt.Inj kI := fun b c _ _ _ _ h => by cases h; rfl
theorem intK9 : Keyed Try.prog 3 := int_keyed Try.underlying3
def Lm (w : World) (b : Nat) (f : Nat → Int) : Prop := ∃ n, ∃ D : DataW Unit, w.ownsMap Try.prog 3 keyElem b n D ∧ MapIs kI elKey D (LF f)
section
variable {w w' : World} {b : Nat} {f : Nat → Int} {F : Nat → Prop} {k : K2} {x : Int}
theorem Lm.lt (h : Lm w b f) : b < w.heap.size := by
  obtain ⟨_, D, h1, _⟩ := h
  exact h1.lt
theorem Lm.isMap (h : Lm w b f) : ∃ es cl, w.heap[b]? = some (.map es cl) := by
  obtain ⟨_, D, ⟨es, cl, h1, _⟩, _⟩ := h
  exact ⟨es, cl, h1⟩
theorem Lm.kept (h : Lm w b f) (hk : Kept F w w') (hb : ¬ F b) : Lm w' b f := by
  obtain ⟨n, D, h1, h2⟩ := h
  exact ⟨n, D, map_kept h1 hk hb, h2⟩
theorem Lm.later (h : Lm w b f) (hb : Below w.heap.size w w') : Lm w' b f := h.kept (Kept.ofBelow (F := fun _ => False) hb) id
theorem LF_zero : LF (fun _ => 0) = fun _ => none := by funext x; simp [LF]
theorem Lm.new (w : World) : Lm (w.alloc (.map #[] 0)) w.heap.size (fun _ => 0) := ⟨0, _, World.ownsMap_made w Try.prog 3 keyElem, by rw [LF_zero]; exact MapIs.empty kI elKey⟩
theorem MapIs_out {D : DataW Unit} {f : Int → Option Int} (h : MapIs kI elKey D f) (hx : f x = none) : Maps.has D (kI x) = false := by
  cases hh : Maps.has D (kI x) with
  | false => rfl
  | true =>
    obtain ⟨c, s, hk, hc, _⟩ := h.keys _ hh
    cases hk
    rw [hx] at hc; cases hc
theorem Lm.look (h : Lm w b f) (hx : wI x) : (Instr.lookup 64 (.map (some b)) (.int .i64 x) false).run Try.prog w = .ok (match LF f x with | none => .agg #[.int .i64 0, .int .i64 0] | some s => .agg #[.int .i64 x, .int .i64 s]) w ∧
    (Instr.lookup 64 (.map (some b)) (.int .i64 x) true).run Try.prog w = .ok (match LF f x with | none => .tuple #[.agg #[.int .i64 0, .int .i64 0], .bool false] | some s => .tuple #[.agg #[.int .i64 x, .int .i64 s], .bool true]) w := by
  obtain ⟨n, D, h1, h2⟩ := h
  have hkey := keyOf_int_mk Try.underlying3 hx
  obtain ⟨v, ps, hrun, hv⟩ := h1.lookup intK9 Try.underlying64 (zeroKey w) (keyElem_mk 0 0) hkey
  obtain ⟨v', ps', hrun', hv'⟩ := h1.look_ok intK9 Try.underlying64 (zeroKey w) (keyElem_mk 0 0) hkey
  obtain ⟨c, rfl, hc⟩ := keyElem_inv hv
  obtain ⟨c', rfl, hc'⟩ := keyElem_inv hv'
  have e := congrArg Prod.fst hc
  have e' := congrArg Prod.fst hc'
  dsimp only at e e'
  rw [hrun, hrun']
  cases hf : LF f x with
  | none =>
    have hno := MapIs_out h2 hf
    have ha : D.atKey (kI x) (elKey 0 0) = elKey 0 0 := Maps.atKey_of_not_has hno _
    have e : D.atKey (kI x) (elKey 0 0) = elKey c.1 c.2 := e
    have e' : D.atKey (kI x) (elKey 0 0) = elKey c'.1 c'.2 := e'
    rw [ha] at e e'
    obtain ⟨q1, q2⟩ := Rt.elKey_inj e
    obtain ⟨q3, q4⟩ := Rt.elKey_inj e'
    have hno : Maps.has D (.int .i64 x) = false := hno
    rw [hno]
    simp only [Rt.mkKey, ← q1, ← q2, ← q3, ← q4, and_self]
  | some s =>
    have hyes : Maps.has D (.int .i64 x) = true := h2.has x s hf
    have ha := h2.at_yes kI_inj hf (elKey 0 0)
    have e : D.atKey (kI x) (elKey 0 0) = elKey c.1 c.2 := e
    have e' : D.atKey (kI x) (elKey 0 0) = elKey c'.1 c'.2 := e'
    rw [ha] at e e'
    obtain ⟨q1, q2⟩ := Rt.elKey_inj e
    obtain ⟨q3, q4⟩ := Rt.elKey_inj e'
    rw [hyes]
    simp only [Rt.mkKey, ← q1, ← q2, ← q3, ← q4, and_self]
theorem LF_put (hb : 1 ≤ k.1 ∧ k.1 < 32768) (h0 : 0 ≤ k.2) : LF (upT f k.1.toNat (k.2 + 1)) = Rt.setf (LF f) k.1 k.2 := by
  funext x
  unfold LF upT Rt.setf
  by_cases e : x = k.1
  · subst e
    have h1 : ¬ (k.1 < 1 ∨ 32768 ≤ k.1 ∨ k.2 + 1 = 0) := by omega
    simp [h1]
  · by_cases h2 : x < 1 ∨ 32768 ≤ x
    · have : x < 1 ∨ 32768 ≤ x ∨ f x.toNat = 0 := by omega
      have h3 : x < 1 ∨ 32768 ≤ x ∨ (if x.toNat = k.1.toNat then k.2 + 1 else f x.toNat) = 0 := by omega
      simp [e, this, h3]
    · have h4 : x.toNat ≠ k.1.toNat := by omega
      simp [e, h4]
theorem Lm.put (h : Lm w b f) (hg : Gd k.1 k.2) (hb : k.1 < 32768) :
    ∃ w', (Instr.mapUpdate 64 (.map (some b)) (.int .i64 k.1) (.agg #[.int .i64 k.1, .int .i64 k.2])).run Try.prog w = .ok () w' ∧ Lm w' b (upT f k.1.toNat (k.2 + 1)) ∧ w.grownBy w' (some b) := by
  obtain ⟨n, D, h1, h2⟩ := h
  have h1 := own_tight h1
  have hwf : (Lit.int .i64 k.1).wf = true := WalkArith.wf_i64 (by have := hg.1; have := hg.2.1; omega)
  have hs : Maps.size D ≤ 65535 := by rw [h2.size]; exact Rt.lpart_le _ _
  obtain ⟨w', hrun, hown, hgr⟩ := h1.update intK9 Try.underlying64 (by unfold maxLen; omega) (keyOf_int_mk Try.underlying3 hwf) (keyElem_mk k.1 k.2)
  refine ⟨w', hrun, ⟨_, _, hown, ?_⟩, hgr⟩
  rw [LF_put ⟨hg.1, hb⟩ hg.2.2.1]
  exact h2.put kI_inj (h1.tidy intK9) (by trivial) hg.1 hg.2.1
end
end Go.Proofs.Ytompgoaogomoaaa.Kn
