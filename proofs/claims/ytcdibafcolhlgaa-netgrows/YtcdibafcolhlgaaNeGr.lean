/- What NetGrows keeps beside the program's net: the row of what was sent, the map of what was dropped; which packet of Waiting stands where. -/
import Derived.Test.YtcdibafcolhlgaaNePl
import Derived.Maps.OwnSet
import Derived.Maps.Views
namespace Go.Proofs.Ytcdibafcolhlgaa.Ne
open Go.RowKit Go.Maps
set_option linter.unusedVariables false
set_option linter.unusedSimpArgs false

/- Waiting on plain data. -/
theorem waitN_yes {s : Nst} {t : Nat} (h : s.G.getD t true = true) : waitN s (t + 1) = waitN s t := by unfold waitN; rw [if_pos h]; cases t <;> rfl
theorem waitN_no {s : Nst} {t : Nat} (h : s.G.getD t true = false) : waitN s (t + 1) = waitN s t ++ [s.A.getD t zP] := by conv => lhs; unfold waitN; rw [if_neg (by rw [h]; simp)]
theorem waitN_pre (s : Nst) (t : Nat) : ∀ u, t ≤ u → ∃ r, waitN s u = waitN s t ++ r ∧ ∀ q ∈ r, ∃ i, t ≤ i ∧ i < u ∧ s.G.getD i true = false ∧ q = s.A.getD i zP := by
  intro u hu
  induction u with
  | zero => obtain rfl : t = 0 := by omega
            exact ⟨[], by simp, by simp⟩
  | succ u ih =>
    by_cases e : t = u + 1
    · subst e; exact ⟨[], by simp, by simp⟩
    · obtain ⟨r, h1, h2⟩ := ih (by omega)
      cases hg : s.G.getD u true with
      | true =>
        refine ⟨r, by rw [waitN_yes hg, h1], fun q hq => ?_⟩
        obtain ⟨i, a, b, c⟩ := h2 q hq
        exact ⟨i, a, by omega, c⟩
      | false =>
        refine ⟨r ++ [s.A.getD u zP], by rw [waitN_no hg, h1, List.append_assoc], fun q hq => ?_⟩
        rcases List.mem_append.1 hq with hq | hq
        · obtain ⟨i, a, b, c⟩ := h2 q hq
          exact ⟨i, a, by omega, c⟩
        · rw [List.mem_singleton] at hq
          exact ⟨u, by omega, by omega, hg, hq⟩
/- t stands at the j-th packet under way, or at one that is gone ahead of it. -/
def AtW (s : Nst) (j t : Nat) : Prop := t ≤ s.A.length ∧ (waitN s t).length = j
theorem AtW.zero (s : Nst) : AtW s 0 0 := ⟨Nat.zero_le _, rfl⟩
theorem AtW.lt {s : Nst} {j t : Nat} (h : AtW s j t) (hj : j < s.wait.length) : t < s.A.length := by
  rcases Nat.lt_or_ge t s.A.length with h1 | h1
  · exact h1
  · obtain rfl : t = s.A.length := by have := h.1; omega
    have := h.2
    unfold Nst.wait at hj
    omega
theorem AtW.yes {s : Nst} {j t : Nat} (h : AtW s j t) (hj : j < s.wait.length) (ho : OkS s) (hg : s.G.getD t true = true) : AtW s j (t + 1) ∧ (s.wait.getD j zP).1 ≠ (t : Int) + 1 := by
  have hlt := h.lt hj
  refine ⟨⟨hlt, by rw [waitN_yes hg]; exact h.2⟩, ?_⟩
  obtain ⟨r, h1, h2⟩ := waitN_pre s (t + 1) s.A.length hlt
  rw [waitN_yes hg] at h1
  have hw : s.wait = waitN s t ++ r := h1
  have e : s.wait.getD j zP = r.getD 0 zP := by
    rw [hw, List.getD_eq_getElem?_getD, List.getElem?_append_right (by rw [h.2]; exact Nat.le_refl _), h.2, Nat.sub_self, ← List.getD_eq_getElem?_getD]
  have hr : 0 < r.length := by rw [hw, List.length_append, h.2] at hj; omega
  obtain ⟨i, q1, q2, q3, q4⟩ := h2 _ (getD_of (z := zP) hr)
  rw [e, q4, ho.num i q2]
  omega
theorem AtW.no {s : Nst} {j t : Nat} (h : AtW s j t) (hj : j < s.wait.length) (hg : s.G.getD t true = false) : AtW s (j + 1) (t + 1) ∧ s.wait.getD j zP = s.A.getD t zP := by
  have hlt := h.lt hj
  refine ⟨⟨hlt, by rw [waitN_no hg, List.length_append, h.2]; rfl⟩, ?_⟩
  obtain ⟨r, h1, _⟩ := waitN_pre s (t + 1) s.A.length hlt
  rw [waitN_no hg] at h1
  have hw : s.wait = waitN s t ++ [s.A.getD t zP] ++ r := h1
  rw [hw, List.getD_eq_getElem?_getD, List.getElem?_append_left (by rw [List.length_append, h.2]; simp), List.getElem?_append_right (by rw [h.2]; exact Nat.le_refl _), h.2, Nat.sub_self]
  rfl
theorem waitN_sent {s : Nst} (hl : s.G.length = s.A.length) (f : Int) (t : ByteArray) : ∀ k, k ≤ s.A.length → waitN (s.sent f t) k = waitN s k
  | 0, _ => rfl
  | k + 1, h => by
    have eG : (s.sent f t).G.getD k true = s.G.getD k true := by simp [Nst.sent, List.getD_eq_getElem?_getD, List.getElem?_append_left (show k < s.G.length by omega)]
    have eA : (s.sent f t).A.getD k zP = s.A.getD k zP := by simp [Nst.sent, List.getD_eq_getElem?_getD, List.getElem?_append_left (show k < s.A.length by omega)]
    unfold waitN
    rw [eG, eA, waitN_sent hl f t k (by omega)]
theorem wait_sent {s : Nst} (hl : s.G.length = s.A.length) (f : Int) (t : ByteArray) : (s.sent f t).wait.length = s.wait.length + 1 := by
  have e : (s.sent f t).A.length = s.A.length + 1 := by simp [Nst.sent]
  have hg : (s.sent f t).G.getD s.A.length true = false := by simp [Nst.sent, List.getD_eq_getElem?_getD, ← hl]
  unfold Nst.wait
  rw [e, waitN_no hg, List.length_append, waitN_sent hl f t _ (Nat.le_refl _)]
  rfl
theorem waitN_dropped {s : Nst} {i : Nat} (hi : i < s.G.length) (hg : s.G.getD i true = false) : ∀ k, (waitN (s.dropped i) k).length + (if i < k then 1 else 0) = (waitN s k).length
  | 0 => rfl
  | k + 1 => by
    have ih := waitN_dropped hi hg k
    by_cases e : k = i
    · subst e
      have h1 : (s.dropped k).G.getD k true = true := by simp [Nst.dropped, List.getD_eq_getElem?_getD, List.getElem?_set, hi]
      rw [waitN_yes h1, waitN_no hg, List.length_append]
      simp at ih ⊢
      omega
    · have h1 : (s.dropped i).G.getD k true = s.G.getD k true := by simp only [Nst.dropped, List.getD_eq_getElem?_getD, List.getElem?_set_ne (fun q => e q.symm)]
      have hk : (if i < k + 1 then 1 else 0) = if i < k then 1 else 0 := by split <;> split <;> omega
      rw [hk]
      cases h2 : s.G.getD k true with
      | true => rw [waitN_yes (h1.trans h2), waitN_yes h2]; exact ih
      | false => rw [waitN_no (h1.trans h2), waitN_no h2, List.length_append, List.length_append]; simp only [List.length_cons, List.length_nil]; omega
/- The map of what was dropped. -/
def kG (b : Int) : Lit := .int .i64 b
theorem intG : Keyed Try.prog 3 := int_keyed Try.underlying3
theorem kG_of {i : Nat} (h : i < 4611686018427387904) : keyOf Try.prog 3 (.int .i64 ((i : Int) + 1)) = some (kG ((i : Int) + 1)) := keyOf_int_mk Try.underlying3 (WalkArith.wf_i64 (by omega))
theorem kG_ne {i j : Nat} (h : i ≠ j) : kG ((i : Int) + 1) ≠ kG ((j : Int) + 1) := fun e => h (by simp [kG] at e; omega)
def eG (s : Nst) (i : Nat) : Int := if s.G.getD i true = true then 1 else 0
structure Gm (w : World) (b n : Nat) (s : Nst) : Prop where
  own : ∃ D : DataW Unit, w.ownsMap Try.prog 3 (plainElem Try.prog 3) b n D ∧ (∀ i, i < s.A.length → D.atKey (kG ((i : Int) + 1)) (.lit (.int .i64 0)) = .lit (.int .i64 (eG s i)) ∧ Maps.has D (kG ((i : Int) + 1)) = s.G.getD i true) ∧ (∀ i : Nat, s.A.length ≤ i → Maps.has D (kG ((i : Int) + 1)) = false) ∧ Maps.size D + s.wait.length = s.A.length
theorem zeroI (w : World) : (zeroValue 3).run Try.prog w = .ok (.int .i64 0) w := by kernel_rfl
section
variable {w w' : World} {b n : Nat} {s : Nst} {F : Nat → Prop}
theorem Gm.lt (h : Gm w b n s) : b < w.heap.size := by
  obtain ⟨D, h1, _⟩ := h.own
  exact h1.lt
theorem Gm.isMap (h : Gm w b n s) : ∃ es cl, w.heap[b]? = some (.map es cl) := by
  obtain ⟨D, ⟨es, cl, h1, _⟩, _⟩ := h.own
  exact ⟨es, cl, h1⟩
theorem Gm.kept (h : Gm w b n s) (hk : Kept F w w') (hb : ¬ F b) : Gm w' b n s := by
  have hlt := h.lt
  obtain ⟨D, ⟨es, cl, hh, r⟩, h2⟩ := h.own
  exact ⟨D, ⟨es, cl, (hk.block b hlt hb).trans hh, r⟩, h2⟩
theorem Gm.later (h : Gm w b n s) (hb : Below w.heap.size w w') : Gm w' b n s := h.kept (Kept.ofBelow (F := fun _ => False) hb) id
theorem Gm.mono (h : Gm w b n s) {m : Nat} (hm : n ≤ m) : Gm w b m s := by
  obtain ⟨D, h1, h2⟩ := h.own
  exact ⟨D, h1.mono hm, h2⟩
theorem Gm.new (w : World) : Gm (w.alloc (.map #[] 0)) w.heap.size 0 ⟨[], []⟩ :=
  ⟨_, World.ownsMap_made w Try.prog 3 _, fun i hi => absurd hi (by simp), fun i _ => by simp [Maps.has], rfl⟩
theorem Gm.look (h : Gm w b n s) {i : Nat} (hb : i < 4611686018427387904) (hi : i < s.A.length) : (Instr.lookup 43 (.map (some b)) (.int .i64 ((i : Int) + 1)) false).run Try.prog w = .ok (.int .i64 (eG s i)) w := by
  obtain ⟨D, h1, h2, h3, h4⟩ := h.own
  obtain ⟨c, hrun, hc, _⟩ := h1.lookup_int intG Try.underlying43 Try.underlying3 (zeroI w) (kG_of hb)
  rw [(h2 i hi).1] at hc
  simp only [DataW.lit.injEq, Lit.int.injEq, true_and] at hc
  rw [hrun, ← hc]
theorem Gm.len (h : Gm w b n s) : ∃ m, m + s.wait.length = s.A.length ∧ ∀ W, Below w.heap.size w W → ∀ ty, (Builtin.len_ #[ 43 ] ty #[.map (some b)]).run Try.prog W = .ok (.int .i64 ((m : Nat) : Int)) W := by
  have hlt := h.lt
  obtain ⟨D, ⟨es, cl, hh, r⟩, h2, h3, h4⟩ := h.own
  refine ⟨Maps.size D, h4, fun W hW ty => World.ownsMap.len (P := Try.prog) (D := D) (R := plainElem Try.prog 3) (n := n) (k := 3) ⟨es, cl, (hW.block b hlt).trans hh, r⟩ Try.underlying43 ty⟩
theorem Gm.sent (h : Gm w b n s) (hl : s.G.length = s.A.length) (f : Int) (t : ByteArray) : Gm w b n (s.sent f t) := by
  obtain ⟨D, h1, h2, h3, h4⟩ := h.own
  have e : (s.sent f t).A.length = s.A.length + 1 := by simp [Nst.sent]
  refine ⟨D, h1, fun i hi => ?_, fun i hi => h3 i (by omega), by rw [wait_sent hl, e]; omega⟩
  rw [e] at hi
  unfold eG
  by_cases q : i = s.A.length
  · subst q
    have hg : (s.sent f t).G.getD s.A.length true = false := by simp [Nst.sent, List.getD_eq_getElem?_getD, ← hl]
    have hno := h3 s.A.length (Nat.le_refl _)
    rw [hg]
    exact ⟨Maps.atKey_of_not_has hno _, hno⟩
  · have eG : (s.sent f t).G.getD i true = s.G.getD i true := by simp [Nst.sent, List.getD_eq_getElem?_getD, List.getElem?_append_left (show i < s.G.length by omega)]
    rw [eG]
    exact h2 i (by omega)
theorem Gm.inc (h : Gm w b n s) (hl : s.G.length = s.A.length) {i : Nat} (hb : i < 4611686018427387904) (hn : n < 4611686018427387904) (hi : i < s.A.length) (hg : s.G.getD i true = false) :
    ∃ w', (Instr.mapUpdate 43 (.map (some b)) (.int .i64 ((i : Int) + 1)) (.int .i64 1)).run Try.prog w = .ok () w' ∧ Gm w' b (n + 1) (s.dropped i) ∧ w.grownBy w' (some b) := by
  obtain ⟨D, h1, h2, h3, h4⟩ := h.own
  obtain ⟨w', hrun, hown, hgr⟩ := h1.update intG Try.underlying43 (by unfold maxLen; omega) (kG_of hb) (plainElem_int Try.underlying3 (a := 1) (by decide))
  have hD := World.ownsMap.isMap h1
  have hT := h1.tidy intG
  have hil := intG.key (kG_of hb)
  have eD : ∀ j, j ≠ i → (s.dropped i).G.getD j true = s.G.getD j true := fun j e => by simp only [Nst.dropped, List.getD_eq_getElem?_getD, List.getElem?_set_ne (fun q => e q.symm)]
  have eI : (s.dropped i).G.getD i true = true := by simp [Nst.dropped, List.getD_eq_getElem?_getD, List.getElem?_set, show i < s.G.length by omega]
  refine ⟨w', hrun, ⟨_, hown, fun j hj => ?_, fun j hj => ?_, ?_⟩, hgr⟩
  · unfold eG
    by_cases e : j = i
    · subst e
      rw [eI]
      exact ⟨Maps.atKey_put_same hD hil _ _, Maps.has_put_same hD hil _⟩
    · rw [eD j e, Maps.atKey_put_other (kG_ne e), Maps.has_put_other (kG_ne e)]
      exact h2 j hj
  · have hj : s.A.length ≤ j := hj
    rw [Maps.has_put_other (kG_ne (by omega))]
    exact h3 j hj
  · rw [Maps.size_put hT, (h2 i hi).2, hg]
    have hw := waitN_dropped (i := i) (by omega) hg s.A.length
    rw [if_pos hi] at hw
    have e1 : (s.dropped i).wait.length = (waitN (s.dropped i) s.A.length).length := rfl
    have e2 : s.wait.length = (waitN s s.A.length).length := rfl
    have e3 : (s.dropped i).A.length = s.A.length := rfl
    simp only [Bool.false_eq_true, if_false]
    omega
end
/- The law's three things: the net at s, the row at s1, the map at s2. -/
structure Gw (PAt : QPred) (w3 w : World) (N p : Nat) (s s1 s2 : Nst) (F : Nat → Prop) (vs : Value) (bg k : Nat) : Prop where
  a : PAt w N p s F
  row : w.ownsRow N 35 3 vs s1.A.length (s1.A.flatMap pC)
  gone : Gm w bg k s2
  ap : ∀ j, F j → vs.ownBlock ≠ some j ∧ j ≠ bg
  bel : Below N w3 w
  nb : N ≤ bg
  sz : N ≤ w.heap.size
section
variable {PAt : QPred} {w3 w w' : World} {N p bg k g c : Nat} {s s' s1 s2 : Nst} {F F' : Nat → Prop} {vs v' : Value}
theorem Gw.rne (h : Gw PAt w3 w N p s s1 s2 F vs bg k) : vs.ownBlock ≠ some bg := fun e => by
  obtain ⟨_, _, cur, q⟩ := own_type h.row e
  obtain ⟨es, cl, hm⟩ := h.gone.isMap
  rw [hm] at q
  cases q
theorem Gw.later (A : NApi PAt) (h : Gw PAt w3 w N p s s1 s2 F vs bg k) (hb : Below w.heap.size w w') : Gw PAt w3 w' N p s s1 s2 F vs bg k :=
  ⟨A.later h.a hb, own_later h.row hb, h.gone.later hb, h.ap, h.bel.trans (hb.mono h.sz), h.nb, Nat.le_trans h.sz hb.size⟩
theorem Gw.mono (h : Gw PAt w3 w N p s s1 s2 F vs bg k) {k' : Nat} (hk : k ≤ k') : Gw PAt w3 w N p s s1 s2 F vs bg k' := ⟨h.a, h.row, h.gone.mono hk, h.ap, h.bel, h.nb, h.sz⟩
theorem Gw.lt (A : NApi PAt) (h : Gw PAt w3 w N p s s1 s2 F vs bg k) : ∀ j, F j ∨ vs.ownBlock = some j ∨ j = bg → j < w.heap.size := by
  rintro j (e | e | e)
  · exact (A.ge h.a j e).2
  · exact (own_type h.row e).2.1
  · exact e ▸ h.gone.lt
theorem Gw.one (A : NApi PAt) (h : Gw PAt w3 w N p s s1 s2 F vs bg k) (hd : PQ PAt w w' N p s' F) : ∃ F', Gw PAt w3 w' N p s' s1 s2 F' vs bg k := by
  obtain ⟨F', h1, h2, h3⟩ := hd
  refine ⟨F', h1, h2.row h.row (fun j e e' => (h.ap j e').1 e), h.gone.kept h2 (fun e => (h.ap _ e).2 rfl), fun j e => ?_, h.bel.trans (h2.below h.sz fun j e => (A.ge h.a j e).1), h.nb, Nat.le_trans h.sz h2.size⟩
  rcases h3 j e with h4 | h4
  · exact h.ap j h4
  · refine ⟨fun q => ?_, fun q => ?_⟩
    · have := h.lt A j (.inr (.inl q)); omega
    · have := h.lt A j (.inr (.inr q)); omega
theorem Gw.rowed (A : NApi PAt) (h : Gw PAt w3 w N p s s1 s2 F vs bg k) (hk : Kept (fun j => vs.ownBlock = some j) w w') (hr : w'.ownsRow N 35 3 v' s'.A.length (s'.A.flatMap pC)) (hg : v'.ownBlock = some g) (hh : vs.ownBlock = some g ∨ w.heap.size ≤ g) : Gw PAt w3 w' N p s s' s2 F v' bg k := by
  refine ⟨A.kept h.a hk (fun j e e' => (h.ap j e).1 e'), hr, h.gone.kept hk h.rne, fun j e => ⟨fun q => ?_, (h.ap j e).2⟩, h.bel.trans (hk.below h.sz fun j e => (own_type h.row e).1), h.nb, Nat.le_trans h.sz hk.size⟩
  rw [hg] at q
  cases q
  rcases hh with e' | e'
  · exact (h.ap _ e).1 e'
  · have := h.lt A _ (.inl e); omega
theorem Gw.mapped (A : NApi PAt) (h : Gw PAt w3 w N p s s1 s2 F vs bg k) {k' : Nat} (hk : Kept (fun j => j = bg) w w') (hm : Gm w' bg k' s') : Gw PAt w3 w' N p s s1 s' F vs bg k' :=
  ⟨A.kept h.a hk (fun j e e' => (h.ap j e).2 e'), hk.row h.row (fun j e e' => h.rne (e' ▸ e)), hm, h.ap, h.bel.trans (hk.below h.sz fun j e => e ▸ h.nb), h.nb, Nat.le_trans h.sz hk.size⟩
theorem Gw.start (A : NApi PAt) (h : PAt w N p s F) (hN : N ≤ w.heap.size) : Gw PAt (w.alloc (.map #[] 0)) (w.alloc (.map #[] 0)) N p s ⟨[], []⟩ ⟨[], []⟩ F (.slice none 0 0) w.heap.size 0 :=
  ⟨A.later h (below1 _ _), World.ownsRow_nil _ _ _ _, Gm.new w, fun j e => ⟨by simp [Value.ownBlock], fun q => by have := (A.ge h j e).2; omega⟩, Below.refl _ _, hN, by simp; omega⟩
end
end Go.Proofs.Ytcdibafcolhlgaa.Ne
