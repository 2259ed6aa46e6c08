/- Lists that are written to: what stands of a decoded message whose lists are written over. -/
import Derived.Test.YtdkfifnhmfbagaaGreatWiKp
namespace Go.Proofs.YtdkfifnhmfbagaaGreat.Wi
open Go.RowKit Go.Maps
open Bt (Kept tb bys tx)
set_option linter.unusedVariables false
set_option linter.unusedSimpArgs false

theorem upd_sz : ∀ (vs : List Value) (o : Nat) (cs : Array Value), (upd cs o vs).size = cs.size
  | [], o, cs => rfl
  | x :: vs, o, cs => by
    show (upd (cs.setIfInBounds o x) (o + 1) vs).size = _
    rw [upd_sz vs]
    simp
theorem own_sz {w : World} {b g N k c : Nat} {T : TypeId} {xs : List Value} (h : w.ownsRow b T k (.slice (some ⟨g, 0, none⟩) N c) N xs) : ∃ cur, w.heap[g]? = some (.cells cur T (0, 0)) ∧ N * k ≤ cur.size ∧ cur.toList.take (N * k) = xs ∧ b ≤ g := by
  rcases h.2 with ⟨e, h0⟩ | ⟨g', cap', cur, e, h3, h4, h5, h6, h7, h8⟩
  · cases e
  · cases e
    exact ⟨cur, h4, by rw [h7]; exact Nat.mul_le_mul_right k h5, h8, h3⟩
theorem own_there {w : World} {b g N k c : Nat} {T : TypeId} {xs : List Value} (h : w.ownsRow b T k (.slice (some ⟨g, 0, none⟩) N c) N xs) {i : Nat} (hi : i < N) : w.there g (0 + i * k) k := by
  obtain ⟨cur, h1, h2, _⟩ := own_sz h
  refine th_of h1 (0 + i * k) k ?_
  have : (i + 1) * k ≤ N * k := Nat.mul_le_mul_right k hi
  rw [Nat.succ_mul] at this
  omega
theorem own_upd {w : World} {b g N k c : Nat} {T : TypeId} {xs : List Value} (h : w.ownsRow b T k (.slice (some ⟨g, 0, none⟩) N c) N xs) (o : Nat) (vs : List Value) : ∃ ys, (w.setCells g o vs).ownsRow b T k (.slice (some ⟨g, 0, none⟩) N c) N ys ∧ ∀ cur, w.heap[g]? = some (.cells cur T (0, 0)) → ys = (upd cur o vs).toList.take (N * k) := by
  rcases h.2 with ⟨e, h0⟩ | ⟨g', cap', cur, e, h3, h4, h5, h6, h7, h8⟩
  · cases e
  · cases e
    refine ⟨(upd cur o vs).toList.take (N * k), ⟨?_, .inr ⟨g, c, upd cur o vs, rfl, h3, row_upd vs o h4, h5, h6, by rw [upd_sz]; exact h7, rfl⟩⟩, fun cur' h' => ?_⟩
    · rw [List.length_take, Array.length_toList, upd_sz, h7]
      exact Nat.min_eq_left (Nat.mul_le_mul_right k h5)
    · rw [h4] at h'
      cases h'
      rfl
theorem own_far {w : World} {b g N k : Nat} {T : TypeId} {v : Value} {xs : List Value} (h : w.ownsRow b T k v N xs) (hg : v.ownBlock ≠ some g) (o : Nat) (vs : List Value) : (w.setCells g o vs).ownsRow b T k v N xs := by
  refine ⟨h.1, ?_⟩
  rcases h.2 with h0 | ⟨g', cap', cur, e, h3, h4, r⟩
  · exact .inl h0
  · subst e
    exact .inr ⟨g', cap', cur, rfl, h3, (other_upd (fun e => hg (by rw [← e]; rfl)) vs o).trans h4, r⟩
theorem own_type {w : World} {b b' k k' N N' g c : Nat} {T U : TypeId} {v : Value} {xs ys : List Value} (h : w.ownsRow b T k v N xs) (h' : w.ownsRow b' U k' (.slice (some ⟨g, 0, none⟩) N' c) N' ys) (hne : T ≠ U) : v.ownBlock ≠ some g := by
  obtain ⟨cur, h1, _⟩ := own_sz h'
  rcases h.2 with ⟨e, _⟩ | ⟨g', cap', cur', e, h3, h4, r⟩
  · subst e; intro e; cases e
  · subst e
    intro e
    cases e
    exact row_ne h4 h1 hne rfl
theorem own_blk {w : World} {b B k N : Nat} {T U : TypeId} {v : Value} {xs : List Value} {cs : Array Value} (h : w.ownsRow b T k v N xs) (h' : w.heap[B]? = some (.cells cs U (0, 0))) (hne : T ≠ U) : v.ownBlock ≠ some B := by
  rcases h.2 with ⟨e, _⟩ | ⟨g', cap', cur', e, h3, h4, r⟩
  · subst e; intro e; cases e
  · subst e
    intro e
    cases e
    exact row_ne h4 h' hne rfl
theorem kept_cells (w : World) (F : Nat → Prop) (g : Nat) (hF : F g) : ∀ (vs : List Value) (o : Nat), Kept F w (w.setCells g o vs) := fun vs o =>
  (kept_setCells w g o vs).mono fun i _ e => by rw [e]; exact hF
/- The first of two cells of each of the first q is below 0. -/
def NG (q : Nat) (xs : List Value) : Prop := ∀ i, i < q → ∃ x : Int, x < 0 ∧ xs[i * 2]? = some (.int .i64 x)
theorem NG.zero (xs : List Value) : NG 0 xs := fun i hi => by cases hi
theorem ng_put {w : World} {b g N c q : Nat} {T : TypeId} {xs ys : List Value} (h : w.ownsRow b T 2 (.slice (some ⟨g, 0, none⟩) N c) N xs) (hn : NG q xs) (hq : q < N) {x : Int} (hx : x < 0) (he : ∀ cur, w.heap[g]? = some (.cells cur T (0, 0)) → ys = (upd cur (0 + q * 2) [.int .i64 x, .int .i64 0]).toList.take (N * 2)) : NG (q + 1) ys := by
  obtain ⟨cur, h1, h2, h3, _⟩ := own_sz h
  rw [he cur h1]
  intro i hi
  have hup : upd cur (0 + q * 2) [.int .i64 x, .int .i64 0] = (cur.setIfInBounds (q * 2) (.int .i64 x)).setIfInBounds (q * 2 + 1) (.int .i64 0) := by rw [Nat.zero_add]; rfl
  rw [hup, List.getElem?_take_of_lt (by omega), Array.getElem?_toList, Array.getElem?_setIfInBounds_ne (by omega)]
  by_cases e : i = q
  · subst e
    refine ⟨x, hx, ?_⟩
    rw [Array.getElem?_setIfInBounds_self_of_lt (by omega)]
  · obtain ⟨y, hy, e2⟩ := hn i (by omega)
    refine ⟨y, hy, ?_⟩
    rw [Array.getElem?_setIfInBounds_ne (by omega), ← e2, ← h3, List.getElem?_take_of_lt (by omega), Array.getElem?_toList]
/- A decoded message at X, its lists in blocks of their own, written over. -/
structure XS (n0 n1 : Nat) (W0 W : World) (X : Nat) (m : Msg) (vL vJ vI : Value) (q : Nat) : Prop where
  mg : MgAt W X m vL vJ vI
  oL : ∃ xs, W.ownsRow n0 55 2 vL m.rk.2.1.length xs ∧ NG q xs
  oJ : ∃ xs, W.ownsRow n0 55 2 vJ m.rk.2.2.1.length xs
  oI : ∃ xs, W.ownsRow n0 53 6 vI m.rk.2.2.2.length xs
  ap : APv vL vJ
  fl : (∀ k, vL.ownBlock = some k → n0 ≤ k ∧ k < n1) ∧ (∀ k, vJ.ownBlock = some k → n0 ≤ k ∧ k < n1) ∧ (∀ k, vI.ownBlock = some k → n0 ≤ k ∧ k < n1) ∧ n0 ≤ X ∧ X < n1
  kp : Kept (fun k => n0 ≤ k ∧ k < n1) W0 W
section
variable {n0 n1 X q g c : Nat} {W0 W W' : World} {m : Msg} {vL vJ vI : Value} {ct : List Value}
theorem MgAt.far {B : Nat} (h : MgAt W X m vL vJ vI) (hne : X ≠ B) (o : Nat) (vs : List Value) : MgAt (W.setCells B o vs) X m vL vJ vI := (other_upd hne vs o).trans h
theorem XS.setI (h : XS n0 n1 W0 W X m vL vJ (.slice (some ⟨g, 0, none⟩) m.rk.2.2.2.length c) q) (o : Nat) (vs : List Value) : XS n0 n1 W0 (W.setCells g o vs) X m vL vJ (.slice (some ⟨g, 0, none⟩) m.rk.2.2.2.length c) q := by
  obtain ⟨xs, h1, h2⟩ := h.oL
  obtain ⟨ys, h3⟩ := h.oJ
  obtain ⟨zs, h4⟩ := h.oI
  obtain ⟨us, h5, _⟩ := own_upd h4 o vs
  have hX : X ≠ g := fun e => own_blk h4 h.mg (by decide) (by rw [e]; rfl)
  exact ⟨h.mg.far hX o vs, ⟨xs, own_far h1 (own_type h1 h4 (by decide)) o vs, h2⟩, ⟨ys, own_far h3 (own_type h3 h4 (by decide)) o vs⟩, ⟨us, h5⟩, h.ap, h.fl, h.kp.trans (kept_cells W _ g (h.fl.2.2.1 g rfl) vs o) (fun _ _ e => e)⟩
theorem XS.setJ (h : XS n0 n1 W0 W X m vL (.slice (some ⟨g, 0, none⟩) m.rk.2.2.1.length c) vI q) (o : Nat) (vs : List Value) : XS n0 n1 W0 (W.setCells g o vs) X m vL (.slice (some ⟨g, 0, none⟩) m.rk.2.2.1.length c) vI q := by
  obtain ⟨xs, h1, h2⟩ := h.oL
  obtain ⟨ys, h3⟩ := h.oJ
  obtain ⟨zs, h4⟩ := h.oI
  obtain ⟨us, h5, _⟩ := own_upd h3 o vs
  have hX : X ≠ g := fun e => own_blk h3 h.mg (by decide) (by rw [e]; rfl)
  exact ⟨h.mg.far hX o vs, ⟨xs, own_far h1 (fun e => h.ap g e rfl) o vs, h2⟩, ⟨us, h5⟩, ⟨zs, own_far h4 (own_type h4 h3 (by decide)) o vs⟩, h.ap, h.fl, h.kp.trans (kept_cells W _ g (h.fl.2.1 g rfl) vs o) (fun _ _ e => e)⟩
theorem XS.setL (h : XS n0 n1 W0 W X m (.slice (some ⟨g, 0, none⟩) m.rk.2.1.length c) vJ vI q) (hq : q < m.rk.2.1.length) {x : Int} (hx : x < 0) : XS n0 n1 W0 (W.setCells g (0 + q * 2) [.int .i64 x, .int .i64 0]) X m (.slice (some ⟨g, 0, none⟩) m.rk.2.1.length c) vJ vI (q + 1) := by
  obtain ⟨xs, h1, h2⟩ := h.oL
  obtain ⟨ys, h3⟩ := h.oJ
  obtain ⟨zs, h4⟩ := h.oI
  obtain ⟨us, h5, h6⟩ := own_upd h1 (0 + q * 2) [.int .i64 x, .int .i64 0]
  have hX : X ≠ g := fun e => own_blk h1 h.mg (by decide) (by rw [e]; rfl)
  exact ⟨h.mg.far hX _ _, ⟨us, h5, ng_put h1 h2 hq hx h6⟩, ⟨ys, own_far h3 (fun e => h.ap g rfl e) _ _⟩, ⟨zs, own_far h4 (own_type h4 h1 (by decide)) _ _⟩, h.ap, h.fl, h.kp.trans (kept_cells W _ g (h.fl.1 g rfl) _ _) (fun _ _ e => e)⟩
end
end Go.Proofs.YtdkfifnhmfbagaaGreat.Wi
