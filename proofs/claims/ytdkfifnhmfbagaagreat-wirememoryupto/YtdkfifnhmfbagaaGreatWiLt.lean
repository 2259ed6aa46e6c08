/- Contract: the law's lent: a message's lists with room behind them. MADE by wip/mk_lent.py. -/
import Derived.Test.YtdkfifnhmfbagaaGreatWiBx
import Derived.Test.YtdkfifnhmfbagaaGreatJnO
namespace Go.Proofs.YtdkfifnhmfbagaaGreat.Wi
open Go.RowKit Go.Maps
open Bt (Kept tb bys tx)
set_option linter.unusedVariables false
set_option linter.unusedSimpArgs false

section
variable {P : Program} {ops : Array Oper} {Q : Exit → Act → World → Prop} {md : Region.Mode} {L : List Nat} {S : World → Prop} {n i j : Nat} {l : Array Bool} {a : Act} {w : World}
/- Two operations may come up. -/
theorem _root_.Go.Proofs.YtdkfifnhmfbagaaGreat.Wi.Till.two {o o' : Oper} (ho : ops[i]? = some o) (ho' : ops[j]? = some o') (hr : Region.ready md ops l = [i, j])
    (h : ∀ K : Act → World → Prop, Shut (∀ b v, ((∃ c ∈ L, (l.setIfInBounds i true).getD c true = false) → S v) → Till P md ops Q (Lack L S) n (l.setIfInBounds i true) b v → K b v) → if Region.wanted o (yielded ops a.tmps) = true then Oper.wp P o a w K Q else K (a.put o.dst undef) w)
    (h' : ∀ K : Act → World → Prop, Shut (∀ b v, ((∃ c ∈ L, (l.setIfInBounds j true).getD c true = false) → S v) → Till P md ops Q (Lack L S) n (l.setIfInBounds j true) b v → K b v) → if Region.wanted o' (yielded ops a.tmps) = true then Oper.wp P o' a w K Q else K (a.put o'.dst undef) w) : Till P md ops Q (Lack L S) (n + 1) l a w := by
  refine ⟨fun e => absurd (hr.symm.trans e) (by simp), fun q hq => ?_⟩
  rw [hr, List.mem_cons, List.mem_singleton] at hq
  rcases hq with rfl | rfl
  · exact wpOp_step ho fun K hK => h K fun b v h1 h2 => hK b v ⟨h1, h2⟩
  · exact wpOp_step ho' fun K hK => h' K fun b v h1 h2 => hK b v ⟨h1, h2⟩
end
theorem rd_news {α : Type} {f : α → List Value} {k : Nat} (hf : ∀ x, (f x).length = k) (hk : 0 < k) {w : World} {ad : Addr} {l : List α} (h : RdV f k w (some ad) l) : ∀ j u, (l.flatMap f)[j]? = some u → w.cell? (ad.add j) = some u := by
  intro j u hu
  have hj : j < l.length * k := by
    have := (List.getElem?_eq_some_iff.1 hu).1
    rwa [flat_ln f k hf] at this
  have hi : j / k < l.length := Nat.div_lt_of_lt_mul (by rwa [Nat.mul_comm])
  obtain ⟨b, o, e, hr⟩ := h (j / k) hi
  cases e
  have e2 := flat_at f k hf l (j / k) hi (j % k) (Nat.mod_lt _ hk)
  rw [Nat.div_add_mod' j k] at e2
  rw [e2] at hu
  have := hr (j % k) u hu
  rw [Addr.add_mid, show o + j = o + j / k * k + j % k by have := Nat.div_add_mod' j k; omega]
  exact this
theorem run_append_nc {P : Program} {w : World} (base : Nat) (t ty e : TypeId) (i : TypeInfo) (size : Nat) (ht : P.underlying t = some (.slice e)) (hi : P.info? e = some i) (v : Value) (n : Nat) (xs : List Value) (hown : w.ownsRow base e size v n xs) (c : Nat) :
    (Builtin.append_ #[t, t] ty #[v, .slice none 0 c]).run P w = .ok v w := by
  rcases hown.2 with ⟨rfl, rfl⟩ | ⟨g, cap, cur, rfl, _, _, hnc, _⟩
  · simp [Builtin.append_, run_underlying ht, sizeOf, typeInfo, hi, Builtin.lenOf, Builtin.firstCells]
  · simp [Builtin.append_, run_underlying ht, sizeOf, typeInfo, hi, Builtin.lenOf, Builtin.firstCells, hnc, storeCells]
theorem row0_new (W : World) (B k : Nat) (T : TypeId) (hB : B ≤ W.heap.size) : (W.alloc (.cells #[] T)).ownsRow B T k (.slice (some ⟨W.heap.size, 0, none⟩) 0 0) 0 [] :=
  ⟨by simp, .inr ⟨W.heap.size, 0, #[], rfl, hB, heap_alloc_last _ _, Nat.le_refl _, by unfold maxLen; omega, by simp, by simp⟩⟩
theorem appRS {ops : Array Oper} {o : Oper} {a : Act} {w : World} {K : Act → World → Prop} {Q : Exit → Act → World → Prop} {E : Prop} (hw : Region.wanted o (yielded ops a.tmps) = true) (d : Tmp) (hd : o.dst = some d) (s x : Operand)
    (ho : o.op = .call { callee := .builtin .append, args := #[s, x], argTypes := #[ 22, 22 ] })
    (n0 : Nat) (v : Value) (hs : a.eval s = v) (hown : w.ownsRow n0 55 2 v 0 []) (src : Option Addr) (c n : Nat) (X : List (Int × Int)) (hn : X.length = n) (hx : a.eval x = .slice src n c) (hrd : RdV stl 2 w src X) (hl : n ≤ 1048576) (hb : n0 ≤ w.heap.size)
    (h : ∀ v' w', w'.ownsRow n0 55 2 v' n (X.flatMap stl) → w.grownBy w' v.ownBlock → K (a.put (some d) v') w') :
    if Region.wanted o (yielded ops a.tmps) = true then Oper.wp Tryz.prog o a w K Q else E := by
  obtain ⟨i0, hi, hz0, hz1, hz2⟩ := info_of infoSeat
  rw [if_pos hw]
  cases src with
  | none =>
    have h0 : X = [] := by
      cases X with
      | nil => rfl
      | cons y r => obtain ⟨b, o, e, _⟩ := hrd 0 (by simp); cases e
    subst h0
    obtain rfl : n = 0 := by simpa using hn.symm
    have hrun := run_append_nc (P := Tryz.prog) (w := w) n0 22 o.type 55 i0 2 Tryz.underlying22 hi v 0 [] hown c
    unfold Oper.wp
    simp [execOp, ho, resolve, invoke, builtin, hs, hx, hrun, Result.andThen]
    show K (a.put o.dst v) w
    rw [hd]
    exact h v w (by simpa using hown) ⟨rfl, rfl, rfl, Nat.le_refl _, fun _ _ _ => rfl⟩
  | some ad =>
    refine wp_append_own w s x 22 ho n0 55 i0 _ 2 16 Tryz.underlying22 hi hz0 hz1 hz2 rfl (by omega) v 0 [] hs hown ad n c (X.flatMap stl) hx (by rw [flat_ln stl 2 (fun _ => rfl), hn]) (rd_news (f := stl) (k := 2) (fun _ => rfl) (by decide) hrd) ?_ (by unfold maxLen; omega) (by omega) hb ?_
    · intro u hu
      obtain ⟨y, _, hy⟩ := List.mem_flatMap.1 hu
      exact List.all_eq_true.1 (show (stl y).all (·.oneCell') = true from rfl) u hy
    · intro v' w' h2 h3 h4
      rw [hd]
      exact h v' w' (by simpa using h2) h3
theorem appNS {ops : Array Oper} {o : Oper} {a : Act} {w : World} {K : Act → World → Prop} {Q : Exit → Act → World → Prop} {E : Prop} (hw : Region.wanted o (yielded ops a.tmps) = true) (d : Tmp) (hd : o.dst = some d) (s x : Operand)
    (ho : o.op = .call { callee := .builtin .append, args := #[s, x], argTypes := #[ 22, 22 ] })
    (n0 : Nat) (v : Value) (n : Nat) (xs : List Value) (hs : a.eval s = v) (hown : w.ownsRow n0 55 2 v n xs) (g : Nat) (y : (Int × Int)) (hx : a.eval x = .slice (some ⟨g, 0, none⟩) 1 1)
    (hg : w.heap[g]? = some (.cells (stl y).toArray 55 (0, 0))) (hl : n ≤ 1048576) (hb : n0 ≤ w.heap.size)
    (h : ∀ b c w', n + 1 ≤ c → w'.ownsRow n0 55 2 (.slice (some ⟨b, 0, none⟩) (n + 1) c) (n + 1) (xs ++ stl y) → w.grownBy w' v.ownBlock → K (a.put (some d) (.slice (some ⟨b, 0, none⟩) (n + 1) c)) w') :
    if Region.wanted o (yielded ops a.tmps) = true then Oper.wp Tryz.prog o a w K Q else E := by
  obtain ⟨i0, hi, hz0, hz1, hz2⟩ := info_of infoSeat
  rw [if_pos hw]
  refine wp_append_own w s x 22 ho n0 55 i0 _ 2 16 Tryz.underlying22 hi hz0 hz1 hz2 rfl (by omega) v n xs hs hown ⟨g, 0, none⟩ 1 1 (stl y) hx rfl ?_ (List.all_eq_true.1 (show (stl y).all (·.oneCell') = true from rfl)) (by unfold maxLen; omega) (by omega) hb ?_
  · intro j u hu
    rw [Addr.add_mid, Nat.zero_add, cell_of_row _ _ j _ _ _ hg]
    simpa using hu
  · intro v' w' h2 h3 h4
    rw [hd]
    rcases h2.2 with ⟨_, h0⟩ | ⟨g', cap, cur, rfl, _, _, hc, _⟩
    · omega
    · exact h g' cap w' hc h2 h3
theorem appRI {ops : Array Oper} {o : Oper} {a : Act} {w : World} {K : Act → World → Prop} {Q : Exit → Act → World → Prop} {E : Prop} (hw : Region.wanted o (yielded ops a.tmps) = true) (d : Tmp) (hd : o.dst = some d) (s x : Operand)
    (ho : o.op = .call { callee := .builtin .append, args := #[s, x], argTypes := #[ 23, 23 ] })
    (n0 : Nat) (v : Value) (hs : a.eval s = v) (hown : w.ownsRow n0 53 6 v 0 []) (src : Option Addr) (c n : Nat) (X : List ((Int × Int) × ((Int × Int) × (Int × Int)))) (hn : X.length = n) (hx : a.eval x = .slice src n c) (hrd : RdV itl 6 w src X) (hl : n ≤ 1048576) (hb : n0 ≤ w.heap.size)
    (h : ∀ v' w', w'.ownsRow n0 53 6 v' n (X.flatMap itl) → w.grownBy w' v.ownBlock → K (a.put (some d) v') w') :
    if Region.wanted o (yielded ops a.tmps) = true then Oper.wp Tryz.prog o a w K Q else E := by
  obtain ⟨i0, hi, hz0, hz1, hz2⟩ := info_of infoItem
  rw [if_pos hw]
  cases src with
  | none =>
    have h0 : X = [] := by
      cases X with
      | nil => rfl
      | cons y r => obtain ⟨b, o, e, _⟩ := hrd 0 (by simp); cases e
    subst h0
    obtain rfl : n = 0 := by simpa using hn.symm
    have hrun := run_append_nc (P := Tryz.prog) (w := w) n0 23 o.type 53 i0 6 Tryz.underlying23 hi v 0 [] hown c
    unfold Oper.wp
    simp [execOp, ho, resolve, invoke, builtin, hs, hx, hrun, Result.andThen]
    show K (a.put o.dst v) w
    rw [hd]
    exact h v w (by simpa using hown) ⟨rfl, rfl, rfl, Nat.le_refl _, fun _ _ _ => rfl⟩
  | some ad =>
    refine wp_append_own w s x 23 ho n0 53 i0 _ 6 48 Tryz.underlying23 hi hz0 hz1 hz2 rfl (by omega) v 0 [] hs hown ad n c (X.flatMap itl) hx (by rw [flat_ln itl 6 (fun _ => rfl), hn]) (rd_news (f := itl) (k := 6) (fun _ => rfl) (by decide) hrd) ?_ (by unfold maxLen; omega) (by omega) hb ?_
    · intro u hu
      obtain ⟨y, _, hy⟩ := List.mem_flatMap.1 hu
      exact List.all_eq_true.1 (show (itl y).all (·.oneCell') = true from rfl) u hy
    · intro v' w' h2 h3 h4
      rw [hd]
      exact h v' w' (by simpa using h2) h3
theorem appNI {ops : Array Oper} {o : Oper} {a : Act} {w : World} {K : Act → World → Prop} {Q : Exit → Act → World → Prop} {E : Prop} (hw : Region.wanted o (yielded ops a.tmps) = true) (d : Tmp) (hd : o.dst = some d) (s x : Operand)
    (ho : o.op = .call { callee := .builtin .append, args := #[s, x], argTypes := #[ 23, 23 ] })
    (n0 : Nat) (v : Value) (n : Nat) (xs : List Value) (hs : a.eval s = v) (hown : w.ownsRow n0 53 6 v n xs) (g : Nat) (y : ((Int × Int) × ((Int × Int) × (Int × Int)))) (hx : a.eval x = .slice (some ⟨g, 0, none⟩) 1 1)
    (hg : w.heap[g]? = some (.cells (itl y).toArray 53 (0, 0))) (hl : n ≤ 1048576) (hb : n0 ≤ w.heap.size)
    (h : ∀ b c w', n + 1 ≤ c → w'.ownsRow n0 53 6 (.slice (some ⟨b, 0, none⟩) (n + 1) c) (n + 1) (xs ++ itl y) → w.grownBy w' v.ownBlock → K (a.put (some d) (.slice (some ⟨b, 0, none⟩) (n + 1) c)) w') :
    if Region.wanted o (yielded ops a.tmps) = true then Oper.wp Tryz.prog o a w K Q else E := by
  obtain ⟨i0, hi, hz0, hz1, hz2⟩ := info_of infoItem
  rw [if_pos hw]
  refine wp_append_own w s x 23 ho n0 53 i0 _ 6 48 Tryz.underlying23 hi hz0 hz1 hz2 rfl (by omega) v n xs hs hown ⟨g, 0, none⟩ 1 1 (itl y) hx rfl ?_ (List.all_eq_true.1 (show (itl y).all (·.oneCell') = true from rfl)) (by unfold maxLen; omega) (by omega) hb ?_
  · intro j u hu
    rw [Addr.add_mid, Nat.zero_add, cell_of_row _ _ j _ _ _ hg]
    simpa using hu
  · intro v' w' h2 h3 h4
    rw [hd]
    rcases h2.2 with ⟨_, h0⟩ | ⟨g', cap, cur, rfl, _, _, hc, _⟩
    · omega
    · exact h g' cap w' hc h2 h3
/- The message's lists with room behind them. -/
def LN (n : Nat) (w : World) (m : Msg) (ct : List Value) : Prop := ∃ gL cL gJ cJ gI cI, ct = mgl m (.slice (some ⟨gL, 0, none⟩) m.rk.2.1.length cL) (.slice (some ⟨gJ, 0, none⟩) m.rk.2.2.1.length cJ) (.slice (some ⟨gI, 0, none⟩) m.rk.2.2.2.length cI) ∧
  w.ownsRow n 55 2 (.slice (some ⟨gL, 0, none⟩) (m.rk.2.1.length + 1) cL) (m.rk.2.1.length + 1) (m.rk.2.1.flatMap stl ++ stl (-7, 0)) ∧
  w.ownsRow n 55 2 (.slice (some ⟨gJ, 0, none⟩) (m.rk.2.2.1.length + 1) cJ) (m.rk.2.2.1.length + 1) (m.rk.2.2.1.flatMap stl ++ stl (-8, 0)) ∧
  w.ownsRow n 53 6 (.slice (some ⟨gI, 0, none⟩) (m.rk.2.2.2.length + 1) cI) (m.rk.2.2.2.length + 1) (m.rk.2.2.2.flatMap itl ++ itl ((-9, 0), ((0, 0), (0, 0)))) ∧
  (m.rk.2.1.length + 1 ≤ cL ∧ m.rk.2.2.1.length + 1 ≤ cJ ∧ m.rk.2.2.2.length + 1 ≤ cI) ∧ (m.rk.2.1.length < 4611686018427387904 ∧ m.rk.2.2.1.length < 4611686018427387904 ∧ m.rk.2.2.2.length < 4611686018427387904 ∧ m.sd.2.2.size < 4611686018427387904)
theorem rd_front {α : Type} {f : α → List Value} {k : Nat} {w : World} {a : Option Addr} {l m : List α} (h : RdV f k w a (l ++ m)) : RdV f k w a l := fun i hi => by
  obtain ⟨b, o, e, hr⟩ := h i (by rw [List.length_append]; omega)
  rw [List.getElem_append_left hi] at hr
  exact ⟨b, o, e, hr⟩
theorem rd_more {α : Type} {f : α → List Value} {k : Nat} (hf : ∀ x, (f x).length = k) {w : World} {b : Nat} {T : TypeId} {a : Option Addr} {c : Nat} {l : List α} {x : α} (h : w.ownsRow b T k (.slice a (l.length + 1) c) (l.length + 1) (l.flatMap f ++ f x)) : RdV f k w a l := by
  have h2 : w.ownsRow b T k (.slice a (l ++ [x]).length c) (l ++ [x]).length ((l ++ [x]).flatMap f) := by simpa using h
  exact rd_front (rd_owns hf h2)
section
variable {n : Nat} {w w' : World} {m : Msg} {ct : List Value}
theorem LN.mv (h : LN n w m ct) : MV w m ct := by
  obtain ⟨gL, cL, gJ, cJ, gI, cI, e, oL, oJ, oI, _, n1, n2, n3, n4⟩ := h
  exact ⟨_, _, _, cL, cJ, cI, e, ⟨rd_more (f := stl) (fun _ => rfl) oL, rd_more (f := stl) (fun _ => rfl) oJ, rd_more (f := itl) (fun _ => rfl) oI, n1, n2, n3, n4⟩⟩
theorem LN.block (h : LN n w m ct) (hk : ∀ g, n ≤ g → g < w.heap.size → w'.heap[g]? = w.heap[g]?) : LN n w' m ct := by
  obtain ⟨gL, cL, gJ, cJ, gI, cI, e, oL, oJ, oI, r⟩ := h
  exact ⟨gL, cL, gJ, cJ, gI, cI, e, owns_block oL hk, owns_block oJ hk, owns_block oI hk, r⟩
theorem LN.later (h : LN n w m ct) (hb : Below w.heap.size w w') : LN n w' m ct := h.block fun g _ hg => hb.block g hg
end
set_option maxRecDepth 100000 in
set_option maxHeartbeats 4000000 in
theorem lent_any {w : World} {m : Msg} {ct : List Value} (h : MV w m ct) (hn : m.rk.2.1.length ≤ 1048576 ∧ m.rk.2.2.1.length ≤ 1048576 ∧ m.rk.2.2.2.length ≤ 1048576) : Calls Tryz.prog 13 #[.agg ct.toArray] w fun e w' => ∃ dt, e = .returned (.agg dt.toArray) ∧ LN w.heap.size w' m dt ∧ Below w.heap.size w w' := by
  obtain ⟨aL, aJ, aI, cL, cJ, cI, rfl, hr⟩ := h
  have HNS : Hid (m.sd.2.2.size < 4611686018427387904) := hr.ns
  unfold mgv
  have hM := heap_alloc_last w (.cells (mgl m (.slice aL m.rk.2.1.length cL) (.slice aJ m.rk.2.2.1.length cJ) (.slice aI m.rk.2.2.2.length cI)).toArray 38)
  have hb1 := below_alloc w (.cells (mgl m (.slice aL m.rk.2.1.length cL) (.slice aJ m.rk.2.2.1.length cJ) (.slice aI m.rk.2.2.2.length cI)).toArray 38)
  have hb2 := below_alloc (w.alloc (.cells (mgl m (.slice aL m.rk.2.1.length cL) (.slice aJ m.rk.2.2.1.length cJ) (.slice aI m.rk.2.2.2.length cI)).toArray 38)) (.cells (mgl ⟨0, zR, zQ, zP, zD⟩ (.slice none 0 0) (.slice none 0 0) (.slice none 0 0)).toArray 38)
  have hD := heap_alloc_last (w.alloc (.cells (mgl m (.slice aL m.rk.2.1.length cL) (.slice aJ m.rk.2.2.1.length cJ) (.slice aI m.rk.2.2.2.length cI)).toArray 38)) (.cells (mgl ⟨0, zR, zQ, zP, zD⟩ (.slice none 0 0) (.slice none 0 0) (.slice none 0 0)).toArray 38)
  rw [World.size_alloc] at hD
  have hM := row_later hM hb2
  have HB : Hid _ := Below.join hb1 hb2
  clear hb1 hb2
  obtain ⟨kd, ⟨ep, L, J, I⟩, rq, rp, sd⟩ := m
  have HRL : Hid (RdV stl 2 w aL L) := hr.l
  have HRJ : Hid (RdV stl 2 w aJ J) := hr.j
  have HRI : Hid (RdV itl 6 w aI I) := hr.i
  dsimp only at hn hM hD HB HNS ⊢
  obtain ⟨nL, hnL⟩ : ∃ n, L.length = n := ⟨_, rfl⟩
  obtain ⟨nJ, hnJ⟩ : ∃ n, J.length = n := ⟨_, rfl⟩
  obtain ⟨nI, hnI⟩ : ∃ n, I.length = n := ⟨_, rfl⟩
  have HNL : Hid (L.length = nL) := hnL
  have HNJ : Hid (J.length = nJ) := hnJ
  have HNI : Hid (I.length = nI) := hnI
  rw [hnL, hnJ, hnI] at hn hM HB hD
  rw [hnL, hnJ, hnI]
  clear hnL hnJ hnI hr
  obtain ⟨hlL, hlJ, hlI⟩ := hn
  go_enter Tryz.func13, Tryz.ntmps13
  go_upto_region 1 with (fail)
  rw [mgz 0]
  generalize (w.alloc (.cells (mgl ⟨kd, (ep, L, J, I), rq, rp, sd⟩ (.slice aL nL cL) (.slice aJ nJ cJ) (.slice aI nI cI)).toArray 38)).alloc (.cells (mgl ⟨0, zR, zQ, zP, zD⟩ (.slice none 0 0) (.slice none 0 0) (.slice none 0 0)).toArray 38) = w0 at *
  obtain ⟨Db, hDe⟩ : ∃ D, w.heap.size + 1 = D := ⟨_, rfl⟩
  rw [hDe] at hD ⊢
  obtain ⟨A, hAe⟩ : ∃ A, w.heap.size = A := ⟨_, rfl⟩
  have HAD : Hid (w.heap.size = A ∧ A + 1 = Db ∧ Db < w0.heap.size) := ⟨hAe, by omega, row_lt hD⟩
  rw [hAe] at hM ⊢
  clear hAe hDe
  have HM0 : Hid (MgAt w0 A ⟨kd, (ep, L, J, I), rq, rp, sd⟩ (.slice aL nL cL) (.slice aJ nJ cJ) (.slice aI nI cI)) := hM
  have HD0 : Hid (w0.heap[Db]? = some (.cells (mgl ⟨0, zR, zQ, zP, zD⟩ (.slice none 0 0) (.slice none 0 0) (.slice none 0 0)).toArray 38 (0, 0))) := hD
  have HB0 : Hid (Below w.heap.size w w0) := HB.out
  clear hM hD HB
  go_cut [] (fun wx => ∃ g cp, (MgAt wx A ⟨kd, (ep, L, J, I), rq, rp, sd⟩ (.slice (some ⟨g, 0, none⟩) nL cp) (.slice aJ nJ cJ) (.slice aI nI cI)) ∧ (wx.ownsRow w0.heap.size 55 2 (.slice (some ⟨g, 0, none⟩) (nL + 1) cp) (nL + 1) (L.flatMap stl ++ stl (-7, 0))) ∧ (nL + 1 ≤ cp) ∧ (Kept (fun k => k = A) w0 wx))
  case first =>
    have HBZ : Hid (A < w0.heap.size) := row_lt HM0.out
    have HRX : Hid (RdV stl 2 w0 aL L) := HRL.out.later HB0.out
    refine Till.region [15] (fun W => W.cell? ⟨A, 2, none⟩ = some (.slice aL nL cL)) (by kernel_rfl) ?_
    have KB : Hid (Below w0.heap.size w0 w0.drew) := drew_below w0
    generalize w0.drew = W at *
    have hHeld : W.cell? ⟨A, 2, none⟩ = some (.slice aL nL cL) := (HM0.out.later KB.out).cell 2 _ rfl
    refine Till.takeFree (i := 1) (oi := { dst := some 4, op := Op.fieldAddr 38 (Operand.tmp 1) 1, type := _, pos := _, after := _, guard := none }) (x := .pointer (some ⟨A, 1, none⟩)) rfl (by decide) (by kernel_rfl) (by kernel_rfl) (by kernel_rfl) (fun _ _ _ h => h) (Or.inl ⟨by rfl, fun w _ => by go_simp⟩) hHeld ?_
    simp only [Act.put, List.setIfInBounds_toArray, List.set_cons_zero, List.set_cons_succ]
    refine Till.takeFree (i := 2) (oi := { dst := some 5, op := Op.fieldAddr 25 (Operand.tmp 4) 1, type := _, pos := _, after := _, guard := none }) (x := .pointer (some ⟨A, 2, none⟩)) rfl (by decide) (by kernel_rfl) (by kernel_rfl) (by kernel_rfl) (fun _ _ _ h => h) (Or.inl ⟨by rfl, fun w _ => by go_simp⟩) hHeld ?_
    simp only [Act.put, List.setIfInBounds_toArray, List.set_cons_zero, List.set_cons_succ]
    refine Till.take (i := 3) 15 (oi := { dst := some 6, op := Op.load 22 (Operand.tmp 5), type := _, pos := _, after := _, guard := none }) (x := (.slice aL nL cL)) rfl (by decide) (by kernel_rfl) (by decide) (by kernel_rfl) (by kernel_rfl) (by kernel_rfl) (by kernel_rfl) (fun _ _ _ h => h) (Or.inl ⟨by rfl, fun w hSw => by (try dsimp only at hSw); go_simp⟩) hHeld ?_
    simp only [Act.put, List.setIfInBounds_toArray, List.set_cons_zero, List.set_cons_succ]
    refine Till.takeFree (i := 5) (oi := { dst := some 8, op := Op.build 55 #[(0, Operand.const (.int .i64 (-7)))], type := _, pos := _, after := _, guard := none }) (x := .agg #[.int .i64 (-7), .int .i64 0]) rfl (by decide) (by kernel_rfl) (by kernel_rfl) (by kernel_rfl) (fun _ _ _ h => h) (Or.inl ⟨by rfl, fun w _ => by go_simp⟩) hHeld ?_
    simp only [Act.put, List.setIfInBounds_toArray, List.set_cons_zero, List.set_cons_succ]
    refine Till.takeFree (i := 8) (oi := { dst := some 11, op := Op.fieldAddr 38 (Operand.tmp 1) 1, type := _, pos := _, after := _, guard := none }) (x := .pointer (some ⟨A, 1, none⟩)) rfl (by decide) (by kernel_rfl) (by kernel_rfl) (by kernel_rfl) (fun _ _ _ h => h) (Or.inl ⟨by rfl, fun w _ => by go_simp⟩) hHeld ?_
    simp only [Act.put, List.setIfInBounds_toArray, List.set_cons_zero, List.set_cons_succ]
    refine Till.takeFree (i := 9) (oi := { dst := some 12, op := Op.fieldAddr 25 (Operand.tmp 11) 1, type := _, pos := _, after := _, guard := none }) (x := .pointer (some ⟨A, 2, none⟩)) rfl (by decide) (by kernel_rfl) (by kernel_rfl) (by kernel_rfl) (fun _ _ _ h => h) (Or.inl ⟨by rfl, fun w _ => by go_simp⟩) hHeld ?_
    simp only [Act.put, List.setIfInBounds_toArray, List.set_cons_zero, List.set_cons_succ]
    refine Till.take (i := 10) 15 (oi := { dst := some 13, op := Op.load 22 (Operand.tmp 12), type := _, pos := _, after := _, guard := none }) (x := (.slice aL nL cL)) rfl (by decide) (by kernel_rfl) (by decide) (by kernel_rfl) (by kernel_rfl) (by kernel_rfl) (by kernel_rfl) (fun _ _ _ h => h) (Or.inl ⟨by rfl, fun w hSw => by (try dsimp only at hSw); go_simp⟩) hHeld ?_
    simp only [Act.put, List.setIfInBounds_toArray, List.set_cons_zero, List.set_cons_succ]
    refine Till.takeFree (i := 11) (oi := { dst := some 14, op := Op.call { callee := Callee.builtin Builtin.len, args := #[Operand.tmp 13], argTypes := _ }, type := _, pos := _, after := _, guard := none }) (x := .int .i64 (nL : Int)) rfl (by decide) (by kernel_rfl) (by kernel_rfl) (by kernel_rfl) (fun _ _ _ h => h) (Or.inl ⟨by rfl, fun w _ => by go_simp⟩) hHeld ?_
    simp only [Act.put, List.setIfInBounds_toArray, List.set_cons_zero, List.set_cons_succ]
    refine Till.two (i := 0) (j := 6) (o := { dst := some 3, op := Op.buildSlice 22 0 #[], type := _, pos := _, after := _, guard := none }) (o' := { dst := some 9, op := Op.buildSlice 22 1 #[(0, Operand.tmp 8)], type := _, pos := _, after := _, guard := none }) rfl rfl (by kernel_rfl) (fun K9 hK => ?_) (fun K9 hK => ?_)
    · go_simp
      have KB2 : Hid (Below w0.heap.size w0 (W.alloc (.cells #[] 55))) := Below.plus KB.out _
      have HE : Hid ((W.alloc (.cells #[] 55)).ownsRow w0.heap.size 55 2 (.slice (some ⟨W.heap.size, 0, none⟩) 0 0) 0 []) := row0_new W _ _ _ KB.out.size
      refine hK.out _ _ (fun _ => (HM0.out.later KB2.out).cell 2 _ rfl) ?_
      clear hK K9
      try simp only [Act.put, List.setIfInBounds_toArray, List.set_cons_zero, List.set_cons_succ]
      clear hHeld KB
      generalize W.alloc (.cells #[] 55) = W1 at *
      generalize hE0 : W.heap.size = E0 at *
      have HE0 : Hid (E0 < W1.heap.size) := by have := HE.out.lt E0 rfl; exact this.2
      clear hE0
      have hHeld : W1.cell? ⟨A, 2, none⟩ = some (.slice aL nL cL) := (HM0.out.later KB2.out).cell 2 _ rfl
      refine Till.two (i := 4) (j := 6) (o := { dst := some 7, op := Op.call { callee := Callee.builtin Builtin.append, args := #[Operand.tmp 3, Operand.tmp 6], argTypes := _ }, type := _, pos := _, after := _, guard := none }) (o' := { dst := some 9, op := Op.buildSlice 22 1 #[(0, Operand.tmp 8)], type := _, pos := _, after := _, guard := none }) rfl rfl (by kernel_rfl) (fun K9 hK => ?_) (fun K9 hK => ?_)
      · refine appRS rfl 7 rfl _ _ rfl w0.heap.size (.slice (some ⟨E0, 0, none⟩) 0 0) rfl HE.out aL cL nL L HNL.out rfl (HRX.out.later KB2.out) hlL KB2.out.size ?_
        intro v4 W4 hown hg
        have KB4 : Hid (Below w0.heap.size w0 W4) := Rb.below_grown KB2.out hg KB2.out.size (fun j hj => (HE.out.lt j hj).1)
        have HO : Hid (W4.ownsRow w0.heap.size 55 2 v4 nL (L.flatMap stl)) := hown
        refine hK.out _ _ (fun _ => (HM0.out.later KB4.out).cell 2 _ rfl) ?_
        clear hK K9
        try simp only [Act.put, List.setIfInBounds_toArray, List.set_cons_zero, List.set_cons_succ]
        clear hHeld KB2 HE hown hg
        have hHeld : W4.cell? ⟨A, 2, none⟩ = some (.slice aL nL cL) := (HM0.out.later KB4.out).cell 2 _ rfl
        refine Till.one (i := 6) (o := { dst := some 9, op := Op.buildSlice 22 1 #[(0, Operand.tmp 8)], type := _, pos := _, after := _, guard := none }) rfl (by kernel_rfl) (fun K9 hK => ?_)
        go_simp
        have KB3 : Hid (Below w0.heap.size w0 (W4.alloc (.cells #[.int .i64 (-7), .int .i64 0] 55))) := Below.plus KB4.out _
        have HS : Hid ((W4.alloc (.cells #[.int .i64 (-7), .int .i64 0] 55)).heap[W4.heap.size]? = some (.cells #[.int .i64 (-7), .int .i64 0] 55 (0, 0))) := heap_alloc_last _ _
        have HO2 : Hid ((W4.alloc (.cells #[.int .i64 (-7), .int .i64 0] 55)).ownsRow w0.heap.size 55 2 v4 nL (L.flatMap stl)) := owns_later HO.out (below_alloc _ _)
        refine hK.out _ _ (fun _ => (HM0.out.later KB3.out).cell 2 _ rfl) ?_
        clear hK K9
        try simp only [Act.put, List.setIfInBounds_toArray, List.set_cons_zero, List.set_cons_succ]
        clear hHeld KB4
        generalize W4.alloc (.cells #[.int .i64 (-7), .int .i64 0] 55) = W6 at *
        generalize W4.heap.size = g1 at *
        clear HO
        have hHeld : W6.cell? ⟨A, 2, none⟩ = some (.slice aL nL cL) := (HM0.out.later KB3.out).cell 2 _ rfl
        refine Till.one (i := 7) (o := { dst := some 10, op := Op.call { callee := Callee.builtin Builtin.append, args := #[Operand.tmp 7, Operand.tmp 9], argTypes := _ }, type := _, pos := _, after := _, guard := none }) rfl (by kernel_rfl) (fun K9 hK => ?_)
        refine appNS rfl 10 rfl _ _ rfl w0.heap.size v4 nL (L.flatMap stl) rfl HO2.out g1 (-7, 0) rfl HS.out hlL KB3.out.size ?_
        intro g7 c7 W7 hc7 hown hg
        have KB7 : Hid (Below w0.heap.size w0 W7) := Rb.below_grown KB3.out hg KB3.out.size (fun j hj => (HO2.out.lt j hj).1)
        have HO7 : Hid (W7.ownsRow w0.heap.size 55 2 (.slice (some ⟨g7, 0, none⟩) (nL + 1) c7) (nL + 1) (L.flatMap stl ++ stl (-7, 0))) := hown
        have HC7 : Hid (nL + 1 ≤ c7) := hc7
        refine hK.out _ _ (fun _ => (HM0.out.later KB7.out).cell 2 _ rfl) ?_
        clear hK K9
        try simp only [Act.put, List.setIfInBounds_toArray, List.set_cons_zero, List.set_cons_succ]
        clear hHeld hown hg
        have hHeld : W7.cell? ⟨A, 2, none⟩ = some (.slice aL nL cL) := (HM0.out.later KB7.out).cell 2 _ rfl
        have d1 : (0 : Int) ≤ (nL : Int) := by omega
        have d2 : nL ≤ c7 := by omega
        have d3 : (nL : Int) ≤ (c7 : Int) := by omega
        refine Till.takeFree (i := 12) (oi := { dst := some 15, op := Op.slice 22 (Operand.tmp 10) none (some (Operand.tmp 14)) none, type := _, pos := _, after := _, guard := none }) (x := .slice (some ⟨g7, 0, none⟩) nL c7) rfl (by decide) (by kernel_rfl) (by kernel_rfl) (by kernel_rfl) (fun _ _ _ h => h) (Or.inl ⟨by rfl, fun w _ => by go_simp⟩) hHeld ?_
        simp only [Act.put, List.setIfInBounds_toArray, List.set_cons_zero, List.set_cons_succ]
        refine Till.takeFree (i := 13) (oi := { dst := some 16, op := Op.fieldAddr 38 (Operand.tmp 1) 1, type := _, pos := _, after := _, guard := none }) (x := .pointer (some ⟨A, 1, none⟩)) rfl (by decide) (by kernel_rfl) (by kernel_rfl) (by kernel_rfl) (fun _ _ _ h => h) (Or.inl ⟨by rfl, fun w _ => by go_simp⟩) hHeld ?_
        simp only [Act.put, List.setIfInBounds_toArray, List.set_cons_zero, List.set_cons_succ]
        refine Till.takeFree (i := 14) (oi := { dst := some 17, op := Op.fieldAddr 25 (Operand.tmp 16) 1, type := _, pos := _, after := _, guard := none }) (x := .pointer (some ⟨A, 2, none⟩)) rfl (by decide) (by kernel_rfl) (by kernel_rfl) (by kernel_rfl) (fun _ _ _ h => h) (Or.inl ⟨by rfl, fun w _ => by go_simp⟩) hHeld ?_
        simp only [Act.put, List.setIfInBounds_toArray, List.set_cons_zero, List.set_cons_succ]
        refine Till.one (i := 15) (o := { dst := none, op := Op.store 22 (Operand.tmp 17) (Operand.tmp 15), type := _, pos := _, after := _, guard := none }) rfl (by kernel_rfl) (fun K9 hK => ?_)
        have f7 := row_fr (HM0.out.later KB7.out) 2
        go_simp
        refine hK.out _ _ (fun h => absurd h (by rintro ⟨c, hc, he⟩; revert hc he; decide +revert)) ?_
        clear hK K9
        try simp only [Act.put, List.setIfInBounds_toArray, List.set_cons_zero, List.set_cons_succ]
        refine Till.rest (by kernel_rfl) ?_
        refine wpAny_done (by kernel_rfl) ?_ _
        have hmg : MgAt (W7.setCell ⟨A, 2, none⟩ (.slice (some ⟨g7, 0, none⟩) nL c7)) A ⟨kd, (ep, L, J, I), rq, rp, sd⟩ (.slice (some ⟨g7, 0, none⟩) nL c7) (.slice aJ nJ cJ) (.slice aI nI cI) := row_set (HM0.out.later KB7.out) 2 _
        have kM := (Kept.refl (fun k => k = A) W7).setCell (p := ⟨A, 2, none⟩) (fun _ => rfl) (.slice (some ⟨g7, 0, none⟩) nL c7)
        have hro := kM.row HO7.out (fun j hj e => by have h1 := (HO7.out.lt j hj).1; have h2 := HBZ.out; omega)
        have kK := (Kept.ofBelow (F := fun k => k = A) KB7.out).trans kM (fun _ _ e => e)
        have HF : Hid _ := And.intro hmg (And.intro hro (And.intro HC7.out kK))
        clear hmg kM hro kK hHeld f7
        go_wp2_with fail
        go_meet
        case rel => exact ⟨g7, c7, HF.out⟩
      · go_simp
        have KB3 : Hid (Below w0.heap.size w0 (W1.alloc (.cells #[.int .i64 (-7), .int .i64 0] 55))) := Below.plus KB2.out _
        have HS : Hid ((W1.alloc (.cells #[.int .i64 (-7), .int .i64 0] 55)).heap[W1.heap.size]? = some (.cells #[.int .i64 (-7), .int .i64 0] 55 (0, 0))) := heap_alloc_last _ _
        have HE2 : Hid ((W1.alloc (.cells #[.int .i64 (-7), .int .i64 0] 55)).ownsRow w0.heap.size 55 2 (.slice (some ⟨E0, 0, none⟩) 0 0) 0 []) := owns_later HE.out (below_alloc _ _)
        have HN2 : Hid (W1.heap.size ≠ E0) := by have := HE0.out; unfold Hid; omega
        refine hK.out _ _ (fun _ => (HM0.out.later KB3.out).cell 2 _ rfl) ?_
        clear hK K9
        try simp only [Act.put, List.setIfInBounds_toArray, List.set_cons_zero, List.set_cons_succ]
        clear hHeld KB2
        generalize W1.alloc (.cells #[.int .i64 (-7), .int .i64 0] 55) = W6 at *
        generalize W1.heap.size = g1 at *
        clear HE HE0
        have hHeld : W6.cell? ⟨A, 2, none⟩ = some (.slice aL nL cL) := (HM0.out.later KB3.out).cell 2 _ rfl
        refine Till.one (i := 4) (o := { dst := some 7, op := Op.call { callee := Callee.builtin Builtin.append, args := #[Operand.tmp 3, Operand.tmp 6], argTypes := _ }, type := _, pos := _, after := _, guard := none }) rfl (by kernel_rfl) (fun K9 hK => ?_)
        refine appRS rfl 7 rfl _ _ rfl w0.heap.size (.slice (some ⟨E0, 0, none⟩) 0 0) rfl HE2.out aL cL nL L HNL.out rfl (HRX.out.later KB3.out) hlL KB3.out.size ?_
        intro v4 W4 hown hg
        have KB4 : Hid (Below w0.heap.size w0 W4) := Rb.below_grown KB3.out hg KB3.out.size (fun j hj => (HE2.out.lt j hj).1)
        have HO : Hid (W4.ownsRow w0.heap.size 55 2 v4 nL (L.flatMap stl)) := hown
        have HS4 : Hid (W4.heap[g1]? = some (.cells #[.int .i64 (-7), .int .i64 0] 55 (0, 0))) := (hg.block g1 (row_lt HS.out) (fun e => HN2.out (by cases e; rfl))).trans HS.out
        refine hK.out _ _ (fun _ => (HM0.out.later KB4.out).cell 2 _ rfl) ?_
        clear hK K9
        try simp only [Act.put, List.setIfInBounds_toArray, List.set_cons_zero, List.set_cons_succ]
        clear hHeld KB3 HE2 hown hg
        have hHeld : W4.cell? ⟨A, 2, none⟩ = some (.slice aL nL cL) := (HM0.out.later KB4.out).cell 2 _ rfl
        refine Till.one (i := 7) (o := { dst := some 10, op := Op.call { callee := Callee.builtin Builtin.append, args := #[Operand.tmp 7, Operand.tmp 9], argTypes := _ }, type := _, pos := _, after := _, guard := none }) rfl (by kernel_rfl) (fun K9 hK => ?_)
        refine appNS rfl 10 rfl _ _ rfl w0.heap.size v4 nL (L.flatMap stl) rfl HO.out g1 (-7, 0) rfl HS4.out hlL KB4.out.size ?_
        intro g7 c7 W7 hc7 hown hg
        have KB7 : Hid (Below w0.heap.size w0 W7) := Rb.below_grown KB4.out hg KB4.out.size (fun j hj => (HO.out.lt j hj).1)
        have HO7 : Hid (W7.ownsRow w0.heap.size 55 2 (.slice (some ⟨g7, 0, none⟩) (nL + 1) c7) (nL + 1) (L.flatMap stl ++ stl (-7, 0))) := hown
        have HC7 : Hid (nL + 1 ≤ c7) := hc7
        refine hK.out _ _ (fun _ => (HM0.out.later KB7.out).cell 2 _ rfl) ?_
        clear hK K9
        try simp only [Act.put, List.setIfInBounds_toArray, List.set_cons_zero, List.set_cons_succ]
        clear hHeld hown hg
        have hHeld : W7.cell? ⟨A, 2, none⟩ = some (.slice aL nL cL) := (HM0.out.later KB7.out).cell 2 _ rfl
        have d1 : (0 : Int) ≤ (nL : Int) := by omega
        have d2 : nL ≤ c7 := by omega
        have d3 : (nL : Int) ≤ (c7 : Int) := by omega
        refine Till.takeFree (i := 12) (oi := { dst := some 15, op := Op.slice 22 (Operand.tmp 10) none (some (Operand.tmp 14)) none, type := _, pos := _, after := _, guard := none }) (x := .slice (some ⟨g7, 0, none⟩) nL c7) rfl (by decide) (by kernel_rfl) (by kernel_rfl) (by kernel_rfl) (fun _ _ _ h => h) (Or.inl ⟨by rfl, fun w _ => by go_simp⟩) hHeld ?_
        simp only [Act.put, List.setIfInBounds_toArray, List.set_cons_zero, List.set_cons_succ]
        refine Till.takeFree (i := 13) (oi := { dst := some 16, op := Op.fieldAddr 38 (Operand.tmp 1) 1, type := _, pos := _, after := _, guard := none }) (x := .pointer (some ⟨A, 1, none⟩)) rfl (by decide) (by kernel_rfl) (by kernel_rfl) (by kernel_rfl) (fun _ _ _ h => h) (Or.inl ⟨by rfl, fun w _ => by go_simp⟩) hHeld ?_
        simp only [Act.put, List.setIfInBounds_toArray, List.set_cons_zero, List.set_cons_succ]
        refine Till.takeFree (i := 14) (oi := { dst := some 17, op := Op.fieldAddr 25 (Operand.tmp 16) 1, type := _, pos := _, after := _, guard := none }) (x := .pointer (some ⟨A, 2, none⟩)) rfl (by decide) (by kernel_rfl) (by kernel_rfl) (by kernel_rfl) (fun _ _ _ h => h) (Or.inl ⟨by rfl, fun w _ => by go_simp⟩) hHeld ?_
        simp only [Act.put, List.setIfInBounds_toArray, List.set_cons_zero, List.set_cons_succ]
        refine Till.one (i := 15) (o := { dst := none, op := Op.store 22 (Operand.tmp 17) (Operand.tmp 15), type := _, pos := _, after := _, guard := none }) rfl (by kernel_rfl) (fun K9 hK => ?_)
        have f7 := row_fr (HM0.out.later KB7.out) 2
        go_simp
        refine hK.out _ _ (fun h => absurd h (by rintro ⟨c, hc, he⟩; revert hc he; decide +revert)) ?_
        clear hK K9
        try simp only [Act.put, List.setIfInBounds_toArray, List.set_cons_zero, List.set_cons_succ]
        refine Till.rest (by kernel_rfl) ?_
        refine wpAny_done (by kernel_rfl) ?_ _
        have hmg : MgAt (W7.setCell ⟨A, 2, none⟩ (.slice (some ⟨g7, 0, none⟩) nL c7)) A ⟨kd, (ep, L, J, I), rq, rp, sd⟩ (.slice (some ⟨g7, 0, none⟩) nL c7) (.slice aJ nJ cJ) (.slice aI nI cI) := row_set (HM0.out.later KB7.out) 2 _
        have kM := (Kept.refl (fun k => k = A) W7).setCell (p := ⟨A, 2, none⟩) (fun _ => rfl) (.slice (some ⟨g7, 0, none⟩) nL c7)
        have hro := kM.row HO7.out (fun j hj e => by have h1 := (HO7.out.lt j hj).1; have h2 := HBZ.out; omega)
        have kK := (Kept.ofBelow (F := fun k => k = A) KB7.out).trans kM (fun _ _ e => e)
        have HF : Hid _ := And.intro hmg (And.intro hro (And.intro HC7.out kK))
        clear hmg kM hro kK hHeld f7
        go_wp2_with fail
        go_meet
        case rel => exact ⟨g7, c7, HF.out⟩
    · go_simp
      have KB3 : Hid (Below w0.heap.size w0 (W.alloc (.cells #[.int .i64 (-7), .int .i64 0] 55))) := Below.plus KB.out _
      have HS : Hid ((W.alloc (.cells #[.int .i64 (-7), .int .i64 0] 55)).heap[W.heap.size]? = some (.cells #[.int .i64 (-7), .int .i64 0] 55 (0, 0))) := heap_alloc_last _ _
      refine hK.out _ _ (fun _ => (HM0.out.later KB3.out).cell 2 _ rfl) ?_
      clear hK K9
      try simp only [Act.put, List.setIfInBounds_toArray, List.set_cons_zero, List.set_cons_succ]
      clear hHeld KB
      generalize W.alloc (.cells #[.int .i64 (-7), .int .i64 0] 55) = W6 at *
      generalize W.heap.size = g1 at *
      have hHeld : W6.cell? ⟨A, 2, none⟩ = some (.slice aL nL cL) := (HM0.out.later KB3.out).cell 2 _ rfl
      refine Till.one (i := 0) (o := { dst := some 3, op := Op.buildSlice 22 0 #[], type := _, pos := _, after := _, guard := none }) rfl (by kernel_rfl) (fun K9 hK => ?_)
      go_simp
      have KB2 : Hid (Below w0.heap.size w0 (W6.alloc (.cells #[] 55))) := Below.plus KB3.out _
      have HE : Hid ((W6.alloc (.cells #[] 55)).ownsRow w0.heap.size 55 2 (.slice (some ⟨W6.heap.size, 0, none⟩) 0 0) 0 []) := row0_new W6 _ _ _ KB3.out.size
      have HS2 : Hid ((W6.alloc (.cells #[] 55)).heap[g1]? = some (.cells #[.int .i64 (-7), .int .i64 0] 55 (0, 0))) := row_later HS.out (below_alloc _ _)
      have HN2 : Hid (g1 ≠ W6.heap.size) := by have := row_lt HS.out; unfold Hid; omega
      refine hK.out _ _ (fun _ => (HM0.out.later KB2.out).cell 2 _ rfl) ?_
      clear hK K9
      try simp only [Act.put, List.setIfInBounds_toArray, List.set_cons_zero, List.set_cons_succ]
      clear hHeld KB3
      generalize W6.alloc (.cells #[] 55) = W1 at *
      generalize W6.heap.size = E0 at *
      clear HS
      have hHeld : W1.cell? ⟨A, 2, none⟩ = some (.slice aL nL cL) := (HM0.out.later KB2.out).cell 2 _ rfl
      refine Till.one (i := 4) (o := { dst := some 7, op := Op.call { callee := Callee.builtin Builtin.append, args := #[Operand.tmp 3, Operand.tmp 6], argTypes := _ }, type := _, pos := _, after := _, guard := none }) rfl (by kernel_rfl) (fun K9 hK => ?_)
      refine appRS rfl 7 rfl _ _ rfl w0.heap.size (.slice (some ⟨E0, 0, none⟩) 0 0) rfl HE.out aL cL nL L HNL.out rfl (HRX.out.later KB2.out) hlL KB2.out.size ?_
      intro v4 W4 hown hg
      have KB4 : Hid (Below w0.heap.size w0 W4) := Rb.below_grown KB2.out hg KB2.out.size (fun j hj => (HE.out.lt j hj).1)
      have HO : Hid (W4.ownsRow w0.heap.size 55 2 v4 nL (L.flatMap stl)) := hown
      have HS4 : Hid (W4.heap[g1]? = some (.cells #[.int .i64 (-7), .int .i64 0] 55 (0, 0))) := (hg.block g1 (row_lt HS2.out) (fun e => HN2.out (by cases e; rfl))).trans HS2.out
      refine hK.out _ _ (fun _ => (HM0.out.later KB4.out).cell 2 _ rfl) ?_
      clear hK K9
      try simp only [Act.put, List.setIfInBounds_toArray, List.set_cons_zero, List.set_cons_succ]
      clear hHeld KB2 HE hown hg
      have hHeld : W4.cell? ⟨A, 2, none⟩ = some (.slice aL nL cL) := (HM0.out.later KB4.out).cell 2 _ rfl
      refine Till.one (i := 7) (o := { dst := some 10, op := Op.call { callee := Callee.builtin Builtin.append, args := #[Operand.tmp 7, Operand.tmp 9], argTypes := _ }, type := _, pos := _, after := _, guard := none }) rfl (by kernel_rfl) (fun K9 hK => ?_)
      refine appNS rfl 10 rfl _ _ rfl w0.heap.size v4 nL (L.flatMap stl) rfl HO.out g1 (-7, 0) rfl HS4.out hlL KB4.out.size ?_
      intro g7 c7 W7 hc7 hown hg
      have KB7 : Hid (Below w0.heap.size w0 W7) := Rb.below_grown KB4.out hg KB4.out.size (fun j hj => (HO.out.lt j hj).1)
      have HO7 : Hid (W7.ownsRow w0.heap.size 55 2 (.slice (some ⟨g7, 0, none⟩) (nL + 1) c7) (nL + 1) (L.flatMap stl ++ stl (-7, 0))) := hown
      have HC7 : Hid (nL + 1 ≤ c7) := hc7
      refine hK.out _ _ (fun _ => (HM0.out.later KB7.out).cell 2 _ rfl) ?_
      clear hK K9
      try simp only [Act.put, List.setIfInBounds_toArray, List.set_cons_zero, List.set_cons_succ]
      clear hHeld hown hg
      have hHeld : W7.cell? ⟨A, 2, none⟩ = some (.slice aL nL cL) := (HM0.out.later KB7.out).cell 2 _ rfl
      have d1 : (0 : Int) ≤ (nL : Int) := by omega
      have d2 : nL ≤ c7 := by omega
      have d3 : (nL : Int) ≤ (c7 : Int) := by omega
      refine Till.takeFree (i := 12) (oi := { dst := some 15, op := Op.slice 22 (Operand.tmp 10) none (some (Operand.tmp 14)) none, type := _, pos := _, after := _, guard := none }) (x := .slice (some ⟨g7, 0, none⟩) nL c7) rfl (by decide) (by kernel_rfl) (by kernel_rfl) (by kernel_rfl) (fun _ _ _ h => h) (Or.inl ⟨by rfl, fun w _ => by go_simp⟩) hHeld ?_
      simp only [Act.put, List.setIfInBounds_toArray, List.set_cons_zero, List.set_cons_succ]
      refine Till.takeFree (i := 13) (oi := { dst := some 16, op := Op.fieldAddr 38 (Operand.tmp 1) 1, type := _, pos := _, after := _, guard := none }) (x := .pointer (some ⟨A, 1, none⟩)) rfl (by decide) (by kernel_rfl) (by kernel_rfl) (by kernel_rfl) (fun _ _ _ h => h) (Or.inl ⟨by rfl, fun w _ => by go_simp⟩) hHeld ?_
      simp only [Act.put, List.setIfInBounds_toArray, List.set_cons_zero, List.set_cons_succ]
      refine Till.takeFree (i := 14) (oi := { dst := some 17, op := Op.fieldAddr 25 (Operand.tmp 16) 1, type := _, pos := _, after := _, guard := none }) (x := .pointer (some ⟨A, 2, none⟩)) rfl (by decide) (by kernel_rfl) (by kernel_rfl) (by kernel_rfl) (fun _ _ _ h => h) (Or.inl ⟨by rfl, fun w _ => by go_simp⟩) hHeld ?_
      simp only [Act.put, List.setIfInBounds_toArray, List.set_cons_zero, List.set_cons_succ]
      refine Till.one (i := 15) (o := { dst := none, op := Op.store 22 (Operand.tmp 17) (Operand.tmp 15), type := _, pos := _, after := _, guard := none }) rfl (by kernel_rfl) (fun K9 hK => ?_)
      have f7 := row_fr (HM0.out.later KB7.out) 2
      go_simp
      refine hK.out _ _ (fun h => absurd h (by rintro ⟨c, hc, he⟩; revert hc he; decide +revert)) ?_
      clear hK K9
      try simp only [Act.put, List.setIfInBounds_toArray, List.set_cons_zero, List.set_cons_succ]
      refine Till.rest (by kernel_rfl) ?_
      refine wpAny_done (by kernel_rfl) ?_ _
      have hmg : MgAt (W7.setCell ⟨A, 2, none⟩ (.slice (some ⟨g7, 0, none⟩) nL c7)) A ⟨kd, (ep, L, J, I), rq, rp, sd⟩ (.slice (some ⟨g7, 0, none⟩) nL c7) (.slice aJ nJ cJ) (.slice aI nI cI) := row_set (HM0.out.later KB7.out) 2 _
      have kM := (Kept.refl (fun k => k = A) W7).setCell (p := ⟨A, 2, none⟩) (fun _ => rfl) (.slice (some ⟨g7, 0, none⟩) nL c7)
      have hro := kM.row HO7.out (fun j hj e => by have h1 := (HO7.out.lt j hj).1; have h2 := HBZ.out; omega)
      have kK := (Kept.ofBelow (F := fun k => k = A) KB7.out).trans kM (fun _ _ e => e)
      have HF : Hid _ := And.intro hmg (And.intro hro (And.intro HC7.out kK))
      clear hmg kM hro kK hHeld f7
      go_wp2_with fail
      go_meet
      case rel => exact ⟨g7, c7, HF.out⟩
  case rest =>
    obtain ⟨gL, eL, hm, hro, hc, hk⟩ := hcut
    have HM1 : Hid (MgAt wc A ⟨kd, (ep, L, J, I), rq, rp, sd⟩ (.slice (some ⟨gL, 0, none⟩) nL eL) (.slice aJ nJ cJ) (.slice aI nI cI)) := hm
    have HB1 : Hid (Below w.heap.size w wc) := HB0.out.trans (hk.below HB0.out.size (fun k e => by have := HAD.out; omega))
    have HD1 : Hid (wc.heap[Db]? = some (.cells (mgl ⟨0, zR, zQ, zP, zD⟩ (.slice none 0 0) (.slice none 0 0) (.slice none 0 0)).toArray 38 (0, 0))) := row_kept HD0.out hk (by have := HAD.out; omega)
    have HCL : Hid (nL + 1 ≤ eL) := hc
    have HSZ1 : Hid (Db < wc.heap.size) := row_lt HD1.out
    have HOL : Hid (wc.ownsRow (Db + 1) 55 2 (.slice (some ⟨gL, 0, none⟩) (nL + 1) eL) (nL + 1) (L.flatMap stl ++ stl (-7, 0))) := owns_wide hro (by have := HAD.out; omega)
    clear hm hro hc hk HM0 HB0 HD0
    generalize hgw : wc = w1 at *
    clear hgw
    go_upto_region 2 with (fail)
    go_cut [] (fun wx => ∃ g cp, (MgAt wx A ⟨kd, (ep, L, J, I), rq, rp, sd⟩ (.slice (some ⟨gL, 0, none⟩) nL eL) (.slice (some ⟨g, 0, none⟩) nJ cp) (.slice aI nI cI)) ∧ (wx.ownsRow w1.heap.size 55 2 (.slice (some ⟨g, 0, none⟩) (nJ + 1) cp) (nJ + 1) (J.flatMap stl ++ stl (-8, 0))) ∧ (nJ + 1 ≤ cp) ∧ (Kept (fun k => k = A) w1 wx))
    case first =>
      have HBZ : Hid (A < w1.heap.size) := row_lt HM1.out
      have HRX : Hid (RdV stl 2 w1 aJ J) := HRJ.out.later HB1.out
      refine Till.region [15] (fun W => W.cell? ⟨A, 3, none⟩ = some (.slice aJ nJ cJ)) (by kernel_rfl) ?_
      have KB : Hid (Below w1.heap.size w1 w1.drew) := drew_below w1
      generalize w1.drew = W at *
      have hHeld : W.cell? ⟨A, 3, none⟩ = some (.slice aJ nJ cJ) := (HM1.out.later KB.out).cell 3 _ rfl
      refine Till.takeFree (i := 1) (oi := { dst := some 19, op := Op.fieldAddr 38 (Operand.tmp 1) 1, type := _, pos := _, after := _, guard := none }) (x := .pointer (some ⟨A, 1, none⟩)) rfl (by decide) (by kernel_rfl) (by kernel_rfl) (by kernel_rfl) (fun _ _ _ h => h) (Or.inl ⟨by rfl, fun w _ => by go_simp⟩) hHeld ?_
      simp only [Act.put, List.setIfInBounds_toArray, List.set_cons_zero, List.set_cons_succ]
      refine Till.takeFree (i := 2) (oi := { dst := some 20, op := Op.fieldAddr 25 (Operand.tmp 19) 2, type := _, pos := _, after := _, guard := none }) (x := .pointer (some ⟨A, 3, none⟩)) rfl (by decide) (by kernel_rfl) (by kernel_rfl) (by kernel_rfl) (fun _ _ _ h => h) (Or.inl ⟨by rfl, fun w _ => by go_simp⟩) hHeld ?_
      simp only [Act.put, List.setIfInBounds_toArray, List.set_cons_zero, List.set_cons_succ]
      refine Till.take (i := 3) 15 (oi := { dst := some 21, op := Op.load 22 (Operand.tmp 20), type := _, pos := _, after := _, guard := none }) (x := (.slice aJ nJ cJ)) rfl (by decide) (by kernel_rfl) (by decide) (by kernel_rfl) (by kernel_rfl) (by kernel_rfl) (by kernel_rfl) (fun _ _ _ h => h) (Or.inl ⟨by rfl, fun w hSw => by (try dsimp only at hSw); go_simp⟩) hHeld ?_
      simp only [Act.put, List.setIfInBounds_toArray, List.set_cons_zero, List.set_cons_succ]
      refine Till.takeFree (i := 5) (oi := { dst := some 23, op := Op.build 55 #[(0, Operand.const (.int .i64 (-8)))], type := _, pos := _, after := _, guard := none }) (x := .agg #[.int .i64 (-8), .int .i64 0]) rfl (by decide) (by kernel_rfl) (by kernel_rfl) (by kernel_rfl) (fun _ _ _ h => h) (Or.inl ⟨by rfl, fun w _ => by go_simp⟩) hHeld ?_
      simp only [Act.put, List.setIfInBounds_toArray, List.set_cons_zero, List.set_cons_succ]
      refine Till.takeFree (i := 8) (oi := { dst := some 26, op := Op.fieldAddr 38 (Operand.tmp 1) 1, type := _, pos := _, after := _, guard := none }) (x := .pointer (some ⟨A, 1, none⟩)) rfl (by decide) (by kernel_rfl) (by kernel_rfl) (by kernel_rfl) (fun _ _ _ h => h) (Or.inl ⟨by rfl, fun w _ => by go_simp⟩) hHeld ?_
      simp only [Act.put, List.setIfInBounds_toArray, List.set_cons_zero, List.set_cons_succ]
      refine Till.takeFree (i := 9) (oi := { dst := some 27, op := Op.fieldAddr 25 (Operand.tmp 26) 2, type := _, pos := _, after := _, guard := none }) (x := .pointer (some ⟨A, 3, none⟩)) rfl (by decide) (by kernel_rfl) (by kernel_rfl) (by kernel_rfl) (fun _ _ _ h => h) (Or.inl ⟨by rfl, fun w _ => by go_simp⟩) hHeld ?_
      simp only [Act.put, List.setIfInBounds_toArray, List.set_cons_zero, List.set_cons_succ]
      refine Till.take (i := 10) 15 (oi := { dst := some 28, op := Op.load 22 (Operand.tmp 27), type := _, pos := _, after := _, guard := none }) (x := (.slice aJ nJ cJ)) rfl (by decide) (by kernel_rfl) (by decide) (by kernel_rfl) (by kernel_rfl) (by kernel_rfl) (by kernel_rfl) (fun _ _ _ h => h) (Or.inl ⟨by rfl, fun w hSw => by (try dsimp only at hSw); go_simp⟩) hHeld ?_
      simp only [Act.put, List.setIfInBounds_toArray, List.set_cons_zero, List.set_cons_succ]
      refine Till.takeFree (i := 11) (oi := { dst := some 29, op := Op.call { callee := Callee.builtin Builtin.len, args := #[Operand.tmp 28], argTypes := _ }, type := _, pos := _, after := _, guard := none }) (x := .int .i64 (nJ : Int)) rfl (by decide) (by kernel_rfl) (by kernel_rfl) (by kernel_rfl) (fun _ _ _ h => h) (Or.inl ⟨by rfl, fun w _ => by go_simp⟩) hHeld ?_
      simp only [Act.put, List.setIfInBounds_toArray, List.set_cons_zero, List.set_cons_succ]
      refine Till.two (i := 0) (j := 6) (o := { dst := some 18, op := Op.buildSlice 22 0 #[], type := _, pos := _, after := _, guard := none }) (o' := { dst := some 24, op := Op.buildSlice 22 1 #[(0, Operand.tmp 23)], type := _, pos := _, after := _, guard := none }) rfl rfl (by kernel_rfl) (fun K9 hK => ?_) (fun K9 hK => ?_)
      · go_simp
        have KB2 : Hid (Below w1.heap.size w1 (W.alloc (.cells #[] 55))) := Below.plus KB.out _
        have HE : Hid ((W.alloc (.cells #[] 55)).ownsRow w1.heap.size 55 2 (.slice (some ⟨W.heap.size, 0, none⟩) 0 0) 0 []) := row0_new W _ _ _ KB.out.size
        refine hK.out _ _ (fun _ => (HM1.out.later KB2.out).cell 3 _ rfl) ?_
        clear hK K9
        try simp only [Act.put, List.setIfInBounds_toArray, List.set_cons_zero, List.set_cons_succ]
        clear hHeld KB
        generalize W.alloc (.cells #[] 55) = W1 at *
        generalize hE0 : W.heap.size = E0 at *
        have HE0 : Hid (E0 < W1.heap.size) := by have := HE.out.lt E0 rfl; exact this.2
        clear hE0
        have hHeld : W1.cell? ⟨A, 3, none⟩ = some (.slice aJ nJ cJ) := (HM1.out.later KB2.out).cell 3 _ rfl
        refine Till.two (i := 4) (j := 6) (o := { dst := some 22, op := Op.call { callee := Callee.builtin Builtin.append, args := #[Operand.tmp 18, Operand.tmp 21], argTypes := _ }, type := _, pos := _, after := _, guard := none }) (o' := { dst := some 24, op := Op.buildSlice 22 1 #[(0, Operand.tmp 23)], type := _, pos := _, after := _, guard := none }) rfl rfl (by kernel_rfl) (fun K9 hK => ?_) (fun K9 hK => ?_)
        · refine appRS rfl 22 rfl _ _ rfl w1.heap.size (.slice (some ⟨E0, 0, none⟩) 0 0) rfl HE.out aJ cJ nJ J HNJ.out rfl (HRX.out.later KB2.out) hlJ KB2.out.size ?_
          intro v4 W4 hown hg
          have KB4 : Hid (Below w1.heap.size w1 W4) := Rb.below_grown KB2.out hg KB2.out.size (fun j hj => (HE.out.lt j hj).1)
          have HO : Hid (W4.ownsRow w1.heap.size 55 2 v4 nJ (J.flatMap stl)) := hown
          refine hK.out _ _ (fun _ => (HM1.out.later KB4.out).cell 3 _ rfl) ?_
          clear hK K9
          try simp only [Act.put, List.setIfInBounds_toArray, List.set_cons_zero, List.set_cons_succ]
          clear hHeld KB2 HE hown hg
          have hHeld : W4.cell? ⟨A, 3, none⟩ = some (.slice aJ nJ cJ) := (HM1.out.later KB4.out).cell 3 _ rfl
          refine Till.one (i := 6) (o := { dst := some 24, op := Op.buildSlice 22 1 #[(0, Operand.tmp 23)], type := _, pos := _, after := _, guard := none }) rfl (by kernel_rfl) (fun K9 hK => ?_)
          go_simp
          have KB3 : Hid (Below w1.heap.size w1 (W4.alloc (.cells #[.int .i64 (-8), .int .i64 0] 55))) := Below.plus KB4.out _
          have HS : Hid ((W4.alloc (.cells #[.int .i64 (-8), .int .i64 0] 55)).heap[W4.heap.size]? = some (.cells #[.int .i64 (-8), .int .i64 0] 55 (0, 0))) := heap_alloc_last _ _
          have HO2 : Hid ((W4.alloc (.cells #[.int .i64 (-8), .int .i64 0] 55)).ownsRow w1.heap.size 55 2 v4 nJ (J.flatMap stl)) := owns_later HO.out (below_alloc _ _)
          refine hK.out _ _ (fun _ => (HM1.out.later KB3.out).cell 3 _ rfl) ?_
          clear hK K9
          try simp only [Act.put, List.setIfInBounds_toArray, List.set_cons_zero, List.set_cons_succ]
          clear hHeld KB4
          generalize W4.alloc (.cells #[.int .i64 (-8), .int .i64 0] 55) = W6 at *
          generalize W4.heap.size = g1 at *
          clear HO
          have hHeld : W6.cell? ⟨A, 3, none⟩ = some (.slice aJ nJ cJ) := (HM1.out.later KB3.out).cell 3 _ rfl
          refine Till.one (i := 7) (o := { dst := some 25, op := Op.call { callee := Callee.builtin Builtin.append, args := #[Operand.tmp 22, Operand.tmp 24], argTypes := _ }, type := _, pos := _, after := _, guard := none }) rfl (by kernel_rfl) (fun K9 hK => ?_)
          refine appNS rfl 25 rfl _ _ rfl w1.heap.size v4 nJ (J.flatMap stl) rfl HO2.out g1 (-8, 0) rfl HS.out hlJ KB3.out.size ?_
          intro g7 c7 W7 hc7 hown hg
          have KB7 : Hid (Below w1.heap.size w1 W7) := Rb.below_grown KB3.out hg KB3.out.size (fun j hj => (HO2.out.lt j hj).1)
          have HO7 : Hid (W7.ownsRow w1.heap.size 55 2 (.slice (some ⟨g7, 0, none⟩) (nJ + 1) c7) (nJ + 1) (J.flatMap stl ++ stl (-8, 0))) := hown
          have HC7 : Hid (nJ + 1 ≤ c7) := hc7
          refine hK.out _ _ (fun _ => (HM1.out.later KB7.out).cell 3 _ rfl) ?_
          clear hK K9
          try simp only [Act.put, List.setIfInBounds_toArray, List.set_cons_zero, List.set_cons_succ]
          clear hHeld hown hg
          have hHeld : W7.cell? ⟨A, 3, none⟩ = some (.slice aJ nJ cJ) := (HM1.out.later KB7.out).cell 3 _ rfl
          have d1 : (0 : Int) ≤ (nJ : Int) := by omega
          have d2 : nJ ≤ c7 := by omega
          have d3 : (nJ : Int) ≤ (c7 : Int) := by omega
          refine Till.takeFree (i := 12) (oi := { dst := some 30, op := Op.slice 22 (Operand.tmp 25) none (some (Operand.tmp 29)) none, type := _, pos := _, after := _, guard := none }) (x := .slice (some ⟨g7, 0, none⟩) nJ c7) rfl (by decide) (by kernel_rfl) (by kernel_rfl) (by kernel_rfl) (fun _ _ _ h => h) (Or.inl ⟨by rfl, fun w _ => by go_simp⟩) hHeld ?_
          simp only [Act.put, List.setIfInBounds_toArray, List.set_cons_zero, List.set_cons_succ]
          refine Till.takeFree (i := 13) (oi := { dst := some 31, op := Op.fieldAddr 38 (Operand.tmp 1) 1, type := _, pos := _, after := _, guard := none }) (x := .pointer (some ⟨A, 1, none⟩)) rfl (by decide) (by kernel_rfl) (by kernel_rfl) (by kernel_rfl) (fun _ _ _ h => h) (Or.inl ⟨by rfl, fun w _ => by go_simp⟩) hHeld ?_
          simp only [Act.put, List.setIfInBounds_toArray, List.set_cons_zero, List.set_cons_succ]
          refine Till.takeFree (i := 14) (oi := { dst := some 32, op := Op.fieldAddr 25 (Operand.tmp 31) 2, type := _, pos := _, after := _, guard := none }) (x := .pointer (some ⟨A, 3, none⟩)) rfl (by decide) (by kernel_rfl) (by kernel_rfl) (by kernel_rfl) (fun _ _ _ h => h) (Or.inl ⟨by rfl, fun w _ => by go_simp⟩) hHeld ?_
          simp only [Act.put, List.setIfInBounds_toArray, List.set_cons_zero, List.set_cons_succ]
          refine Till.one (i := 15) (o := { dst := none, op := Op.store 22 (Operand.tmp 32) (Operand.tmp 30), type := _, pos := _, after := _, guard := none }) rfl (by kernel_rfl) (fun K9 hK => ?_)
          have f7 := row_fr (HM1.out.later KB7.out) 3
          go_simp
          refine hK.out _ _ (fun h => absurd h (by rintro ⟨c, hc, he⟩; revert hc he; decide +revert)) ?_
          clear hK K9
          try simp only [Act.put, List.setIfInBounds_toArray, List.set_cons_zero, List.set_cons_succ]
          refine Till.rest (by kernel_rfl) ?_
          refine wpAny_done (by kernel_rfl) ?_ _
          have hmg : MgAt (W7.setCell ⟨A, 3, none⟩ (.slice (some ⟨g7, 0, none⟩) nJ c7)) A ⟨kd, (ep, L, J, I), rq, rp, sd⟩ (.slice (some ⟨gL, 0, none⟩) nL eL) (.slice (some ⟨g7, 0, none⟩) nJ c7) (.slice aI nI cI) := row_set (HM1.out.later KB7.out) 3 _
          have kM := (Kept.refl (fun k => k = A) W7).setCell (p := ⟨A, 3, none⟩) (fun _ => rfl) (.slice (some ⟨g7, 0, none⟩) nJ c7)
          have hro := kM.row HO7.out (fun j hj e => by have h1 := (HO7.out.lt j hj).1; have h2 := HBZ.out; omega)
          have kK := (Kept.ofBelow (F := fun k => k = A) KB7.out).trans kM (fun _ _ e => e)
          have HF : Hid _ := And.intro hmg (And.intro hro (And.intro HC7.out kK))
          clear hmg kM hro kK hHeld f7
          go_wp2_with fail
          go_meet
          case rel => exact ⟨g7, c7, HF.out⟩
        · go_simp
          have KB3 : Hid (Below w1.heap.size w1 (W1.alloc (.cells #[.int .i64 (-8), .int .i64 0] 55))) := Below.plus KB2.out _
          have HS : Hid ((W1.alloc (.cells #[.int .i64 (-8), .int .i64 0] 55)).heap[W1.heap.size]? = some (.cells #[.int .i64 (-8), .int .i64 0] 55 (0, 0))) := heap_alloc_last _ _
          have HE2 : Hid ((W1.alloc (.cells #[.int .i64 (-8), .int .i64 0] 55)).ownsRow w1.heap.size 55 2 (.slice (some ⟨E0, 0, none⟩) 0 0) 0 []) := owns_later HE.out (below_alloc _ _)
          have HN2 : Hid (W1.heap.size ≠ E0) := by have := HE0.out; unfold Hid; omega
          refine hK.out _ _ (fun _ => (HM1.out.later KB3.out).cell 3 _ rfl) ?_
          clear hK K9
          try simp only [Act.put, List.setIfInBounds_toArray, List.set_cons_zero, List.set_cons_succ]
          clear hHeld KB2
          generalize W1.alloc (.cells #[.int .i64 (-8), .int .i64 0] 55) = W6 at *
          generalize W1.heap.size = g1 at *
          clear HE HE0
          have hHeld : W6.cell? ⟨A, 3, none⟩ = some (.slice aJ nJ cJ) := (HM1.out.later KB3.out).cell 3 _ rfl
          refine Till.one (i := 4) (o := { dst := some 22, op := Op.call { callee := Callee.builtin Builtin.append, args := #[Operand.tmp 18, Operand.tmp 21], argTypes := _ }, type := _, pos := _, after := _, guard := none }) rfl (by kernel_rfl) (fun K9 hK => ?_)
          refine appRS rfl 22 rfl _ _ rfl w1.heap.size (.slice (some ⟨E0, 0, none⟩) 0 0) rfl HE2.out aJ cJ nJ J HNJ.out rfl (HRX.out.later KB3.out) hlJ KB3.out.size ?_
          intro v4 W4 hown hg
          have KB4 : Hid (Below w1.heap.size w1 W4) := Rb.below_grown KB3.out hg KB3.out.size (fun j hj => (HE2.out.lt j hj).1)
          have HO : Hid (W4.ownsRow w1.heap.size 55 2 v4 nJ (J.flatMap stl)) := hown
          have HS4 : Hid (W4.heap[g1]? = some (.cells #[.int .i64 (-8), .int .i64 0] 55 (0, 0))) := (hg.block g1 (row_lt HS.out) (fun e => HN2.out (by cases e; rfl))).trans HS.out
          refine hK.out _ _ (fun _ => (HM1.out.later KB4.out).cell 3 _ rfl) ?_
          clear hK K9
          try simp only [Act.put, List.setIfInBounds_toArray, List.set_cons_zero, List.set_cons_succ]
          clear hHeld KB3 HE2 hown hg
          have hHeld : W4.cell? ⟨A, 3, none⟩ = some (.slice aJ nJ cJ) := (HM1.out.later KB4.out).cell 3 _ rfl
          refine Till.one (i := 7) (o := { dst := some 25, op := Op.call { callee := Callee.builtin Builtin.append, args := #[Operand.tmp 22, Operand.tmp 24], argTypes := _ }, type := _, pos := _, after := _, guard := none }) rfl (by kernel_rfl) (fun K9 hK => ?_)
          refine appNS rfl 25 rfl _ _ rfl w1.heap.size v4 nJ (J.flatMap stl) rfl HO.out g1 (-8, 0) rfl HS4.out hlJ KB4.out.size ?_
          intro g7 c7 W7 hc7 hown hg
          have KB7 : Hid (Below w1.heap.size w1 W7) := Rb.below_grown KB4.out hg KB4.out.size (fun j hj => (HO.out.lt j hj).1)
          have HO7 : Hid (W7.ownsRow w1.heap.size 55 2 (.slice (some ⟨g7, 0, none⟩) (nJ + 1) c7) (nJ + 1) (J.flatMap stl ++ stl (-8, 0))) := hown
          have HC7 : Hid (nJ + 1 ≤ c7) := hc7
          refine hK.out _ _ (fun _ => (HM1.out.later KB7.out).cell 3 _ rfl) ?_
          clear hK K9
          try simp only [Act.put, List.setIfInBounds_toArray, List.set_cons_zero, List.set_cons_succ]
          clear hHeld hown hg
          have hHeld : W7.cell? ⟨A, 3, none⟩ = some (.slice aJ nJ cJ) := (HM1.out.later KB7.out).cell 3 _ rfl
          have d1 : (0 : Int) ≤ (nJ : Int) := by omega
          have d2 : nJ ≤ c7 := by omega
          have d3 : (nJ : Int) ≤ (c7 : Int) := by omega
          refine Till.takeFree (i := 12) (oi := { dst := some 30, op := Op.slice 22 (Operand.tmp 25) none (some (Operand.tmp 29)) none, type := _, pos := _, after := _, guard := none }) (x := .slice (some ⟨g7, 0, none⟩) nJ c7) rfl (by decide) (by kernel_rfl) (by kernel_rfl) (by kernel_rfl) (fun _ _ _ h => h) (Or.inl ⟨by rfl, fun w _ => by go_simp⟩) hHeld ?_
          simp only [Act.put, List.setIfInBounds_toArray, List.set_cons_zero, List.set_cons_succ]
          refine Till.takeFree (i := 13) (oi := { dst := some 31, op := Op.fieldAddr 38 (Operand.tmp 1) 1, type := _, pos := _, after := _, guard := none }) (x := .pointer (some ⟨A, 1, none⟩)) rfl (by decide) (by kernel_rfl) (by kernel_rfl) (by kernel_rfl) (fun _ _ _ h => h) (Or.inl ⟨by rfl, fun w _ => by go_simp⟩) hHeld ?_
          simp only [Act.put, List.setIfInBounds_toArray, List.set_cons_zero, List.set_cons_succ]
          refine Till.takeFree (i := 14) (oi := { dst := some 32, op := Op.fieldAddr 25 (Operand.tmp 31) 2, type := _, pos := _, after := _, guard := none }) (x := .pointer (some ⟨A, 3, none⟩)) rfl (by decide) (by kernel_rfl) (by kernel_rfl) (by kernel_rfl) (fun _ _ _ h => h) (Or.inl ⟨by rfl, fun w _ => by go_simp⟩) hHeld ?_
          simp only [Act.put, List.setIfInBounds_toArray, List.set_cons_zero, List.set_cons_succ]
          refine Till.one (i := 15) (o := { dst := none, op := Op.store 22 (Operand.tmp 32) (Operand.tmp 30), type := _, pos := _, after := _, guard := none }) rfl (by kernel_rfl) (fun K9 hK => ?_)
          have f7 := row_fr (HM1.out.later KB7.out) 3
          go_simp
          refine hK.out _ _ (fun h => absurd h (by rintro ⟨c, hc, he⟩; revert hc he; decide +revert)) ?_
          clear hK K9
          try simp only [Act.put, List.setIfInBounds_toArray, List.set_cons_zero, List.set_cons_succ]
          refine Till.rest (by kernel_rfl) ?_
          refine wpAny_done (by kernel_rfl) ?_ _
          have hmg : MgAt (W7.setCell ⟨A, 3, none⟩ (.slice (some ⟨g7, 0, none⟩) nJ c7)) A ⟨kd, (ep, L, J, I), rq, rp, sd⟩ (.slice (some ⟨gL, 0, none⟩) nL eL) (.slice (some ⟨g7, 0, none⟩) nJ c7) (.slice aI nI cI) := row_set (HM1.out.later KB7.out) 3 _
          have kM := (Kept.refl (fun k => k = A) W7).setCell (p := ⟨A, 3, none⟩) (fun _ => rfl) (.slice (some ⟨g7, 0, none⟩) nJ c7)
          have hro := kM.row HO7.out (fun j hj e => by have h1 := (HO7.out.lt j hj).1; have h2 := HBZ.out; omega)
          have kK := (Kept.ofBelow (F := fun k => k = A) KB7.out).trans kM (fun _ _ e => e)
          have HF : Hid _ := And.intro hmg (And.intro hro (And.intro HC7.out kK))
          clear hmg kM hro kK hHeld f7
          go_wp2_with fail
          go_meet
          case rel => exact ⟨g7, c7, HF.out⟩
      · go_simp
        have KB3 : Hid (Below w1.heap.size w1 (W.alloc (.cells #[.int .i64 (-8), .int .i64 0] 55))) := Below.plus KB.out _
        have HS : Hid ((W.alloc (.cells #[.int .i64 (-8), .int .i64 0] 55)).heap[W.heap.size]? = some (.cells #[.int .i64 (-8), .int .i64 0] 55 (0, 0))) := heap_alloc_last _ _
        refine hK.out _ _ (fun _ => (HM1.out.later KB3.out).cell 3 _ rfl) ?_
        clear hK K9
        try simp only [Act.put, List.setIfInBounds_toArray, List.set_cons_zero, List.set_cons_succ]
        clear hHeld KB
        generalize W.alloc (.cells #[.int .i64 (-8), .int .i64 0] 55) = W6 at *
        generalize W.heap.size = g1 at *
        have hHeld : W6.cell? ⟨A, 3, none⟩ = some (.slice aJ nJ cJ) := (HM1.out.later KB3.out).cell 3 _ rfl
        refine Till.one (i := 0) (o := { dst := some 18, op := Op.buildSlice 22 0 #[], type := _, pos := _, after := _, guard := none }) rfl (by kernel_rfl) (fun K9 hK => ?_)
        go_simp
        have KB2 : Hid (Below w1.heap.size w1 (W6.alloc (.cells #[] 55))) := Below.plus KB3.out _
        have HE : Hid ((W6.alloc (.cells #[] 55)).ownsRow w1.heap.size 55 2 (.slice (some ⟨W6.heap.size, 0, none⟩) 0 0) 0 []) := row0_new W6 _ _ _ KB3.out.size
        have HS2 : Hid ((W6.alloc (.cells #[] 55)).heap[g1]? = some (.cells #[.int .i64 (-8), .int .i64 0] 55 (0, 0))) := row_later HS.out (below_alloc _ _)
        have HN2 : Hid (g1 ≠ W6.heap.size) := by have := row_lt HS.out; unfold Hid; omega
        refine hK.out _ _ (fun _ => (HM1.out.later KB2.out).cell 3 _ rfl) ?_
        clear hK K9
        try simp only [Act.put, List.setIfInBounds_toArray, List.set_cons_zero, List.set_cons_succ]
        clear hHeld KB3
        generalize W6.alloc (.cells #[] 55) = W1 at *
        generalize W6.heap.size = E0 at *
        clear HS
        have hHeld : W1.cell? ⟨A, 3, none⟩ = some (.slice aJ nJ cJ) := (HM1.out.later KB2.out).cell 3 _ rfl
        refine Till.one (i := 4) (o := { dst := some 22, op := Op.call { callee := Callee.builtin Builtin.append, args := #[Operand.tmp 18, Operand.tmp 21], argTypes := _ }, type := _, pos := _, after := _, guard := none }) rfl (by kernel_rfl) (fun K9 hK => ?_)
        refine appRS rfl 22 rfl _ _ rfl w1.heap.size (.slice (some ⟨E0, 0, none⟩) 0 0) rfl HE.out aJ cJ nJ J HNJ.out rfl (HRX.out.later KB2.out) hlJ KB2.out.size ?_
        intro v4 W4 hown hg
        have KB4 : Hid (Below w1.heap.size w1 W4) := Rb.below_grown KB2.out hg KB2.out.size (fun j hj => (HE.out.lt j hj).1)
        have HO : Hid (W4.ownsRow w1.heap.size 55 2 v4 nJ (J.flatMap stl)) := hown
        have HS4 : Hid (W4.heap[g1]? = some (.cells #[.int .i64 (-8), .int .i64 0] 55 (0, 0))) := (hg.block g1 (row_lt HS2.out) (fun e => HN2.out (by cases e; rfl))).trans HS2.out
        refine hK.out _ _ (fun _ => (HM1.out.later KB4.out).cell 3 _ rfl) ?_
        clear hK K9
        try simp only [Act.put, List.setIfInBounds_toArray, List.set_cons_zero, List.set_cons_succ]
        clear hHeld KB2 HE hown hg
        have hHeld : W4.cell? ⟨A, 3, none⟩ = some (.slice aJ nJ cJ) := (HM1.out.later KB4.out).cell 3 _ rfl
        refine Till.one (i := 7) (o := { dst := some 25, op := Op.call { callee := Callee.builtin Builtin.append, args := #[Operand.tmp 22, Operand.tmp 24], argTypes := _ }, type := _, pos := _, after := _, guard := none }) rfl (by kernel_rfl) (fun K9 hK => ?_)
        refine appNS rfl 25 rfl _ _ rfl w1.heap.size v4 nJ (J.flatMap stl) rfl HO.out g1 (-8, 0) rfl HS4.out hlJ KB4.out.size ?_
        intro g7 c7 W7 hc7 hown hg
        have KB7 : Hid (Below w1.heap.size w1 W7) := Rb.below_grown KB4.out hg KB4.out.size (fun j hj => (HO.out.lt j hj).1)
        have HO7 : Hid (W7.ownsRow w1.heap.size 55 2 (.slice (some ⟨g7, 0, none⟩) (nJ + 1) c7) (nJ + 1) (J.flatMap stl ++ stl (-8, 0))) := hown
        have HC7 : Hid (nJ + 1 ≤ c7) := hc7
        refine hK.out _ _ (fun _ => (HM1.out.later KB7.out).cell 3 _ rfl) ?_
        clear hK K9
        try simp only [Act.put, List.setIfInBounds_toArray, List.set_cons_zero, List.set_cons_succ]
        clear hHeld hown hg
        have hHeld : W7.cell? ⟨A, 3, none⟩ = some (.slice aJ nJ cJ) := (HM1.out.later KB7.out).cell 3 _ rfl
        have d1 : (0 : Int) ≤ (nJ : Int) := by omega
        have d2 : nJ ≤ c7 := by omega
        have d3 : (nJ : Int) ≤ (c7 : Int) := by omega
        refine Till.takeFree (i := 12) (oi := { dst := some 30, op := Op.slice 22 (Operand.tmp 25) none (some (Operand.tmp 29)) none, type := _, pos := _, after := _, guard := none }) (x := .slice (some ⟨g7, 0, none⟩) nJ c7) rfl (by decide) (by kernel_rfl) (by kernel_rfl) (by kernel_rfl) (fun _ _ _ h => h) (Or.inl ⟨by rfl, fun w _ => by go_simp⟩) hHeld ?_
        simp only [Act.put, List.setIfInBounds_toArray, List.set_cons_zero, List.set_cons_succ]
        refine Till.takeFree (i := 13) (oi := { dst := some 31, op := Op.fieldAddr 38 (Operand.tmp 1) 1, type := _, pos := _, after := _, guard := none }) (x := .pointer (some ⟨A, 1, none⟩)) rfl (by decide) (by kernel_rfl) (by kernel_rfl) (by kernel_rfl) (fun _ _ _ h => h) (Or.inl ⟨by rfl, fun w _ => by go_simp⟩) hHeld ?_
        simp only [Act.put, List.setIfInBounds_toArray, List.set_cons_zero, List.set_cons_succ]
        refine Till.takeFree (i := 14) (oi := { dst := some 32, op := Op.fieldAddr 25 (Operand.tmp 31) 2, type := _, pos := _, after := _, guard := none }) (x := .pointer (some ⟨A, 3, none⟩)) rfl (by decide) (by kernel_rfl) (by kernel_rfl) (by kernel_rfl) (fun _ _ _ h => h) (Or.inl ⟨by rfl, fun w _ => by go_simp⟩) hHeld ?_
        simp only [Act.put, List.setIfInBounds_toArray, List.set_cons_zero, List.set_cons_succ]
        refine Till.one (i := 15) (o := { dst := none, op := Op.store 22 (Operand.tmp 32) (Operand.tmp 30), type := _, pos := _, after := _, guard := none }) rfl (by kernel_rfl) (fun K9 hK => ?_)
        have f7 := row_fr (HM1.out.later KB7.out) 3
        go_simp
        refine hK.out _ _ (fun h => absurd h (by rintro ⟨c, hc, he⟩; revert hc he; decide +revert)) ?_
        clear hK K9
        try simp only [Act.put, List.setIfInBounds_toArray, List.set_cons_zero, List.set_cons_succ]
        refine Till.rest (by kernel_rfl) ?_
        refine wpAny_done (by kernel_rfl) ?_ _
        have hmg : MgAt (W7.setCell ⟨A, 3, none⟩ (.slice (some ⟨g7, 0, none⟩) nJ c7)) A ⟨kd, (ep, L, J, I), rq, rp, sd⟩ (.slice (some ⟨gL, 0, none⟩) nL eL) (.slice (some ⟨g7, 0, none⟩) nJ c7) (.slice aI nI cI) := row_set (HM1.out.later KB7.out) 3 _
        have kM := (Kept.refl (fun k => k = A) W7).setCell (p := ⟨A, 3, none⟩) (fun _ => rfl) (.slice (some ⟨g7, 0, none⟩) nJ c7)
        have hro := kM.row HO7.out (fun j hj e => by have h1 := (HO7.out.lt j hj).1; have h2 := HBZ.out; omega)
        have kK := (Kept.ofBelow (F := fun k => k = A) KB7.out).trans kM (fun _ _ e => e)
        have HF : Hid _ := And.intro hmg (And.intro hro (And.intro HC7.out kK))
        clear hmg kM hro kK hHeld f7
        go_wp2_with fail
        go_meet
        case rel => exact ⟨g7, c7, HF.out⟩
    case rest =>
      obtain ⟨gJ, eJ, hm, hro, hc, hk⟩ := hcut
      have HM2 : Hid (MgAt wc A ⟨kd, (ep, L, J, I), rq, rp, sd⟩ (.slice (some ⟨gL, 0, none⟩) nL eL) (.slice (some ⟨gJ, 0, none⟩) nJ eJ) (.slice aI nI cI)) := hm
      have HB2 : Hid (Below w.heap.size w wc) := HB1.out.trans (hk.below HB1.out.size (fun k e => by have := HAD.out; omega))
      have HD2 : Hid (wc.heap[Db]? = some (.cells (mgl ⟨0, zR, zQ, zP, zD⟩ (.slice none 0 0) (.slice none 0 0) (.slice none 0 0)).toArray 38 (0, 0))) := row_kept HD1.out hk (by have := HAD.out; omega)
      have HCJ : Hid (nJ + 1 ≤ eJ) := hc
      have HSZ2 : Hid (Db < wc.heap.size) := row_lt HD2.out
      have HOJ : Hid (wc.ownsRow (Db + 1) 55 2 (.slice (some ⟨gJ, 0, none⟩) (nJ + 1) eJ) (nJ + 1) (J.flatMap stl ++ stl (-8, 0))) := owns_wide hro (by have := HSZ1.out; omega)
      have HOL2 : Hid (wc.ownsRow (Db + 1) 55 2 (.slice (some ⟨gL, 0, none⟩) (nL + 1) eL) (nL + 1) (L.flatMap stl ++ stl (-7, 0))) := hk.row HOL.out (fun j hj e => by have h1 := (HOL.out.lt j hj).1; have h2 := HAD.out; omega)
      clear hm hro hc hk HM1 HB1 HD1 HOL
      generalize hgw : wc = w2 at *
      clear hgw
      go_upto_region 3 with (fail)
      go_cut [] (fun wx => ∃ g cp, (MgAt wx A ⟨kd, (ep, L, J, I), rq, rp, sd⟩ (.slice (some ⟨gL, 0, none⟩) nL eL) (.slice (some ⟨gJ, 0, none⟩) nJ eJ) (.slice (some ⟨g, 0, none⟩) nI cp)) ∧ (wx.ownsRow w2.heap.size 53 6 (.slice (some ⟨g, 0, none⟩) (nI + 1) cp) (nI + 1) (I.flatMap itl ++ itl ((-9, 0), ((0, 0), (0, 0))))) ∧ (nI + 1 ≤ cp) ∧ (Kept (fun k => k = A) w2 wx))
      case first =>
        have HBZ : Hid (A < w2.heap.size) := row_lt HM2.out
        have HRX : Hid (RdV itl 6 w2 aI I) := HRI.out.later HB2.out
        refine Till.region [15] (fun W => W.cell? ⟨A, 4, none⟩ = some (.slice aI nI cI)) (by kernel_rfl) ?_
        have KB : Hid (Below w2.heap.size w2 w2.drew) := drew_below w2
        generalize w2.drew = W at *
        have hHeld : W.cell? ⟨A, 4, none⟩ = some (.slice aI nI cI) := (HM2.out.later KB.out).cell 4 _ rfl
        refine Till.takeFree (i := 1) (oi := { dst := some 34, op := Op.fieldAddr 38 (Operand.tmp 1) 1, type := _, pos := _, after := _, guard := none }) (x := .pointer (some ⟨A, 1, none⟩)) rfl (by decide) (by kernel_rfl) (by kernel_rfl) (by kernel_rfl) (fun _ _ _ h => h) (Or.inl ⟨by rfl, fun w _ => by go_simp⟩) hHeld ?_
        simp only [Act.put, List.setIfInBounds_toArray, List.set_cons_zero, List.set_cons_succ]
        refine Till.takeFree (i := 2) (oi := { dst := some 35, op := Op.fieldAddr 25 (Operand.tmp 34) 3, type := _, pos := _, after := _, guard := none }) (x := .pointer (some ⟨A, 4, none⟩)) rfl (by decide) (by kernel_rfl) (by kernel_rfl) (by kernel_rfl) (fun _ _ _ h => h) (Or.inl ⟨by rfl, fun w _ => by go_simp⟩) hHeld ?_
        simp only [Act.put, List.setIfInBounds_toArray, List.set_cons_zero, List.set_cons_succ]
        refine Till.take (i := 3) 15 (oi := { dst := some 36, op := Op.load 23 (Operand.tmp 35), type := _, pos := _, after := _, guard := none }) (x := (.slice aI nI cI)) rfl (by decide) (by kernel_rfl) (by decide) (by kernel_rfl) (by kernel_rfl) (by kernel_rfl) (by kernel_rfl) (fun _ _ _ h => h) (Or.inl ⟨by rfl, fun w hSw => by (try dsimp only at hSw); go_simp⟩) hHeld ?_
        simp only [Act.put, List.setIfInBounds_toArray, List.set_cons_zero, List.set_cons_succ]
        refine Till.takeFree (i := 5) (oi := { dst := some 38, op := Op.build 53 #[(0, Operand.const (.int .i64 (-9)))], type := _, pos := _, after := _, guard := none }) (x := .agg #[.int .i64 (-9), .int .i64 0, .int .i64 0, .int .i64 0, .int .i64 0, .int .i64 0]) rfl (by decide) (by kernel_rfl) (by kernel_rfl) (by kernel_rfl) (fun _ _ _ h => h) (Or.inl ⟨by rfl, fun w _ => by go_simp⟩) hHeld ?_
        simp only [Act.put, List.setIfInBounds_toArray, List.set_cons_zero, List.set_cons_succ]
        refine Till.takeFree (i := 8) (oi := { dst := some 41, op := Op.fieldAddr 38 (Operand.tmp 1) 1, type := _, pos := _, after := _, guard := none }) (x := .pointer (some ⟨A, 1, none⟩)) rfl (by decide) (by kernel_rfl) (by kernel_rfl) (by kernel_rfl) (fun _ _ _ h => h) (Or.inl ⟨by rfl, fun w _ => by go_simp⟩) hHeld ?_
        simp only [Act.put, List.setIfInBounds_toArray, List.set_cons_zero, List.set_cons_succ]
        refine Till.takeFree (i := 9) (oi := { dst := some 42, op := Op.fieldAddr 25 (Operand.tmp 41) 3, type := _, pos := _, after := _, guard := none }) (x := .pointer (some ⟨A, 4, none⟩)) rfl (by decide) (by kernel_rfl) (by kernel_rfl) (by kernel_rfl) (fun _ _ _ h => h) (Or.inl ⟨by rfl, fun w _ => by go_simp⟩) hHeld ?_
        simp only [Act.put, List.setIfInBounds_toArray, List.set_cons_zero, List.set_cons_succ]
        refine Till.take (i := 10) 15 (oi := { dst := some 43, op := Op.load 23 (Operand.tmp 42), type := _, pos := _, after := _, guard := none }) (x := (.slice aI nI cI)) rfl (by decide) (by kernel_rfl) (by decide) (by kernel_rfl) (by kernel_rfl) (by kernel_rfl) (by kernel_rfl) (fun _ _ _ h => h) (Or.inl ⟨by rfl, fun w hSw => by (try dsimp only at hSw); go_simp⟩) hHeld ?_
        simp only [Act.put, List.setIfInBounds_toArray, List.set_cons_zero, List.set_cons_succ]
        refine Till.takeFree (i := 11) (oi := { dst := some 44, op := Op.call { callee := Callee.builtin Builtin.len, args := #[Operand.tmp 43], argTypes := _ }, type := _, pos := _, after := _, guard := none }) (x := .int .i64 (nI : Int)) rfl (by decide) (by kernel_rfl) (by kernel_rfl) (by kernel_rfl) (fun _ _ _ h => h) (Or.inl ⟨by rfl, fun w _ => by go_simp⟩) hHeld ?_
        simp only [Act.put, List.setIfInBounds_toArray, List.set_cons_zero, List.set_cons_succ]
        refine Till.two (i := 0) (j := 6) (o := { dst := some 33, op := Op.buildSlice 23 0 #[], type := _, pos := _, after := _, guard := none }) (o' := { dst := some 39, op := Op.buildSlice 23 1 #[(0, Operand.tmp 38)], type := _, pos := _, after := _, guard := none }) rfl rfl (by kernel_rfl) (fun K9 hK => ?_) (fun K9 hK => ?_)
        · go_simp
          have KB2 : Hid (Below w2.heap.size w2 (W.alloc (.cells #[] 53))) := Below.plus KB.out _
          have HE : Hid ((W.alloc (.cells #[] 53)).ownsRow w2.heap.size 53 6 (.slice (some ⟨W.heap.size, 0, none⟩) 0 0) 0 []) := row0_new W _ _ _ KB.out.size
          refine hK.out _ _ (fun _ => (HM2.out.later KB2.out).cell 4 _ rfl) ?_
          clear hK K9
          try simp only [Act.put, List.setIfInBounds_toArray, List.set_cons_zero, List.set_cons_succ]
          clear hHeld KB
          generalize W.alloc (.cells #[] 53) = W1 at *
          generalize hE0 : W.heap.size = E0 at *
          have HE0 : Hid (E0 < W1.heap.size) := by have := HE.out.lt E0 rfl; exact this.2
          clear hE0
          have hHeld : W1.cell? ⟨A, 4, none⟩ = some (.slice aI nI cI) := (HM2.out.later KB2.out).cell 4 _ rfl
          refine Till.two (i := 4) (j := 6) (o := { dst := some 37, op := Op.call { callee := Callee.builtin Builtin.append, args := #[Operand.tmp 33, Operand.tmp 36], argTypes := _ }, type := _, pos := _, after := _, guard := none }) (o' := { dst := some 39, op := Op.buildSlice 23 1 #[(0, Operand.tmp 38)], type := _, pos := _, after := _, guard := none }) rfl rfl (by kernel_rfl) (fun K9 hK => ?_) (fun K9 hK => ?_)
          · refine appRI rfl 37 rfl _ _ rfl w2.heap.size (.slice (some ⟨E0, 0, none⟩) 0 0) rfl HE.out aI cI nI I HNI.out rfl (HRX.out.later KB2.out) hlI KB2.out.size ?_
            intro v4 W4 hown hg
            have KB4 : Hid (Below w2.heap.size w2 W4) := Rb.below_grown KB2.out hg KB2.out.size (fun j hj => (HE.out.lt j hj).1)
            have HO : Hid (W4.ownsRow w2.heap.size 53 6 v4 nI (I.flatMap itl)) := hown
            refine hK.out _ _ (fun _ => (HM2.out.later KB4.out).cell 4 _ rfl) ?_
            clear hK K9
            try simp only [Act.put, List.setIfInBounds_toArray, List.set_cons_zero, List.set_cons_succ]
            clear hHeld KB2 HE hown hg
            have hHeld : W4.cell? ⟨A, 4, none⟩ = some (.slice aI nI cI) := (HM2.out.later KB4.out).cell 4 _ rfl
            refine Till.one (i := 6) (o := { dst := some 39, op := Op.buildSlice 23 1 #[(0, Operand.tmp 38)], type := _, pos := _, after := _, guard := none }) rfl (by kernel_rfl) (fun K9 hK => ?_)
            go_simp
            have KB3 : Hid (Below w2.heap.size w2 (W4.alloc (.cells #[.int .i64 (-9), .int .i64 0, .int .i64 0, .int .i64 0, .int .i64 0, .int .i64 0] 53))) := Below.plus KB4.out _
            have HS : Hid ((W4.alloc (.cells #[.int .i64 (-9), .int .i64 0, .int .i64 0, .int .i64 0, .int .i64 0, .int .i64 0] 53)).heap[W4.heap.size]? = some (.cells #[.int .i64 (-9), .int .i64 0, .int .i64 0, .int .i64 0, .int .i64 0, .int .i64 0] 53 (0, 0))) := heap_alloc_last _ _
            have HO2 : Hid ((W4.alloc (.cells #[.int .i64 (-9), .int .i64 0, .int .i64 0, .int .i64 0, .int .i64 0, .int .i64 0] 53)).ownsRow w2.heap.size 53 6 v4 nI (I.flatMap itl)) := owns_later HO.out (below_alloc _ _)
            refine hK.out _ _ (fun _ => (HM2.out.later KB3.out).cell 4 _ rfl) ?_
            clear hK K9
            try simp only [Act.put, List.setIfInBounds_toArray, List.set_cons_zero, List.set_cons_succ]
            clear hHeld KB4
            generalize W4.alloc (.cells #[.int .i64 (-9), .int .i64 0, .int .i64 0, .int .i64 0, .int .i64 0, .int .i64 0] 53) = W6 at *
            generalize W4.heap.size = g1 at *
            clear HO
            have hHeld : W6.cell? ⟨A, 4, none⟩ = some (.slice aI nI cI) := (HM2.out.later KB3.out).cell 4 _ rfl
            refine Till.one (i := 7) (o := { dst := some 40, op := Op.call { callee := Callee.builtin Builtin.append, args := #[Operand.tmp 37, Operand.tmp 39], argTypes := _ }, type := _, pos := _, after := _, guard := none }) rfl (by kernel_rfl) (fun K9 hK => ?_)
            refine appNI rfl 40 rfl _ _ rfl w2.heap.size v4 nI (I.flatMap itl) rfl HO2.out g1 ((-9, 0), ((0, 0), (0, 0))) rfl HS.out hlI KB3.out.size ?_
            intro g7 c7 W7 hc7 hown hg
            have KB7 : Hid (Below w2.heap.size w2 W7) := Rb.below_grown KB3.out hg KB3.out.size (fun j hj => (HO2.out.lt j hj).1)
            have HO7 : Hid (W7.ownsRow w2.heap.size 53 6 (.slice (some ⟨g7, 0, none⟩) (nI + 1) c7) (nI + 1) (I.flatMap itl ++ itl ((-9, 0), ((0, 0), (0, 0))))) := hown
            have HC7 : Hid (nI + 1 ≤ c7) := hc7
            refine hK.out _ _ (fun _ => (HM2.out.later KB7.out).cell 4 _ rfl) ?_
            clear hK K9
            try simp only [Act.put, List.setIfInBounds_toArray, List.set_cons_zero, List.set_cons_succ]
            clear hHeld hown hg
            have hHeld : W7.cell? ⟨A, 4, none⟩ = some (.slice aI nI cI) := (HM2.out.later KB7.out).cell 4 _ rfl
            have d1 : (0 : Int) ≤ (nI : Int) := by omega
            have d2 : nI ≤ c7 := by omega
            have d3 : (nI : Int) ≤ (c7 : Int) := by omega
            refine Till.takeFree (i := 12) (oi := { dst := some 45, op := Op.slice 23 (Operand.tmp 40) none (some (Operand.tmp 44)) none, type := _, pos := _, after := _, guard := none }) (x := .slice (some ⟨g7, 0, none⟩) nI c7) rfl (by decide) (by kernel_rfl) (by kernel_rfl) (by kernel_rfl) (fun _ _ _ h => h) (Or.inl ⟨by rfl, fun w _ => by go_simp⟩) hHeld ?_
            simp only [Act.put, List.setIfInBounds_toArray, List.set_cons_zero, List.set_cons_succ]
            refine Till.takeFree (i := 13) (oi := { dst := some 46, op := Op.fieldAddr 38 (Operand.tmp 1) 1, type := _, pos := _, after := _, guard := none }) (x := .pointer (some ⟨A, 1, none⟩)) rfl (by decide) (by kernel_rfl) (by kernel_rfl) (by kernel_rfl) (fun _ _ _ h => h) (Or.inl ⟨by rfl, fun w _ => by go_simp⟩) hHeld ?_
            simp only [Act.put, List.setIfInBounds_toArray, List.set_cons_zero, List.set_cons_succ]
            refine Till.takeFree (i := 14) (oi := { dst := some 47, op := Op.fieldAddr 25 (Operand.tmp 46) 3, type := _, pos := _, after := _, guard := none }) (x := .pointer (some ⟨A, 4, none⟩)) rfl (by decide) (by kernel_rfl) (by kernel_rfl) (by kernel_rfl) (fun _ _ _ h => h) (Or.inl ⟨by rfl, fun w _ => by go_simp⟩) hHeld ?_
            simp only [Act.put, List.setIfInBounds_toArray, List.set_cons_zero, List.set_cons_succ]
            refine Till.one (i := 15) (o := { dst := none, op := Op.store 23 (Operand.tmp 47) (Operand.tmp 45), type := _, pos := _, after := _, guard := none }) rfl (by kernel_rfl) (fun K9 hK => ?_)
            have f7 := row_fr (HM2.out.later KB7.out) 4
            go_simp
            refine hK.out _ _ (fun h => absurd h (by rintro ⟨c, hc, he⟩; revert hc he; decide +revert)) ?_
            clear hK K9
            try simp only [Act.put, List.setIfInBounds_toArray, List.set_cons_zero, List.set_cons_succ]
            refine Till.rest (by kernel_rfl) ?_
            refine wpAny_done (by kernel_rfl) ?_ _
            have hmg : MgAt (W7.setCell ⟨A, 4, none⟩ (.slice (some ⟨g7, 0, none⟩) nI c7)) A ⟨kd, (ep, L, J, I), rq, rp, sd⟩ (.slice (some ⟨gL, 0, none⟩) nL eL) (.slice (some ⟨gJ, 0, none⟩) nJ eJ) (.slice (some ⟨g7, 0, none⟩) nI c7) := row_set (HM2.out.later KB7.out) 4 _
            have kM := (Kept.refl (fun k => k = A) W7).setCell (p := ⟨A, 4, none⟩) (fun _ => rfl) (.slice (some ⟨g7, 0, none⟩) nI c7)
            have hro := kM.row HO7.out (fun j hj e => by have h1 := (HO7.out.lt j hj).1; have h2 := HBZ.out; omega)
            have kK := (Kept.ofBelow (F := fun k => k = A) KB7.out).trans kM (fun _ _ e => e)
            have HF : Hid _ := And.intro hmg (And.intro hro (And.intro HC7.out kK))
            clear hmg kM hro kK hHeld f7
            go_wp2_with fail
            go_meet
            case rel => exact ⟨g7, c7, HF.out⟩
          · go_simp
            have KB3 : Hid (Below w2.heap.size w2 (W1.alloc (.cells #[.int .i64 (-9), .int .i64 0, .int .i64 0, .int .i64 0, .int .i64 0, .int .i64 0] 53))) := Below.plus KB2.out _
            have HS : Hid ((W1.alloc (.cells #[.int .i64 (-9), .int .i64 0, .int .i64 0, .int .i64 0, .int .i64 0, .int .i64 0] 53)).heap[W1.heap.size]? = some (.cells #[.int .i64 (-9), .int .i64 0, .int .i64 0, .int .i64 0, .int .i64 0, .int .i64 0] 53 (0, 0))) := heap_alloc_last _ _
            have HE2 : Hid ((W1.alloc (.cells #[.int .i64 (-9), .int .i64 0, .int .i64 0, .int .i64 0, .int .i64 0, .int .i64 0] 53)).ownsRow w2.heap.size 53 6 (.slice (some ⟨E0, 0, none⟩) 0 0) 0 []) := owns_later HE.out (below_alloc _ _)
            have HN2 : Hid (W1.heap.size ≠ E0) := by have := HE0.out; unfold Hid; omega
            refine hK.out _ _ (fun _ => (HM2.out.later KB3.out).cell 4 _ rfl) ?_
            clear hK K9
            try simp only [Act.put, List.setIfInBounds_toArray, List.set_cons_zero, List.set_cons_succ]
            clear hHeld KB2
            generalize W1.alloc (.cells #[.int .i64 (-9), .int .i64 0, .int .i64 0, .int .i64 0, .int .i64 0, .int .i64 0] 53) = W6 at *
            generalize W1.heap.size = g1 at *
            clear HE HE0
            have hHeld : W6.cell? ⟨A, 4, none⟩ = some (.slice aI nI cI) := (HM2.out.later KB3.out).cell 4 _ rfl
            refine Till.one (i := 4) (o := { dst := some 37, op := Op.call { callee := Callee.builtin Builtin.append, args := #[Operand.tmp 33, Operand.tmp 36], argTypes := _ }, type := _, pos := _, after := _, guard := none }) rfl (by kernel_rfl) (fun K9 hK => ?_)
            refine appRI rfl 37 rfl _ _ rfl w2.heap.size (.slice (some ⟨E0, 0, none⟩) 0 0) rfl HE2.out aI cI nI I HNI.out rfl (HRX.out.later KB3.out) hlI KB3.out.size ?_
            intro v4 W4 hown hg
            have KB4 : Hid (Below w2.heap.size w2 W4) := Rb.below_grown KB3.out hg KB3.out.size (fun j hj => (HE2.out.lt j hj).1)
            have HO : Hid (W4.ownsRow w2.heap.size 53 6 v4 nI (I.flatMap itl)) := hown
            have HS4 : Hid (W4.heap[g1]? = some (.cells #[.int .i64 (-9), .int .i64 0, .int .i64 0, .int .i64 0, .int .i64 0, .int .i64 0] 53 (0, 0))) := (hg.block g1 (row_lt HS.out) (fun e => HN2.out (by cases e; rfl))).trans HS.out
            refine hK.out _ _ (fun _ => (HM2.out.later KB4.out).cell 4 _ rfl) ?_
            clear hK K9
            try simp only [Act.put, List.setIfInBounds_toArray, List.set_cons_zero, List.set_cons_succ]
            clear hHeld KB3 HE2 hown hg
            have hHeld : W4.cell? ⟨A, 4, none⟩ = some (.slice aI nI cI) := (HM2.out.later KB4.out).cell 4 _ rfl
            refine Till.one (i := 7) (o := { dst := some 40, op := Op.call { callee := Callee.builtin Builtin.append, args := #[Operand.tmp 37, Operand.tmp 39], argTypes := _ }, type := _, pos := _, after := _, guard := none }) rfl (by kernel_rfl) (fun K9 hK => ?_)
            refine appNI rfl 40 rfl _ _ rfl w2.heap.size v4 nI (I.flatMap itl) rfl HO.out g1 ((-9, 0), ((0, 0), (0, 0))) rfl HS4.out hlI KB4.out.size ?_
            intro g7 c7 W7 hc7 hown hg
            have KB7 : Hid (Below w2.heap.size w2 W7) := Rb.below_grown KB4.out hg KB4.out.size (fun j hj => (HO.out.lt j hj).1)
            have HO7 : Hid (W7.ownsRow w2.heap.size 53 6 (.slice (some ⟨g7, 0, none⟩) (nI + 1) c7) (nI + 1) (I.flatMap itl ++ itl ((-9, 0), ((0, 0), (0, 0))))) := hown
            have HC7 : Hid (nI + 1 ≤ c7) := hc7
            refine hK.out _ _ (fun _ => (HM2.out.later KB7.out).cell 4 _ rfl) ?_
            clear hK K9
            try simp only [Act.put, List.setIfInBounds_toArray, List.set_cons_zero, List.set_cons_succ]
            clear hHeld hown hg
            have hHeld : W7.cell? ⟨A, 4, none⟩ = some (.slice aI nI cI) := (HM2.out.later KB7.out).cell 4 _ rfl
            have d1 : (0 : Int) ≤ (nI : Int) := by omega
            have d2 : nI ≤ c7 := by omega
            have d3 : (nI : Int) ≤ (c7 : Int) := by omega
            refine Till.takeFree (i := 12) (oi := { dst := some 45, op := Op.slice 23 (Operand.tmp 40) none (some (Operand.tmp 44)) none, type := _, pos := _, after := _, guard := none }) (x := .slice (some ⟨g7, 0, none⟩) nI c7) rfl (by decide) (by kernel_rfl) (by kernel_rfl) (by kernel_rfl) (fun _ _ _ h => h) (Or.inl ⟨by rfl, fun w _ => by go_simp⟩) hHeld ?_
            simp only [Act.put, List.setIfInBounds_toArray, List.set_cons_zero, List.set_cons_succ]
            refine Till.takeFree (i := 13) (oi := { dst := some 46, op := Op.fieldAddr 38 (Operand.tmp 1) 1, type := _, pos := _, after := _, guard := none }) (x := .pointer (some ⟨A, 1, none⟩)) rfl (by decide) (by kernel_rfl) (by kernel_rfl) (by kernel_rfl) (fun _ _ _ h => h) (Or.inl ⟨by rfl, fun w _ => by go_simp⟩) hHeld ?_
            simp only [Act.put, List.setIfInBounds_toArray, List.set_cons_zero, List.set_cons_succ]
            refine Till.takeFree (i := 14) (oi := { dst := some 47, op := Op.fieldAddr 25 (Operand.tmp 46) 3, type := _, pos := _, after := _, guard := none }) (x := .pointer (some ⟨A, 4, none⟩)) rfl (by decide) (by kernel_rfl) (by kernel_rfl) (by kernel_rfl) (fun _ _ _ h => h) (Or.inl ⟨by rfl, fun w _ => by go_simp⟩) hHeld ?_
            simp only [Act.put, List.setIfInBounds_toArray, List.set_cons_zero, List.set_cons_succ]
            refine Till.one (i := 15) (o := { dst := none, op := Op.store 23 (Operand.tmp 47) (Operand.tmp 45), type := _, pos := _, after := _, guard := none }) rfl (by kernel_rfl) (fun K9 hK => ?_)
            have f7 := row_fr (HM2.out.later KB7.out) 4
            go_simp
            refine hK.out _ _ (fun h => absurd h (by rintro ⟨c, hc, he⟩; revert hc he; decide +revert)) ?_
            clear hK K9
            try simp only [Act.put, List.setIfInBounds_toArray, List.set_cons_zero, List.set_cons_succ]
            refine Till.rest (by kernel_rfl) ?_
            refine wpAny_done (by kernel_rfl) ?_ _
            have hmg : MgAt (W7.setCell ⟨A, 4, none⟩ (.slice (some ⟨g7, 0, none⟩) nI c7)) A ⟨kd, (ep, L, J, I), rq, rp, sd⟩ (.slice (some ⟨gL, 0, none⟩) nL eL) (.slice (some ⟨gJ, 0, none⟩) nJ eJ) (.slice (some ⟨g7, 0, none⟩) nI c7) := row_set (HM2.out.later KB7.out) 4 _
            have kM := (Kept.refl (fun k => k = A) W7).setCell (p := ⟨A, 4, none⟩) (fun _ => rfl) (.slice (some ⟨g7, 0, none⟩) nI c7)
            have hro := kM.row HO7.out (fun j hj e => by have h1 := (HO7.out.lt j hj).1; have h2 := HBZ.out; omega)
            have kK := (Kept.ofBelow (F := fun k => k = A) KB7.out).trans kM (fun _ _ e => e)
            have HF : Hid _ := And.intro hmg (And.intro hro (And.intro HC7.out kK))
            clear hmg kM hro kK hHeld f7
            go_wp2_with fail
            go_meet
            case rel => exact ⟨g7, c7, HF.out⟩
        · go_simp
          have KB3 : Hid (Below w2.heap.size w2 (W.alloc (.cells #[.int .i64 (-9), .int .i64 0, .int .i64 0, .int .i64 0, .int .i64 0, .int .i64 0] 53))) := Below.plus KB.out _
          have HS : Hid ((W.alloc (.cells #[.int .i64 (-9), .int .i64 0, .int .i64 0, .int .i64 0, .int .i64 0, .int .i64 0] 53)).heap[W.heap.size]? = some (.cells #[.int .i64 (-9), .int .i64 0, .int .i64 0, .int .i64 0, .int .i64 0, .int .i64 0] 53 (0, 0))) := heap_alloc_last _ _
          refine hK.out _ _ (fun _ => (HM2.out.later KB3.out).cell 4 _ rfl) ?_
          clear hK K9
          try simp only [Act.put, List.setIfInBounds_toArray, List.set_cons_zero, List.set_cons_succ]
          clear hHeld KB
          generalize W.alloc (.cells #[.int .i64 (-9), .int .i64 0, .int .i64 0, .int .i64 0, .int .i64 0, .int .i64 0] 53) = W6 at *
          generalize W.heap.size = g1 at *
          have hHeld : W6.cell? ⟨A, 4, none⟩ = some (.slice aI nI cI) := (HM2.out.later KB3.out).cell 4 _ rfl
          refine Till.one (i := 0) (o := { dst := some 33, op := Op.buildSlice 23 0 #[], type := _, pos := _, after := _, guard := none }) rfl (by kernel_rfl) (fun K9 hK => ?_)
          go_simp
          have KB2 : Hid (Below w2.heap.size w2 (W6.alloc (.cells #[] 53))) := Below.plus KB3.out _
          have HE : Hid ((W6.alloc (.cells #[] 53)).ownsRow w2.heap.size 53 6 (.slice (some ⟨W6.heap.size, 0, none⟩) 0 0) 0 []) := row0_new W6 _ _ _ KB3.out.size
          have HS2 : Hid ((W6.alloc (.cells #[] 53)).heap[g1]? = some (.cells #[.int .i64 (-9), .int .i64 0, .int .i64 0, .int .i64 0, .int .i64 0, .int .i64 0] 53 (0, 0))) := row_later HS.out (below_alloc _ _)
          have HN2 : Hid (g1 ≠ W6.heap.size) := by have := row_lt HS.out; unfold Hid; omega
          refine hK.out _ _ (fun _ => (HM2.out.later KB2.out).cell 4 _ rfl) ?_
          clear hK K9
          try simp only [Act.put, List.setIfInBounds_toArray, List.set_cons_zero, List.set_cons_succ]
          clear hHeld KB3
          generalize W6.alloc (.cells #[] 53) = W1 at *
          generalize W6.heap.size = E0 at *
          clear HS
          have hHeld : W1.cell? ⟨A, 4, none⟩ = some (.slice aI nI cI) := (HM2.out.later KB2.out).cell 4 _ rfl
          refine Till.one (i := 4) (o := { dst := some 37, op := Op.call { callee := Callee.builtin Builtin.append, args := #[Operand.tmp 33, Operand.tmp 36], argTypes := _ }, type := _, pos := _, after := _, guard := none }) rfl (by kernel_rfl) (fun K9 hK => ?_)
          refine appRI rfl 37 rfl _ _ rfl w2.heap.size (.slice (some ⟨E0, 0, none⟩) 0 0) rfl HE.out aI cI nI I HNI.out rfl (HRX.out.later KB2.out) hlI KB2.out.size ?_
          intro v4 W4 hown hg
          have KB4 : Hid (Below w2.heap.size w2 W4) := Rb.below_grown KB2.out hg KB2.out.size (fun j hj => (HE.out.lt j hj).1)
          have HO : Hid (W4.ownsRow w2.heap.size 53 6 v4 nI (I.flatMap itl)) := hown
          have HS4 : Hid (W4.heap[g1]? = some (.cells #[.int .i64 (-9), .int .i64 0, .int .i64 0, .int .i64 0, .int .i64 0, .int .i64 0] 53 (0, 0))) := (hg.block g1 (row_lt HS2.out) (fun e => HN2.out (by cases e; rfl))).trans HS2.out
          refine hK.out _ _ (fun _ => (HM2.out.later KB4.out).cell 4 _ rfl) ?_
          clear hK K9
          try simp only [Act.put, List.setIfInBounds_toArray, List.set_cons_zero, List.set_cons_succ]
          clear hHeld KB2 HE hown hg
          have hHeld : W4.cell? ⟨A, 4, none⟩ = some (.slice aI nI cI) := (HM2.out.later KB4.out).cell 4 _ rfl
          refine Till.one (i := 7) (o := { dst := some 40, op := Op.call { callee := Callee.builtin Builtin.append, args := #[Operand.tmp 37, Operand.tmp 39], argTypes := _ }, type := _, pos := _, after := _, guard := none }) rfl (by kernel_rfl) (fun K9 hK => ?_)
          refine appNI rfl 40 rfl _ _ rfl w2.heap.size v4 nI (I.flatMap itl) rfl HO.out g1 ((-9, 0), ((0, 0), (0, 0))) rfl HS4.out hlI KB4.out.size ?_
          intro g7 c7 W7 hc7 hown hg
          have KB7 : Hid (Below w2.heap.size w2 W7) := Rb.below_grown KB4.out hg KB4.out.size (fun j hj => (HO.out.lt j hj).1)
          have HO7 : Hid (W7.ownsRow w2.heap.size 53 6 (.slice (some ⟨g7, 0, none⟩) (nI + 1) c7) (nI + 1) (I.flatMap itl ++ itl ((-9, 0), ((0, 0), (0, 0))))) := hown
          have HC7 : Hid (nI + 1 ≤ c7) := hc7
          refine hK.out _ _ (fun _ => (HM2.out.later KB7.out).cell 4 _ rfl) ?_
          clear hK K9
          try simp only [Act.put, List.setIfInBounds_toArray, List.set_cons_zero, List.set_cons_succ]
          clear hHeld hown hg
          have hHeld : W7.cell? ⟨A, 4, none⟩ = some (.slice aI nI cI) := (HM2.out.later KB7.out).cell 4 _ rfl
          have d1 : (0 : Int) ≤ (nI : Int) := by omega
          have d2 : nI ≤ c7 := by omega
          have d3 : (nI : Int) ≤ (c7 : Int) := by omega
          refine Till.takeFree (i := 12) (oi := { dst := some 45, op := Op.slice 23 (Operand.tmp 40) none (some (Operand.tmp 44)) none, type := _, pos := _, after := _, guard := none }) (x := .slice (some ⟨g7, 0, none⟩) nI c7) rfl (by decide) (by kernel_rfl) (by kernel_rfl) (by kernel_rfl) (fun _ _ _ h => h) (Or.inl ⟨by rfl, fun w _ => by go_simp⟩) hHeld ?_
          simp only [Act.put, List.setIfInBounds_toArray, List.set_cons_zero, List.set_cons_succ]
          refine Till.takeFree (i := 13) (oi := { dst := some 46, op := Op.fieldAddr 38 (Operand.tmp 1) 1, type := _, pos := _, after := _, guard := none }) (x := .pointer (some ⟨A, 1, none⟩)) rfl (by decide) (by kernel_rfl) (by kernel_rfl) (by kernel_rfl) (fun _ _ _ h => h) (Or.inl ⟨by rfl, fun w _ => by go_simp⟩) hHeld ?_
          simp only [Act.put, List.setIfInBounds_toArray, List.set_cons_zero, List.set_cons_succ]
          refine Till.takeFree (i := 14) (oi := { dst := some 47, op := Op.fieldAddr 25 (Operand.tmp 46) 3, type := _, pos := _, after := _, guard := none }) (x := .pointer (some ⟨A, 4, none⟩)) rfl (by decide) (by kernel_rfl) (by kernel_rfl) (by kernel_rfl) (fun _ _ _ h => h) (Or.inl ⟨by rfl, fun w _ => by go_simp⟩) hHeld ?_
          simp only [Act.put, List.setIfInBounds_toArray, List.set_cons_zero, List.set_cons_succ]
          refine Till.one (i := 15) (o := { dst := none, op := Op.store 23 (Operand.tmp 47) (Operand.tmp 45), type := _, pos := _, after := _, guard := none }) rfl (by kernel_rfl) (fun K9 hK => ?_)
          have f7 := row_fr (HM2.out.later KB7.out) 4
          go_simp
          refine hK.out _ _ (fun h => absurd h (by rintro ⟨c, hc, he⟩; revert hc he; decide +revert)) ?_
          clear hK K9
          try simp only [Act.put, List.setIfInBounds_toArray, List.set_cons_zero, List.set_cons_succ]
          refine Till.rest (by kernel_rfl) ?_
          refine wpAny_done (by kernel_rfl) ?_ _
          have hmg : MgAt (W7.setCell ⟨A, 4, none⟩ (.slice (some ⟨g7, 0, none⟩) nI c7)) A ⟨kd, (ep, L, J, I), rq, rp, sd⟩ (.slice (some ⟨gL, 0, none⟩) nL eL) (.slice (some ⟨gJ, 0, none⟩) nJ eJ) (.slice (some ⟨g7, 0, none⟩) nI c7) := row_set (HM2.out.later KB7.out) 4 _
          have kM := (Kept.refl (fun k => k = A) W7).setCell (p := ⟨A, 4, none⟩) (fun _ => rfl) (.slice (some ⟨g7, 0, none⟩) nI c7)
          have hro := kM.row HO7.out (fun j hj e => by have h1 := (HO7.out.lt j hj).1; have h2 := HBZ.out; omega)
          have kK := (Kept.ofBelow (F := fun k => k = A) KB7.out).trans kM (fun _ _ e => e)
          have HF : Hid _ := And.intro hmg (And.intro hro (And.intro HC7.out kK))
          clear hmg kM hro kK hHeld f7
          go_wp2_with fail
          go_meet
          case rel => exact ⟨g7, c7, HF.out⟩
      case rest =>
        obtain ⟨gI, eI, hm, hro, hc, hk⟩ := hcut
        have HM3 : Hid (MgAt wc A ⟨kd, (ep, L, J, I), rq, rp, sd⟩ (.slice (some ⟨gL, 0, none⟩) nL eL) (.slice (some ⟨gJ, 0, none⟩) nJ eJ) (.slice (some ⟨gI, 0, none⟩) nI eI)) := hm
        have HB3 : Hid (Below w.heap.size w wc) := HB2.out.trans (hk.below HB2.out.size (fun k e => by have := HAD.out; omega))
        have HD3 : Hid (wc.heap[Db]? = some (.cells (mgl ⟨0, zR, zQ, zP, zD⟩ (.slice none 0 0) (.slice none 0 0) (.slice none 0 0)).toArray 38 (0, 0))) := row_kept HD2.out hk (by have := HAD.out; omega)
        have HCI : Hid (nI + 1 ≤ eI) := hc
        have HSZ3 : Hid (Db < wc.heap.size) := row_lt HD3.out
        have HOI : Hid (wc.ownsRow (Db + 1) 53 6 (.slice (some ⟨gI, 0, none⟩) (nI + 1) eI) (nI + 1) (I.flatMap itl ++ itl ((-9, 0), ((0, 0), (0, 0))))) := owns_wide hro (by have := HSZ2.out; omega)
        have HOL3 : Hid (wc.ownsRow (Db + 1) 55 2 (.slice (some ⟨gL, 0, none⟩) (nL + 1) eL) (nL + 1) (L.flatMap stl ++ stl (-7, 0))) := hk.row HOL2.out (fun j hj e => by have h1 := (HOL2.out.lt j hj).1; have h2 := HAD.out; omega)
        have HOJ3 : Hid (wc.ownsRow (Db + 1) 55 2 (.slice (some ⟨gJ, 0, none⟩) (nJ + 1) eJ) (nJ + 1) (J.flatMap stl ++ stl (-8, 0))) := hk.row HOJ.out (fun j hj e => by have h1 := (HOJ.out.lt j hj).1; have h2 := HAD.out; omega)
        clear hm hro hc hk HM2 HB2 HD2 HOL2 HOJ
        generalize hgw : wc = w3 at *
        clear hgw
        have HRA : Hid (w3.rangeAt A 0 (mgl ⟨kd, (ep, L, J, I), rq, rp, sd⟩ (.slice (some ⟨gL, 0, none⟩) nL eL) (.slice (some ⟨gJ, 0, none⟩) nJ eJ) (.slice (some ⟨gI, 0, none⟩) nI eI))) := ra_of HM3.out 0 _ (by simp)
        go_wp2_with (first | (refine ldM HRA.out Tryz.underlying38 rfl szMg _ rfl rfl rfl ?_) | (refine stW szMg HD3.out rfl (mgl ⟨kd, (ep, L, J, I), rq, rp, sd⟩ (.slice (some ⟨gL, 0, none⟩) nL eL) (.slice (some ⟨gJ, 0, none⟩) nJ eJ) (.slice (some ⟨gI, 0, none⟩) nI eI)) rfl rfl rfl _ _ rfl rfl rfl ?_))
        have hD7 := setRow_heap w3 Db _ (mgl ⟨kd, (ep, L, J, I), rq, rp, sd⟩ (.slice (some ⟨gL, 0, none⟩) nL eL) (.slice (some ⟨gJ, 0, none⟩) nJ eJ) (.slice (some ⟨gI, 0, none⟩) nI eI)).toArray _ _ HD3.out
        refine bodyPost_ret (res1 (T := 38) (p := 2) rfl _ _ Db _ rfl (run_loadVar_row _ Db _ 38 _ _ _ hD7 Tryz.underlying38 rfl szMg)) rfl ?_
        have far : ∀ {T : TypeId} {k : Nat} {v : Value} {n : Nat} {xs : List Value}, w3.ownsRow (Db + 1) T k v n xs → (w3.setRow Db (mgl ⟨kd, (ep, L, J, I), rq, rp, sd⟩ (.slice (some ⟨gL, 0, none⟩) nL eL) (.slice (some ⟨gJ, 0, none⟩) nJ eJ) (.slice (some ⟨gI, 0, none⟩) nI eI)).toArray).ownsRow w.heap.size T k v n xs := fun h => owns_wide (owns_row h (Nat.lt_succ_self _)) (by have := HAD.out; omega)
        refine ⟨_, rfl, ⟨gL, eL, gJ, eJ, gI, eI, ?_, ?_, ?_, ?_, ?_, ?_⟩, ?_⟩
        · dsimp only; rw [HNL.out, HNJ.out, HNI.out]
        · dsimp only; rw [HNL.out]; exact far HOL3.out
        · dsimp only; rw [HNJ.out]; exact far HOJ3.out
        · dsimp only; rw [HNI.out]; exact far HOI.out
        · dsimp only; rw [HNL.out, HNJ.out, HNI.out]; exact ⟨HCL.out, HCJ.out, HCI.out⟩
        · dsimp only; rw [HNL.out, HNJ.out, HNI.out]; exact ⟨by omega, by omega, by omega, HNS.out⟩
        · exact ⟨HB3.out.os, HB3.out.tape, HB3.out.output, by simpa using HB3.out.size, fun k hk => (setRow_other (by have := HAD.out; omega) _).trans (HB3.out.block k hk)⟩
end Go.Proofs.YtdkfifnhmfbagaaGreat.Wi
