/- What is in boxes that are shut, by their unders: a map of slices. -/
import Derived.Test.YtompgoaogomoaaaKnR
import Derived.Maps.Range
import Derived.WideKeyEntry
namespace Go.Proofs.Ytompgoaogomoaaa.Kn
open Go.Maps Go.RowKit
open Rt (Gd gd gd_yes gd_no)
set_option linter.unusedVariables false
set_option linter.unusedSimpArgs false
set_option maxRecDepth 20000

/- 'm[k] = append(m[k], ..)': the entry is made, its element is stored later. -/
theorem entry_at {H : Type} {P : Program} {k e t : TypeId} {R : Value → Option (DataW H × List MemPlace)} {w : World} {b n : Nat} {D : DataW H} (h : w.ownsMap P k R b n D) (KL : WideMaps.KeyLaw P k) (ht : P.underlying t = some (.map k e)) {z : Value} (hz : ∀ u : World, (zeroValue e).run P u = .ok z u)
    {zd : DataW H} {zp : List MemPlace} (hzd : R z = some (zd, zp)) (hn : n < maxLen) {key : Value} {kl : Lit} (hkey : keyOf P k key = some kl) :
    ∃ v0 ps st w1, (Instr.mapEntry t (.map (some b)) key).run P w = .ok (.tuple #[v0, goInt st]) w1 ∧ R v0 = some (D.atKey kl zd, ps) ∧ w.grownBy w1 (some b) ∧ w1.heap.size = w.heap.size ∧ (∃ es cl, w1.heap[b]? = some (.map es cl)) ∧
      ∀ (w2 : World) (val : Value) (d : DataW H) (qs : List MemPlace), w2.heap[b]? = w1.heap[b]? → R val = some (d, qs) → ∃ w3, (Instr.entryStore t (.map (some b)) (goInt st) val).run P w2 = .ok () w3 ∧ w3.ownsMap P k R b (n + 1) (D.put kl d) ∧ w2.grownBy w3 (some b) := by
  have K := Keyed.of_law KL
  have hu := fun (val : Value) (d : DataW H) (qs : List MemPlace) (hv : R val = some (d, qs)) => h.update K ht hn hkey hv
  obtain ⟨es, cl, hb, F, hs, rfl⟩ := h
  obtain ⟨v0, st, es1, cl1, hrun, hv0, hst⟩ := WideElems.entry_then_store KL ht hz hb F hkey
  have hR : ∃ ps, R v0 = some ((DataW.map ((es.toList.map (WideElems.rg P k R)).foldr DataW.insert [])).atKey kl zd, ps) := by
    rcases Maps.fit_look (t := t) (e := e) false K ht (hz w) hb F hkey with ⟨_, hno, hat⟩ | ⟨e0, y, hm, hk, _, hRv, hat, _⟩
    · rcases hv0 with ⟨e1, hm1, hk1, _⟩ | ⟨_, rfl⟩
      · exact absurd hk1 (hno e1 hm1)
      · exact ⟨zp, by rw [hat zd]; exact hzd⟩
    · rcases hv0 with ⟨e1, hm1, hk1, rfl⟩ | ⟨hno, _⟩
      · have hp : es.toList.Pairwise (fun x y => x.key ≠ y.key) := ((MapKept.stamped_iff es cl).1 F.stamped).2.2
        have := entry_eq_of_key hp hm1 hm (hk1.trans hk.symm)
        subst this
        exact ⟨y.2, by rw [hat zd]; exact hRv⟩
      · exact absurd hk (hno e0 hm)
  obtain ⟨ps, hR⟩ := hR
  have hsame : (ChangeMaps.setBlock w b (.map es1 cl1)).heap[b]? = some (.map es1 cl1) := ChangeMaps.heap_setBlock_same hb _
  refine ⟨v0, ps, st, _, hrun, hR, ⟨rfl, rfl, rfl, by simp [ChangeMaps.setBlock], fun i _ hi => ChangeMaps.heap_setBlock_other hb _ (fun e => hi (by rw [e]))⟩, by simp [ChangeMaps.setBlock], ⟨_, _, hsame⟩, fun w2 val d qs h2 hv => ?_⟩
  rw [hsame] at h2
  obtain ⟨es', cl', hr1, hr2⟩ := hst w2 val h2
  obtain ⟨w', hr3, hown, _⟩ := hu val d qs hv
  rw [hr2] at hr3
  simp only [Result.ok.injEq, true_and] at hr3
  subst hr3
  obtain ⟨es3, cl3, hb3, F3, hs3, hD3⟩ := hown
  rw [ChangeMaps.heap_setBlock_same hb] at hb3
  simp only [Option.some.injEq, Obj.map.injEq] at hb3
  obtain ⟨rfl, rfl⟩ := hb3
  exact ⟨_, hr1, ⟨es', cl', ChangeMaps.heap_setBlock_same h2 _, F3, hs3, hD3⟩, ⟨rfl, rfl, rfl, by simp [ChangeMaps.setBlock], fun i _ hi => ChangeMaps.heap_setBlock_other h2 _ (fun e => hi (by rw [e]))⟩⟩
/- These operations at a step of a region. -/
theorem wp_entry {P : Program} {o : Oper} {a : Act} {w w' : World} {K : Act → World → Prop} {Q : Exit → Act → World → Prop} (t : TypeId) (m x : Operand) (ho : o.op = .mapEntry t m x) {M X V : Value} (hm : a.eval m = M) (hx : a.eval x = X)
    (hrun : (Instr.mapEntry t M X).run P w = .ok V w') (h : K (a.put o.dst V) w') : o.wp P a w K Q := by
  unfold Oper.wp execOp
  simp only [ho, hm, hx, Sem.run_bind, Sem.run_pure, hrun, Result.andThen_ok]
  exact h
theorem wp_estore {P : Program} {o : Oper} {a : Act} {w w' : World} {K : Act → World → Prop} {Q : Exit → Act → World → Prop} (t : TypeId) (m s v : Operand) (ho : o.op = .entryStore t m s v) {M X V : Value} (hm : a.eval m = M) (hx : a.eval s = X) (hv : a.eval v = V) (hd : o.dst = none)
    (hrun : (Instr.entryStore t M X V).run P w = .ok () w') (h : K a w') : o.wp P a w K Q := by
  unfold Oper.wp execOp
  simp only [ho, hm, hx, hv, Sem.run_bind, Sem.run_pure, hrun, Result.andThen_ok]
  have e : a.put o.dst undef = a := by rw [hd]; rfl
  show K (a.put o.dst undef) w'
  rw [e]
  exact h
theorem wp_del {P : Program} {o : Oper} {a : Act} {w w' : World} {K : Act → World → Prop} {Q : Exit → Act → World → Prop} (t k : TypeId) (m x : Operand) (ho : o.op = .call { callee := .builtin .delete, args := #[m, x], argTypes := #[t, k] }) {M X : Value} (hm : a.eval m = M) (hx : a.eval x = X) (hd : o.dst = none)
    (hrun : (Builtin.delete_ #[t, k] o.type #[M, X]).run P w = .ok (.tuple #[]) w') (h : K a w') : o.wp P a w K Q := by
  unfold Oper.wp execOp
  simp only [ho, resolve, invoke, builtin, Sem.run_bind, Sem.run_pure, Result.andThen_ok, List.map_toArray, List.map_cons, List.map_nil, hm, hx, hrun]
  have e : a.put o.dst (.tuple #[]) = a := by rw [hd]; rfl
  show K (a.put o.dst (.tuple #[])) w'
  rw [e]
  exact h
theorem ukLaw : WideMaps.KeyLaw Try.prog 33 := deep_law_laid laidK (m := 2) (by omega) Rt.keyRow (by kernel_rfl) (by kernel_rfl)
theorem zeroS (w : World) : (zeroValue 27).run Try.prog w = .ok (.slice none 0 0) w := by kernel_rfl
def hvE (v : Value) : Option (DataW Value × List MemPlace) := some (.held v, [])
def snil : Value := .slice none 0 0
structure Sm (w : World) (N b n : Nat) (pd : List B2) (vs : K2 → Value) : Prop where
  own : ∃ D : DataW Value, w.ownsMap Try.prog 33 hvE b n D ∧ (∀ u : K2, Gd u.1 u.2 → Maps.has D (kU u) = !(sh pd u).isEmpty ∧ D.atKey (kU u) (.held snil) = .held (vs u)) ∧ ∀ kl, Maps.has D kl = true → ∃ u : K2, Gd u.1 u.2 ∧ kl = kU u
  row : ∀ u, w.ownsRow N 33 2 (vs u) (sh pd u).length ((sh pd u).flatMap kC)
  nil : ∀ u, sh pd u = [] → vs u = snil
  apart : ∀ u v k, (vs u).ownBlock = some k → (vs v).ownBlock = some k → u = v
def setV (vs : K2 → Value) (u : K2) (x : Value) : K2 → Value := fun v => if v = u then x else vs v
theorem gd_wI {u : K2} (h : Gd u.1 u.2) : wI u.1 ∧ wI u.2 := ⟨WalkArith.wf_i64 (by have := h.1; have := h.2.1; omega), WalkArith.wf_i64 (by have := h.2.2.1; have := h.2.2.2; omega)⟩
theorem kU_good {u v : K2} (hu : Gd u.1 u.2) (hv : Gd v.1 v.2) (h : kU u = kU v) : u = v := kU_inj (gd_wI hu).1 (gd_wI hu).2 (gd_wI hv).1 (gd_wI hv).2 h
section
variable {w w' : World} {N b n : Nat} {pd : List B2} {vs : K2 → Value} {F : Nat → Prop} {u l : K2}
theorem Sm.lt (h : Sm w N b n pd vs) : b < w.heap.size := by
  obtain ⟨D, h1, _⟩ := h.own
  exact h1.lt
theorem Sm.isMap (h : Sm w N b n pd vs) : ∃ es cl, w.heap[b]? = some (.map es cl) := by
  obtain ⟨D, ⟨es, cl, h1, _⟩, _⟩ := h.own
  exact ⟨es, cl, h1⟩
theorem Sm.kept (h : Sm w N b n pd vs) (hk : Kept F w w') (hb : ¬ F b) (hr : ∀ u k, (vs u).ownBlock = some k → ¬ F k) : Sm w' N b n pd vs := by
  obtain ⟨D, h1, h2⟩ := h.own
  exact ⟨⟨D, map_kept h1 hk hb, h2⟩, fun u => hk.row (h.row u) (hr u), h.nil, h.apart⟩
theorem Sm.later (h : Sm w N b n pd vs) (hb : Below w.heap.size w w') : Sm w' N b n pd vs := h.kept (Kept.ofBelow (F := fun _ => False) hb) id fun _ _ _ => id
theorem Sm.at (h : Sm w N b n pd vs) {k : Nat} (hk : (vs u).ownBlock = some k) : N ≤ k ∧ k < w.heap.size ∧ k ≠ b := by
  obtain ⟨q1, q2, cur, q3⟩ := own_type (h.row u) hk
  refine ⟨q1, q2, fun e => ?_⟩
  obtain ⟨es, cl, hm⟩ := h.isMap
  rw [← e, q3] at hm
  cases hm
theorem Sm.new (w : World) (N : Nat) : Sm (w.alloc (.map #[] 0)) N w.heap.size 0 [] (fun _ => snil) :=
  ⟨⟨_, World.ownsMap_made w Try.prog 33 hvE, fun u _ => ⟨rfl, rfl⟩, fun kl h => by simp [Maps.has] at h⟩, fun u => World.ownsRow_nil _ _ _ _, fun u _ => rfl, fun u v k h => by cases h⟩
theorem Sm.look (h : Sm w N b n pd vs) (hu : Gd u.1 u.2) : (Instr.lookup 67 (.map (some b)) (.agg #[.int .i64 u.1, .int .i64 u.2]) false).run Try.prog w = .ok (vs u) w := by
  obtain ⟨D, h1, h2, _⟩ := h.own
  obtain ⟨v, ps, hrun, hv⟩ := h1.lookup Rt.keyLaw Try.underlying67 (zeroS w) (zd := .held snil) (zp := []) rfl (keyOf_U u (gd_wI hu).1 (gd_wI hu).2)
  rw [(h2 u hu).2] at hv
  simp only [hvE, Option.some.injEq, Prod.mk.injEq, DataW.held.injEq] at hv
  rw [← hv.1]
  exact hrun
theorem Sm.del (h : Sm w N b n pd vs) (hu : Gd u.1 u.2) (ty : TypeId) : ∃ w', (Builtin.delete_ #[ 67, 33 ] ty #[.map (some b), .agg #[.int .i64 u.1, .int .i64 u.2] ]).run Try.prog w = .ok (.tuple #[]) w' ∧ Sm w' N b n (shd pd u) (setV vs u snil) ∧ w.grownBy w' (some b) := by
  obtain ⟨D, h1, h2, h3⟩ := h.own
  obtain ⟨w', hrun, hown, ht⟩ := h1.drop Rt.keyLaw Try.underlying67 (keyOf_U u (gd_wI hu).1 (gd_wI hu).2) ty
  have hk : Kept (fun k => k = b) w w' := (Kept.refl _ w).grown ht.grown fun k e _ => by cases e; rfl
  refine ⟨w', hrun, ⟨⟨_, hown, fun v hv => ?_, fun kl hkl => ?_⟩, fun v => ?_, fun v hv => ?_, fun v x k hv hx => ?_⟩, ht.grown⟩
  · rw [sh_shd]
    unfold setV
    by_cases e : v = u
    · subst e
      rw [if_pos rfl, if_pos rfl, Maps.atKey_del_same]
      exact ⟨by rw [Maps.has_del_same]; rfl, rfl⟩
    · have hne : kU v ≠ kU u := fun q => e (kU_good hv hu q)
      rw [if_neg e, if_neg e, Maps.atKey_del_other hne, Maps.has_del_other hne]
      exact h2 v hv
  · by_cases e : kl = kU u
    · subst e; exact ⟨u, hu, rfl⟩
    · rw [Maps.has_del_other e] at hkl
      exact h3 kl hkl
  · rw [sh_shd]
    unfold setV
    by_cases e : v = u
    · rw [if_pos e, if_pos e]
      exact World.ownsRow_nil _ _ _ _
    · rw [if_neg e, if_neg e]
      exact hk.row (h.row v) fun k hk2 => (h.at hk2).2.2
  · rw [sh_shd] at hv
    unfold setV
    by_cases e : v = u
    · rw [if_pos e]
    · rw [if_neg e] at hv ⊢
      exact h.nil v hv
  · unfold setV at hv hx
    by_cases e : v = u
    · rw [if_pos e] at hv; cases hv
    · rw [if_neg e] at hv
      by_cases e' : x = u
      · rw [if_pos e'] at hx; cases hx
      · rw [if_neg e'] at hx
        exact h.apart v x k hv hx
/- One more under a key: the entry; behind the append the store. -/
theorem Sm.entry (h : Sm w N b n pd vs) (hu : Gd u.1 u.2) (hn : n < 4611686018427387904) :
    ∃ st w1, (Instr.mapEntry 67 (.map (some b)) (.agg #[.int .i64 u.1, .int .i64 u.2])).run Try.prog w = .ok (.tuple #[vs u, goInt st]) w1 ∧ w.grownBy w1 (some b) ∧ w1.heap.size = w.heap.size ∧
      ∀ (l : K2) (w2 : World) (x : Value), w2.heap[b]? = w1.heap[b]? → (∀ v, v ≠ u → w2.ownsRow N 33 2 (vs v) (sh pd v).length ((sh pd v).flatMap kC)) → w2.ownsRow N 33 2 x ((sh pd u).length + 1) ((sh pd u ++ [l]).flatMap kC) → (∀ k, x.ownBlock = some k → (vs u).ownBlock = some k ∨ w.heap.size ≤ k) →
        ∃ w3, (Instr.entryStore 67 (.map (some b)) (goInt st) x).run Try.prog w2 = .ok () w3 ∧ Sm w3 N b (n + 1) (pd ++ [(u, l)]) (setV vs u x) ∧ w2.grownBy w3 (some b) := by
  obtain ⟨D, h1, h2, h3⟩ := h.own
  have hkey := keyOf_U u (gd_wI hu).1 (gd_wI hu).2
  obtain ⟨v0, ps, st, w1, hrun, hv0, hg1, hs1, hm1, hst⟩ := entry_at h1 ukLaw Try.underlying67 zeroS (zd := .held snil) (zp := []) rfl (by unfold maxLen; omega) hkey
  rw [(h2 u hu).2] at hv0
  simp only [hvE, Option.some.injEq, Prod.mk.injEq, DataW.held.injEq] at hv0
  rw [hv0.1] at hrun
  refine ⟨st, w1, hrun, hg1, hs1, fun l w2 x hb2 hrs hx hxb => ?_⟩
  obtain ⟨w3, hr3, hown, hg3⟩ := hst w2 x (.held x) [] hb2 rfl
  have hk : Kept (fun k => k = b) w2 w3 := (Kept.refl _ w2).grown hg3 fun k e _ => by cases e; rfl
  have hD := World.ownsMap.isMap h1
  have hil := Rt.keyLaw.key hkey
  have hbm : ∃ es cl, w2.heap[b]? = some (.map es cl) := by rw [hb2]; exact hm1
  have far : ∀ {y : Value} {m : Nat} {cs : List Value}, w2.ownsRow N 33 2 y m cs → ∀ k, y.ownBlock = some k → k ≠ b := fun hy k hk e => by
    obtain ⟨_, _, cur, q3⟩ := own_type hy hk
    obtain ⟨es, cl, hm⟩ := hbm
    rw [← e, q3] at hm
    cases hm
  refine ⟨w3, hr3, ⟨⟨_, hown, fun v hv => ?_, fun kl hkl => ?_⟩, fun v => ?_, fun v hv => ?_, fun v y k hv hy => ?_⟩, hg3⟩
  · rw [sh_snoc]
    unfold setV
    by_cases e : v = u
    · subst e
      rw [if_pos rfl, if_pos rfl, Maps.atKey_put_same hD hil, Maps.has_put_same hD hil]
      exact ⟨by simp, rfl⟩
    · have hne : kU v ≠ kU u := fun q => e (kU_good hv hu q)
      rw [if_neg (fun q : u = v => e q.symm), if_neg e, Maps.atKey_put_other hne, Maps.has_put_other hne]
      exact h2 v hv
  · by_cases e : kl = kU u
    · exact ⟨u, hu, e⟩
    · rw [Maps.has_put_other e] at hkl
      exact h3 kl hkl
  · rw [sh_snoc]
    unfold setV
    by_cases e : v = u
    · subst e
      rw [if_pos rfl, if_pos rfl, List.length_append]
      exact hk.row hx (far hx)
    · rw [if_neg (fun q : u = v => e q.symm), if_neg e]
      exact hk.row (hrs v e) (far (hrs v e))
  · rw [sh_snoc] at hv
    unfold setV
    by_cases e : v = u
    · subst e
      rw [if_pos rfl] at hv
      simp at hv
    · rw [if_neg (fun q : u = v => e q.symm)] at hv
      rw [if_neg e]
      exact h.nil v hv
  · unfold setV at hv hy
    by_cases e : v = u
    · rw [if_pos e] at hv
      by_cases e' : y = u
      · rw [e, e']
      · rw [if_neg e'] at hy
        rcases hxb k hv with q | q
        · exact absurd (h.apart y u k hy q) e'
        · have := (h.at hy).2.1
          omega
    · rw [if_neg e] at hv
      by_cases e' : y = u
      · rw [if_pos e'] at hy
        rcases hxb k hy with q | q
        · exact absurd (h.apart v u k hv q) e
        · have := (h.at hv).2.1
          omega
      · rw [if_neg e'] at hy
        exact h.apart v y k hv hy
end
end Go.Proofs.Ytompgoaogomoaaa.Kn
