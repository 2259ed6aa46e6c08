/- The program's net in memory: a row of all packets, a map of those under way. -/
import Derived.Test.YtcdibafcolhlgaaNeE
import Derived.Maps.OwnSet
import Derived.Maps.Views
namespace Go.Proofs.Ytcdibafcolhlgaa.Ne
open Go.Maps Go.RowKit
set_option linter.unusedVariables false
set_option linter.unusedSimpArgs false

def kI (b : Int) : Lit := .int .i64 b
def hvE (v : Value) : Option (DataW Value × List MemPlace) := some (.held v, [])
def pV (p : Pt) : Value := .agg #[.int .i64 p.1, .int .i64 p.2.1, .string p.2.2]
theorem intK9 : Keyed Try.prog 3 := int_keyed Try.underlying3
theorem zeroP (w : World) : (zeroValue 35).run Try.prog w = .ok (pV zP) w := by kernel_rfl
theorem kI_of {x : Int} (h : wI x) : keyOf Try.prog 3 (.int .i64 x) = some (kI x) := keyOf_int_mk Try.underlying3 h
theorem kI_ne {x y : Int} (h : x ≠ y) : kI x ≠ kI y := fun e => h (by cases e; rfl)
theorem map_kept {H : Type} {k : TypeId} {R : Value → Option (DataW H × List MemPlace)} {w w' : World} {b n : Nat} {D : DataW H} {F : Nat → Prop} (h : w.ownsMap Try.prog k R b n D) (hk : Kept F w w') (hb : ¬ F b) : w'.ownsMap Try.prog k R b n D := by
  have hlt := h.lt
  obtain ⟨es, cl, hh, r⟩ := h
  exact ⟨es, cl, (hk.block b hlt hb).trans hh, r⟩
/- The packets under way, by their numbers. -/
structure Pm (w : World) (b : Nat) (s : Nst) : Prop where
  own : ∃ D : DataW Value, w.ownsMap Try.prog 3 hvE b s.A.length D ∧ (∀ i, i < s.A.length → s.G.getD i true = false → Maps.has D (kI ((i : Int) + 1)) = true ∧ D.atKey (kI ((i : Int) + 1)) (.held (pV zP)) = .held (pV (s.A.getD i zP))) ∧ ∀ k : Int, ¬ s.on k → Maps.has D (kI k) = false
theorem wI_nat {i : Nat} (h : i < 4611686018427387904) : wI ((i : Int) + 1) := WalkArith.wf_i64 (by omega)
theorem Nst.not_on_len (s : Nst) : ¬ s.on ((s.A.length : Int) + 1) := fun ⟨i, hi, e, _⟩ => by omega
theorem on_sent {s : Nst} (hl : s.G.length = s.A.length) (f : Int) (t : ByteArray) (k : Int) : (s.sent f t).on k ↔ s.on k ∨ k = (s.A.length : Int) + 1 := by
  unfold Nst.on Nst.sent
  simp only [List.length_append, List.length_cons, List.length_nil]
  constructor
  · rintro ⟨i, hi, rfl, hg⟩
    by_cases e : i = s.A.length
    · exact .inr (by rw [e])
    · refine .inl ⟨i, by omega, rfl, ?_⟩
      rw [List.getD_eq_getElem?_getD, List.getElem?_append_left (by omega), ← List.getD_eq_getElem?_getD] at hg
      exact hg
  · rintro (⟨i, hi, rfl, hg⟩ | rfl)
    · refine ⟨i, by omega, rfl, ?_⟩
      rw [List.getD_eq_getElem?_getD, List.getElem?_append_left (by omega), ← List.getD_eq_getElem?_getD]
      exact hg
    · refine ⟨s.A.length, by omega, rfl, ?_⟩
      rw [List.getD_eq_getElem?_getD, List.getElem?_append_right (by omega), hl, Nat.sub_self]
      rfl
theorem on_dropped {s : Nst} {i : Nat} (k : Int) : (s.dropped i).on k → s.on k ∧ k ≠ (i : Int) + 1 := by
  rintro ⟨j, hj, rfl, hg⟩
  have hg : (s.G.set i true).getD j true = false := hg
  by_cases e : j = i
  · subst e
    rw [List.getD_eq_getElem?_getD, List.getElem?_set] at hg
    by_cases q : j < s.G.length <;> simp [q] at hg
  · rw [List.getD_eq_getElem?_getD, List.getElem?_set_ne (fun q => e q.symm), ← List.getD_eq_getElem?_getD] at hg
    exact ⟨⟨j, hj, rfl, hg⟩, by omega⟩
theorem on_dropped_of {s : Nst} {i : Nat} {k : Int} (h : s.on k) (hne : k ≠ (i : Int) + 1) : (s.dropped i).on k := by
  obtain ⟨j, hj, rfl, hg⟩ := h
  refine ⟨j, hj, rfl, ?_⟩
  show (s.G.set i true).getD j true = false
  rw [List.getD_eq_getElem?_getD, List.getElem?_set_ne (by omega), ← List.getD_eq_getElem?_getD]
  exact hg
section
variable {w w' : World} {b : Nat} {s : Nst} {F : Nat → Prop}
theorem Pm.lt (h : Pm w b s) : b < w.heap.size := by
  obtain ⟨D, h1, _⟩ := h.own
  exact h1.lt
theorem Pm.isMap (h : Pm w b s) : ∃ es cl, w.heap[b]? = some (.map es cl) := by
  obtain ⟨D, ⟨es, cl, h1, _⟩, _⟩ := h.own
  exact ⟨es, cl, h1⟩
theorem Pm.kept (h : Pm w b s) (hk : Kept F w w') (hb : ¬ F b) : Pm w' b s := by
  obtain ⟨D, h1, h2⟩ := h.own
  exact ⟨D, map_kept h1 hk hb, h2⟩
theorem Pm.later (h : Pm w b s) (hb : Below w.heap.size w w') : Pm w' b s := h.kept (Kept.ofBelow (F := fun _ => False) hb) id
theorem Pm.new (w : World) : Pm (w.alloc (.map #[] 0)) w.heap.size ⟨[], []⟩ :=
  ⟨_, World.ownsMap_made w Try.prog 3 hvE, fun i hi => absurd hi (by simp), fun k _ => by simp [Maps.has]⟩
theorem Pm.look_no (h : Pm w b s) {k : Int} (hw : wI k) (hk : ¬ s.on k) : (Instr.lookup 44 (.map (some b)) (.int .i64 k) true).run Try.prog w = .ok (.tuple #[.agg #[.int .i64 0, .int .i64 0, .string ⟨#[]⟩], .bool false]) w := by
  obtain ⟨D, h1, h2, h3⟩ := h.own
  obtain ⟨v, ps, hrun, hv⟩ := h1.look_ok intK9 Try.underlying44 (zeroP w) (zd := .held (pV zP)) (zp := []) rfl (kI_of hw)
  have hno := h3 k hk
  rw [hrun, hno]
  rw [Maps.atKey_of_not_has hno] at hv
  simp only [hvE, Option.some.injEq, Prod.mk.injEq, DataW.held.injEq] at hv
  rw [hv.1]
  rfl
theorem Pm.look_yes (h : Pm w b s) {i : Nat} (hb : i < 4611686018427387904) (hi : i < s.A.length) (hg : s.G.getD i true = false) : (Instr.lookup 44 (.map (some b)) (.int .i64 ((i : Int) + 1)) true).run Try.prog w = .ok (.tuple #[pV (s.A.getD i zP), .bool true]) w := by
  obtain ⟨D, h1, h2, h3⟩ := h.own
  obtain ⟨v, ps, hrun, hv⟩ := h1.look_ok intK9 Try.underlying44 (zeroP w) (zd := .held (pV zP)) (zp := []) rfl (kI_of (wI_nat hb))
  obtain ⟨q1, q2⟩ := h2 i hi hg
  rw [hrun, q1]
  rw [q2] at hv
  simp only [hvE, Option.some.injEq, Prod.mk.injEq, DataW.held.injEq] at hv
  rw [hv.1]
theorem Pm.len (h : Pm w b s) : ∃ m, m ≤ s.A.length ∧ ∀ ty, (Builtin.len_ #[ 44 ] ty #[.map (some b)]).run Try.prog w = .ok (.int .i64 ((m : Nat) : Int)) w := by
  obtain ⟨D, h1, h2, h3⟩ := h.own
  exact ⟨Maps.size D, h1.size_le, fun ty => h1.len Try.underlying44 ty⟩
theorem Pm.put (h : Pm w b s) (hl : s.G.length = s.A.length) (hb : s.A.length < 4611686018427387904) (f : Int) (t : ByteArray) :
    ∃ w', (Instr.mapUpdate 44 (.map (some b)) (.int .i64 ((s.A.length : Int) + 1)) (.agg #[.int .i64 ((s.A.length : Int) + 1), .int .i64 f, .string t])).run Try.prog w = .ok () w' ∧ Pm w' b (s.sent f t) ∧ w.grownBy w' (some b) := by
  obtain ⟨D, h1, h2, h3⟩ := h.own
  obtain ⟨w', hrun, hown, hg⟩ := h1.update intK9 Try.underlying44 (by unfold maxLen; omega) (kI_of (wI_nat hb)) (val := .agg #[.int .i64 ((s.A.length : Int) + 1), .int .i64 f, .string t]) (d := .held (pV ((s.A.length : Int) + 1, (f, t)))) (ps := []) rfl
  have hD := World.ownsMap.isMap h1
  have hil := intK9.key (kI_of (wI_nat hb))
  have e : (s.sent f t).A.length = s.A.length + 1 := by simp [Nst.sent]
  refine ⟨w', hrun, ⟨_, by rw [e]; exact hown, fun i hi hgi => ?_, fun k hk => ?_⟩, hg⟩
  · rw [e] at hi
    by_cases q : i = s.A.length
    · subst q
      refine ⟨Maps.has_put_same hD hil _, ?_⟩
      rw [Maps.atKey_put_same hD hil]
      simp [Nst.sent]
    · have hne := kI_ne (x := (i : Int) + 1) (y := (s.A.length : Int) + 1) (by omega)
      have hi' : i < s.A.length := by omega
      have eA : (s.sent f t).A.getD i zP = s.A.getD i zP := by simp [Nst.sent, List.getD_eq_getElem?_getD, List.getElem?_append_left hi']
      have eG : (s.sent f t).G.getD i true = s.G.getD i true := by simp [Nst.sent, List.getD_eq_getElem?_getD, List.getElem?_append_left (show i < s.G.length by omega)]
      rw [Maps.has_put_other hne, Maps.atKey_put_other hne, eA]
      rw [eG] at hgi
      exact h2 i hi' hgi
  · rw [on_sent hl] at hk
    have hne := kI_ne (x := k) (y := (s.A.length : Int) + 1) (fun e => hk (.inr e))
    rw [Maps.has_put_other hne]
    exact h3 k (fun e => hk (.inl e))
theorem Pm.del (h : Pm w b s) {i : Nat} (hb : i < 4611686018427387904) : ∃ w', (∀ ty, (Builtin.delete_ #[ 44, 3 ] ty #[.map (some b), .int .i64 ((i : Int) + 1)]).run Try.prog w = .ok (.tuple #[]) w') ∧ Pm w' b (s.dropped i) ∧ w.grownBy w' (some b) := by
  obtain ⟨D, h1, h2, h3⟩ := h.own
  obtain ⟨w', hrun, hown, ht⟩ := h1.drop intK9 Try.underlying44 (kI_of (wI_nat hb)) 3
  refine ⟨w', fun ty => hrun, ⟨_, hown, fun j hj hg => ?_, fun k hk => ?_⟩, ht.grown⟩
  · have hj : j < s.A.length := hj
    have hon : (s.dropped i).on ((j : Int) + 1) := ⟨j, hj, rfl, hg⟩
    obtain ⟨⟨j', hj', e, hg'⟩, hne⟩ := on_dropped _ hon
    obtain rfl : j = j' := by omega
    rw [Maps.has_del_other (kI_ne hne), Maps.atKey_del_other (kI_ne hne)]
    exact h2 j hj hg'
  · by_cases e : k = (i : Int) + 1
    · subst e
      exact Maps.has_del_same
    · rw [Maps.has_del_other (kI_ne e)]
      exact h3 k (fun q => hk (on_dropped_of q e))
end
/- The object. -/
structure Px (w : World) (N p : Nat) (s : Nst) (va : Value) (b : Nat) : Prop where
  blk : w.heap[p]? = some (.cells #[va, .map (some b)] 46 (0, 0))
  all : w.ownsRow N 35 3 va s.A.length (s.A.flatMap pC)
  map : Pm w b s
  np : N ≤ p ∧ N ≤ b
  nil : s.A = [] → va = .slice none 0 0
def Fx (p : Nat) (va : Value) (b : Nat) (k : Nat) : Prop := k = p ∨ va.ownBlock = some k ∨ k = b
def PAt : QPred := fun w N p s F => ∃ va b, Px w N p s va b ∧ F = Fx p va b
section
variable {w w' : World} {N p b : Nat} {s : Nst} {va : Value} {F G : Nat → Prop}
theorem Px.kept (h : Px w N p s va b) (hk : Kept F w w') (hF : ∀ k, Fx p va b k → ¬ F k) : Px w' N p s va b :=
  ⟨(hk.block p (Array.getElem?_eq_some_iff.1 h.blk).1 (hF p (.inl rfl))).trans h.blk, hk.row h.all fun k e => hF k (.inr (.inl e)), h.map.kept hk (hF b (.inr (.inr rfl))), h.np, h.nil⟩
theorem Px.later (h : Px w N p s va b) (hb : Below w.heap.size w w') : Px w' N p s va b := h.kept (F := fun _ => False) (Kept.ofBelow hb) fun _ _ e => e
theorem Px.c0 (h : Px w N p s va b) : w.cell? ⟨p, 0, none⟩ = some va := cell_of_row _ _ 0 _ _ _ h.blk
theorem Px.c1 (h : Px w N p s va b) : w.cell? ⟨p, 1, none⟩ = some (.map (some b)) := cell_of_row _ _ 1 _ _ _ h.blk
theorem Px.lt (h : Px w N p s va b) : p < w.heap.size := (Array.getElem?_eq_some_iff.1 h.blk).1
theorem Px.ge (h : Px w N p s va b) : ∀ k, Fx p va b k → N ≤ k ∧ k < w.heap.size := by
  rintro k (e | e | e)
  · exact e ▸ ⟨h.np.1, h.lt⟩
  · exact ⟨(own_type h.all e).1, (own_type h.all e).2.1⟩
  · exact e ▸ ⟨h.np.2, h.map.lt⟩
theorem no_map {k : Nat} {cs : Array Value} {t : TypeId} {fr : Nat × Nat} (h : w.heap[k]? = some (.cells cs t fr)) {b : Nat} (hm : ∃ es cl, w.heap[b]? = some (.map es cl)) : k ≠ b := fun e => by
  obtain ⟨es, cl, q⟩ := hm
  rw [← e, h] at q
  cases q
theorem Px.apart (h : Px w N p s va b) : va.ownBlock ≠ some p ∧ p ≠ b ∧ va.ownBlock ≠ some b := by
  refine ⟨fun hk => ?_, no_map h.blk h.map.isMap, fun hk => ?_⟩
  · obtain ⟨_, _, cur, hc⟩ := own_type h.all hk
    have := h.blk
    rw [hc] at this
    simp at this
  · obtain ⟨_, _, cur, hc⟩ := own_type h.all hk
    exact no_map hc h.map.isMap rfl
theorem PAt.kept (h : PAt w N p s F) (hk : Kept G w w') (hF : ∀ k, F k → ¬ G k) : PAt w' N p s F := by
  obtain ⟨va, b, h1, rfl⟩ := h
  exact ⟨va, b, h1.kept hk hF, rfl⟩
theorem PAt.ge (h : PAt w N p s F) : ∀ k, F k → N ≤ k ∧ k < w.heap.size := by
  obtain ⟨va, b, h1, rfl⟩ := h
  exact h1.ge
theorem Px.acell (h : Px w N p s va b) {i : Nat} (hi : i < s.A.length) : ∃ g c, va = .slice (some ⟨g, 0, none⟩) s.A.length c ∧ w.cell? ⟨g, i * 3, none⟩ = some (.int .i64 (s.A.getD i zP).1) ∧ w.cell? ⟨g, i * 3 + 1, none⟩ = some (.int .i64 (s.A.getD i zP).2.1) ∧ w.cell? ⟨g, i * 3 + 2, none⟩ = some (.string (s.A.getD i zP).2.2) := by
  obtain ⟨a, c, e, h0⟩ := own_spell h.all
  obtain ⟨g, rfl⟩ := h0.resolve_left (by omega)
  have hr := h.all
  rw [e] at hr
  obtain ⟨b, o, e2, c0, c1, c2⟩ := rdP_of hr i hi
  cases e2
  rw [Nat.zero_add] at c0 c1 c2
  exact ⟨g, c, e, c0, c1, c2⟩
end
set_option maxRecDepth 100000 in
theorem new_p (w : World) : Calls Try.prog 7 #[] w fun e w' => ∃ p F, e = .returned (.pointer (some ⟨p, 0, none⟩)) ∧ PAt w' w.heap.size p ⟨[], []⟩ F ∧ Below w.heap.size w w' := by
  have hmm := @run_makeMap Try.prog
  have hb1 := below1 w (.map #[] 0)
  have hs : (w.alloc (.map #[] 0)).heap.size = w.heap.size + 1 := by simp
  have HP : Hid (Px ((w.alloc (.map #[] 0)).alloc (.cells #[.slice none 0 0, .map (some w.heap.size)] 46)) w.heap.size (w.heap.size + 1) ⟨[], []⟩ (.slice none 0 0) w.heap.size) :=
    ⟨by rw [← hs]; exact _root_.Go.heap_alloc_last _ _, World.ownsRow_nil _ _ _ _, (Pm.new w).later (below1 _ _), ⟨by omega, Nat.le_refl _⟩, fun _ => rfl⟩
  have HB : Hid (Below w.heap.size w ((w.alloc (.map #[] 0)).alloc (.cells #[.slice none 0 0, .map (some w.heap.size)] 46))) := Below.then hb1 (below1 _ _)
  clear hb1 hs
  go_enter Try.func7, Try.ntmps7
  go_wp2
  go_ret
  exact ⟨_, _, rfl, ⟨_, _, HP.out, rfl⟩, HB.out⟩
set_option maxRecDepth 100000 in
set_option maxHeartbeats 2000000 in
theorem getP_no (w : World) (N p : Nat) (s : Nst) (va : Value) (b : Nat) (h : Px w N p s va b) (k : Int) (hw : wI k) (hk : ¬ s.on k) :
    Calls Try.prog 10 #[.pointer (some ⟨p, 0, none⟩), .int .i64 k] w fun e w' => e = aP zP 26 ∧ Below w.heap.size w w' := by
  have hb1 : Below w.heap.size w (w.alloc (.cells #[.int .i64 0, .int .i64 0, .string ⟨#[]⟩] 35)) := below1 _ _
  have hx := boxed3 w (.int .i64 0) (.int .i64 0) (.string ⟨#[]⟩) 35
  have c1 := cell_later hb1 h.c1
  have hlk := (h.map.later hb1).look_no hw hk
  have HB : Hid (_) := hb1
  clear h hw hk hb1
  go_enter Try.func10, Try.ntmps10
  go_wp2_with fail
  exact bodyPost_ret (v := .tuple #[.agg #[.int .i64 0, .int .i64 0, .string ⟨#[]⟩], .int .i64 26]) (by simp [results, Try.results10, go_sem]) rfl ⟨rfl, Below.then HB.out (below1 _ _)⟩
set_option maxRecDepth 100000 in
set_option maxHeartbeats 2000000 in
theorem getP_yes (w : World) (N p : Nat) (s : Nst) (va : Value) (b : Nat) (h : Px w N p s va b) (i : Nat) (hb : i < 4611686018427387904) (hi : i < s.A.length) (hg : s.G.getD i true = false) :
    Calls Try.prog 10 #[.pointer (some ⟨p, 0, none⟩), .int .i64 ((i : Int) + 1)] w fun e w' => e = aP (s.A.getD i zP) 0 ∧ Below w.heap.size w w' := by
  have hb1 : Below w.heap.size w (w.alloc (.cells #[.int .i64 0, .int .i64 0, .string ⟨#[]⟩] 35)) := below1 _ _
  have hx := boxed3 w (.int .i64 0) (.int .i64 0) (.string ⟨#[]⟩) 35
  have c1 := cell_later hb1 h.c1
  have hlk := (h.map.later hb1).look_yes hb hi hg
  obtain ⟨P, hP⟩ : ∃ P, s.A.getD i zP = P := ⟨_, rfl⟩
  rw [hP] at hlk ⊢
  obtain ⟨P0, P1, P2⟩ := P
  unfold pV at hlk
  dsimp only at hlk
  clear h hb hi hg hP
  go_enter Try.func10, Try.ntmps10
  go_wp2_with fail
  exact bodyPost_ret (v := .tuple #[.agg #[.int .i64 P0, .int .i64 P1, .string P2], .int .i64 0]) (by simp [results, Try.results10, go_sem]) rfl ⟨rfl, Below.then (below1 _ _) (below1 _ _)⟩
set_option maxRecDepth 100000 in
set_option maxHeartbeats 2000000 in
theorem dropP_no (w : World) (N p : Nat) (s : Nst) (va : Value) (b : Nat) (h : Px w N p s va b) (k : Int) (hw : wI k) (hk : ¬ s.on k) :
    Calls Try.prog 12 #[.pointer (some ⟨p, 0, none⟩), .int .i64 k] w fun e w' => e = .returned (.int .i64 26) ∧ Below w.heap.size w w' := by
  have c1 := h.c1
  have hlk := h.map.look_no hw hk
  clear h hw hk
  go_enter Try.func12, Try.ntmps12
  go_wp2_with fail
  go_ret
  exact ⟨rfl, below1 _ _⟩
set_option maxRecDepth 100000 in
set_option maxHeartbeats 2000000 in
theorem dropP_yes (w : World) (N p : Nat) (s : Nst) (va : Value) (b : Nat) (h : Px w N p s va b) (i : Nat) (hb : i < 4611686018427387904) (hi : i < s.A.length) (hg : s.G.getD i true = false) :
    Calls Try.prog 12 #[.pointer (some ⟨p, 0, none⟩), .int .i64 ((i : Int) + 1)] w fun e w' => e = .returned (.int .i64 0) ∧ Px w' N p (s.dropped i) va b ∧ Kept (fun k => k = b) w w' := by
  have c1 := h.c1
  have hlk := h.map.look_yes hb hi hg
  obtain ⟨P, hP⟩ : ∃ P, s.A.getD i zP = P := ⟨_, rfl⟩
  rw [hP] at hlk
  obtain ⟨P0, P1, P2⟩ := P
  unfold pV at hlk
  dsimp only at hlk
  have hb1 := below1 w (.cells #[.int .i64 P0, .int .i64 P1, .string P2] 35)
  have h1 := h.later hb1
  obtain ⟨w', hrun, hm, hgr⟩ := h1.map.del hb
  have hk := (Kept.refl (fun k => k = b) _).grown hgr fun k e _ => by cases e; rfl
  obtain ⟨a1, a2, a3⟩ := h1.apart
  have HE : Hid (Px w' N p (s.dropped i) va b ∧ Kept (fun k => k = b) w w') :=
    ⟨⟨(hk.block p h1.lt a2).trans h1.blk, hk.row h1.all (fun k e e' => a3 (e' ▸ e)), hm, h1.np, h1.nil⟩, (Kept.ofBelow hb1).trans hk fun _ _ e => e⟩
  have d1 := h1.c1
  have HR : Hid (_) := hrun
  clear h h1 hb hi hg hP hm hgr hk a1 a2 a3 hb1 hrun
  go_enter Try.func12, Try.ntmps12
  go_wp2_with fail
  rw [HR.out]
  simp only [Result.andThen]
  rw [Oper.upon_value]
  go_wp2_with fail
  go_ret
  exact ⟨rfl, HE.out⟩
end Go.Proofs.Ytcdibafcolhlgaa.Ne
