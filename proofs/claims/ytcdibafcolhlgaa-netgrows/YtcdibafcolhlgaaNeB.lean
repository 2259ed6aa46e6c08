/- The document's Net in memory; contract: Send. MADE by wip/mk_ne.py. -/
import Derived.Test.YtcdibafcolhlgaaNeA
namespace Go.Proofs.Ytcdibafcolhlgaa.Ne
open Go.RowKit Go.Maps
set_option linter.unusedVariables false
set_option linter.unusedSimpArgs false

structure Nst where
  A : List Pt
  G : List Bool
def Nst.sent (s : Nst) (f : Int) (t : ByteArray) : Nst := ⟨s.A ++ [((s.A.length : Int) + 1, (f, t))], s.G ++ [false]⟩
structure NAt (w : World) (N p : Nat) (s : Nst) (va vg : Value) : Prop where
  blk : w.heap[p]? = some (.cells #[va, vg] 30 (0, 0))
  all : w.ownsRow N 35 3 va s.A.length (s.A.flatMap pC)
  gone : w.ownsRow N 4 1 vg s.G.length (s.G.map Value.bool)
  np : N ≤ p
def Fn (p : Nat) (va vg : Value) (k : Nat) : Prop := k = p ∨ va.ownBlock = some k ∨ vg.ownBlock = some k
def NP (w w' : World) (N p : Nat) (s' : Nst) (va vg : Value) : Prop := ∃ va' vg', NAt w' N p s' va' vg' ∧ Kept (Fn p va vg) w w' ∧ ∀ k, Fn p va' vg' k → Fn p va vg k ∨ w.heap.size ≤ k
theorem infoP : (Try.prog.info? 35).map (fun i => (i.zero, i.size, i.bytes)) = some (some (.agg #[.int .i64 0, .int .i64 0, .string ⟨#[]⟩]), 3, 32) := by kernel_rfl
theorem infoB : (Try.prog.info? 4).map (fun i => (i.zero, i.size, i.bytes)) = some (some (.bool false), 1, 1) := by kernel_rfl
section
variable {w w' w3 : World} {N p g c : Nat} {s s' : Nst} {va vg : Value} {F : Nat → Prop}
theorem NAt.kept (h : NAt w N p s va vg) (hk : Kept F w w') (hF : ∀ k, Fn p va vg k → ¬ F k) : NAt w' N p s va vg :=
  ⟨(hk.block p (Array.getElem?_eq_some_iff.1 h.blk).1 (hF p (.inl rfl))).trans h.blk, hk.row h.all fun k e => hF k (.inr (.inl e)), hk.row h.gone fun k e => hF k (.inr (.inr e)), h.np⟩
theorem NAt.later (h : NAt w N p s va vg) (hb : Below w.heap.size w w') : NAt w' N p s va vg := h.kept (F := fun _ => False) (Kept.ofBelow hb) fun _ _ e => e
theorem NAt.c0 (h : NAt w N p s va vg) : w.cell? ⟨p, 0, none⟩ = some va := cell_of_row _ _ 0 _ _ _ h.blk
theorem NAt.c1 (h : NAt w N p s va vg) : w.cell? ⟨p, 1, none⟩ = some vg := cell_of_row _ _ 1 _ _ _ h.blk
theorem NAt.lt (h : NAt w N p s va vg) : p < w.heap.size := (Array.getElem?_eq_some_iff.1 h.blk).1
theorem NAt.ge (h : NAt w N p s va vg) : ∀ k, Fn p va vg k → N ≤ k ∧ k < w.heap.size := by
  rintro k (e | e | e)
  · exact e ▸ ⟨h.np, h.lt⟩
  · exact ⟨(own_type h.all e).1, (own_type h.all e).2.1⟩
  · exact ⟨(own_type h.gone e).1, (own_type h.gone e).2.1⟩
theorem NAt.apart (h : NAt w N p s va vg) : va.ownBlock ≠ some p ∧ vg.ownBlock ≠ some p ∧ ∀ k, va.ownBlock = some k → vg.ownBlock ≠ some k := by
  have tp : ∀ {e z n : Nat} {v : Value} {xs : List Value}, w.ownsRow N e z v n xs → e ≠ 30 → v.ownBlock ≠ some p := by
    intro e z n v xs hr he hk
    obtain ⟨_, _, cur, hc⟩ := own_type hr hk
    have := h.blk
    rw [hc] at this
    simp at this
    exact he this.2
  exact ⟨tp h.all (by decide), tp h.gone (by decide), own_apart h.all h.gone (by decide)⟩
theorem NAt.same (h : NAt w N p s va vg) (hb : Below w.heap.size w w') : NP w w' N p s va vg := ⟨va, vg, h.later hb, Kept.ofBelow hb, fun _ h => .inl h⟩
theorem NP.then {s1 : Nst} (h1 : NP w w' N p s1 va vg) (h2 : ∀ va' vg', NAt w' N p s1 va' vg' → NP w' w3 N p s' va' vg') : NP w w3 N p s' va vg := by
  obtain ⟨va', vg', a1, k1, f1⟩ := h1
  obtain ⟨va2, vg2, a2, k2, f2⟩ := h2 va' vg' a1
  refine ⟨va2, vg2, a2, k1.trans k2 fun i hi e => ?_, fun k e => ?_⟩
  · rcases f1 i e with h | h
    · exact h
    · omega
  · rcases f2 k e with h | h
    · exact f1 k h
    · exact .inr (Nat.le_trans k1.size h)
theorem NP.below (h : NP w w' N p s' va vg) (h0 : NAt w N p s va vg) (hN : N ≤ w.heap.size) : Below N w w' := by
  obtain ⟨_, _, _, h2, _⟩ := h
  exact h2.below hN fun k hk => (h0.ge k hk).1
theorem NAt.grewA (h : NAt w N p s va vg) (x : Pt) (hk : Kept (fun k => va.ownBlock = some k) w w3) (hr : w3.ownsRow N 35 3 (.slice (some ⟨g, 0, none⟩) (s.A.length + 1) c) (s.A.length + 1) (s.A.flatMap pC ++ pC x)) (hg : va.ownBlock = some g ∨ w.heap.size ≤ g) :
    NAt (w3.setCell ⟨p, 0, none⟩ (.slice (some ⟨g, 0, none⟩) (s.A.length + 1) c)) N p ⟨s.A ++ [x], s.G⟩ (.slice (some ⟨g, 0, none⟩) (s.A.length + 1) c) vg ∧ Kept (Fn p va vg) w (w3.setCell ⟨p, 0, none⟩ (.slice (some ⟨g, 0, none⟩) (s.A.length + 1) c)) ∧ ∀ k, Fn p (.slice (some ⟨g, 0, none⟩) (s.A.length + 1) c) vg k → Fn p va vg k ∨ w.heap.size ≤ k := by
  obtain ⟨a1, a2, a4⟩ := h.apart
  have hpl := h.lt
  have hb3 := (hk.block p hpl a1).trans h.blk
  have hgp : g ≠ p := by
    rcases hg with e | e
    · intro e'; subst e'; exact a1 e
    · omega
  have ks : Kept (fun k => k = p) w3 (w3.setCell ⟨p, 0, none⟩ (.slice (some ⟨g, 0, none⟩) (s.A.length + 1) c)) := (Kept.refl (fun k => k = p) w3).setCell (p := ⟨p, 0, none⟩) (fun _ => rfl) _
  refine ⟨⟨?_, ?_, ks.row (hk.row h.gone fun k e e' => a4 k e' e) (fun k e e' => a2 (e' ▸ e)), h.np⟩, ?_, ?_⟩
  · rw [blk_set hb3]; simp
  · have e : (s.A ++ [x]).flatMap pC = s.A.flatMap pC ++ pC x := by simp
    rw [e, List.length_append]
    exact ks.row hr fun k e e' => hgp (by cases e; exact e')
  · exact (hk.mono (F' := Fn p va vg) fun _ _ e => .inr (.inl e)).setCell (fun _ => .inl rfl) _
  · rintro k (e | e | e)
    · exact .inl (.inl e)
    · cases e
      exact hg.imp (fun e => .inr (.inl e)) id
    · exact .inl (.inr (.inr e))
theorem NAt.grewG (h : NAt w N p s va vg) (x : Bool) (hk : Kept (fun k => vg.ownBlock = some k) w w3) (hr : w3.ownsRow N 4 1 (.slice (some ⟨g, 0, none⟩) (s.G.length + 1) c) (s.G.length + 1) (s.G.map Value.bool ++ [.bool x])) (hg : vg.ownBlock = some g ∨ w.heap.size ≤ g) :
    NP w (w3.setCell ⟨p, 1, none⟩ (.slice (some ⟨g, 0, none⟩) (s.G.length + 1) c)) N p ⟨s.A, s.G ++ [x]⟩ va vg := by
  obtain ⟨a1, a2, a4⟩ := h.apart
  have hpl := h.lt
  have hb3 := (hk.block p hpl a2).trans h.blk
  have hgp : g ≠ p := by
    rcases hg with e | e
    · intro e'; subst e'; exact a2 e
    · omega
  have ks : Kept (fun k => k = p) w3 (w3.setCell ⟨p, 1, none⟩ (.slice (some ⟨g, 0, none⟩) (s.G.length + 1) c)) := (Kept.refl (fun k => k = p) w3).setCell (p := ⟨p, 1, none⟩) (fun _ => rfl) _
  refine ⟨va, .slice (some ⟨g, 0, none⟩) (s.G.length + 1) c, ⟨?_, ks.row (hk.row h.all fun k e e' => a4 k e e') (fun k e e' => a1 (e' ▸ e)), ?_, h.np⟩, ?_, ?_⟩
  · rw [blk_set hb3]; simp
  · rw [List.map_append, List.length_append]
    exact ks.row hr fun k e e' => hgp (by cases e; exact e')
  · exact (hk.mono (F' := Fn p va vg) fun _ _ e => .inr (.inr e)).setCell (fun _ => .inl rfl) _
  · rintro k (e | e | e)
    · exact .inl (.inl e)
    · exact .inl (.inr (.inl e))
    · cases e
      exact hg.imp (fun e => .inr (.inr e)) id
end
theorem boxed3 (w : World) (a0 a1 a2 : Value) (t : TypeId) : (w.alloc (.cells #[a0, a1, a2] t)).cell? ⟨w.heap.size, 0, none⟩ = some a0 ∧ (w.alloc (.cells #[a0, a1, a2] t)).cell? ⟨w.heap.size, 1, none⟩ = some a1 ∧ (w.alloc (.cells #[a0, a1, a2] t)).cell? ⟨w.heap.size, 2, none⟩ = some a2 := by
  have h := _root_.Go.heap_alloc_last w (.cells #[a0, a1, a2] t)
  exact ⟨cell_of_row _ _ 0 _ _ _ h, cell_of_row _ _ 1 _ _ _ h, cell_of_row _ _ 2 _ _ _ h⟩
set_option maxRecDepth 100000 in
set_option maxHeartbeats 4000000 in
theorem send_any (w : World) (N p : Nat) (st : Nst) (va vg : Value) (f : Int) (t : ByteArray) (h : NAt w N p st va vg) (hN : N ≤ w.heap.size) (hl : st.A.length < 4398046511104) (hlg : st.G.length < 4398046511104) :
    Calls Try.prog 9 #[.pointer (some ⟨p, 0, none⟩), .int .i64 f, .string t] w fun e w' => e = .returned (.int .i64 ((st.A.length : Int) + 1)) ∧ NP w w' N p (st.sent f t) va vg := by
  have HK : Hid (NAt w N p st va vg) := h
  obtain ⟨k, hn⟩ : ∃ n, st.A.length = n := ⟨_, rfl⟩
  obtain ⟨aT, cT, hvt, -⟩ := own_spell h.all
  have HVT : Hid (va = .slice aT st.A.length cT) := hvt
  have HNE : Hid (st.A.length = k) := hn
  have HLG : Hid (st.G.length < 4398046511104) := hlg
  have c0 := h.c0
  rw [hvt, hn] at c0
  rw [hn] at hl ⊢
  have hwk : IntKind.i64.wrap ((k : Int) + 1) = (k : Int) + 1 := i64_fit _ (by omega) (by omega)
  have hpl := h.lt
  have hb1 : Below w.heap.size w (w.alloc (.cells #[.int .i64 ((k : Int) + 1), .int .i64 f, .string t] 35)) := below1 _ _
  obtain ⟨x0, x1, x2⟩ := boxed3 w (.int .i64 ((k : Int) + 1)) (.int .i64 f) (.string t) 35
  have hq : w.heap.size < (w.alloc (.cells #[.int .i64 ((k : Int) + 1), .int .i64 f, .string t] 35)).heap.size := by rw [World.size_alloc]; omega
  clear h hvt hn hlg
  go_enter Try.func9, Try.ntmps9
  go_upto_region 2 with (fail)
  have hp2 := cell_later hb1 c0
  generalize w.alloc (.cells #[.int .i64 ((k : Int) + 1), .int .i64 f, .string t] 35) = w2 at *
  have HB2 : Hid (Below w.heap.size w w2) := hb1
  obtain ⟨Q, hQ⟩ : ∃ Q, w.heap.size = Q := ⟨_, rfl⟩
  rw [hQ] at x0 x1 x2 hq ⊢
  have HN : Hid (N ≤ w.heap.size ∧ w.heap.size = Q) := ⟨hN, hQ⟩
  have HRW : Hid (w.ownsRow N 35 3 (.slice aT k cT) k (st.A.flatMap pC)) := by have := HK.out.all; rw [HVT.out, HNE.out] at this; exact this
  have HPV : Hid (¬ (Value.slice aT k cT).ownBlock = some p) := by have := HK.out.apart.1; rw [HVT.out, HNE.out] at this; exact this
  have HQV : Hid (¬ (Value.slice aT k cT).ownBlock = some Q) := fun e => by have := (HRW.out.lt Q e).2; omega
  have HFZ : Hid (∀ W, Kept (fun k_1 => (Value.slice aT k cT).ownBlock = some k_1) w W → W.frozen? ⟨p, 0, none⟩ = false) := fun W hW => by
    have := (hW.block p hpl HPV.out).trans HK.out.blk
    simp [World.frozen?, this]
  obtain ⟨i0, hi, hz0, hz1, hz2⟩ := info_parts infoP
  obtain ⟨j0, hj, hy0, hy1, hy2⟩ := info_parts infoB
  clear hb1 c0 hq hQ hN hwk
  refine Till.region [10] (fun W => W.cell? ⟨p, 0, none⟩ = some (Value.slice aT k cT) ∧ W.cell? ⟨Q, 0, none⟩ = some (.int .i64 ((k : Int) + 1)) ∧ W.cell? ⟨Q, 1, none⟩ = some (.int .i64 f) ∧ W.cell? ⟨Q, 2, none⟩ = some (.string t)) (by kernel_rfl) ?_
  have KB : Hid (Below w.heap.size w w2.drew) := HB2.out.drew
  have hHeld : w2.drew.cell? ⟨p, 0, none⟩ = some (Value.slice aT k cT) ∧ w2.drew.cell? ⟨Q, 0, none⟩ = some (.int .i64 ((k : Int) + 1)) ∧ w2.drew.cell? ⟨Q, 1, none⟩ = some (.int .i64 f) ∧ w2.drew.cell? ⟨Q, 2, none⟩ = some (.string t) := ⟨hp2, x0, x1, x2⟩
  generalize w2.drew = W at *
  refine Till.takeFree (i := 0) (oi := { dst := some 17, op := Op.move (Operand.tmp 0), type := _, pos := _, after := _, guard := none }) (x := .pointer (some ⟨p, 0, none⟩)) rfl (by decide) (by kernel_rfl) (by kernel_rfl) (by kernel_rfl) (fun _ _ _ h => h) (Or.inl ⟨by rfl, fun w _ => by go_simp⟩) hHeld ?_
  simp only [Act.put, List.setIfInBounds_toArray, List.set_cons_zero, List.set_cons_succ]
  refine Till.takeFree (i := 1) (oi := { dst := some 18, op := Op.move (Operand.tmp 0), type := _, pos := _, after := _, guard := none }) (x := .pointer (some ⟨p, 0, none⟩)) rfl (by decide) (by kernel_rfl) (by kernel_rfl) (by kernel_rfl) (fun _ _ _ h => h) (Or.inl ⟨by rfl, fun w _ => by go_simp⟩) hHeld ?_
  simp only [Act.put, List.setIfInBounds_toArray, List.set_cons_zero, List.set_cons_succ]
  refine Till.takeFree (i := 2) (oi := { dst := some 19, op := Op.nilCheck (Operand.tmp 18), type := _, pos := _, after := _, guard := none }) (x := .pointer (some ⟨p, 0, none⟩)) rfl (by decide) (by kernel_rfl) (by kernel_rfl) (by kernel_rfl) (fun _ _ _ h => h) (Or.inl ⟨by rfl, fun w _ => by go_simp⟩) hHeld ?_
  simp only [Act.put, List.setIfInBounds_toArray, List.set_cons_zero, List.set_cons_succ]
  refine Till.takeFree (i := 3) (oi := { dst := some 20, op := Op.fieldAddr 30 (Operand.tmp 19) 0, type := _, pos := _, after := _, guard := none }) (x := .pointer (some ⟨p, 0, none⟩)) rfl (by decide) (by kernel_rfl) (by kernel_rfl) (by kernel_rfl) (fun _ _ _ h => h) (Or.inl ⟨by rfl, fun w _ => by go_simp⟩) hHeld ?_
  simp only [Act.put, List.setIfInBounds_toArray, List.set_cons_zero, List.set_cons_succ]
  refine Till.take (i := 4) 10 (oi := { dst := some 21, op := Op.load 27 (Operand.tmp 20), type := _, pos := _, after := _, guard := none }) (x := (Value.slice aT k cT)) rfl (by decide) (by kernel_rfl) (by decide) (by kernel_rfl) (by kernel_rfl) (by kernel_rfl) (by kernel_rfl) (fun _ _ _ h => h) (Or.inl ⟨by rfl, fun w hSw => by (obtain ⟨c0, e0, e1, e2⟩ := hSw; go_simp)⟩) hHeld ?_
  simp only [Act.put, List.setIfInBounds_toArray, List.set_cons_zero, List.set_cons_succ]
  refine Till.take (i := 5) 10 (oi := { dst := some 22, op := Op.load 35 (Operand.tmp 7), type := _, pos := _, after := _, guard := none }) (x := (.agg #[.int .i64 ((k : Int) + 1), .int .i64 f, .string t])) rfl (by decide) (by kernel_rfl) (by decide) (by kernel_rfl) (by kernel_rfl) (by kernel_rfl) (by kernel_rfl) (fun _ _ _ h => h) (Or.inl ⟨by rfl, fun w hSw => by (obtain ⟨c0, e0, e1, e2⟩ := hSw; go_simp)⟩) hHeld ?_
  simp only [Act.put, List.setIfInBounds_toArray, List.set_cons_zero, List.set_cons_succ]
  refine Till.one (i := 6) (o := { dst := some 23, op := Op.buildSlice 27 1 #[(0, Operand.tmp 22)], type := _, pos := _, after := _, guard := none }) rfl (by kernel_rfl) (fun K9 hK => ?_)
  go_simp
  have KB1 : Hid (Below w.heap.size w (W.alloc (.cells #[.int .i64 ((k : Int) + 1), .int .i64 f, .string t] 35))) := KB.out.alloc KB.out.size _
  have hh1 : (W.alloc (.cells #[.int .i64 ((k : Int) + 1), .int .i64 f, .string t] 35)).cell? ⟨p, 0, none⟩ = some (Value.slice aT k cT) ∧ (W.alloc (.cells #[.int .i64 ((k : Int) + 1), .int .i64 f, .string t] 35)).cell? ⟨Q, 0, none⟩ = some (.int .i64 ((k : Int) + 1)) ∧ (W.alloc (.cells #[.int .i64 ((k : Int) + 1), .int .i64 f, .string t] 35)).cell? ⟨Q, 1, none⟩ = some (.int .i64 f) ∧ (W.alloc (.cells #[.int .i64 ((k : Int) + 1), .int .i64 f, .string t] 35)).cell? ⟨Q, 2, none⟩ = some (.string t) := by obtain ⟨c0, e0, e1, e2⟩ := hHeld; exact ⟨cell_later (below1 _ _) c0, cell_later (below1 _ _) e0, cell_later (below1 _ _) e1, cell_later (below1 _ _) e2⟩
  have hnw : (W.alloc (.cells #[.int .i64 ((k : Int) + 1), .int .i64 f, .string t] 35)).heap[W.heap.size]? = some (.cells #[.int .i64 ((k : Int) + 1), .int .i64 f, .string t] 35 (0, 0)) := _root_.Go.heap_alloc_last W _
  refine hK _ _ (fun _ => hh1) ?_
  clear hK K9 hHeld KB
  try simp only [Act.put, List.setIfInBounds_toArray, List.set_cons_zero, List.set_cons_succ]
  generalize (W.alloc (.cells #[.int .i64 ((k : Int) + 1), .int .i64 f, .string t] 35)) = W1 at *
  generalize W.heap.size = g1 at *
  have hHeld := hh1
  clear hh1
  have hrow1 := own_later HRW.out KB1.out
  refine Till.one (i := 7) (o := { dst := some 24, op := Op.call { callee := Callee.builtin Builtin.append, args := #[Operand.tmp 21, Operand.tmp 23], argTypes := _ }, type := _, pos := _, after := _, guard := none }) rfl (by kernel_rfl) (fun K9 hK => ?_)
  refine step_append_lies W1 rfl _ _ _ rfl N 35 i0 _ 3 32 Try.underlying27 hi hz0 hz1 hz2 rfl (by omega) _ k (st.A.flatMap pC) rfl hrow1 ⟨g1, 0, none⟩ 1 1 [.int .i64 ((k : Int) + 1), .int .i64 f, .string t] rfl rfl (news_of hnw) (by simp [Value.oneCell']) (by omega) (by unfold maxLen; omega) (by omega) (Nat.le_trans HN.out.1 KB1.out.size) W1.heap.size rfl ?_
  intro g3 cap3 w3 hown3 hgrow3 hat3 hlt3
  have hk3 : Kept (fun j => (Value.slice aT k cT).ownBlock = some j) w w3 := (Kept.ofBelow KB1.out).grown hgrow3 (fun j e _ => e)
  have hg3 : (Value.slice aT k cT).ownBlock = some g3 ∨ w.heap.size ≤ g3 := hat3.imp id (fun e => by rw [e]; exact KB1.out.size)
  have hHeld3 : w3.cell? ⟨p, 0, none⟩ = some (Value.slice aT k cT) ∧ w3.cell? ⟨Q, 0, none⟩ = some (.int .i64 ((k : Int) + 1)) ∧ w3.cell? ⟨Q, 1, none⟩ = some (.int .i64 f) ∧ w3.cell? ⟨Q, 2, none⟩ = some (.string t) := by obtain ⟨c0, e0, e1, e2⟩ := hHeld; have hkg := (Kept.refl (fun j => (Value.slice aT k cT).ownBlock = some j) W1).grown hgrow3 (fun j e _ => e); exact ⟨hkg.cell c0 HPV.out, hkg.cell e0 HQV.out, hkg.cell e1 HQV.out, hkg.cell e2 HQV.out⟩
  refine hK _ _ (fun _ => hHeld3) ?_
  clear hK K9 hHeld
  try simp only [Act.put, List.setIfInBounds_toArray, List.set_cons_zero, List.set_cons_succ]
  have hHeld := hHeld3
  refine Till.takeFree (i := 8) (oi := { dst := some 25, op := Op.nilCheck (Operand.tmp 17), type := _, pos := _, after := _, guard := none }) (x := .pointer (some ⟨p, 0, none⟩)) rfl (by decide) (by kernel_rfl) (by kernel_rfl) (by kernel_rfl) (fun _ _ _ h => h) (Or.inl ⟨by rfl, fun w _ => by go_simp⟩) hHeld ?_
  simp only [Act.put, List.setIfInBounds_toArray, List.set_cons_zero, List.set_cons_succ]
  refine Till.takeFree (i := 9) (oi := { dst := some 26, op := Op.fieldAddr 30 (Operand.tmp 25) 0, type := _, pos := _, after := _, guard := none }) (x := .pointer (some ⟨p, 0, none⟩)) rfl (by decide) (by kernel_rfl) (by kernel_rfl) (by kernel_rfl) (fun _ _ _ h => h) (Or.inl ⟨by rfl, fun w _ => by go_simp⟩) hHeld ?_
  simp only [Act.put, List.setIfInBounds_toArray, List.set_cons_zero, List.set_cons_succ]
  clear hHeld
  obtain ⟨hc3, hq3, -, -⟩ := hHeld3
  have hf3 : w3.frozen? ⟨p, 0, none⟩ = false := HFZ.out w3 hk3
  refine Till.one (i := 10) (o := { dst := none, op := Op.store 27 (Operand.tmp 26) (Operand.tmp 24), type := _, pos := _, after := _, guard := none }) rfl (by kernel_rfl) (fun K9 hK => ?_)
  go_simp
  refine hK _ _ (by simp) ?_
  clear hK K9
  try simp only [Act.put, List.setIfInBounds_toArray, List.set_cons_zero, List.set_cons_succ]
  refine Till.rest (by kernel_rfl) ?_
  refine wpAny_done (by kernel_rfl) ?_ _
  have e1 := HNE.out
  have e2 := HVT.out
  have hT : NAt (w3.setCell ⟨p, 0, none⟩ (.slice (some ⟨g3, 0, none⟩) (k + 1) cap3)) N p ⟨st.A ++ [((k : Int) + 1, (f, t))], st.G⟩ (.slice (some ⟨g3, 0, none⟩) (k + 1) cap3) vg ∧ Kept (Fn p va vg) w (w3.setCell ⟨p, 0, none⟩ (.slice (some ⟨g3, 0, none⟩) (k + 1) cap3)) ∧ ∀ j, Fn p (.slice (some ⟨g3, 0, none⟩) (k + 1) cap3) vg j → Fn p va vg j ∨ w.heap.size ≤ j := by
    subst e1
    subst e2
    exact HK.out.grewA ((st.A.length : Int) + 1, (f, t)) hk3 hown3 hg3
  have hQ3 : w3.cell? ⟨Q, 0, none⟩ = some (.int .i64 ((k : Int) + 1)) := hq3
  have hQ4 : (w3.setCell ⟨p, 0, none⟩ (.slice (some ⟨g3, 0, none⟩) (k + 1) cap3)).cell? ⟨Q, 0, none⟩ = some (.int .i64 ((k : Int) + 1)) := by
    have ks : Kept (fun k => k = p) w3 (w3.setCell ⟨p, 0, none⟩ (.slice (some ⟨g3, 0, none⟩) (k + 1) cap3)) := (Kept.refl (fun k => k = p) w3).setCell (p := ⟨p, 0, none⟩) (fun _ => rfl) _
    exact ks.cell hQ3 (fun e => by have := HN.out.2; have e : Q = p := e; omega)
  have HS4 : Hid (w.heap.size ≤ (w3.setCell ⟨p, 0, none⟩ (.slice (some ⟨g3, 0, none⟩) (k + 1) cap3)).heap.size) := hT.2.1.size
  obtain ⟨va', hva'⟩ : ∃ v, v = Value.slice (some ⟨g3, 0, none⟩) (k + 1) cap3 := ⟨_, rfl⟩
  rw [← hva'] at hT hQ4 HS4 ⊢
  clear hva'
  generalize w3.setCell ⟨p, 0, none⟩ va' = w4 at *
  obtain ⟨hA, hkA, hfA⟩ := hT
  have HT : Hid (NP w w4 N p ⟨st.A ++ [((k : Int) + 1, (f, t))], st.G⟩ va vg) := ⟨va', vg, hA, hkA, hfA⟩
  have HA : Hid (NAt w4 N p ⟨st.A ++ [((k : Int) + 1, (f, t))], st.G⟩ va' vg ∧ Kept (Fn p va vg) w w4 ∧ ∀ j, Fn p va' vg j → Fn p va vg j ∨ w.heap.size ≤ j) := ⟨hA, hkA, hfA⟩
  obtain ⟨aG, cG, hvg, -⟩ := own_spell hA.gone
  have hvg : vg = .slice aG st.G.length cG := hvg
  have hGw : w4.ownsRow N 4 1 vg st.G.length (st.G.map Value.bool) := hA.gone
  have c1 := hA.c1
  obtain ⟨m, hm⟩ : ∃ m, st.G.length = m := ⟨_, rfl⟩
  have hmb : m < 4398046511104 := by have := HLG.out; omega
  have HME : Hid (st.G.length = m ∧ vg = .slice aG m cG) := ⟨hm, by rw [← hm]; exact hvg⟩
  have hQG : ¬ vg.ownBlock = some Q := fun e => by have := (HK.out.gone.lt Q e).2; have := HN.out.2; omega
  have hPG : ¬ vg.ownBlock = some p := hA.apart.2.1
  rw [hvg, hm] at hGw c1 hQG hPG
  have HGW : Hid (w4.ownsRow N 4 1 (.slice aG m cG) m (st.G.map Value.bool)) := hGw
  have HPG : Hid (¬ (Value.slice aG m cG).ownBlock = some p ∧ ¬ (Value.slice aG m cG).ownBlock = some Q) := ⟨hPG, hQG⟩
  have HF1 : Hid (∀ W, Kept (fun k_1 => (Value.slice aG m cG).ownBlock = some k_1) w4 W → W.frozen? ⟨p, 1, none⟩ = false ∧ W.cell? ⟨p, 1, none⟩ = some (.slice aG m cG) ∧ W.cell? ⟨Q, 0, none⟩ = some (.int .i64 ((k : Int) + 1))) := fun W hW => by
    refine ⟨?_, hW.cell c1 HPG.out.1, hW.cell hQ4 HPG.out.2⟩
    have := (hW.block p HA.out.1.lt HPG.out.1).trans HA.out.1.blk
    simp [World.frozen?, this]
  have hs4 : N ≤ w4.heap.size := Nat.le_trans HN.out.1 HS4.out
  clear hA hkA hfA hvg hGw hm hQG hPG e1 e2 hk3 hg3 hc3 hq3 hf3 hQ3 hown3 hgrow3 hat3 hlt3 hnw hrow1
  go_upto_region 4 with (at_builtin; refine wpList_append_lies _ rfl _ _ _ rfl N 4 j0 _ 1 1 Try.underlying28 hj hy0 hy1 hy2 rfl (by omega) _ m (st.G.map Value.bool) rfl (own_later HGW.out (below1 _ _)) ⟨w4.heap.size, 0, none⟩ 1 1 [.bool false] rfl rfl (news_of (_root_.Go.heap_alloc_last _ _)) (by simp [Value.oneCell']) (by omega) (by unfold maxLen; omega) (by omega) (by simp; omega) (w4.heap.size + 1) (by simp) ?_; intro g5 cap5 w5 hown5 hgrow5 hat5 hlt5; have hk5 := ((Kept.ofBelow (F := fun j => (Value.slice aG m cG).ownBlock = some j) (below1 w4 (.cells #[.bool false] 4))).grown hgrow5 (fun j e _ => e)); obtain ⟨f5, c5, q5⟩ := HF1.out w5 hk5)
  have hg5 : vg.ownBlock = some g5 ∨ w4.heap.size ≤ g5 := by
    rw [HME.out.2]
    rcases hat5 with e | e
    · exact .inl e
    · exact .inr (by omega)
  have hZ : NP w4 (w5.setCell ⟨p, 1, none⟩ (.slice (some ⟨g5, 0, none⟩) (m + 1) cap5)) N p ⟨st.A ++ [((k : Int) + 1, (f, t))], st.G ++ [false]⟩ va' vg := by
    have e1 := HME.out.1
    have e2 := HME.out.2
    subst e1
    exact HA.out.1.grewG false (by rw [e2]; exact hk5) hown5 hg5
  have q6 : (w5.setCell ⟨p, 1, none⟩ (.slice (some ⟨g5, 0, none⟩) (m + 1) cap5)).cell? ⟨Q, 0, none⟩ = some (.int .i64 ((k : Int) + 1)) := by
    have ks : Kept (fun k => k = p) w5 (w5.setCell ⟨p, 1, none⟩ (.slice (some ⟨g5, 0, none⟩) (m + 1) cap5)) := (Kept.refl (fun k => k = p) w5).setCell (p := ⟨p, 1, none⟩) (fun _ => rfl) _
    exact ks.cell q5 (fun e => by have := HN.out.2; have e : Q = p := e; omega)
  have HZ : Hid (_) := hZ
  generalize w5.setCell ⟨p, 1, none⟩ (.slice (some ⟨g5, 0, none⟩) (m + 1) cap5) = w6 at *
  clear hZ hown5 hgrow5 hat5 hlt5 hk5 f5 c5 q5 hg5
  go_wp2_with fail
  go_ret
  refine ⟨rfl, ?_⟩
  have e : st.sent f t = ⟨st.A ++ [((k : Int) + 1, (f, t))], st.G ++ [false]⟩ := by unfold Nst.sent; rw [HNE.out]
  rw [e]
  have e9 : Value.slice aG st.G.length cG = vg := by rw [HME.out.2, HME.out.1]
  try rw [e9]
  obtain ⟨v1, v2, z1, z2, z3⟩ := HZ.out
  refine ⟨v1, v2, z1, HA.out.2.1.trans z2 fun i hi e => ?_, fun j e => ?_⟩
  · rcases HA.out.2.2 i e with h | h
    · exact h
    · omega
  · rcases z3 j e with h | h
    · exact HA.out.2.2 j h
    · exact .inr (Nat.le_trans HS4.out h)
end Go.Proofs.Ytcdibafcolhlgaa.Ne
