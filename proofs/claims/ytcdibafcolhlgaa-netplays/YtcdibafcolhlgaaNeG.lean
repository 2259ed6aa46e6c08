/- Contract: Send of the program's net. MADE by wip/mk_nf.py. -/
import Derived.Test.YtcdibafcolhlgaaHd
import Derived.Test.YtcdibafcolhlgaaNeF
namespace Go.Proofs.Ytcdibafcolhlgaa.Ne
open Go.RowKit Go.Maps
set_option linter.unusedVariables false
set_option linter.unusedSimpArgs false

theorem if_wpK {P : Program} {o : Oper} {a : Act} {w : World} {K : Act → World → Prop} {Q : Exit → Act → World → Prop} {c : Prop} [Decidable c] (hc : c) {X : Prop} (h : Oper.wp P o a w K Q) : if c then Oper.wp P o a w K Q else X := by rw [if_pos hc]; exact h
theorem wp_mapUpd {P : Program} {o : Oper} {a : Act} {w w' : World} {K : Act → World → Prop} {Q : Exit → Act → World → Prop} (t : TypeId) (m x v : Operand) (ho : o.op = .mapUpdate t m x v) {M X V : Value} (hm : a.eval m = M) (hx : a.eval x = X) (hv : a.eval v = V) (hd : o.dst = none)
    (hrun : (Instr.mapUpdate t M X V).run P w = .ok () w') (h : K a w') : o.wp P a w K Q := by
  unfold Oper.wp execOp
  simp only [ho, hm, hx, hv, Sem.run_bind, Sem.run_pure, hrun, Result.andThen_ok]
  have e : a.put o.dst undef = a := by rw [hd]; rfl
  show K (a.put o.dst undef) w'
  rw [e]
  exact h
section
variable {w w3 w' : World} {N p b g c : Nat} {s : Nst} {va v' : Value}
theorem Px.grew (h : Px w N p s va b) (x : Pt) (hv : v' = .slice (some ⟨g, 0, none⟩) (s.A.length + 1) c) (hk : Kept (fun k => va.ownBlock = some k) w w3) (hr : w3.ownsRow N 35 3 v' (s.A.length + 1) (s.A.flatMap pC ++ pC x)) (hg : va.ownBlock = some g ∨ w.heap.size ≤ g) :
    (w3.setCell ⟨p, 0, none⟩ v').heap[p]? = some (.cells #[v', .map (some b)] 46 (0, 0)) ∧ (w3.setCell ⟨p, 0, none⟩ v').ownsRow N 35 3 v' (s.A.length + 1) (s.A.flatMap pC ++ pC x) ∧ Pm (w3.setCell ⟨p, 0, none⟩ v') b s ∧ Kept (Fx p va b) w (w3.setCell ⟨p, 0, none⟩ v') ∧ g ≠ b ∧ ∀ j, Fx p v' b j → Fx p va b j ∨ w.heap.size ≤ j := by
  obtain ⟨a1, a2, a3⟩ := h.apart
  have hb3 := (hk.block p h.lt a1).trans h.blk
  have hgp : g ≠ p := by
    rcases hg with e | e
    · intro e'; subst e'; exact a1 e
    · have := h.lt; omega
  have hgb : g ≠ b := by
    rcases hg with e | e
    · intro e'; subst e'; exact a3 e
    · have := h.map.lt; omega
  have ks : Kept (fun k => k = p) w3 (w3.setCell ⟨p, 0, none⟩ v') := (Kept.refl (fun k => k = p) w3).setCell (p := ⟨p, 0, none⟩) (fun _ => rfl) _
  refine ⟨?_, ks.row hr (fun k e e' => hgp (by rw [hv] at e; cases e; exact e')), (h.map.kept hk a3).kept ks (fun e => a2 e.symm), ?_, hgb, ?_⟩
  · rw [blk_set hb3]; simp
  · exact (hk.mono (F' := Fx p va b) fun _ _ e => .inr (.inl e)).setCell (fun _ => .inl rfl) _
  · rintro k (e | e | e)
    · exact .inl (.inl e)
    · rw [hv] at e
      cases e
      exact hg.imp (fun e => .inr (.inl e)) id
    · exact .inl (.inr (.inr e))
end
set_option maxRecDepth 100000 in
set_option maxHeartbeats 4000000 in
theorem sendP (w : World) (N p : Nat) (st : Nst) (va : Value) (b : Nat) (f : Int) (t : ByteArray) (h : Px w N p st va b) (hN : N ≤ w.heap.size) (hlg : st.G.length = st.A.length) (hl : st.A.length < 4398046511104) :
    Calls Try.prog 8 #[.pointer (some ⟨p, 0, none⟩), .int .i64 f, .string t] w fun e w' => e = .returned (.int .i64 ((st.A.length : Int) + 1)) ∧ ∃ va', Px w' N p (st.sent f t) va' b ∧ Kept (Fx p va b) w w' ∧ ∀ j, Fx p va' b j → Fx p va b j ∨ w.heap.size ≤ j := by
  have HK : Hid (Px w N p st va b) := h
  have HLG : Hid (st.G.length = st.A.length ∧ st.A.length < 4611686018427387904) := ⟨hlg, by omega⟩
  obtain ⟨k, hn⟩ : ∃ n, st.A.length = n := ⟨_, rfl⟩
  obtain ⟨aT, cT, hvt, -⟩ := own_spell h.all
  have HVT : Hid (va = .slice aT st.A.length cT) := hvt
  have HNE : Hid (st.A.length = k) := hn
  have c0 := h.c0
  rw [hvt, hn] at c0
  rw [hn] at hl ⊢
  have hwk : IntKind.i64.wrap ((k : Int) + 1) = (k : Int) + 1 := i64_fit _ (by omega) (by omega)
  have hpl := h.lt
  have hb1 : Below w.heap.size w (w.alloc (.cells #[.int .i64 ((k : Int) + 1), .int .i64 f, .string t] 35)) := below1 _ _
  obtain ⟨x0, x1, x2⟩ := boxed3 w (.int .i64 ((k : Int) + 1)) (.int .i64 f) (.string t) 35
  have hq : w.heap.size < (w.alloc (.cells #[.int .i64 ((k : Int) + 1), .int .i64 f, .string t] 35)).heap.size := by rw [World.size_alloc]; omega
  clear h hvt hn hlg
  go_enter Try.func8, Try.ntmps8
  go_upto_region 2 with (fail)
  have hp2 := cell_later hb1 c0
  generalize w.alloc (.cells #[.int .i64 ((k : Int) + 1), .int .i64 f, .string t] 35) = w2 at *
  have HB2 : Hid (Below w.heap.size w w2) := hb1
  obtain ⟨Q, hQ⟩ : ∃ Q, w.heap.size = Q := ⟨_, rfl⟩
  rw [hQ] at x0 x1 x2 hq ⊢
  have HN : Hid (N ≤ w.heap.size ∧ w.heap.size = Q) := ⟨hN, hQ⟩
  have HRW : Hid (w.ownsRow N 35 3 (.slice aT k cT) k (st.A.flatMap pC)) := by have := HK.out.all; rw [HVT.out, HNE.out] at this; exact this
  have HPV : Hid (¬ (Value.slice aT k cT).ownBlock = some p) := by have := HK.out.apart.1; rw [HVT.out, HNE.out] at this; exact this
  have HQV : Hid (¬ (Value.slice aT k cT).ownBlock = some Q) := fun e => by have := (HRW.out.lt Q e).2; omega
  have HFZ : Hid (∀ W, Kept (fun k_1 => (Value.slice aT k cT).ownBlock = some k_1) w W → W.frozen? ⟨p, 0, none⟩ = false) := fun W hW => by
    have := (hW.block p hpl HPV.out).trans HK.out.blk
    simp [World.frozen?, this]
  obtain ⟨i0, hi, hz0, hz1, hz2⟩ := info_parts infoP
  clear hb1 c0 hq hQ hN hwk
  refine Till.region [10] (fun W => W.cell? ⟨p, 0, none⟩ = some (Value.slice aT k cT) ∧ W.cell? ⟨Q, 0, none⟩ = some (.int .i64 ((k : Int) + 1)) ∧ W.cell? ⟨Q, 1, none⟩ = some (.int .i64 f) ∧ W.cell? ⟨Q, 2, none⟩ = some (.string t)) (by kernel_rfl) ?_
  have KB : Hid (Below w.heap.size w w2.drew) := HB2.out.drew
  have hHeld : w2.drew.cell? ⟨p, 0, none⟩ = some (Value.slice aT k cT) ∧ w2.drew.cell? ⟨Q, 0, none⟩ = some (.int .i64 ((k : Int) + 1)) ∧ w2.drew.cell? ⟨Q, 1, none⟩ = some (.int .i64 f) ∧ w2.drew.cell? ⟨Q, 2, none⟩ = some (.string t) := ⟨hp2, x0, x1, x2⟩
  generalize w2.drew = W at *
  refine Till.takeFree (i := 0) (oi := { dst := some 17, op := Op.move (Operand.tmp 0), type := _, pos := _, after := _, guard := none }) (x := .pointer (some ⟨p, 0, none⟩)) rfl (by decide) (by kernel_rfl) (by kernel_rfl) (by kernel_rfl) (fun _ _ _ h => h) (Or.inl ⟨by rfl, fun w _ => by go_simp⟩) hHeld ?_
  simp only [Act.put, List.setIfInBounds_toArray, List.set_cons_zero, List.set_cons_succ]
  refine Till.takeFree (i := 1) (oi := { dst := some 18, op := Op.move (Operand.tmp 0), type := _, pos := _, after := _, guard := none }) (x := .pointer (some ⟨p, 0, none⟩)) rfl (by decide) (by kernel_rfl) (by kernel_rfl) (by kernel_rfl) (fun _ _ _ h => h) (Or.inl ⟨by rfl, fun w _ => by go_simp⟩) hHeld ?_
  simp only [Act.put, List.setIfInBounds_toArray, List.set_cons_zero, List.set_cons_succ]
  refine Till.takeFree (i := 2) (oi := { dst := some 19, op := Op.nilCheck (Operand.tmp 18), type := _, pos := _, after := _, guard := none }) (x := .pointer (some ⟨p, 0, none⟩)) rfl (by decide) (by kernel_rfl) (by kernel_rfl) (by kernel_rfl) (fun _ _ _ h => h) (Or.inl ⟨by rfl, fun w _ => by go_simp⟩) hHeld ?_
  simp only [Act.put, List.setIfInBounds_toArray, List.set_cons_zero, List.set_cons_succ]
  refine Till.takeFree (i := 3) (oi := { dst := some 20, op := Op.fieldAddr 46 (Operand.tmp 19) 0, type := _, pos := _, after := _, guard := none }) (x := .pointer (some ⟨p, 0, none⟩)) rfl (by decide) (by kernel_rfl) (by kernel_rfl) (by kernel_rfl) (fun _ _ _ h => h) (Or.inl ⟨by rfl, fun w _ => by go_simp⟩) hHeld ?_
  simp only [Act.put, List.setIfInBounds_toArray, List.set_cons_zero, List.set_cons_succ]
  refine Till.take (i := 4) 10 (oi := { dst := some 21, op := Op.load 27 (Operand.tmp 20), type := _, pos := _, after := _, guard := none }) (x := (Value.slice aT k cT)) rfl (by decide) (by kernel_rfl) (by decide) (by kernel_rfl) (by kernel_rfl) (by kernel_rfl) (by kernel_rfl) (fun _ _ _ h => h) (Or.inl ⟨by rfl, fun w hSw => by (obtain ⟨c0, e0, e1, e2⟩ := hSw; go_simp)⟩) hHeld ?_
  simp only [Act.put, List.setIfInBounds_toArray, List.set_cons_zero, List.set_cons_succ]
  refine Till.take (i := 5) 10 (oi := { dst := some 22, op := Op.load 35 (Operand.tmp 7), type := _, pos := _, after := _, guard := none }) (x := (.agg #[.int .i64 ((k : Int) + 1), .int .i64 f, .string t])) rfl (by decide) (by kernel_rfl) (by decide) (by kernel_rfl) (by kernel_rfl) (by kernel_rfl) (by kernel_rfl) (fun _ _ _ h => h) (Or.inl ⟨by rfl, fun w hSw => by (obtain ⟨c0, e0, e1, e2⟩ := hSw; go_simp)⟩) hHeld ?_
  simp only [Act.put, List.setIfInBounds_toArray, List.set_cons_zero, List.set_cons_succ]
  refine Till.one (i := 6) (o := { dst := some 23, op := Op.buildSlice 27 1 #[(0, Operand.tmp 22)], type := _, pos := _, after := _, guard := none }) rfl (by kernel_rfl) (fun K9 hK => ?_)
  go_simp
  have KB1 : Hid (Below w.heap.size w (W.alloc (.cells #[.int .i64 ((k : Int) + 1), .int .i64 f, .string t] 35))) := KB.out.alloc KB.out.size _
  have hh1 : (W.alloc (.cells #[.int .i64 ((k : Int) + 1), .int .i64 f, .string t] 35)).cell? ⟨p, 0, none⟩ = some (Value.slice aT k cT) ∧ (W.alloc (.cells #[.int .i64 ((k : Int) + 1), .int .i64 f, .string t] 35)).cell? ⟨Q, 0, none⟩ = some (.int .i64 ((k : Int) + 1)) ∧ (W.alloc (.cells #[.int .i64 ((k : Int) + 1), .int .i64 f, .string t] 35)).cell? ⟨Q, 1, none⟩ = some (.int .i64 f) ∧ (W.alloc (.cells #[.int .i64 ((k : Int) + 1), .int .i64 f, .string t] 35)).cell? ⟨Q, 2, none⟩ = some (.string t) := by obtain ⟨c0, e0, e1, e2⟩ := hHeld; exact ⟨cell_later (below1 _ _) c0, cell_later (below1 _ _) e0, cell_later (below1 _ _) e1, cell_later (below1 _ _) e2⟩
  have hnw : (W.alloc (.cells #[.int .i64 ((k : Int) + 1), .int .i64 f, .string t] 35)).heap[W.heap.size]? = some (.cells #[.int .i64 ((k : Int) + 1), .int .i64 f, .string t] 35 (0, 0)) := _root_.Go.heap_alloc_last W _
  refine hK _ _ (fun _ => hh1) ?_
  clear hK K9 hHeld KB
  try simp only [Act.put, List.setIfInBounds_toArray, List.set_cons_zero, List.set_cons_succ]
  generalize (W.alloc (.cells #[.int .i64 ((k : Int) + 1), .int .i64 f, .string t] 35)) = W1 at *
  generalize W.heap.size = g1 at *
  have hHeld := hh1
  clear hh1
  have hrow1 := own_later HRW.out KB1.out
  refine Till.one (i := 7) (o := { dst := some 24, op := Op.call { callee := Callee.builtin Builtin.append, args := #[Operand.tmp 21, Operand.tmp 23], argTypes := _ }, type := _, pos := _, after := _, guard := none }) rfl (by kernel_rfl) (fun K9 hK => ?_)
  refine step_append_lies W1 rfl _ _ _ rfl N 35 i0 _ 3 32 Try.underlying27 hi hz0 hz1 hz2 rfl (by omega) _ k (st.A.flatMap pC) rfl hrow1 ⟨g1, 0, none⟩ 1 1 [.int .i64 ((k : Int) + 1), .int .i64 f, .string t] rfl rfl (news_of hnw) (by simp [Value.oneCell']) (by omega) (by unfold maxLen; omega) (by omega) (Nat.le_trans HN.out.1 KB1.out.size) W1.heap.size rfl ?_
  intro g3 cap3 w3 hown3 hgrow3 hat3 hlt3
  have hk3 : Kept (fun j => (Value.slice aT k cT).ownBlock = some j) w w3 := (Kept.ofBelow KB1.out).grown hgrow3 (fun j e _ => e)
  have hg3 : (Value.slice aT k cT).ownBlock = some g3 ∨ w.heap.size ≤ g3 := hat3.imp id (fun e => by rw [e]; exact KB1.out.size)
  have hHeld3 : w3.cell? ⟨p, 0, none⟩ = some (Value.slice aT k cT) ∧ w3.cell? ⟨Q, 0, none⟩ = some (.int .i64 ((k : Int) + 1)) ∧ w3.cell? ⟨Q, 1, none⟩ = some (.int .i64 f) ∧ w3.cell? ⟨Q, 2, none⟩ = some (.string t) := by obtain ⟨c0, e0, e1, e2⟩ := hHeld; have hkg := (Kept.refl (fun j => (Value.slice aT k cT).ownBlock = some j) W1).grown hgrow3 (fun j e _ => e); exact ⟨hkg.cell c0 HPV.out, hkg.cell e0 HQV.out, hkg.cell e1 HQV.out, hkg.cell e2 HQV.out⟩
  refine hK _ _ (fun _ => hHeld3) ?_
  clear hK K9 hHeld
  try simp only [Act.put, List.setIfInBounds_toArray, List.set_cons_zero, List.set_cons_succ]
  have hHeld := hHeld3
  refine Till.takeFree (i := 8) (oi := { dst := some 25, op := Op.nilCheck (Operand.tmp 17), type := _, pos := _, after := _, guard := none }) (x := .pointer (some ⟨p, 0, none⟩)) rfl (by decide) (by kernel_rfl) (by kernel_rfl) (by kernel_rfl) (fun _ _ _ h => h) (Or.inl ⟨by rfl, fun w _ => by go_simp⟩) hHeld ?_
  simp only [Act.put, List.setIfInBounds_toArray, List.set_cons_zero, List.set_cons_succ]
  refine Till.takeFree (i := 9) (oi := { dst := some 26, op := Op.fieldAddr 46 (Operand.tmp 25) 0, type := _, pos := _, after := _, guard := none }) (x := .pointer (some ⟨p, 0, none⟩)) rfl (by decide) (by kernel_rfl) (by kernel_rfl) (by kernel_rfl) (fun _ _ _ h => h) (Or.inl ⟨by rfl, fun w _ => by go_simp⟩) hHeld ?_
  simp only [Act.put, List.setIfInBounds_toArray, List.set_cons_zero, List.set_cons_succ]
  clear hHeld
  obtain ⟨hc3, hq3, hq4, hq5⟩ := hHeld3
  have hf3 : w3.frozen? ⟨p, 0, none⟩ = false := HFZ.out w3 hk3
  refine Till.one (i := 10) (o := { dst := none, op := Op.store 27 (Operand.tmp 26) (Operand.tmp 24), type := _, pos := _, after := _, guard := none }) rfl (by kernel_rfl) (fun K9 hK => ?_)
  go_simp
  refine hK _ _ (by simp) ?_
  clear hK K9
  try simp only [Act.put, List.setIfInBounds_toArray, List.set_cons_zero, List.set_cons_succ]
  refine Till.rest (by kernel_rfl) ?_
  refine wpAny_done (by kernel_rfl) ?_ _
  have e1 := HNE.out
  have e2 := HVT.out
  have hT := HK.out.grew ((k : Int) + 1, (f, t)) (v' := .slice (some ⟨g3, 0, none⟩) (k + 1) cap3) (g := g3) (c := cap3) (by rw [e1]) (by rw [e2, e1]; exact hk3) (by rw [e1]; exact hown3) (by rw [e2, e1]; exact hg3)
  rw [e1] at hT
  have hQp : ¬ Q = p := fun e => by have := HN.out.2; omega
  have ks : Kept (fun k => k = p) w3 (w3.setCell ⟨p, 0, none⟩ (.slice (some ⟨g3, 0, none⟩) (k + 1) cap3)) := (Kept.refl (fun k => k = p) w3).setCell (p := ⟨p, 0, none⟩) (fun _ => rfl) _
  have z0 := ks.cell hq3 hQp
  have z1 := ks.cell hq4 hQp
  have z2 := ks.cell hq5 hQp
  obtain ⟨va', hva'⟩ : ∃ v, v = Value.slice (some ⟨g3, 0, none⟩) (k + 1) cap3 := ⟨_, rfl⟩
  have HVA : Hid (va'.ownBlock = some g3) := by rw [hva']; rfl
  rw [← hva'] at hT z0 z1 z2 ⊢
  clear hva' ks
  generalize w3.setCell ⟨p, 0, none⟩ va' = w4 at *
  obtain ⟨q1, q2, q3, q4, q5, q6⟩ := hT
  have hdr : Below w4.heap.size w4 w4.drew := Below.drew (Below.refl _ _)
  obtain ⟨w', hrun, hM, hgr⟩ := (q3.later hdr).put HLG.out.1 HLG.out.2 f t
  rw [e1] at hrun
  have hk : Kept (fun k => k = b) w4.drew w' := (Kept.refl _ _).grown hgr fun k e _ => by cases e; rfl
  have hk4 : Kept (fun k => k = b) w4 w' := (Kept.ofBelow hdr).trans hk fun _ _ e => e
  have hpb := HK.out.apart.2.1
  have hQb : ¬ Q = b := fun e => by have := HK.out.map.lt; have := HN.out.2; omega
  have HE : Hid (Px w' N p (st.sent f t) va' b ∧ Kept (Fx p va b) w w' ∧ ∀ j, Fx p va' b j → Fx p va b j ∨ w.heap.size ≤ j) := by
    refine ⟨⟨(hk4.block p (Array.getElem?_eq_some_iff.1 q1).1 hpb).trans q1, ?_, hM, HK.out.np, fun e => by simp [Nst.sent] at e⟩, q4.trans hk4 (fun i _ e => .inr (.inr e)), q6⟩
    have := hk4.row q2 (fun j e e' => q5 (by rw [HVA.out] at e; cases e; exact e'))
    simp only [Nst.sent, List.length_append, List.length_cons, List.length_nil, List.flatMap_append, List.flatMap_cons, List.flatMap_nil, List.append_nil, e1]
    simpa using this
  have hd1 : w4.cell? ⟨p, 1, none⟩ = some (.map (some b)) := cell_of_row _ _ 1 _ _ _ q1
  have hS0 : Kept (fun k => k = b) w4.drew w4.drew := Kept.refl _ _
  have y1 := fun W (hW : Kept (fun k => k = b) w4.drew W) => hW.cell (cell_later hdr hd1) hpb
  have y2 := fun W (hW : Kept (fun k => k = b) w4.drew W) => hW.cell (cell_later hdr z0) hQb
  have y3 := fun W (hW : Kept (fun k => k = b) w4.drew W) => hW.cell (cell_later hdr z1) hQb
  have y4 := fun W (hW : Kept (fun k => k = b) w4.drew W) => hW.cell (cell_later hdr z2) hQb
  have HR : Hid (_ = _) := hrun
  clear q1 q2 q3 q4 q5 q6 hrun hM hgr hk4 z0 z1 z2 hq3 hq4 hq5 e1 e2 hk3 hg3 hc3 hf3 hown3 hgrow3 hat3 hlt3 hnw hrow1 hd1
  go_upto_region 3 with (fail)
  refine wp_region_held_drew (S := fun W => Kept (fun k => k = b) w4.drew W) (by kernel_rfl) hS0 (fun hHeld => ?_)
  refine opT 0 27 (.move (.tmp 0)) (.pointer (some ⟨p, 0, none⟩)) rfl ?_
  go_frame
  refine opT 1 28 (.nilCheck (.tmp 27)) (.pointer (some ⟨p, 0, none⟩)) rfl ?_
  go_frame
  refine opT 2 29 (.fieldAddr 46 (.tmp 28) 1) (.pointer (some ⟨p, 1, none⟩)) rfl ?_
  go_frame
  refine opR 3 30 (.load 44 (.tmp 29)) (.map (some b)) rfl (fun w hSw => by have c := y1 w hSw; go_simp) ?_
  go_frame
  refine opT 4 31 (.fieldAddr 35 (.tmp 7) 0) (.pointer (some ⟨Q, 0, none⟩)) rfl ?_
  go_frame
  refine opR 5 32 (.load 3 (.tmp 31)) (.int .i64 ((k : Int) + 1)) rfl (fun w hSw => by have c := y2 w hSw; go_simp) ?_
  go_frame
  refine opR 6 33 (.load 35 (.tmp 7)) (.agg #[.int .i64 ((k : Int) + 1), .int .i64 f, .string t]) rfl (fun w hSw => by have c0 := y2 w hSw; have c1 := y3 w hSw; have c2 := y4 w hSw; go_simp) ?_
  go_frame
  refine wpAnyH_ready (rs := [7]) (by kernel_rfl) (by simp) ?_
  refine AllReadyH.cons rfl (fun Kc hK => ?_) AllReadyH.nil
  refine if_wpK rfl (wp_mapUpd 44 _ _ _ rfl rfl rfl rfl rfl HR.out ?_)
  refine hK.out _ _ hk (fun hHeld2 => ?_)
  clear hK Kc
  try go_frame
  refine wpAnyH_done (by kernel_rfl) ?_ _
  have z9 := y2 _ hk
  go_wp2_with fail
  go_ret
  exact ⟨rfl, _, HE.out.1, HE.out.2⟩
end Go.Proofs.Ytcdibafcolhlgaa.Ne
