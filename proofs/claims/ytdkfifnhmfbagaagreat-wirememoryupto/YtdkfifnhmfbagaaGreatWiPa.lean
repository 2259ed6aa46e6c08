/- Contracts of the document's answer: put, putKey, putBox. -/
import Derived.Test.YtdkfifnhmfbagaaGreatWiKa
import Derived.Deep.AppendLies
namespace Go.Proofs.YtdkfifnhmfbagaaGreat.Wi
open Go.RowKit Go.Maps
open Bt (Kept tb bys RdF pkS pkE)
set_option linter.unusedVariables false
set_option linter.unusedSimpArgs false

/- Fields as cells. -/
def fcs (x : Nat × Int) : List Value := [.int .u64 (x.1 : Int), .int .i64 x.2]
def fsl (l : List (Nat × Int)) : List Value := l.flatMap fcs
theorem fsl_snoc (l : List (Nat × Int)) (x : Nat × Int) : fsl (l ++ [x]) = fsl l ++ fcs x := by simp [fsl]
theorem fsl_get : ∀ (l : List (Nat × Int)) (i : Nat), i < l.length → (fsl l)[i * 2]? = some (.int .u64 ((l.getD i (0, 0)).1 : Int)) ∧ (fsl l)[i * 2 + 1]? = some (.int .i64 (l.getD i (0, 0)).2)
  | [], i, h => by cases h
  | x :: l, i, hi => by
    have e : fsl (x :: l) = .int .u64 (x.1 : Int) :: .int .i64 x.2 :: fsl l := rfl
    rw [e]
    cases i with
    | zero => exact ⟨rfl, rfl⟩
    | succ i =>
      have := fsl_get l i (by simpa using hi)
      rw [show (i + 1) * 2 = i * 2 + 1 + 1 by omega, show i * 2 + 1 + 1 + 1 = (i * 2 + 1) + 1 + 1 by omega]
      simpa using this
theorem infoF : (Tryz.prog.info? 115).map (fun i => (i.zero, i.size, i.bytes)) = some (some (.agg #[.int .u64 0, .int .i64 0]), 2, 16) := by kernel_rfl
theorem infoF_parts : ∃ i, Tryz.prog.info? 115 = some i ∧ i.zero = some (.agg #[.int .u64 0, .int .i64 0]) ∧ i.size = 2 ∧ i.bytes = 16 := by
  have h := infoF
  cases hq : Tryz.prog.info? 115 with
  | none => rw [hq] at h; cases h
  | some i =>
    rw [hq] at h
    simp at h
    exact ⟨i, rfl, h.1, h.2.1, h.2.2⟩
theorem getD_memF {l : List (Nat × Int)} {k : Nat} (h : k < l.length) : l.getD k (0, 0) ∈ l := by
  simp [List.getD, h]
theorem rdF_of {W : World} {n0 : Nat} {a : Option Addr} {cap : Nat} {l : List (Nat × Int)} (h : W.ownsRow n0 115 2 (.slice a l.length cap) l.length (fsl l)) (hl : ∀ x ∈ l, x.1 < 18446744073709551616) : RdF W a l := by
  rcases h.2 with ⟨e, h0⟩ | ⟨g, cap', cur, e, h3, h4, h5, h6, h7, h8⟩
  · intro i hi; omega
  · cases e
    intro i hi
    obtain ⟨p0, p1⟩ := fsl_get l i hi
    have cell : ∀ j v, j < l.length * 2 → (fsl l)[j]? = some v → W.cell? ⟨g, j, none⟩ = some v := fun j v hj hv => by
      rw [cell_of_row W g j _ _ _ h4, ← hv, ← h8, List.getElem?_take_of_lt hj]
      simp
    refine ⟨g, 0, rfl, ?_, ?_, hl _ (getD_memF hi)⟩
    · rw [Nat.zero_add]; exact cell _ _ (by omega) p0
    · rw [Nat.zero_add]; exact cell _ _ (by omega) p1
/- A list of fields that has grown. -/
structure GR (w w' : World) (v v' : Value) (l : List (Nat × Int)) : Prop where
  row : w'.ownsRow 0 115 2 v' l.length (fsl l)
  kp : Kept (fun k => v.ownBlock = some k) w w'
  own : ∀ k, v'.ownBlock = some k → v.ownBlock = some k ∨ w.heap.size ≤ k
section
variable {a b c : World} {v v' v'' : Value} {l l' : List (Nat × Int)}
theorem GR.refl (h : a.ownsRow 0 115 2 v l.length (fsl l)) : GR a a v v l := ⟨h, Kept.refl _ _, fun k hk => .inl hk⟩
theorem GR.trans (h : GR a b v v' l) (h' : GR b c v' v'' l') : GR a c v v'' l' :=
  ⟨h'.row, h.kp.trans h'.kp (fun i hi hf => (h.own i hf).resolve_right (by omega)), fun k hk => (h'.own k hk).elim (h.own k) (fun hge => .inr (Nat.le_trans h.kp.size hge))⟩
theorem GR.ahead (hb : Below a.heap.size a b) (h : GR b c v v' l) : GR a c v v' l :=
  ⟨h.row, (Kept.ofBelow hb).trans h.kp (fun i hi hf => hf), fun k hk => (h.own k hk).imp id (Nat.le_trans hb.size)⟩
theorem GR.later (h : GR a b v v' l) (hb : Below b.heap.size b c) : GR a c v v' l :=
  ⟨owns_later h.row hb, h.kp.trans (Kept.ofBelow (F := fun _ => False) hb) (fun i hi hf => hf.elim), h.own⟩
theorem GR.block (h : GR a b v v' l) {E : Nat} (hE : E < a.heap.size) (hn : v.ownBlock ≠ some E) : b.heap[E]? = a.heap[E]? := h.kp.block E hE hn
theorem GR.ne (h : GR a b v v' l) {E : Nat} (hE : E < a.heap.size) (hn : v.ownBlock ≠ some E) : v'.ownBlock ≠ some E := fun he => by
  rcases h.own E he with h1 | h1
  · exact hn h1
  · omega
theorem GR.below (h : GR a b (.slice none 0 0) v' l) : Below a.heap.size a b := h.kp.below (Nat.le_refl _) (fun k hk => by cases hk)
end
theorem wrap_u64 (v : Int) (h0 : 0 ≤ v) (h : v < 4611686018427387904) : IntKind.u64.wrap v = v := by rw [IntKind.wrap_u64]; omega
set_option maxRecDepth 100000 in
set_option maxHeartbeats 1000000 in
theorem rPut_any (x q : Int) (h0 : 0 ≤ x) (h1 : x < 4611686018427387904) {w : World} {v : Value} {l : List (Nat × Int)} (hr : w.ownsRow 0 115 2 v l.length (fsl l)) (hl : l.length ≤ 20000) :
    Calls Tryz.prog 35 #[v, .int .i64 x, .int .i64 q] w fun e w' => ∃ v', e = .returned v' ∧ GR w w' v v' (l ++ [(x.toNat, q)]) := by
  obtain ⟨i0, hi, hz0, hz1, hz2⟩ := infoF_parts
  have hwr := wrap_u64 x h0 h1
  obtain ⟨a1, cap1, rfl⟩ := owns_slice hr
  have HR : Hid _ := hr
  have HX : Hid (0 ≤ x) := h0
  clear h0 h1
  go_enter Tryz.func35, Tryz.ntmps35
  go_wp2_with (at_builtin; (refine wpList_append_lies _ rfl _ _ 71 rfl 0 115 i0 (.agg #[.int .u64 0, .int .i64 0]) 2 16 Tryz.underlying71 hi hz0 hz1 hz2 rfl (by decide) (.slice a1 l.length cap1) l.length (fsl l) rfl (hr.alloc _) ⟨w.heap.size, 0, none⟩ 1 1 [.int .u64 x, .int .i64 q] rfl rfl (cell_row_new _ _ _) (by simp [Value.oneCell']) (by omega) (by unfold maxLen; omega) (by omega) (by omega) (w.heap.size + 1) (by simp) ?_); intro g cap w3 hown hgr hat hlt; have HO : Hid (w3.ownsRow 0 115 2 (.slice (some ⟨g, 0, none⟩) (l.length + 1) cap) (l.length + 1) (fsl l ++ [.int .u64 x, .int .i64 q])) := hown; have HG : Hid ((w.alloc (.cells #[.int .u64 x, .int .i64 q] 115)).grownBy w3 (Value.slice a1 l.length cap1).ownBlock) := hgr; have HA : Hid ((Value.slice a1 l.length cap1).ownBlock = some g ∨ g = w.heap.size + 1) := hat; clear hown hgr hat hlt)
  go_ret
  have e : (l ++ [(x.toNat, q)]).length = l.length + 1 := by simp
  have e2 : fsl (l ++ [(x.toNat, q)]) = fsl l ++ [.int .u64 x, .int .i64 q] := by
    rw [fsl_snoc]
    unfold fcs
    dsimp only
    rw [Int.toNat_of_nonneg HX.out]
  refine ⟨.slice (some ⟨g, 0, none⟩) (l.length + 1) cap, rfl, ?_, ?_, ?_⟩
  · rw [e, e2]; exact HO.out
  · have hg := HG.out
    refine ⟨hg.os, hg.tape, hg.output, by have := hg.size; simp at this; omega, fun k hk hn => ?_⟩
    rw [hg.block k (by simp; omega) (fun h => hn h.symm)]
    exact (below_alloc w _).block k hk
  · intro k hk
    have hk' : g = k := by simpa [Value.ownBlock] using hk
    subst hk'
    rcases HA.out with h | h
    · exact .inl h
    · exact .inr (by omega)
/- Numbers that can be written. -/
def nn (x : Int) : Prop := 0 ≤ x ∧ x < 4611686018427387904
theorem own_ne {w : World} {n0 T k n : Nat} {v : Value} {xs : List Value} (h : w.ownsRow n0 T k v n xs) : v.ownBlock ≠ some w.heap.size := fun e => by
  have := (h.lt _ e).2
  omega
theorem two_cells {W : World} {E : Nat} {x y : Value} {T : TypeId} (h : W.heap[E]? = some (.cells #[x, y] T (0, 0))) : W.cell? ⟨E, 0, none⟩ = some x ∧ W.cell? ⟨E, 1, none⟩ = some y := ⟨cell_of_row W E 0 _ _ _ h, cell_of_row W E 1 _ _ _ h⟩
set_option maxRecDepth 100000 in
set_option maxHeartbeats 1000000 in
theorem rPutK_any (kb ks : Int) (hb : nn kb) (hs : nn ks) {w : World} {v : Value} {l : List (Nat × Int)} (hr : w.ownsRow 0 115 2 v l.length (fsl l)) (hl : l.length ≤ 19900) :
    Calls Tryz.prog 38 #[v, .agg #[.int .i64 kb, .int .i64 ks] ] w fun e w' => ∃ v', e = .returned v' ∧ GR w w' v v' (l ++ fK (kb, ks)) := by
  have hE := heap_alloc_last w (.cells #[.int .i64 kb, .int .i64 ks] 29)
  have hB1 := below_alloc w (.cells #[.int .i64 kb, .int .i64 ks] 29)
  have HR1 : Hid _ := owns_later hr hB1
  have HEl : Hid (w.heap.size < (w.alloc (.cells #[.int .i64 kb, .int .i64 ks] 29)).heap.size ∧ v.ownBlock ≠ some w.heap.size) := ⟨by simp, own_ne hr⟩
  have HB1 : Hid _ := hB1
  clear hB1 hr
  go_enter Tryz.func38, Tryz.ntmps38
  go_upto_region 1 with (fail)
  generalize w.alloc (.cells #[.int .i64 kb, .int .i64 ks] 29) = w1 at *
  obtain ⟨E, hEe⟩ : ∃ E, w.heap.size = E := ⟨_, rfl⟩
  rw [hEe] at hE HEl ⊢
  clear hEe
  have hE : w1.drew.heap[E]? = some (.cells #[.int .i64 kb, .int .i64 ks] 29 (0, 0)) := hE
  have hp1 := rPut_any kb 16 hb.1 hb.2 (w := w1.drew) (v := v) (l := l) HR1.out (by omega)
  have HS : Hid (nn ks) := hs
  have HL : Hid (l.length ≤ 19900) := hl
  clear hb hs hl
  refine wp_region_held_drew (S := fun W => W.cell? ⟨E, 0, none⟩ = some (.int .i64 kb) ∧ W.cell? ⟨E, 1, none⟩ = some (.int .i64 ks)) (by kernel_rfl) (two_cells hE) (fun hHeld => ?_)
  refine wpAnyH_take (i := 0) (oi := { dst := some 5, op := Op.move (Operand.tmp 0), type := _, pos := _, after := _, guard := none }) (v := v) rfl (by kernel_rfl) (by kernel_rfl) (by kernel_rfl) (fun _ _ _ h => h) (Or.inl ⟨by rfl, fun w hSw => by (try dsimp only at hSw); go_simp⟩) (by assumption) ?_
  simp only [Act.put, List.setIfInBounds_toArray, List.set_cons_zero, List.set_cons_succ]
  refine wpAnyH_take (i := 1) (oi := { dst := some 6, op := Op.fieldAddr 29 (Operand.tmp 3) 0, type := _, pos := _, after := _, guard := none }) (v := .pointer (some ⟨E, 0, none⟩)) rfl (by kernel_rfl) (by kernel_rfl) (by kernel_rfl) (fun _ _ _ h => h) (Or.inl ⟨by rfl, fun w hSw => by (try dsimp only at hSw); go_simp⟩) (by assumption) ?_
  simp only [Act.put, List.setIfInBounds_toArray, List.set_cons_zero, List.set_cons_succ]
  refine wpAnyH_take (i := 2) (oi := { dst := some 7, op := Op.load 3 (Operand.tmp 6), type := _, pos := _, after := _, guard := none }) (v := .int .i64 kb) rfl (by kernel_rfl) (by kernel_rfl) (by kernel_rfl) (fun _ _ _ h => h) (Or.inl ⟨by rfl, fun w hSw => by (try dsimp only at hSw); go_simp⟩) (by assumption) ?_
  simp only [Act.put, List.setIfInBounds_toArray, List.set_cons_zero, List.set_cons_succ]
  refine wpAnyH_take (i := 4) (oi := { dst := some 9, op := Op.fieldAddr 29 (Operand.tmp 3) 1, type := _, pos := _, after := _, guard := none }) (v := .pointer (some ⟨E, 1, none⟩)) rfl (by kernel_rfl) (by kernel_rfl) (by kernel_rfl) (fun _ _ _ h => h) (Or.inl ⟨by rfl, fun w hSw => by (try dsimp only at hSw); go_simp⟩) (by assumption) ?_
  simp only [Act.put, List.setIfInBounds_toArray, List.set_cons_zero, List.set_cons_succ]
  refine wpAnyH_take (i := 5) (oi := { dst := some 10, op := Op.load 3 (Operand.tmp 9), type := _, pos := _, after := _, guard := none }) (v := .int .i64 ks) rfl (by kernel_rfl) (by kernel_rfl) (by kernel_rfl) (fun _ _ _ h => h) (Or.inl ⟨by rfl, fun w hSw => by (try dsimp only at hSw); go_simp⟩) (by assumption) ?_
  simp only [Act.put, List.setIfInBounds_toArray, List.set_cons_zero, List.set_cons_succ]
  refine wpAnyH_ready (rs := [3]) (by kernel_rfl) (by simp) ?_
  refine AllReadyH.cons rfl (fun K hK => ?_) AllReadyH.nil
  go_simp
  refine hp1.mono ?_
  rintro e w2 ⟨v2, rfl, g2⟩
  have hE2 := (g2.block HEl.out.1 HEl.out.2).trans hE
  have hp2 := rPut_any ks 8 HS.out.1 HS.out.2 (w := w2) (v := v2) g2.row (by have := HL.out; simp; omega)
  have HG2 : Hid (GR w1.drew w2 v v2 (l ++ [(kb.toNat, 16)])) := g2
  have HE2 : Hid (w2.heap[E]? = some (.cells #[.int .i64 kb, .int .i64 ks] 29 (0, 0))) := hE2
  have HN2 : Hid (v2.ownBlock ≠ some E ∧ E < w2.heap.size) := ⟨g2.ne HEl.out.1 HEl.out.2, Nat.lt_of_lt_of_le HEl.out.1 g2.kp.size⟩
  clear hp1 g2 hE2
  go_wp2_with fail
  refine hK.out _ _ (two_cells HE2.out) (fun hHeld2 => ?_)
  clear hHeld
  clear hK K
  try simp only [Act.put, List.setIfInBounds_toArray, List.set_cons_zero, List.set_cons_succ]
  refine wpAnyH_ready (rs := [6]) (by kernel_rfl) (by simp) ?_
  refine AllReadyH.cons rfl (fun K hK => ?_) AllReadyH.nil
  go_simp
  refine hp2.mono ?_
  rintro e w3 ⟨v3, rfl, g3⟩
  have hE3 := (g3.block HN2.out.2 HN2.out.1).trans HE2.out
  have HG3 : Hid (GR w1.drew w3 v v3 (l ++ [(kb.toNat, 16)] ++ [(ks.toNat, 8)])) := HG2.out.trans g3
  clear hp2 g3
  go_wp2_with fail
  refine hK.out _ _ (two_cells hE3) (fun hHeld3 => ?_)
  clear hHeld2 hE3
  clear hK K
  try simp only [Act.put, List.setIfInBounds_toArray, List.set_cons_zero, List.set_cons_succ]
  refine wpAnyH_take (i := 7) (oi := { dst := some 4, op := Op.assign (Operand.tmp 11), type := _, pos := _, after := _, guard := none }) (v := v3) rfl (by kernel_rfl) (by kernel_rfl) (by kernel_rfl) (fun _ _ _ h => h) (Or.inl ⟨by rfl, fun w hSw => by (try dsimp only at hSw); go_simp⟩) (by assumption) ?_
  simp only [Act.put, List.setIfInBounds_toArray, List.set_cons_zero, List.set_cons_succ]
  refine wpAnyH_done (by kernel_rfl) ?_ _
  go_wp2_with fail
  go_ret
  refine ⟨v3, rfl, ?_⟩
  have e : l ++ fK (kb, ks) = l ++ [(kb.toNat, 16)] ++ [(ks.toNat, 8)] := by simp [fK]
  rw [e]
  exact GR.ahead (HB1.out.trans ((drew_below w1).mono HB1.out.size)) HG3.out
theorem four_cells {W : World} {E : Nat} {x y z u : Value} {T : TypeId} (h : W.heap[E]? = some (.cells #[x, y, z, u] T (0, 0))) : W.cell? ⟨E, 0, none⟩ = some x ∧ W.cell? ⟨E, 1, none⟩ = some y ∧ W.cell? ⟨E, 2, none⟩ = some z ∧ W.cell? ⟨E, 3, none⟩ = some u := ⟨cell_of_row W E 0 _ _ _ h, cell_of_row W E 1 _ _ _ h, cell_of_row W E 2 _ _ _ h, cell_of_row W E 3 _ _ _ h⟩
set_option maxRecDepth 100000 in
set_option maxHeartbeats 1000000 in
theorem rPutB_any (kb ks lb ls : Int) (hb : nn kb ∧ nn ks) (hs : nn lb ∧ nn ls) {w : World} {v : Value} {l : List (Nat × Int)} (hr : w.ownsRow 0 115 2 v l.length (fsl l)) (hl : l.length ≤ 19800) :
    Calls Tryz.prog 37 #[v, .agg #[.int .i64 kb, .int .i64 ks, .int .i64 lb, .int .i64 ls] ] w fun e w' => ∃ v', e = .returned v' ∧ GR w w' v v' (l ++ fB ((kb, ks), (lb, ls))) := by
  have hE := heap_alloc_last w (.cells #[.int .i64 kb, .int .i64 ks, .int .i64 lb, .int .i64 ls] 31)
  have hB1 := below_alloc w (.cells #[.int .i64 kb, .int .i64 ks, .int .i64 lb, .int .i64 ls] 31)
  have HR1 : Hid _ := owns_later hr hB1
  have HEl : Hid (w.heap.size < (w.alloc (.cells #[.int .i64 kb, .int .i64 ks, .int .i64 lb, .int .i64 ls] 31)).heap.size ∧ v.ownBlock ≠ some w.heap.size) := ⟨by simp, own_ne hr⟩
  have HB1 : Hid _ := hB1
  clear hB1 hr
  go_enter Tryz.func37, Tryz.ntmps37
  go_upto_region 1 with (fail)
  generalize w.alloc (.cells #[.int .i64 kb, .int .i64 ks, .int .i64 lb, .int .i64 ls] 31) = w1 at *
  obtain ⟨E, hEe⟩ : ∃ E, w.heap.size = E := ⟨_, rfl⟩
  rw [hEe] at hE HEl ⊢
  clear hEe
  have hE : w1.drew.heap[E]? = some (.cells #[.int .i64 kb, .int .i64 ks, .int .i64 lb, .int .i64 ls] 31 (0, 0)) := hE
  have hp1 := rPutK_any kb ks hb.1 hb.2 (w := w1.drew) (v := v) (l := l) HR1.out (by omega)
  have HS : Hid (nn lb ∧ nn ls) := hs
  have HL : Hid (l.length ≤ 19800) := hl
  clear hb hs hl
  refine wp_region_held_drew (S := fun W => W.cell? ⟨E, 0, none⟩ = some (.int .i64 kb) ∧ W.cell? ⟨E, 1, none⟩ = some (.int .i64 ks) ∧ W.cell? ⟨E, 2, none⟩ = some (.int .i64 lb) ∧ W.cell? ⟨E, 3, none⟩ = some (.int .i64 ls)) (by kernel_rfl) (four_cells hE) (fun hHeld => ?_)
  refine wpAnyH_take (i := 0) (oi := { dst := some 5, op := Op.move (Operand.tmp 0), type := _, pos := _, after := _, guard := none }) (v := v) rfl (by kernel_rfl) (by kernel_rfl) (by kernel_rfl) (fun _ _ _ h => h) (Or.inl ⟨by rfl, fun w hSw => by (try dsimp only at hSw); go_simp⟩) (by assumption) ?_
  simp only [Act.put, List.setIfInBounds_toArray, List.set_cons_zero, List.set_cons_succ]
  refine wpAnyH_take (i := 1) (oi := { dst := some 6, op := Op.fieldAddr 31 (Operand.tmp 3) 0, type := _, pos := _, after := _, guard := none }) (v := .pointer (some ⟨E, 0, none⟩)) rfl (by kernel_rfl) (by kernel_rfl) (by kernel_rfl) (fun _ _ _ h => h) (Or.inl ⟨by rfl, fun w hSw => by (try dsimp only at hSw); go_simp⟩) (by assumption) ?_
  simp only [Act.put, List.setIfInBounds_toArray, List.set_cons_zero, List.set_cons_succ]
  refine wpAnyH_take (i := 2) (oi := { dst := some 7, op := Op.load 29 (Operand.tmp 6), type := _, pos := _, after := _, guard := none }) (v := .agg #[.int .i64 kb, .int .i64 ks]) rfl (by kernel_rfl) (by kernel_rfl) (by kernel_rfl) (fun _ _ _ h => h) (Or.inl ⟨by rfl, fun w hSw => by (try dsimp only at hSw); go_simp⟩) (by assumption) ?_
  simp only [Act.put, List.setIfInBounds_toArray, List.set_cons_zero, List.set_cons_succ]
  refine wpAnyH_take (i := 4) (oi := { dst := some 9, op := Op.fieldAddr 31 (Operand.tmp 3) 1, type := _, pos := _, after := _, guard := none }) (v := .pointer (some ⟨E, 2, none⟩)) rfl (by kernel_rfl) (by kernel_rfl) (by kernel_rfl) (fun _ _ _ h => h) (Or.inl ⟨by rfl, fun w hSw => by (try dsimp only at hSw); go_simp⟩) (by assumption) ?_
  simp only [Act.put, List.setIfInBounds_toArray, List.set_cons_zero, List.set_cons_succ]
  refine wpAnyH_take (i := 5) (oi := { dst := some 10, op := Op.load 29 (Operand.tmp 9), type := _, pos := _, after := _, guard := none }) (v := .agg #[.int .i64 lb, .int .i64 ls]) rfl (by kernel_rfl) (by kernel_rfl) (by kernel_rfl) (fun _ _ _ h => h) (Or.inl ⟨by rfl, fun w hSw => by (try dsimp only at hSw); go_simp⟩) (by assumption) ?_
  simp only [Act.put, List.setIfInBounds_toArray, List.set_cons_zero, List.set_cons_succ]
  refine wpAnyH_ready (rs := [3]) (by kernel_rfl) (by simp) ?_
  refine AllReadyH.cons rfl (fun K hK => ?_) AllReadyH.nil
  go_simp
  refine hp1.mono ?_
  rintro e w2 ⟨v2, rfl, g2⟩
  have hE2 := (g2.block HEl.out.1 HEl.out.2).trans hE
  have hp2 := rPutK_any lb ls HS.out.1 HS.out.2 (w := w2) (v := v2) g2.row (by have := HL.out; simp [fK]; omega)
  have HG2 : Hid (GR w1.drew w2 v v2 (l ++ fK (kb, ks))) := g2
  have HE2 : Hid (w2.heap[E]? = some (.cells #[.int .i64 kb, .int .i64 ks, .int .i64 lb, .int .i64 ls] 31 (0, 0))) := hE2
  have HN2 : Hid (v2.ownBlock ≠ some E ∧ E < w2.heap.size) := ⟨g2.ne HEl.out.1 HEl.out.2, Nat.lt_of_lt_of_le HEl.out.1 g2.kp.size⟩
  clear hp1 g2 hE2
  go_wp2_with fail
  refine hK.out _ _ (four_cells HE2.out) (fun hHeld2 => ?_)
  clear hHeld
  clear hK K
  try simp only [Act.put, List.setIfInBounds_toArray, List.set_cons_zero, List.set_cons_succ]
  refine wpAnyH_ready (rs := [6]) (by kernel_rfl) (by simp) ?_
  refine AllReadyH.cons rfl (fun K hK => ?_) AllReadyH.nil
  go_simp
  refine hp2.mono ?_
  rintro e w3 ⟨v3, rfl, g3⟩
  have hE3 := (g3.block HN2.out.2 HN2.out.1).trans HE2.out
  have HG3 : Hid (GR w1.drew w3 v v3 (l ++ fK (kb, ks) ++ fK (lb, ls))) := HG2.out.trans g3
  clear hp2 g3
  go_wp2_with fail
  refine hK.out _ _ (four_cells hE3) (fun hHeld3 => ?_)
  clear hHeld2 hE3
  clear hK K
  try simp only [Act.put, List.setIfInBounds_toArray, List.set_cons_zero, List.set_cons_succ]
  refine wpAnyH_take (i := 7) (oi := { dst := some 4, op := Op.assign (Operand.tmp 11), type := _, pos := _, after := _, guard := none }) (v := v3) rfl (by kernel_rfl) (by kernel_rfl) (by kernel_rfl) (fun _ _ _ h => h) (Or.inl ⟨by rfl, fun w hSw => by (try dsimp only at hSw); go_simp⟩) (by assumption) ?_
  simp only [Act.put, List.setIfInBounds_toArray, List.set_cons_zero, List.set_cons_succ]
  refine wpAnyH_done (by kernel_rfl) ?_ _
  go_wp2_with fail
  go_ret
  refine ⟨v3, rfl, ?_⟩
  have e : l ++ fB ((kb, ks), (lb, ls)) = l ++ fK (kb, ks) ++ fK (lb, ls) := by simp [fB]
  rw [e]
  exact GR.ahead (HB1.out.trans ((drew_below w1).mono HB1.out.size)) HG3.out
end Go.Proofs.YtdkfifnhmfbagaaGreat.Wi
