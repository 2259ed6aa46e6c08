/- WiR, WiS, joined. -/
import Derived.Test.YtdkfifnhmfbagaaGreatDoorWiJ1
import Derived.WalkLawsBesides
namespace Go.Proofs.YtdkfifnhmfbagaaGreatDoor.Wi
open Go.RowKit Go.Maps
open Bt (Rr Kept tb bys tb_length bys_length)
open Rt (gd)
set_option linter.unusedVariables false
set_option linter.unusedSimpArgs false
/- What is thrown. -/
def pw : List PanicEntry := [{ v := .iface 32 (.int .i64 13), recovered := false }]
/- What a reading answers: a value and the place behind it, or it gives up. -/
def RO (g : Nat) (s : ByteArray) (w w' : World) (e : Ending) : Option (Value × Nat) → Prop
 | none => e = .panicked pw ∧ Kept (fun k => k = g) w w'
 | some (v, c) => e = .returned v ∧ Rr w' g c s ∧ Kept (fun k => k = g) w w'
theorem Kept.setRow {F : Nat → Prop} {a w : World} (h : Kept F a w) {B : Nat} (hp : B < a.heap.size → F B) (cs : Array Value) : Kept F a (w.setRow B cs) :=
 h.trans (F' := fun k => k = B) ⟨rfl, rfl, rfl, by simp, fun k hk hn => by simp only [World.setRow, Array.getElem?_modify]; rw [if_neg (fun e => hn e.symm)]⟩ (fun i hi e => by subst e; exact hp hi)
theorem row_kept {w w' : World} {g k : Nat} {o : Obj} (h : w.heap[k]? = some o) (hk : Kept (fun k => k = g) w w') (hn : k ≠ g) : w'.heap[k]? = some o := (hk.block k (row_lt h) hn).trans h
theorem setRow_other {w : World} {B C : Nat} (h : C ≠ B) (cs : Array Value) : (w.setRow B cs).heap[C]? = w.heap[C]? := by
 simp only [World.setRow, Array.getElem?_modify]
 rw [if_neg (fun e => h e.symm)]
/- The reader, its box, a box for what is answered. -/
structure RB (g : Nat) (s : ByteArray) (W0 W : World) (c C D : Nat) (ad : Obj) : Prop where
 rr : Rr W g c s
 hc : W.heap[C]? = some (.cells #[.pointer (some ⟨g, 0, none⟩)] 81 (0, 0))
 hd : W.heap[D]? = some ad
 kp : Kept (fun k => k = g) W0 W
 le : g < W0.heap.size ∧ W0.heap.size ≤ C ∧ W0.heap.size ≤ D
section
variable {g : Nat} {s : ByteArray} {W0 W W' : World} {c c' C D : Nat} {ad ad' : Obj}
theorem Rr.lt (h : Rr W g c s) : g < W.heap.size := row_lt h.blk
theorem Rr.more (h : Rr W g c s) (hb : Below W.heap.size W W') : Rr W' g c s := ⟨row_later h.blk hb, h.le⟩
theorem RB.new2 (h : Rr W g c s) (a : Obj) : RB g s W ((W.alloc (.cells #[.pointer (some ⟨g, 0, none⟩)] 81)).alloc a) c W.heap.size (W.heap.size + 1) a where
 rr := Rr.more (Rr.more h (below_alloc _ _)) (below_alloc _ _)
 hc := row_later (heap_alloc_last W _) (below_alloc _ _)
 hd := by have := heap_alloc_last (W.alloc (.cells #[.pointer (some ⟨g, 0, none⟩)] 81)) a; rw [World.size_alloc] at this; exact this
 kp := ((Kept.refl _ W).alloc _).alloc _
 le := ⟨Rr.lt h, Nat.le_refl _, Nat.le_succ _⟩
theorem RB.new1 (h : Rr W g c s) : RB g s W (W.alloc (.cells #[.pointer (some ⟨g, 0, none⟩)] 81)) c W.heap.size W.heap.size (.cells #[.pointer (some ⟨g, 0, none⟩)] 81) where
 rr := Rr.more h (below_alloc _ _)
 hc := heap_alloc_last W _
 hd := heap_alloc_last W _
 kp := (Kept.refl _ W).alloc _
 le := ⟨Rr.lt h, Nat.le_refl _, Nat.le_refl _⟩
theorem RB.next (h : RB g s W0 W c C D ad) (hr : Rr W' g c' s) (hk : Kept (fun k => k = g) W W') : RB g s W0 W' c' C D ad := by
 obtain ⟨l1, l2, l3⟩ := h.le
 exact ⟨hr, row_kept h.hc hk (by omega), row_kept h.hd hk (by omega), h.kp.trans hk (fun _ _ h => h), h.le⟩
theorem RB.gone (h : RB g s W0 W c C D ad) (hk : Kept (fun k => k = g) W W') : Kept (fun k => k = g) W0 W' := h.kp.trans hk (fun _ _ h => h)
theorem RB.later (h : RB g s W0 W c C D ad) (hb : Below W.heap.size W W') : RB g s W0 W' c C D ad := h.next (Rr.more h.rr hb) (Kept.ofBelow hb)
theorem RB.setRow {ds : Array Value} {T : TypeId} (h : RB g s W0 W c C D (.cells ds T (0, 0))) (cs : Array Value) (hne : D ≠ C) : RB g s W0 (W.setRow D cs) c C D (.cells cs T (0, 0)) := by
 obtain ⟨l1, l2, l3⟩ := h.le
 exact ⟨⟨(setRow_other (by omega) _).trans h.rr.blk, h.rr.le⟩, (setRow_other (Ne.symm hne) _).trans h.hc, setRow_heap W D _ cs T _ h.hd, Kept.setRow h.kp (fun h => by omega) _, h.le⟩
end
/- A row stored whole: an arm of the walk. -/
theorem stW {T : TypeId} {n : Nat} (hi : (Tryz.prog.info? T).map (·.size) = some n) {ops : Array Oper} {rest : List Oper} {o : Oper} {a : Act} {w : World} {Q : Exit → Act → World → Prop} {B : Nat} {cs : Array Value} (h : w.heap[B]? = some (.cells cs T (0, 0))) (hs : cs.size = n) (ds : List Value) (hd : ds.length = n) (h1 : ds.all (·.oneCell') = true) (hgd : o.guard = none) (x y : Operand) (ho : o.op = .store T x y)
  (hx : a.eval x = .pointer (some ⟨B, 0, none⟩)) (hy : a.eval y = .agg ds.toArray) (k : wpList Tryz.prog ops Q rest (a.put o.dst undef) (w.setRow B ds.toArray)) : wpList Tryz.prog ops Q (o :: rest) a w :=
 wpList_store_row hgd T x y ho B ds.toArray hx hy T cs h (by rw [hi]; simp [hd]) (by rw [hs]; simp [hd]) (by simpa using h1) k
theorem res1 {T : TypeId} {fn : Func} {p : Tmp} (hf : fn.results = #[.cell p T]) (tmps : Array Value) (W : World) (B : Nat) (cs : Array Value) (hp : tmps[p]? = some (.pointer (some ⟨B, 0, none⟩))) (h : (loadVar T ⟨B, 0, none⟩).run Tryz.prog W = .ok (.agg cs) W) :
  (results fn tmps).run Tryz.prog W = .ok (.agg cs) W := by
 simp [results, hf, hp, asAddr, h]
theorem giveUp_any (w : World) : Calls Tryz.prog 51 #[] w fun e w' => e = .panicked pw ∧ w' = w := by
 go_enter Tryz.func51, Tryz.ntmps51
 go_wp2
 exact ⟨rfl, rfl, rfl⟩
set_option maxRecDepth 100000 in
theorem number_any (g : Nat) (s : ByteArray) (q c : Nat) (w : World) (h : Rr w g c s) (hs : s.size < 1125899906842624) (h1 : 1 ≤ q) (h2 : q ≤ 60) :
  Calls Tryz.prog 45 #[.agg #[.pointer (some ⟨g, 0, none⟩)], .int .i64 (q : Int)] w fun e w' => RO g s w w' e ((pn q (tb (bys s)) c).map fun p => (.int .i64 (p.1 : Int), p.2)) := by
 have hb := RB.new1 h
 have hTl : (tb (bys s)).length = 8 * s.size := by rw [tb_length, bys_length]
 by_cases hc : c + q ≤ (tb (bys s)).length
 ·have HE : Hid (pn q (tb (bys s)) c = some (Bt.bv (((tb (bys s)).drop c).take q), c + q)) := pn_yes hc
  have hlt := pn_lt HE.out
  rw [HE.out]
  have ht := Bt.take_yes g c q s (w.alloc (.cells #[.pointer (some ⟨g, 0, none⟩)] 81)) hb.rr hs h1 (by omega) (by rw [← hTl]; exact hc)
  generalize Bt.bv (((tb (bys s)).drop c).take q) = v at *
  have hv60 : v < 1152921504606846976 := Nat.lt_of_lt_of_le hlt (by have := Nat.pow_le_pow_right (n := 2) (by decide) h2; simpa using this)
  have hwv : IntKind.i64.wrap (v : Int) = (v : Int) := Bt.wrap_fit _ (by omega) (by omega)
  have HB : Hid (RB g s w (w.alloc (.cells #[.pointer (some ⟨g, 0, none⟩)] 81)) c w.heap.size w.heap.size (.cells #[.pointer (some ⟨g, 0, none⟩)] 81)) := hb
  clear hb hTl hc hlt HE h hs
  go_enter Tryz.func45, Tryz.ntmps45
  go_wp2_with fail
  refine ht.mono ?_
  rintro e w2 ⟨rfl, hr2, hk2⟩
  have HR : Hid (Rr w2 g (c + q) s ∧ Kept (fun k => k = g) w w2) := ⟨hr2, HB.out.gone hk2⟩
  clear hr2 hk2 ht
  go_wp2_with fail
  go_ret
  exact ⟨rfl, HR.out.1, HR.out.2⟩
 ·have HE : Hid (pn q (tb (bys s)) c = none) := pn_no hc
  rw [HE.out]
  have ht := Bt.take_no g c s (q : Int) (w.alloc (.cells #[.pointer (some ⟨g, 0, none⟩)] 81)) hb.rr hs (by rintro ⟨_, h⟩; omega)
  have HB : Hid (RB g s w (w.alloc (.cells #[.pointer (some ⟨g, 0, none⟩)] 81)) c w.heap.size w.heap.size (.cells #[.pointer (some ⟨g, 0, none⟩)] 81)) := hb
  clear hb hTl hc HE h hs
  go_enter Tryz.func45, Tryz.ntmps45
  go_wp2_with fail
  refine ht.mono ?_
  rintro e w2 ⟨rfl, hw2⟩
  have HK : Hid (Kept (fun k => k = g) w w2) := by
   rcases hw2 with rfl | rfl
   ·exact HB.out.kp
   ·exact HB.out.kp.drew
  clear hw2 ht
  go_wp2_with fail
  refine (giveUp_any _).mono ?_
  rintro e w3 ⟨rfl, rfl⟩
  go_wp2_with fail
  exact ⟨rfl, rfl, HK.out⟩
theorem pi_yes {q v c c1 : Nat} {T : List Bool} (h : pn q T c = some (v, c1)) : pi q T c = some ((v : Int), c1) := pm_yes h
theorem pi_no {q c : Nat} {T : List Bool} (h : pn q T c = none) : pi q T c = none := pm_no h
set_option maxRecDepth 100000 in
theorem octet_any (g : Nat) (s : ByteArray) (c : Nat) (w : World) (h : Rr w g c s) (hs : s.size < 1125899906842624) :
  Calls Tryz.prog 104 #[.agg #[.pointer (some ⟨g, 0, none⟩)] ] w fun e w' => RO g s w w' e ((pn 8 (tb (bys s)) c).map fun p => (.int .u8 (p.1 : Int), p.2)) := by
 have hb := RB.new1 h
 have hp := number_any g s 8 c (w.alloc (.cells #[.pointer (some ⟨g, 0, none⟩)] 81)) hb.rr hs (by omega) (by omega)
 have HB : Hid (RB g s w (w.alloc (.cells #[.pointer (some ⟨g, 0, none⟩)] 81)) c w.heap.size w.heap.size (.cells #[.pointer (some ⟨g, 0, none⟩)] 81)) := hb
 clear hb h hs
 cases hn : pn 8 (tb (bys s)) c with
 | none =>
  rw [hn] at hp
  clear hn
  go_enter Tryz.func104, Tryz.ntmps104
  go_wp2_with fail
  refine hp.mono ?_
  rintro e w2 ⟨rfl, hk2⟩
  have HK : Hid (Kept (fun k => k = g) w w2) := HB.out.gone hk2
  clear hk2 hp
  go_wp2_with fail
  exact ⟨rfl, rfl, HK.out⟩
 | some p =>
  obtain ⟨v, c1⟩ := p
  have hv := pn_lt hn
  rw [hn] at hp
  clear hn
  dsimp only [Option.map] at hp ⊢
  have hwv : IntKind.u8.wrap (v : Int) = (v : Int) := by simp [IntKind.wrap, IntKind.bits, IntKind.signed]; omega
  go_enter Tryz.func104, Tryz.ntmps104
  go_wp2_with fail
  refine hp.mono ?_
  rintro e w2 ⟨rfl, hr2, hk2⟩
  have HR : Hid (Rr w2 g c1 s ∧ Kept (fun k => k = g) w w2) := ⟨hr2, HB.out.gone hk2⟩
  clear hr2 hk2 hp
  go_wp2_with fail
  go_ret
  exact ⟨rfl, HR.out.1, HR.out.2⟩
set_option maxRecDepth 100000 in
theorem key_any (g : Nat) (s : ByteArray) (c : Nat) (w : World) (h : Rr w g c s) (hs : s.size < 1125899906842624) :
  Calls Tryz.prog 102 #[.agg #[.pointer (some ⟨g, 0, none⟩)] ] w fun e w' => RO g s w w' e ((pK (tb (bys s)) c).map fun p => (.agg (stl p.1).toArray, p.2)) := by
 have hb := RB.new2 h (.cells #[.int .i64 0, .int .i64 0] 38)
 have HS : Hid (s.size < 1125899906842624) := hs
 clear h hs
 obtain ⟨r, hr⟩ : ∃ r, (pK (tb (bys s)) c).map (fun p => (Value.agg (stl p.1).toArray, p.2)) = r := ⟨_, rfl⟩
 have HR : Hid ((pK (tb (bys s)) c).map (fun p => (Value.agg (stl p.1).toArray, p.2)) = r) := hr
 rw [hr]
 clear hr
 go_enter Tryz.func102, Tryz.ntmps102
 go_upto_region 1 with (fail)
 generalize (w.alloc (.cells #[.pointer (some ⟨g, 0, none⟩)] 81)).alloc (.cells #[.int .i64 0, .int .i64 0] 38) = w1 at *
 obtain ⟨D, hD⟩ : ∃ D, w.heap.size + 1 = D := ⟨_, rfl⟩
 rw [hD] at hb ⊢
 obtain ⟨C, hC⟩ : ∃ C, w.heap.size = C := ⟨_, rfl⟩
 have HCD : Hid (D ≠ C) := by unfold Hid; omega
 rw [hC] at hb ⊢
 clear hD hC
 have c0 : w1.cell? ⟨C, 0, none⟩ = some (.pointer (some ⟨g, 0, none⟩)) := cell_of_row w1 C 0 _ _ _ hb.hc
 have hp := number_any g s 24 c w1 hb.rr HS.out (by omega) (by omega)
 have HB : Hid (RB g s w w1 c C D (.cells #[.int .i64 0, .int .i64 0] 38)) := hb
 clear hb
 cases hn : pn 24 (tb (bys s)) c with
 | none =>
  rw [hn] at hp
  have HN : Hid (r = none) := by unfold Hid; rw [← HR.out]; unfold pK; rw [hn]; rfl
  clear hn
  go_wp2_with fail
  refine hp.mono ?_
  rintro e w2 ⟨rfl, hk2⟩
  have HK : Hid (Kept (fun k => k = g) w w2) := HB.out.gone hk2
  clear hk2 hp
  go_wp2_with fail
  exact ⟨rfl, by rw [HN.out]; exact ⟨rfl, HK.out⟩⟩
 | some p =>
  obtain ⟨v, c1⟩ := p
  have hv := pn_lt hn
  rw [hn] at hp
  dsimp only [Option.map] at hp
  have hwv : IntKind.u32.wrap (v : Int) = (v : Int) := by simp [IntKind.wrap, IntKind.bits, IntKind.signed]; omega
  have e1 : (v : Int) / 256 = ((v / 256 : Nat) : Int) := by omega
  have e2 : (v : Int) % 256 = ((v % 256 : Nat) : Int) := by omega
  cases hg : gK (((v / 256 : Nat) : Int), ((v % 256 : Nat) : Int)) with
  | false =>
   have hu := Rt.unpack_no (v : Int) (by omega) (by omega) (by rw [e1, e2]; intro hG; have := Rt.gd_yes hG; unfold gK at hg; dsimp only at hg; rw [hg] at this; cases this)
   have HN : Hid (r = none) := by unfold Hid; rw [← HR.out]; unfold pK; rw [hn]; dsimp only; rw [if_neg (by rw [hg]; simp)]; rfl
   clear hn hg e1 e2
   go_wp2_with fail
   refine hp.mono ?_
   rintro e w2 ⟨rfl, hr2, hk2⟩
   have HB2 : Hid (RB g s w w2 c1 C D (.cells #[.int .i64 0, .int .i64 0] 38)) := HB.out.next hr2 hk2
   clear hr2 hk2 hp HB c0
   go_wp2_with fail
   refine (hu _).mono ?_
   rintro e w3 ⟨rfl, hw3⟩
   have HB3 : Hid (RB g s w w3 c1 C D (.cells #[.int .i64 0, .int .i64 0] 38)) := HB2.out.later (by rw [hw3]; exact Below.plus (Below.plus (below_alloc _ _) _) _)
   clear hw3 hu HB2
   go_wp2_with fail
   refine (giveUp_any _).mono ?_
   rintro e w4 ⟨rfl, rfl⟩
   go_wp2_with fail
   exact ⟨rfl, by rw [HN.out]; exact ⟨rfl, HB3.out.kp.alloc _⟩⟩
  | true =>
   have hu := Rt.unpack_yes (v : Int) (by omega) (by omega) (by rw [e1, e2]; have := gK_iff.1 hg; unfold Rt.Gd; dsimp only at this; omega)
   rw [e1, e2] at hu
   have HN : Hid (r = some (.agg #[.int .i64 ((v / 256 : Nat) : Int), .int .i64 ((v % 256 : Nat) : Int)], c1)) := by unfold Hid; rw [← HR.out]; unfold pK; rw [hn]; dsimp only; rw [if_pos hg]; rfl
   generalize ((v / 256 : Nat) : Int) = x at *
   generalize ((v % 256 : Nat) : Int) = y at *
   clear hn hg e1 e2
   go_wp2_with fail
   refine hp.mono ?_
   rintro e w2 ⟨rfl, hr2, hk2⟩
   have HB2 : Hid (RB g s w w2 c1 C D (.cells #[.int .i64 0, .int .i64 0] 38)) := HB.out.next hr2 hk2
   clear hr2 hk2 hp HB c0
   go_wp2_with fail
   refine (hu _).mono ?_
   rintro e w3 ⟨rfl, hw3⟩
   have HB3 : Hid (RB g s w w3 c1 C D (.cells #[.int .i64 0, .int .i64 0] 38)) := HB2.out.later (by rw [hw3]; exact Below.plus (Below.plus (below_alloc _ _) _) _)
   clear hw3 hu HB2
   go_upto_region 2 with (fail)
   have hb4 := HB3.out.later (below_alloc w3 (.cells #[.int .i64 x, .int .i64 y] 38))
   have hE := heap_alloc_last w3 (.cells #[.int .i64 x, .int .i64 y] 38)
   generalize w3.alloc (.cells #[.int .i64 x, .int .i64 y] 38) = w4 at *
   generalize w3.heap.size = E at *
   have k0 : w4.cell? ⟨E, 0, none⟩ = some (.int .i64 x) := cell_of_row w4 E 0 _ _ _ hE
   have k1 : w4.cell? ⟨E, 1, none⟩ = some (.int .i64 y) := cell_of_row w4 E 1 _ _ _ hE
   have HB4 : Hid (RB g s w w4 c1 C D (.cells #[.int .i64 0, .int .i64 0] 38)) := hb4
   clear hb4 hE HB3
   go_wp2_with (refine stW szKey HB4.out.hd rfl [.int .i64 x, .int .i64 y] rfl rfl rfl _ _ rfl rfl rfl ?_)
   have hb5 := HB4.out.setRow #[.int .i64 x, .int .i64 y] HCD.out
   refine bodyPost_ret (res1 (T := 38) (p := 2) rfl _ _ D #[.int .i64 x, .int .i64 y] rfl (run_loadVar_row _ D _ 38 _ _ _ hb5.hd Tryz.underlying38 rfl szKey)) rfl ?_
   rw [HN.out]
   exact ⟨rfl, hb5.rr, hb5.kp⟩
end Go.Proofs.YtdkfifnhmfbagaaGreatDoor.Wi
