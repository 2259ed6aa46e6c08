/- WiU, WiL, joined. -/
import Derived.Test.YtdkfifnhmfbagaaGreatDoorWiJ2
import Derived.Deep.RegionHeld3
namespace Go.Proofs.YtdkfifnhmfbagaaGreatDoor.Wi
open Go.RowKit Go.Maps
open Bt (Rr Kept tb bys tb_length bys_length)
open Rt (gd)
set_option linter.unusedVariables false
set_option linter.unusedSimpArgs false
set_option maxRecDepth 100000 in
theorem seat_any (g : Nat) (s : ByteArray) (c : Nat) (w : World) (h : Rr w g c s) (hs : s.size < 1125899906842624) :
  Calls Tryz.prog 98 #[.agg #[.pointer (some ⟨g, 0, none⟩)] ] w fun e w' => RO g s w w' e ((pS (tb (bys s)) c).map fun p => (.agg (stl p.1).toArray, p.2)) := by
 have hb := RB.new2 h (.cells #[.int .i64 0, .int .i64 0] 108)
 have HS : Hid (s.size < 1125899906842624) := hs
 clear h hs
 obtain ⟨r, hr⟩ : ∃ r, (pS (tb (bys s)) c).map (fun p => (Value.agg (stl p.1).toArray, p.2)) = r := ⟨_, rfl⟩
 have HR : Hid ((pS (tb (bys s)) c).map (fun p => (Value.agg (stl p.1).toArray, p.2)) = r) := hr
 rw [hr]
 clear hr
 go_enter Tryz.func98, Tryz.ntmps98
 go_upto_region 1 with (fail)
 generalize (w.alloc (.cells #[.pointer (some ⟨g, 0, none⟩)] 81)).alloc (.cells #[.int .i64 0, .int .i64 0] 108) = w1 at *
 obtain ⟨D, hD⟩ : ∃ D, w.heap.size + 1 = D := ⟨_, rfl⟩
 rw [hD] at hb ⊢
 obtain ⟨C, hC⟩ : ∃ C, w.heap.size = C := ⟨_, rfl⟩
 have HCD : Hid (D ≠ C) := by unfold Hid; omega
 rw [hC] at hb ⊢
 clear hD hC
 have c0 : w1.cell? ⟨C, 0, none⟩ = some (.pointer (some ⟨g, 0, none⟩)) := cell_of_row w1 C 0 _ _ _ hb.hc
 have hp := number_any g s 8 c w1 hb.rr HS.out (by omega) (by omega)
 have HB : Hid (RB g s w w1 c C D (.cells #[.int .i64 0, .int .i64 0] 108)) := hb
 clear hb
 cases hn : pn 8 (tb (bys s)) c with
 | none =>
  rw [hn] at hp
  have HN : Hid (r = none) := by unfold Hid; rw [← HR.out]; unfold pS; rw [pq_no (pi_no hn)]; rfl
  clear hn
  go_wp2_with fail
  refine hp.mono ?_
  rintro e w2 ⟨rfl, hk2⟩
  have HK : Hid (Kept (fun k => k = g) w w2) := HB.out.gone hk2
  clear hk2 hp
  go_wp2_with fail
  exact ⟨rfl, by rw [HN.out]; exact ⟨rfl, HK.out⟩⟩
 | some p =>
  obtain ⟨v, c1⟩ := p
  rw [hn] at hp
  dsimp only [Option.map] at hp
  have HN1 : Hid (pi 8 (tb (bys s)) c = some ((v : Int), c1)) := pi_yes hn
  clear hn
  go_wp2_with fail
  refine hp.mono ?_
  rintro e w2 ⟨rfl, hr2, hk2⟩
  have hb2 := HB.out.next hr2 hk2
  have HB2 : Hid (RB g s w w2 c1 C D (.cells #[.int .i64 0, .int .i64 0] 108)) := hb2
  clear hr2 hk2 hp HB c0
  have c0 : w2.cell? ⟨C, 0, none⟩ = some (.pointer (some ⟨g, 0, none⟩)) := cell_of_row w2 C 0 _ _ _ hb2.hc
  have hp := number_any g s 6 c1 w2 hb2.rr HS.out (by omega) (by omega)
  clear hb2
  cases hn : pn 6 (tb (bys s)) c1 with
  | none =>
   rw [hn] at hp
   have HN : Hid (r = none) := by unfold Hid; rw [← HR.out]; unfold pS; rw [pq_no2 HN1.out (pi_no hn)]; rfl
   clear hn
   go_wp2_with fail
   refine hp.mono ?_
   rintro e w3 ⟨rfl, hk3⟩
   have HK : Hid (Kept (fun k => k = g) w w3) := HB2.out.gone hk3
   clear hk3 hp
   go_wp2_with fail
   exact ⟨rfl, by rw [HN.out]; exact ⟨rfl, HK.out⟩⟩
  | some p =>
   obtain ⟨u, c2⟩ := p
   rw [hn] at hp
   dsimp only [Option.map] at hp
   have HN : Hid (r = some (.agg #[.int .i64 (v : Int), .int .i64 (u : Int)], c2)) := by unfold Hid; rw [← HR.out]; unfold pS; rw [pq_yes HN1.out (pi_yes hn)]; rfl
   clear hn
   go_wp2_with fail
   refine hp.mono ?_
   rintro e w3 ⟨rfl, hr3, hk3⟩
   have HB3 : Hid (RB g s w w3 c2 C D (.cells #[.int .i64 0, .int .i64 0] 108)) := HB2.out.next hr3 hk3
   clear hr3 hk3 hp HB2 c0
   go_wp2_with (refine stW szSeat HB3.out.hd rfl [.int .i64 (v : Int), .int .i64 (u : Int)] rfl rfl rfl _ _ rfl rfl rfl ?_)
   have hb5 := HB3.out.setRow #[.int .i64 (v : Int), .int .i64 (u : Int)] HCD.out
   refine bodyPost_ret (res1 (T := 108) (p := 2) rfl _ _ D #[.int .i64 (v : Int), .int .i64 (u : Int)] rfl (run_loadVar_row _ D _ 108 _ _ _ hb5.hd Tryz.underlying108 rfl szSeat)) rfl ?_
   rw [HN.out]
   exact ⟨rfl, hb5.rr, hb5.kp⟩
set_option maxRecDepth 100000 in
theorem request_any (g : Nat) (s : ByteArray) (c : Nat) (w : World) (h : Rr w g c s) (hs : s.size < 1125899906842624) :
  Calls Tryz.prog 47 #[.agg #[.pointer (some ⟨g, 0, none⟩)] ] w fun e w' => RO g s w w' e ((pQ (tb (bys s)) c).map fun p => (.agg (stl p.1).toArray, p.2)) := by
 have hb := RB.new2 h (.cells #[.int .i64 0, .int .i64 0] 36)
 have HS : Hid (s.size < 1125899906842624) := hs
 clear h hs
 obtain ⟨r, hr⟩ : ∃ r, (pQ (tb (bys s)) c).map (fun p => (Value.agg (stl p.1).toArray, p.2)) = r := ⟨_, rfl⟩
 have HR : Hid ((pQ (tb (bys s)) c).map (fun p => (Value.agg (stl p.1).toArray, p.2)) = r) := hr
 rw [hr]
 clear hr
 go_enter Tryz.func47, Tryz.ntmps47
 go_upto_region 1 with (fail)
 generalize (w.alloc (.cells #[.pointer (some ⟨g, 0, none⟩)] 81)).alloc (.cells #[.int .i64 0, .int .i64 0] 36) = w1 at *
 obtain ⟨D, hD⟩ : ∃ D, w.heap.size + 1 = D := ⟨_, rfl⟩
 rw [hD] at hb ⊢
 obtain ⟨C, hC⟩ : ∃ C, w.heap.size = C := ⟨_, rfl⟩
 have HCD : Hid (D ≠ C) := by unfold Hid; omega
 rw [hC] at hb ⊢
 clear hD hC
 have c0 : w1.cell? ⟨C, 0, none⟩ = some (.pointer (some ⟨g, 0, none⟩)) := cell_of_row w1 C 0 _ _ _ hb.hc
 have hp := number_any g s 8 c w1 hb.rr HS.out (by omega) (by omega)
 have HB : Hid (RB g s w w1 c C D (.cells #[.int .i64 0, .int .i64 0] 36)) := hb
 clear hb
 cases hn : pn 8 (tb (bys s)) c with
 | none =>
  rw [hn] at hp
  have HN : Hid (r = none) := by unfold Hid; rw [← HR.out]; unfold pQ; rw [pq_no (pi_no hn)]; rfl
  clear hn
  go_wp2_with fail
  refine hp.mono ?_
  rintro e w2 ⟨rfl, hk2⟩
  have HK : Hid (Kept (fun k => k = g) w w2) := HB.out.gone hk2
  clear hk2 hp
  go_wp2_with fail
  exact ⟨rfl, by rw [HN.out]; exact ⟨rfl, HK.out⟩⟩
 | some p =>
  obtain ⟨v, c1⟩ := p
  rw [hn] at hp
  dsimp only [Option.map] at hp
  have HN1 : Hid (pi 8 (tb (bys s)) c = some ((v : Int), c1)) := pi_yes hn
  clear hn
  go_wp2_with fail
  refine hp.mono ?_
  rintro e w2 ⟨rfl, hr2, hk2⟩
  have hb2 := HB.out.next hr2 hk2
  have HB2 : Hid (RB g s w w2 c1 C D (.cells #[.int .i64 0, .int .i64 0] 36)) := hb2
  clear hr2 hk2 hp HB c0
  have c0 : w2.cell? ⟨C, 0, none⟩ = some (.pointer (some ⟨g, 0, none⟩)) := cell_of_row w2 C 0 _ _ _ hb2.hc
  have hp := number_any g s 8 c1 w2 hb2.rr HS.out (by omega) (by omega)
  clear hb2
  cases hn : pn 8 (tb (bys s)) c1 with
  | none =>
   rw [hn] at hp
   have HN : Hid (r = none) := by unfold Hid; rw [← HR.out]; unfold pQ; rw [pq_no2 HN1.out (pi_no hn)]; rfl
   clear hn
   go_wp2_with fail
   refine hp.mono ?_
   rintro e w3 ⟨rfl, hk3⟩
   have HK : Hid (Kept (fun k => k = g) w w3) := HB2.out.gone hk3
   clear hk3 hp
   go_wp2_with fail
   exact ⟨rfl, by rw [HN.out]; exact ⟨rfl, HK.out⟩⟩
  | some p =>
   obtain ⟨u, c2⟩ := p
   rw [hn] at hp
   dsimp only [Option.map] at hp
   have HN : Hid (r = some (.agg #[.int .i64 (v : Int), .int .i64 (u : Int)], c2)) := by unfold Hid; rw [← HR.out]; unfold pQ; rw [pq_yes HN1.out (pi_yes hn)]; rfl
   clear hn
   go_wp2_with fail
   refine hp.mono ?_
   rintro e w3 ⟨rfl, hr3, hk3⟩
   have HB3 : Hid (RB g s w w3 c2 C D (.cells #[.int .i64 0, .int .i64 0] 36)) := HB2.out.next hr3 hk3
   clear hr3 hk3 hp HB2 c0
   go_wp2_with (refine stW szRq HB3.out.hd rfl [.int .i64 (v : Int), .int .i64 (u : Int)] rfl rfl rfl _ _ rfl rfl rfl ?_)
   have hb5 := HB3.out.setRow #[.int .i64 (v : Int), .int .i64 (u : Int)] HCD.out
   refine bodyPost_ret (res1 (T := 36) (p := 2) rfl _ _ D #[.int .i64 (v : Int), .int .i64 (u : Int)] rfl (run_loadVar_row _ D _ 36 _ _ _ hb5.hd Tryz.underlying36 rfl szRq)) rfl ?_
   rw [HN.out]
   exact ⟨rfl, hb5.rr, hb5.kp⟩
theorem if_wp {P : Program} {o : Oper} {a : Act} {w : World} {K : Act → World → Prop} {Q : Exit → Act → World → Prop} {c : Prop} [Decidable c] (hc : c) {X : Prop} (h : Oper.wp P o a w K Q) : if c then Oper.wp P o a w K Q else X := by rw [if_pos hc]; exact h
theorem wp_stRow0 {o : Oper} {a : Act} {w : World} {K : Act → World → Prop} {Q : Exit → Act → World → Prop} (ty : TypeId) (x y : Operand) (ho : o.op = .store ty x y) (g : Nat) (cells : List Value) (hx : a.eval x = .pointer (some ⟨g, 0, none⟩)) (hy : a.eval y = .agg cells.toArray)
  (old : Array Value) (hg : w.heap[g]? = some (.cells old ty (0, 0))) (hi : (Tryz.prog.info? ty).map (·.size) = some cells.length) (hold : old.size = cells.length) (h1 : cells.all (·.oneCell') = true) (hd : o.dst = none) (h : K a (w.setRow g cells.toArray)) : o.wp Tryz.prog a w K Q := by
 refine wp_store_row ty x y ho g cells.toArray hx hy ty old hg (by simpa using hi) (by simpa using hold) (by simpa using h1) ?_
 rw [hd]
 exact h
set_option maxRecDepth 100000 in
set_option maxHeartbeats 1000000 in
theorem box_any (g : Nat) (s : ByteArray) (c : Nat) (w : World) (h : Rr w g c s) (hs : s.size < 1125899906842624) :
  Calls Tryz.prog 101 #[.agg #[.pointer (some ⟨g, 0, none⟩)] ] w fun e w' => RO g s w w' e ((pB (tb (bys s)) c).map fun p => (.agg (bxl p.1).toArray, p.2)) := by
 have hb := RB.new2 h (.cells #[.int .i64 0, .int .i64 0, .int .i64 0, .int .i64 0] 40)
 have HS : Hid (s.size < 1125899906842624) := hs
 clear h hs
 obtain ⟨r, hr⟩ : ∃ r, (pB (tb (bys s)) c).map (fun p => (Value.agg (bxl p.1).toArray, p.2)) = r := ⟨_, rfl⟩
 have HR : Hid ((pB (tb (bys s)) c).map (fun p => (Value.agg (bxl p.1).toArray, p.2)) = r) := hr
 rw [hr]
 clear hr
 go_enter Tryz.func101, Tryz.ntmps101
 go_upto_region 1 with (fail)
 generalize (w.alloc (.cells #[.pointer (some ⟨g, 0, none⟩)] 81)).alloc (.cells #[.int .i64 0, .int .i64 0, .int .i64 0, .int .i64 0] 40) = w1 at *
 obtain ⟨D, hD⟩ : ∃ D, w.heap.size + 1 = D := ⟨_, rfl⟩
 rw [hD] at hb ⊢
 obtain ⟨C, hC⟩ : ∃ C, w.heap.size = C := ⟨_, rfl⟩
 have HCD : Hid (D ≠ C) := by unfold Hid; omega
 rw [hC] at hb ⊢
 clear hD hC
 have c0 : w1.cell? ⟨C, 0, none⟩ = some (.pointer (some ⟨g, 0, none⟩)) := cell_of_row w1 C 0 _ _ _ hb.hc
 have hp := key_any g s c w1 hb.rr HS.out
 have HB : Hid (RB g s w w1 c C D (.cells #[.int .i64 0, .int .i64 0, .int .i64 0, .int .i64 0] 40)) := hb
 clear hb
 cases hn : pK (tb (bys s)) c with
 | none =>
  rw [hn] at hp
  have HN : Hid (r = none) := by unfold Hid; rw [← HR.out]; unfold pB; rw [pq_no hn]; rfl
  clear hn
  go_wp2_with fail
  refine hp.mono ?_
  rintro e w2 ⟨rfl, hk2⟩
  have HK : Hid (Kept (fun k => k = g) w w2) := HB.out.gone hk2
  clear hk2 hp
  go_wp2_with fail
  exact ⟨rfl, by rw [HN.out]; exact ⟨rfl, HK.out⟩⟩
 | some p =>
  obtain ⟨⟨kb, ks⟩, c1⟩ := p
  rw [hn] at hp
  dsimp only [Option.map, stl] at hp
  have HN1 : Hid (pK (tb (bys s)) c = some ((kb, ks), c1)) := hn
  clear hn
  go_wp2_with fail
  refine hp.mono ?_
  rintro e w2 ⟨rfl, hr2, hk2⟩
  have hb2 := HB.out.next hr2 hk2
  clear hr2 hk2 hp HB c0
  go_upto_region 2 with (fail)
  have hb3 := hb2.later (below_alloc w2 (.cells #[.int .i64 kb, .int .i64 ks] 38))
  have hE := heap_alloc_last w2 (.cells #[.int .i64 kb, .int .i64 ks] 38)
  have HEl : Hid (w.heap.size ≤ w2.heap.size) := hb2.kp.size
  generalize w2.alloc (.cells #[.int .i64 kb, .int .i64 ks] 38) = w3 at *
  generalize w2.heap.size = E at *
  have hb4 := hb3.later (drew_below w3)
  have hE4 : w3.drew.heap[E]? = some (.cells #[.int .i64 kb, .int .i64 ks] 38) := hE
  have HEg : Hid (E ≠ g) := by have := hb4.le; have := HEl.out; unfold Hid; omega
  have hp := key_any g s c1 w3.drew hb4.rr HS.out
  have HB4 : Hid (RB g s w w3.drew c1 C D (.cells #[.int .i64 0, .int .i64 0, .int .i64 0, .int .i64 0] 40)) := hb4
  have c0 : w3.cell? ⟨C, 0, none⟩ = some (.pointer (some ⟨g, 0, none⟩)) := cell_of_row w3 C 0 _ _ _ hb3.hc
  have k0 : w3.cell? ⟨E, 0, none⟩ = some (.int .i64 kb) := cell_of_row w3 E 0 _ _ _ hE
  have k1 : w3.cell? ⟨E, 1, none⟩ = some (.int .i64 ks) := cell_of_row w3 E 1 _ _ _ hE
  clear hb2 hb3 hb4 hE
  cases hn : pK (tb (bys s)) c1 with
  | none =>
   rw [hn] at hp
   have HN : Hid (r = none) := by unfold Hid; rw [← HR.out]; unfold pB; rw [pq_no2 HN1.out hn]; rfl
   clear hn
   refine wp_region_held_drew (S := fun W => W.cell? ⟨C, 0, none⟩ = some (.pointer (some ⟨g, 0, none⟩)) ∧ W.cell? ⟨E, 0, none⟩ = some (.int .i64 kb) ∧ W.cell? ⟨E, 1, none⟩ = some (.int .i64 ks)) (by kernel_rfl) ⟨c0, k0, k1⟩ (fun hHeld => ?_)
   refine wpAnyH_take (i := 0) (oi := ⟨some 6, Op.load 38 (.tmp 3), _, _, _, none⟩) (v := .agg #[.int .i64 kb, .int .i64 ks]) rfl (by kernel_rfl) (by kernel_rfl) (by kernel_rfl) (fun _ _ _ h => h) (Or.inl ⟨by rfl, fun w hSw => by (try dsimp only at hSw); go_simp⟩) (by assumption) ?_
   simp only [Act.put, List.setIfInBounds_toArray, List.set_cons_zero, List.set_cons_succ]
   refine wpAnyH_take (i := 1) (oi := ⟨some 7, Op.load 81 (.tmp 1), _, _, _, none⟩) (v := .agg #[.pointer (some ⟨g, 0, none⟩)]) rfl (by kernel_rfl) (by kernel_rfl) (by kernel_rfl) (fun _ _ _ h => h) (Or.inl ⟨by rfl, fun w hSw => by (try dsimp only at hSw); go_simp⟩) (by assumption) ?_
   simp only [Act.put, List.setIfInBounds_toArray, List.set_cons_zero, List.set_cons_succ]
   refine wpAnyH_ready (rs := [2]) (by kernel_rfl) (by simp) ?_
   refine AllReadyH.cons rfl (fun K hK => ?_) AllReadyH.nil
   go_simp
   refine hp.mono ?_
   rintro e w4 ⟨rfl, hk4⟩
   have HK : Hid (Kept (fun k => k = g) w w4) := HB4.out.gone hk4
   clear hk4 hp
   go_wp2_with fail
   exact ⟨rfl, by rw [HN.out]; exact ⟨rfl, HK.out⟩⟩
  | some p =>
   obtain ⟨⟨lb, ls⟩, c2⟩ := p
   rw [hn] at hp
   dsimp only [Option.map, stl] at hp
   have HN : Hid (r = some (.agg #[.int .i64 kb, .int .i64 ks, .int .i64 lb, .int .i64 ls], c2)) := by unfold Hid; rw [← HR.out]; unfold pB; rw [pq_yes HN1.out hn]; rfl
   clear hn
   refine wp_region_held_drew (S := fun W => W.cell? ⟨C, 0, none⟩ = some (.pointer (some ⟨g, 0, none⟩)) ∧ W.cell? ⟨E, 0, none⟩ = some (.int .i64 kb) ∧ W.cell? ⟨E, 1, none⟩ = some (.int .i64 ks)) (by kernel_rfl) ⟨c0, k0, k1⟩ (fun hHeld => ?_)
   refine wpAnyH_take (i := 0) (oi := ⟨some 6, Op.load 38 (.tmp 3), _, _, _, none⟩) (v := .agg #[.int .i64 kb, .int .i64 ks]) rfl (by kernel_rfl) (by kernel_rfl) (by kernel_rfl) (fun _ _ _ h => h) (Or.inl ⟨by rfl, fun w hSw => by (try dsimp only at hSw); go_simp⟩) (by assumption) ?_
   simp only [Act.put, List.setIfInBounds_toArray, List.set_cons_zero, List.set_cons_succ]
   refine wpAnyH_take (i := 1) (oi := ⟨some 7, Op.load 81 (.tmp 1), _, _, _, none⟩) (v := .agg #[.pointer (some ⟨g, 0, none⟩)]) rfl (by kernel_rfl) (by kernel_rfl) (by kernel_rfl) (fun _ _ _ h => h) (Or.inl ⟨by rfl, fun w hSw => by (try dsimp only at hSw); go_simp⟩) (by assumption) ?_
   simp only [Act.put, List.setIfInBounds_toArray, List.set_cons_zero, List.set_cons_succ]
   refine wpAnyH_ready (rs := [2]) (by kernel_rfl) (by simp) ?_
   refine AllReadyH.cons rfl (fun K hK => ?_) AllReadyH.nil
   go_simp
   refine hp.mono ?_
   rintro e w4 ⟨rfl, hr4, hk4⟩
   have hb5 := HB4.out.next hr4 hk4
   have hE5 := row_kept hE4 hk4 HEg.out
   have HB5 : Hid (RB g s w w4 c2 C D (.cells #[.int .i64 0, .int .i64 0, .int .i64 0, .int .i64 0] 40)) := hb5
   have HE5 : Hid (w4.heap[E]? = some (.cells #[.int .i64 kb, .int .i64 ks] 38)) := hE5
   have hS5 : w4.cell? ⟨C, 0, none⟩ = some (.pointer (some ⟨g, 0, none⟩)) ∧ w4.cell? ⟨E, 0, none⟩ = some (.int .i64 kb) ∧ w4.cell? ⟨E, 1, none⟩ = some (.int .i64 ks) := ⟨cell_of_row w4 C 0 _ _ _ hb5.hc, cell_of_row w4 E 0 _ _ _ hE5, cell_of_row w4 E 1 _ _ _ hE5⟩
   clear hp hr4 hk4 hb5 hE5
   go_wp2_with fail
   refine hK.out _ _ hS5 (fun hHeld2 => ?_)
   clear hHeld hS5
   clear hK K
   try simp only [Act.put, List.setIfInBounds_toArray, List.set_cons_zero, List.set_cons_succ]
   refine wpAnyH_take (i := 3) (oi := ⟨some 9, Op.build 40 #[(0, (.tmp 6)), (1, (.tmp 8))], _, _, _, none⟩) (v := .agg #[.int .i64 kb, .int .i64 ks, .int .i64 lb, .int .i64 ls]) rfl (by kernel_rfl) (by kernel_rfl) (by kernel_rfl) (fun _ _ _ h => h) (Or.inl ⟨by rfl, fun w hSw => by (try dsimp only at hSw); go_simp⟩) (by assumption) ?_
   simp only [Act.put, List.setIfInBounds_toArray, List.set_cons_zero, List.set_cons_succ]
   refine wpAnyH_ready (rs := [4]) (by kernel_rfl) (by simp) ?_
   refine AllReadyH.cons rfl (fun Kc hK => ?_) AllReadyH.nil
   have hED : E ≠ D := row_ne HE5.out HB5.out.hd (by decide)
   have hb6 := HB5.out.setRow #[.int .i64 kb, .int .i64 ks, .int .i64 lb, .int .i64 ls] HCD.out
   have hE6 := (setRow_other hED #[.int .i64 kb, .int .i64 ks, .int .i64 lb, .int .i64 ls]).trans HE5.out
   have HB6 : Hid (RB g s w (w4.setRow D #[.int .i64 kb, .int .i64 ks, .int .i64 lb, .int .i64 ls]) c2 C D (.cells #[.int .i64 kb, .int .i64 ks, .int .i64 lb, .int .i64 ls] 40)) := hb6
   refine if_wp rfl (wp_stRow0 40 _ _ rfl D [.int .i64 kb, .int .i64 ks, .int .i64 lb, .int .i64 ls] rfl rfl _ HB5.out.hd szBox rfl rfl rfl ?_)
   refine hK.out _ _ ⟨cell_of_row _ C 0 _ _ _ hb6.hc, cell_of_row _ E 0 _ _ _ hE6, cell_of_row _ E 1 _ _ _ hE6⟩ (fun hHeld3 => ?_)
   clear hHeld2 hED hb6 hE6
   clear hK Kc
   try simp only [Act.put, List.setIfInBounds_toArray, List.set_cons_zero, List.set_cons_succ]
   refine wpAnyH_done (by kernel_rfl) ?_ _
   go_wp2_with fail
   refine bodyPost_ret (res1 (T := 40) (p := 2) rfl _ _ D #[.int .i64 kb, .int .i64 ks, .int .i64 lb, .int .i64 ls] rfl (run_loadVar_row _ D _ 40 _ _ _ HB6.out.hd Tryz.underlying40 rfl szBox)) rfl ?_
   rw [HN.out]
   exact ⟨rfl, HB6.out.rr, HB6.out.kp⟩
set_option maxRecDepth 100000 in
set_option maxHeartbeats 1000000 in
theorem item_any (g : Nat) (s : ByteArray) (c : Nat) (w : World) (h : Rr w g c s) (hs : s.size < 1125899906842624) :
  Calls Tryz.prog 100 #[.agg #[.pointer (some ⟨g, 0, none⟩)] ] w fun e w' => RO g s w w' e ((pI (tb (bys s)) c).map fun p => (.agg (itl p.1).toArray, p.2)) := by
 have hb := RB.new2 h (.cells #[.int .i64 0, .int .i64 0, .int .i64 0, .int .i64 0, .int .i64 0, .int .i64 0] 112)
 have HS : Hid (s.size < 1125899906842624) := hs
 clear h hs
 obtain ⟨r, hr⟩ : ∃ r, (pI (tb (bys s)) c).map (fun p => (Value.agg (itl p.1).toArray, p.2)) = r := ⟨_, rfl⟩
 have HR : Hid ((pI (tb (bys s)) c).map (fun p => (Value.agg (itl p.1).toArray, p.2)) = r) := hr
 rw [hr]
 clear hr
 go_enter Tryz.func100, Tryz.ntmps100
 go_upto_region 1 with (fail)
 generalize (w.alloc (.cells #[.pointer (some ⟨g, 0, none⟩)] 81)).alloc (.cells #[.int .i64 0, .int .i64 0, .int .i64 0, .int .i64 0, .int .i64 0, .int .i64 0] 112) = w1 at *
 obtain ⟨D, hD⟩ : ∃ D, w.heap.size + 1 = D := ⟨_, rfl⟩
 rw [hD] at hb ⊢
 obtain ⟨C, hC⟩ : ∃ C, w.heap.size = C := ⟨_, rfl⟩
 have HCD : Hid (D ≠ C) := by unfold Hid; omega
 rw [hC] at hb ⊢
 clear hD hC
 have c0 : w1.cell? ⟨C, 0, none⟩ = some (.pointer (some ⟨g, 0, none⟩)) := cell_of_row w1 C 0 _ _ _ hb.hc
 have hp := number_any g s 5 c w1 hb.rr HS.out (by omega) (by omega)
 have HB : Hid (RB g s w w1 c C D (.cells #[.int .i64 0, .int .i64 0, .int .i64 0, .int .i64 0, .int .i64 0, .int .i64 0] 112)) := hb
 clear hb
 cases hn : pn 5 (tb (bys s)) c with
 | none =>
  rw [hn] at hp
  have HN : Hid (r = none) := by unfold Hid; rw [← HR.out]; unfold pI; rw [pq_no (pq_no (pi_no hn))]; rfl
  clear hn
  go_wp2_with fail
  refine hp.mono ?_
  rintro e w2 ⟨rfl, hk2⟩
  have HK : Hid (Kept (fun k => k = g) w w2) := HB.out.gone hk2
  clear hk2 hp
  go_wp2_with fail
  exact ⟨rfl, by rw [HN.out]; exact ⟨rfl, HK.out⟩⟩
 | some p =>
  obtain ⟨v, c1⟩ := p
  rw [hn] at hp
  dsimp only [Option.map] at hp
  have HN1 : Hid (pi 5 (tb (bys s)) c = some ((v : Int), c1)) := pi_yes hn
  clear hn
  go_wp2_with fail
  refine hp.mono ?_
  rintro e w2 ⟨rfl, hr2, hk2⟩
  have hb2 := HB.out.next hr2 hk2
  have HB2 : Hid (RB g s w w2 c1 C D (.cells #[.int .i64 0, .int .i64 0, .int .i64 0, .int .i64 0, .int .i64 0, .int .i64 0] 112)) := hb2
  clear hr2 hk2 hp HB c0
  have c0 : w2.cell? ⟨C, 0, none⟩ = some (.pointer (some ⟨g, 0, none⟩)) := cell_of_row w2 C 0 _ _ _ hb2.hc
  have hp := number_any g s 7 c1 w2 hb2.rr HS.out (by omega) (by omega)
  clear hb2
  cases hn : pn 7 (tb (bys s)) c1 with
  | none =>
   rw [hn] at hp
   have HN : Hid (r = none) := by unfold Hid; rw [← HR.out]; unfold pI; rw [pq_no (pq_no2 HN1.out (pi_no hn))]; rfl
   clear hn
   go_wp2_with fail
   refine hp.mono ?_
   rintro e w3 ⟨rfl, hk3⟩
   have HK : Hid (Kept (fun k => k = g) w w3) := HB2.out.gone hk3
   clear hk3 hp
   go_wp2_with fail
   exact ⟨rfl, by rw [HN.out]; exact ⟨rfl, HK.out⟩⟩
  | some p =>
   obtain ⟨u, c2⟩ := p
   rw [hn] at hp
   dsimp only [Option.map] at hp
   have HN2 : Hid (pq (pi 5) (pi 7) (tb (bys s)) c = some (((v : Int), (u : Int)), c2)) := pq_yes HN1.out (pi_yes hn)
   clear hn
   go_wp2_with fail
   refine hp.mono ?_
   rintro e w3 ⟨rfl, hr3, hk3⟩
   have hb3 := HB2.out.next hr3 hk3
   have HB3 : Hid (RB g s w w3 c2 C D (.cells #[.int .i64 0, .int .i64 0, .int .i64 0, .int .i64 0, .int .i64 0, .int .i64 0] 112)) := hb3
   clear hr3 hk3 hp HB2 c0
   have c0 : w3.cell? ⟨C, 0, none⟩ = some (.pointer (some ⟨g, 0, none⟩)) := cell_of_row w3 C 0 _ _ _ hb3.hc
   have hp := box_any g s c2 w3 hb3.rr HS.out
   clear hb3
   cases hn : pB (tb (bys s)) c2 with
   | none =>
    rw [hn] at hp
    have HN : Hid (r = none) := by unfold Hid; rw [← HR.out]; unfold pI; rw [pq_no2 HN2.out hn]; rfl
    clear hn
    go_wp2_with fail
    refine hp.mono ?_
    rintro e w4 ⟨rfl, hk4⟩
    have HK : Hid (Kept (fun k => k = g) w w4) := HB3.out.gone hk4
    clear hk4 hp
    go_wp2_with fail
    exact ⟨rfl, by rw [HN.out]; exact ⟨rfl, HK.out⟩⟩
   | some p =>
    obtain ⟨⟨⟨kb, ks⟩, lb, ls⟩, c3⟩ := p
    rw [hn] at hp
    dsimp only [Option.map, bxl] at hp
    have HN : Hid (r = some (.agg #[.int .i64 (v : Int), .int .i64 (u : Int), .int .i64 kb, .int .i64 ks, .int .i64 lb, .int .i64 ls], c3)) := by unfold Hid; rw [← HR.out]; unfold pI; rw [pq_yes HN2.out hn]; rfl
    clear hn
    go_wp2_with fail
    refine hp.mono ?_
    rintro e w4 ⟨rfl, hr4, hk4⟩
    have HB4 : Hid (RB g s w w4 c3 C D (.cells #[.int .i64 0, .int .i64 0, .int .i64 0, .int .i64 0, .int .i64 0, .int .i64 0] 112)) := HB3.out.next hr4 hk4
    clear hr4 hk4 hp HB3 c0
    go_wp2_with (refine stW szItem HB4.out.hd rfl [.int .i64 (v : Int), .int .i64 (u : Int), .int .i64 kb, .int .i64 ks, .int .i64 lb, .int .i64 ls] rfl rfl rfl _ _ rfl rfl rfl ?_)
    have hb5 := HB4.out.setRow #[.int .i64 (v : Int), .int .i64 (u : Int), .int .i64 kb, .int .i64 ks, .int .i64 lb, .int .i64 ls] HCD.out
    refine bodyPost_ret (res1 (T := 112) (p := 2) rfl _ _ D #[.int .i64 (v : Int), .int .i64 (u : Int), .int .i64 kb, .int .i64 ks, .int .i64 lb, .int .i64 ls] rfl (run_loadVar_row _ D _ 112 _ _ _ hb5.hd Tryz.underlying112 rfl szItem)) rfl ?_
    rw [HN.out]
    exact ⟨rfl, hb5.rr, hb5.kp⟩
theorem cell_row_new (w : World) (cs : Array Value) (t : TypeId) : ∀ j u, cs.toList[j]? = some u → (w.alloc (.cells cs t)).cell? ((⟨w.heap.size, 0, none⟩ : Addr).add j) = some u := by
 intro j u hu
 have hadd : (⟨w.heap.size, 0, none⟩ : Addr).add j = ⟨w.heap.size, j, none⟩ := by
  unfold Addr.add
  simp
  intro h
  exact h.symm
 rw [hadd, cell_of_row _ _ j _ _ _ (heap_alloc_last w _)]
 simpa using hu
theorem owns_slice {W : World} {b : Nat} {e : TypeId} {sz : Nat} {v : Value} {n : Nat} {xs : List Value} (h : W.ownsRow b e sz v n xs) : ∃ a cap, v = .slice a n cap := by
 rcases h.2 with ⟨rfl, rfl⟩ | ⟨g, cap, cur, rfl, _⟩
 ·exact ⟨none, 0, rfl⟩
 ·exact ⟨_, cap, rfl⟩
theorem owns_wide {W : World} {b b' : Nat} {e : TypeId} {sz : Nat} {v : Value} {n : Nat} {xs : List Value} (h : W.ownsRow b e sz v n xs) (hb : b' ≤ b) : W.ownsRow b' e sz v n xs := by
 refine ⟨h.1, ?_⟩
 rcases h.2 with h0 | ⟨g, cap, cur, hv, hg, rest⟩
 ·exact .inl h0
 ·exact .inr ⟨g, cap, cur, hv, Nat.le_trans hb hg, rest⟩
theorem infoSeat : (Tryz.prog.info? 108).map (fun i => (i.zero, i.size, i.bytes)) = some (some (.agg #[.int .i64 0, .int .i64 0]), 2, 16) := by kernel_rfl
theorem infoItem : (Tryz.prog.info? 112).map (fun i => (i.zero, i.size, i.bytes)) = some (some (.agg #[.int .i64 0, .int .i64 0, .int .i64 0, .int .i64 0, .int .i64 0, .int .i64 0]), 6, 48) := by kernel_rfl
theorem info8 : (Tryz.prog.info? 5).map (fun i => (i.zero, i.size, i.bytes)) = some (some (.int .u8 0), 1, 1) := by kernel_rfl
theorem info_of {T : TypeId} {z : Value} {a b : Nat} (h : (Tryz.prog.info? T).map (fun i => (i.zero, i.size, i.bytes)) = some (some z, a, b)) : ∃ i, Tryz.prog.info? T = some i ∧ i.zero = some z ∧ i.size = a ∧ i.bytes = b := by
 cases hq : Tryz.prog.info? T with
 | none => rw [hq] at h; cases h
 | some i =>
  rw [hq] at h
  simp at h
  exact ⟨i, rfl, h.1, h.2.1, h.2.2⟩
def RL {α : Type} (g : Nat) (s : ByteArray) (f : α → List Value) (T : TypeId) (sz : Nat) (w w' : World) (e : Ending) : Option (List α × Nat) → Prop
 | none => e = .panicked pw ∧ Kept (fun k => k = g) w w'
 | some (l, c) => ∃ v, e = .returned v ∧ Rr w' g c s ∧ Kept (fun k => k = g) w w' ∧ w'.ownsRow w.heap.size T sz v l.length (l.flatMap f)
theorem RB.grown {g : Nat} {s : ByteArray} {W0 W W' : World} {c C : Nat} {ad : Obj} {row : Option Nat} (h : RB g s W0 W c C C ad) (hg : W.grownBy W' row) (hr : ∀ k, row = some k → C < k) : RB g s W0 W' c C C ad := by
 obtain ⟨l1, l2, l3⟩ := h.le
 have blk : ∀ k, k ≤ C → k < W.heap.size → W'.heap[k]? = W.heap[k]? := fun k hk h2 => hg.block k h2 (fun e => by have := hr k e.symm; omega)
 exact ⟨⟨(blk g (by omega) (row_lt h.rr.blk)).trans h.rr.blk, h.rr.le⟩, (blk C (Nat.le_refl _) (row_lt h.hc)).trans h.hc, (blk C (Nat.le_refl _) (row_lt h.hd)).trans h.hd, h.kp.grown hg (fun k hk h2 => by have := hr k hk; omega), h.le⟩
theorem flat_snoc' {α : Type} (f : α → List Value) (l : List α) (x : α) : (l ++ [x]).flatMap f = l.flatMap f ++ f x := by simp
set_option maxRecDepth 100000 in
set_option maxHeartbeats 1000000 in
theorem takeS_any (g : Nat) (s : ByteArray) (q c : Nat) (w : World) (h : Rr w g c s) (hs : s.size < 1125899906842624) (h1 : 1 ≤ q) (h2 : q ≤ 11) :
  Calls Tryz.prog 97 #[.agg #[.pointer (some ⟨g, 0, none⟩)], .int .i64 (q : Int), .func (.func 98) #[.agg #[.pointer (some ⟨g, 0, none⟩)] ] #[] ] w fun e w' => RL g s stl 108 2 w w' e (pc q pS (tb (bys s)) c) := by
 have hb := RB.new1 h
 have HS : Hid (s.size < 1125899906842624) := hs
 clear h hs
 obtain ⟨r, hr⟩ : ∃ r, pc q pS (tb (bys s)) c = r := ⟨_, rfl⟩
 have HR : Hid (pc q pS (tb (bys s)) c = r) := hr
 rw [hr]
 clear hr
 obtain ⟨i0, hi, hz0, hz1, hz2⟩ := info_of infoSeat
 go_enter Tryz.func97, Tryz.ntmps97
 go_upto_region 1 with (fail)
 generalize w.alloc (.cells #[.pointer (some ⟨g, 0, none⟩)] 81) = w1 at *
 obtain ⟨C, hC⟩ : ∃ C, w.heap.size = C := ⟨_, rfl⟩
 have HC : Hid (w.heap.size = C) := hC
 rw [hC] at hb ⊢
 clear hC
 obtain ⟨OC, hOC⟩ : ∃ o, o = Obj.cells #[.pointer (some ⟨g, 0, none⟩)] 81 := ⟨_, rfl⟩
 have c0 : w1.cell? ⟨C, 0, none⟩ = some (.pointer (some ⟨g, 0, none⟩)) := cell_of_row w1 C 0 _ _ _ hb.hc
 rw [← hOC] at hb
 clear hOC
 have hp := number_any g s q c w1 hb.rr HS.out h1 (by omega)
 have HB : Hid (RB g s w w1 c C C OC) := hb
 clear hb
 cases hn : pn q (tb (bys s)) c with
 | none =>
  rw [hn] at hp
  have HN : Hid (r = none) := by unfold Hid; rw [← HR.out]; exact pc_no hn
  clear hn
  go_wp2_with fail
  refine hp.mono ?_
  rintro e w2 ⟨rfl, hk2⟩
  have HK : Hid (Kept (fun k => k = g) w w2) := HB.out.gone hk2
  clear hk2 hp
  go_wp2_with fail
  exact ⟨rfl, by rw [HN.out]; exact ⟨rfl, HK.out⟩⟩
 | some p =>
  obtain ⟨n, c1⟩ := p
  rw [hn] at hp
  dsimp only [Option.map] at hp
  have hn2 : n < 2048 := Nat.lt_of_lt_of_le (pn_lt hn) (by have := Nat.pow_le_pow_right (n := 2) (by decide) h2; simpa using this)
  have HPC : Hid (pl pS (tb (bys s)) c1 n = r) := by unfold Hid; rw [← HR.out, pc_yes hn]
  clear hn HR
  go_wp2_with fail
  refine hp.mono ?_
  rintro e w2 ⟨rfl, hr2, hk2⟩
  have HB2 : Hid (RB g s w w2 c1 C C OC) := HB.out.next hr2 hk2
  clear hr2 hk2 hp HB c0
  go_wp2_with fail
  go_loopw [7, 11] (fun li i wx => ∃ k : Nat, k ≤ n ∧ i = .int .i64 (k : Int) ∧ ∃ l ck, pl pS (tb (bys s)) c1 k = some (l, ck) ∧ RB g s w wx ck C C OC ∧ wx.ownsRow (C + 1) 108 2 li l.length (l.flatMap stl)) (fun _ i _ => n - (intOf i).toNat)
  case atStart => exact ⟨0, by omega, rfl, [], c1, rfl, HB2.out, World.ownsRow_nil _ _ _ _⟩
  case round =>
   obtain ⟨k, hk, rfl, l, ck, hpl, hbx, hrow⟩ := hrel
   clear HB2
   have hlen := pl_len hpl
   have HLN : Hid (l.length = k) := hlen
   have HPL : Hid (pl pS (tb (bys s)) c1 k = some (l, ck)) := hpl
   obtain ⟨a, cap, rfl⟩ := owns_slice hrow
   have HROW : Hid (wr.ownsRow (C + 1) 108 2 (.slice a l.length cap) l.length (l.flatMap stl)) := hrow
   have HBX : Hid (RB g s w wr ck C C OC) := hbx
   clear hpl hrow hlen
   by_cases hkn : k < n
   ·have hkn' : (k : Int) < (n : Int) := by omega
    have hp := seat_any g s ck wr hbx.rr HS.out
    clear hbx
    cases hx : pS (tb (bys s)) ck with
    | none =>
     rw [hx] at hp
     have HN : Hid (r = none) := by unfold Hid; rw [← HPC.out]; exact pl_stop (pl_next_no HPL.out hx) (by omega)
     clear hx
     go_wp2_with fail
     refine hp.mono ?_
     rintro e w3 ⟨rfl, hk3⟩
     have HK : Hid (Kept (fun k => k = g) w w3) := HBX.out.gone hk3
     clear hk3 hp
     go_wp2_with fail
     exact ⟨rfl, by rw [HN.out]; exact ⟨rfl, HK.out⟩⟩
    | some y =>
     obtain ⟨p, c2⟩ := y
     rw [hx] at hp
     dsimp only [Option.map, stl, itl] at hp
     have HPN : Hid (pl pS (tb (bys s)) c1 (k + 1) = some (l ++ [p], c2)) := pl_next HPL.out hx
     clear hx
     go_wp2_with fail
     refine hp.mono ?_
     rintro e w3 ⟨rfl, hr3, hk3⟩
     have hb3 := HBX.out.next hr3 hk3
     have hle := hb3.le
     have hrow3 := hk3.row HROW.out (fun j hj hF => by have hj2 := (HROW.out.lt j hj).1; have hF' : j = g := hF; omega)
     have HB3 : Hid (RB g s w w3 c2 C C OC) := hb3
     have hsz3 : C + 1 ≤ w3.heap.size := row_lt hb3.hc
     have HNB : Hid (∀ k, (Value.slice a l.length cap).ownBlock = some k → C < k) := fun k hk => (HROW.out.lt k hk).1
     have hl : l.length ≤ 2048 := by rw [HLN.out]; omega
     clear hp hr3 hk3 hb3 HROW HBX hle
     go_wp2_with (at_builtin; (refine wpList_append_own _ rfl _ _ 28 rfl (C + 1) 108 i0 (.agg #[.int .i64 0, .int .i64 0]) 2 16 Tryz.underlying28 hi hz0 hz1 hz2 rfl (by decide) (.slice a l.length cap) l.length (l.flatMap stl) rfl (hrow3.alloc _) ⟨w3.heap.size, 0, none⟩ 1 1 [.int .i64 p.1, .int .i64 p.2] rfl rfl (cell_row_new _ _ _) (by simp [Value.oneCell']) (by unfold maxLen; omega) (by omega) (by simp; omega) ?_); intro v' w4 hown' hg4 _; have HOWN : Hid (w4.ownsRow (C + 1) 108 2 v' (l.length + 1) (l.flatMap stl ++ [.int .i64 p.1, .int .i64 p.2])) := hown'; have HG4 : Hid (RB g s w w4 c2 C C OC) := (HB3.out.later (below_alloc _ _)).grown hg4 HNB.out; clear hown' hg4)
     go_roundw
     case rel => exact ⟨k + 1, by omega, by go_num, l ++ [p], c2, HPN.out, HG4.out, by rw [flat_snoc', List.length_append]; exact HOWN.out⟩
     case measure => simp [intOf]; omega
   ·have hkn' : decide ((k : Int) < (n : Int)) = false := by simp; omega
    have HN : Hid (r = some (l, ck)) := by
     unfold Hid
     have e : k = n := by omega
     rw [← HPC.out, ← e]
     exact HPL.out
    clear hbx
    go_wp2_with fail
    go_ret
    rw [HN.out]
    exact ⟨_, rfl, HBX.out.rr, HBX.out.kp, owns_wide HROW.out (by rw [HC.out]; omega)⟩
set_option maxRecDepth 100000 in
set_option maxHeartbeats 1000000 in
theorem takeI_any (g : Nat) (s : ByteArray) (q c : Nat) (w : World) (h : Rr w g c s) (hs : s.size < 1125899906842624) (h1 : 1 ≤ q) (h2 : q ≤ 11) :
  Calls Tryz.prog 99 #[.agg #[.pointer (some ⟨g, 0, none⟩)], .int .i64 (q : Int), .func (.func 100) #[.agg #[.pointer (some ⟨g, 0, none⟩)] ] #[] ] w fun e w' => RL g s itl 112 6 w w' e (pc q pI (tb (bys s)) c) := by
 have hb := RB.new1 h
 have HS : Hid (s.size < 1125899906842624) := hs
 clear h hs
 obtain ⟨r, hr⟩ : ∃ r, pc q pI (tb (bys s)) c = r := ⟨_, rfl⟩
 have HR : Hid (pc q pI (tb (bys s)) c = r) := hr
 rw [hr]
 clear hr
 obtain ⟨i0, hi, hz0, hz1, hz2⟩ := info_of infoItem
 go_enter Tryz.func99, Tryz.ntmps99
 go_upto_region 1 with (fail)
 generalize w.alloc (.cells #[.pointer (some ⟨g, 0, none⟩)] 81) = w1 at *
 obtain ⟨C, hC⟩ : ∃ C, w.heap.size = C := ⟨_, rfl⟩
 have HC : Hid (w.heap.size = C) := hC
 rw [hC] at hb ⊢
 clear hC
 obtain ⟨OC, hOC⟩ : ∃ o, o = Obj.cells #[.pointer (some ⟨g, 0, none⟩)] 81 := ⟨_, rfl⟩
 have c0 : w1.cell? ⟨C, 0, none⟩ = some (.pointer (some ⟨g, 0, none⟩)) := cell_of_row w1 C 0 _ _ _ hb.hc
 rw [← hOC] at hb
 clear hOC
 have hp := number_any g s q c w1 hb.rr HS.out h1 (by omega)
 have HB : Hid (RB g s w w1 c C C OC) := hb
 clear hb
 cases hn : pn q (tb (bys s)) c with
 | none =>
  rw [hn] at hp
  have HN : Hid (r = none) := by unfold Hid; rw [← HR.out]; exact pc_no hn
  clear hn
  go_wp2_with fail
  refine hp.mono ?_
  rintro e w2 ⟨rfl, hk2⟩
  have HK : Hid (Kept (fun k => k = g) w w2) := HB.out.gone hk2
  clear hk2 hp
  go_wp2_with fail
  exact ⟨rfl, by rw [HN.out]; exact ⟨rfl, HK.out⟩⟩
 | some p =>
  obtain ⟨n, c1⟩ := p
  rw [hn] at hp
  dsimp only [Option.map] at hp
  have hn2 : n < 2048 := Nat.lt_of_lt_of_le (pn_lt hn) (by have := Nat.pow_le_pow_right (n := 2) (by decide) h2; simpa using this)
  have HPC : Hid (pl pI (tb (bys s)) c1 n = r) := by unfold Hid; rw [← HR.out, pc_yes hn]
  clear hn HR
  go_wp2_with fail
  refine hp.mono ?_
  rintro e w2 ⟨rfl, hr2, hk2⟩
  have HB2 : Hid (RB g s w w2 c1 C C OC) := HB.out.next hr2 hk2
  clear hr2 hk2 hp HB c0
  go_wp2_with fail
  go_loopw [7, 11] (fun li i wx => ∃ k : Nat, k ≤ n ∧ i = .int .i64 (k : Int) ∧ ∃ l ck, pl pI (tb (bys s)) c1 k = some (l, ck) ∧ RB g s w wx ck C C OC ∧ wx.ownsRow (C + 1) 112 6 li l.length (l.flatMap itl)) (fun _ i _ => n - (intOf i).toNat)
  case atStart => exact ⟨0, by omega, rfl, [], c1, rfl, HB2.out, World.ownsRow_nil _ _ _ _⟩
  case round =>
   obtain ⟨k, hk, rfl, l, ck, hpl, hbx, hrow⟩ := hrel
   clear HB2
   have hlen := pl_len hpl
   have HLN : Hid (l.length = k) := hlen
   have HPL : Hid (pl pI (tb (bys s)) c1 k = some (l, ck)) := hpl
   obtain ⟨a, cap, rfl⟩ := owns_slice hrow
   have HROW : Hid (wr.ownsRow (C + 1) 112 6 (.slice a l.length cap) l.length (l.flatMap itl)) := hrow
   have HBX : Hid (RB g s w wr ck C C OC) := hbx
   clear hpl hrow hlen
   by_cases hkn : k < n
   ·have hkn' : (k : Int) < (n : Int) := by omega
    have hp := item_any g s ck wr hbx.rr HS.out
    clear hbx
    cases hx : pI (tb (bys s)) ck with
    | none =>
     rw [hx] at hp
     have HN : Hid (r = none) := by unfold Hid; rw [← HPC.out]; exact pl_stop (pl_next_no HPL.out hx) (by omega)
     clear hx
     go_wp2_with fail
     refine hp.mono ?_
     rintro e w3 ⟨rfl, hk3⟩
     have HK : Hid (Kept (fun k => k = g) w w3) := HBX.out.gone hk3
     clear hk3 hp
     go_wp2_with fail
     exact ⟨rfl, by rw [HN.out]; exact ⟨rfl, HK.out⟩⟩
    | some y =>
     obtain ⟨p, c2⟩ := y
     rw [hx] at hp
     dsimp only [Option.map, stl, itl] at hp
     have HPN : Hid (pl pI (tb (bys s)) c1 (k + 1) = some (l ++ [p], c2)) := pl_next HPL.out hx
     clear hx
     go_wp2_with fail
     refine hp.mono ?_
     rintro e w3 ⟨rfl, hr3, hk3⟩
     have hb3 := HBX.out.next hr3 hk3
     have hle := hb3.le
     have hrow3 := hk3.row HROW.out (fun j hj hF => by have hj2 := (HROW.out.lt j hj).1; have hF' : j = g := hF; omega)
     have HB3 : Hid (RB g s w w3 c2 C C OC) := hb3
     have hsz3 : C + 1 ≤ w3.heap.size := row_lt hb3.hc
     have HNB : Hid (∀ k, (Value.slice a l.length cap).ownBlock = some k → C < k) := fun k hk => (HROW.out.lt k hk).1
     have hl : l.length ≤ 2048 := by rw [HLN.out]; omega
     clear hp hr3 hk3 hb3 HROW HBX hle
     go_wp2_with (at_builtin; (refine wpList_append_own _ rfl _ _ 29 rfl (C + 1) 112 i0 (.agg #[.int .i64 0, .int .i64 0, .int .i64 0, .int .i64 0, .int .i64 0, .int .i64 0]) 6 48 Tryz.underlying29 hi hz0 hz1 hz2 rfl (by decide) (.slice a l.length cap) l.length (l.flatMap itl) rfl (hrow3.alloc _) ⟨w3.heap.size, 0, none⟩ 1 1 [.int .i64 p.1.1, .int .i64 p.1.2, .int .i64 p.2.1.1, .int .i64 p.2.1.2, .int .i64 p.2.2.1, .int .i64 p.2.2.2] rfl rfl (cell_row_new _ _ _) (by simp [Value.oneCell']) (by unfold maxLen; omega) (by omega) (by simp; omega) ?_); intro v' w4 hown' hg4 _; have HOWN : Hid (w4.ownsRow (C + 1) 112 6 v' (l.length + 1) (l.flatMap itl ++ [.int .i64 p.1.1, .int .i64 p.1.2, .int .i64 p.2.1.1, .int .i64 p.2.1.2, .int .i64 p.2.2.1, .int .i64 p.2.2.2])) := hown'; have HG4 : Hid (RB g s w w4 c2 C C OC) := (HB3.out.later (below_alloc _ _)).grown hg4 HNB.out; clear hown' hg4)
     go_roundw
     case rel => exact ⟨k + 1, by omega, by go_num, l ++ [p], c2, HPN.out, HG4.out, by rw [flat_snoc', List.length_append]; exact HOWN.out⟩
     case measure => simp [intOf]; omega
   ·have hkn' : decide ((k : Int) < (n : Int)) = false := by simp; omega
    have HN : Hid (r = some (l, ck)) := by
     unfold Hid
     have e : k = n := by omega
     rw [← HPC.out, ← e]
     exact HPL.out
    clear hbx
    go_wp2_with fail
    go_ret
    rw [HN.out]
    exact ⟨_, rfl, HBX.out.rr, HBX.out.kp, owns_wide HROW.out (by rw [HC.out]; omega)⟩
end Go.Proofs.YtdkfifnhmfbagaaGreatDoor.Wi
