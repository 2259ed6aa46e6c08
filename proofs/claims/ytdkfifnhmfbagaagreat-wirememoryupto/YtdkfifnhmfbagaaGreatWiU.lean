/- Contracts: the reader's seat, request, box, item. -/
import Derived.Test.YtdkfifnhmfbagaaGreatWiJ8
import Derived.Deep.RegionHeld3
namespace Go.Proofs.YtdkfifnhmfbagaaGreat.Wi
open Go.RowKit Go.Maps
open Bt (Rr Kept tb bys tb_length bys_length)
open Rt (gd)
set_option linter.unusedVariables false
set_option linter.unusedSimpArgs false

set_option maxRecDepth 100000 in
theorem seat_any (g : Nat) (s : ByteArray) (c : Nat) (w : World) (h : Rr w g c s) (hs : s.size < 1125899906842624) :
    Calls Tryz.prog 98 #[.agg #[.pointer (some ⟨g, 0, none⟩)] ] w fun e w' => RO g s w w' e ((pS (tb (bys s)) c).map fun p => (.agg (stl p.1).toArray, p.2)) := by
  have hb := RB.new2 h (.cells #[.int .i64 0, .int .i64 0] 55)
  have HS : Hid (s.size < 1125899906842624) := hs
  clear h hs
  obtain ⟨r, hr⟩ : ∃ r, (pS (tb (bys s)) c).map (fun p => (Value.agg (stl p.1).toArray, p.2)) = r := ⟨_, rfl⟩
  have HR : Hid ((pS (tb (bys s)) c).map (fun p => (Value.agg (stl p.1).toArray, p.2)) = r) := hr
  rw [hr]
  clear hr
  go_enter Tryz.func98, Tryz.ntmps98
  go_upto_region 1 with (fail)
  generalize (w.alloc (.cells #[.pointer (some ⟨g, 0, none⟩)] 80)).alloc (.cells #[.int .i64 0, .int .i64 0] 55) = w1 at *
  obtain ⟨D, hD⟩ : ∃ D, w.heap.size + 1 = D := ⟨_, rfl⟩
  rw [hD] at hb ⊢
  obtain ⟨C, hC⟩ : ∃ C, w.heap.size = C := ⟨_, rfl⟩
  have HCD : Hid (D ≠ C) := by unfold Hid; omega
  rw [hC] at hb ⊢
  clear hD hC
  have c0 : w1.cell? ⟨C, 0, none⟩ = some (.pointer (some ⟨g, 0, none⟩)) := cell_of_row w1 C 0 _ _ _ hb.hc
  have hp := number_any g s 8 c w1 hb.rr HS.out (by omega) (by omega)
  have HB : Hid (RB g s w w1 c C D (.cells #[.int .i64 0, .int .i64 0] 55)) := hb
  clear hb
  cases hn : pn 8 (tb (bys s)) c with
  | none =>
    rw [hn] at hp
    have HN : Hid (r = none) := by unfold Hid; rw [← HR.out]; unfold pS; rw [pq_no (pi_no hn)]; rfl
    clear hn
    go_wp2_with fail
    refine hp.mono ?_
    rintro e w2 ⟨rfl, hk2⟩
    have HK : Hid (Kept (fun k => k = g) w w2) := HB.out.gone hk2
    clear hk2 hp
    go_wp2_with fail
    exact ⟨rfl, by rw [HN.out]; exact ⟨rfl, HK.out⟩⟩
  | some p =>
    obtain ⟨v, c1⟩ := p
    rw [hn] at hp
    dsimp only [Option.map] at hp
    have HN1 : Hid (pi 8 (tb (bys s)) c = some ((v : Int), c1)) := pi_yes hn
    clear hn
    go_wp2_with fail
    refine hp.mono ?_
    rintro e w2 ⟨rfl, hr2, hk2⟩
    have hb2 := HB.out.next hr2 hk2
    have HB2 : Hid (RB g s w w2 c1 C D (.cells #[.int .i64 0, .int .i64 0] 55)) := hb2
    clear hr2 hk2 hp HB c0
    have c0 : w2.cell? ⟨C, 0, none⟩ = some (.pointer (some ⟨g, 0, none⟩)) := cell_of_row w2 C 0 _ _ _ hb2.hc
    have hp := number_any g s 6 c1 w2 hb2.rr HS.out (by omega) (by omega)
    clear hb2
    cases hn : pn 6 (tb (bys s)) c1 with
    | none =>
      rw [hn] at hp
      have HN : Hid (r = none) := by unfold Hid; rw [← HR.out]; unfold pS; rw [pq_no2 HN1.out (pi_no hn)]; rfl
      clear hn
      go_wp2_with fail
      refine hp.mono ?_
      rintro e w3 ⟨rfl, hk3⟩
      have HK : Hid (Kept (fun k => k = g) w w3) := HB2.out.gone hk3
      clear hk3 hp
      go_wp2_with fail
      exact ⟨rfl, by rw [HN.out]; exact ⟨rfl, HK.out⟩⟩
    | some p =>
      obtain ⟨u, c2⟩ := p
      rw [hn] at hp
      dsimp only [Option.map] at hp
      have HN : Hid (r = some (.agg #[.int .i64 (v : Int), .int .i64 (u : Int)], c2)) := by unfold Hid; rw [← HR.out]; unfold pS; rw [pq_yes HN1.out (pi_yes hn)]; rfl
      clear hn
      go_wp2_with fail
      refine hp.mono ?_
      rintro e w3 ⟨rfl, hr3, hk3⟩
      have HB3 : Hid (RB g s w w3 c2 C D (.cells #[.int .i64 0, .int .i64 0] 55)) := HB2.out.next hr3 hk3
      clear hr3 hk3 hp HB2 c0
      go_wp2_with (refine stW szSeat HB3.out.hd rfl [.int .i64 (v : Int), .int .i64 (u : Int)] rfl rfl rfl _ _ rfl rfl rfl ?_)
      have hb5 := HB3.out.setRow #[.int .i64 (v : Int), .int .i64 (u : Int)] HCD.out
      refine bodyPost_ret (res1 (T := 55) (p := 2) rfl _ _ D #[.int .i64 (v : Int), .int .i64 (u : Int)] rfl (run_loadVar_row _ D _ 55 _ _ _ hb5.hd Tryz.underlying55 rfl szSeat)) rfl ?_
      rw [HN.out]
      exact ⟨rfl, hb5.rr, hb5.kp⟩
set_option maxRecDepth 100000 in
theorem request_any (g : Nat) (s : ByteArray) (c : Nat) (w : World) (h : Rr w g c s) (hs : s.size < 1125899906842624) :
    Calls Tryz.prog 77 #[.agg #[.pointer (some ⟨g, 0, none⟩)] ] w fun e w' => RO g s w w' e ((pQ (tb (bys s)) c).map fun p => (.agg (stl p.1).toArray, p.2)) := by
  have hb := RB.new2 h (.cells #[.int .i64 0, .int .i64 0] 27)
  have HS : Hid (s.size < 1125899906842624) := hs
  clear h hs
  obtain ⟨r, hr⟩ : ∃ r, (pQ (tb (bys s)) c).map (fun p => (Value.agg (stl p.1).toArray, p.2)) = r := ⟨_, rfl⟩
  have HR : Hid ((pQ (tb (bys s)) c).map (fun p => (Value.agg (stl p.1).toArray, p.2)) = r) := hr
  rw [hr]
  clear hr
  go_enter Tryz.func77, Tryz.ntmps77
  go_upto_region 1 with (fail)
  generalize (w.alloc (.cells #[.pointer (some ⟨g, 0, none⟩)] 80)).alloc (.cells #[.int .i64 0, .int .i64 0] 27) = w1 at *
  obtain ⟨D, hD⟩ : ∃ D, w.heap.size + 1 = D := ⟨_, rfl⟩
  rw [hD] at hb ⊢
  obtain ⟨C, hC⟩ : ∃ C, w.heap.size = C := ⟨_, rfl⟩
  have HCD : Hid (D ≠ C) := by unfold Hid; omega
  rw [hC] at hb ⊢
  clear hD hC
  have c0 : w1.cell? ⟨C, 0, none⟩ = some (.pointer (some ⟨g, 0, none⟩)) := cell_of_row w1 C 0 _ _ _ hb.hc
  have hp := number_any g s 8 c w1 hb.rr HS.out (by omega) (by omega)
  have HB : Hid (RB g s w w1 c C D (.cells #[.int .i64 0, .int .i64 0] 27)) := hb
  clear hb
  cases hn : pn 8 (tb (bys s)) c with
  | none =>
    rw [hn] at hp
    have HN : Hid (r = none) := by unfold Hid; rw [← HR.out]; unfold pQ; rw [pq_no (pi_no hn)]; rfl
    clear hn
    go_wp2_with fail
    refine hp.mono ?_
    rintro e w2 ⟨rfl, hk2⟩
    have HK : Hid (Kept (fun k => k = g) w w2) := HB.out.gone hk2
    clear hk2 hp
    go_wp2_with fail
    exact ⟨rfl, by rw [HN.out]; exact ⟨rfl, HK.out⟩⟩
  | some p =>
    obtain ⟨v, c1⟩ := p
    rw [hn] at hp
    dsimp only [Option.map] at hp
    have HN1 : Hid (pi 8 (tb (bys s)) c = some ((v : Int), c1)) := pi_yes hn
    clear hn
    go_wp2_with fail
    refine hp.mono ?_
    rintro e w2 ⟨rfl, hr2, hk2⟩
    have hb2 := HB.out.next hr2 hk2
    have HB2 : Hid (RB g s w w2 c1 C D (.cells #[.int .i64 0, .int .i64 0] 27)) := hb2
    clear hr2 hk2 hp HB c0
    have c0 : w2.cell? ⟨C, 0, none⟩ = some (.pointer (some ⟨g, 0, none⟩)) := cell_of_row w2 C 0 _ _ _ hb2.hc
    have hp := number_any g s 8 c1 w2 hb2.rr HS.out (by omega) (by omega)
    clear hb2
    cases hn : pn 8 (tb (bys s)) c1 with
    | none =>
      rw [hn] at hp
      have HN : Hid (r = none) := by unfold Hid; rw [← HR.out]; unfold pQ; rw [pq_no2 HN1.out (pi_no hn)]; rfl
      clear hn
      go_wp2_with fail
      refine hp.mono ?_
      rintro e w3 ⟨rfl, hk3⟩
      have HK : Hid (Kept (fun k => k = g) w w3) := HB2.out.gone hk3
      clear hk3 hp
      go_wp2_with fail
      exact ⟨rfl, by rw [HN.out]; exact ⟨rfl, HK.out⟩⟩
    | some p =>
      obtain ⟨u, c2⟩ := p
      rw [hn] at hp
      dsimp only [Option.map] at hp
      have HN : Hid (r = some (.agg #[.int .i64 (v : Int), .int .i64 (u : Int)], c2)) := by unfold Hid; rw [← HR.out]; unfold pQ; rw [pq_yes HN1.out (pi_yes hn)]; rfl
      clear hn
      go_wp2_with fail
      refine hp.mono ?_
      rintro e w3 ⟨rfl, hr3, hk3⟩
      have HB3 : Hid (RB g s w w3 c2 C D (.cells #[.int .i64 0, .int .i64 0] 27)) := HB2.out.next hr3 hk3
      clear hr3 hk3 hp HB2 c0
      go_wp2_with (refine stW szRq HB3.out.hd rfl [.int .i64 (v : Int), .int .i64 (u : Int)] rfl rfl rfl _ _ rfl rfl rfl ?_)
      have hb5 := HB3.out.setRow #[.int .i64 (v : Int), .int .i64 (u : Int)] HCD.out
      refine bodyPost_ret (res1 (T := 27) (p := 2) rfl _ _ D #[.int .i64 (v : Int), .int .i64 (u : Int)] rfl (run_loadVar_row _ D _ 27 _ _ _ hb5.hd Tryz.underlying27 rfl szRq)) rfl ?_
      rw [HN.out]
      exact ⟨rfl, hb5.rr, hb5.kp⟩
theorem if_wp {P : Program} {o : Oper} {a : Act} {w : World} {K : Act → World → Prop} {Q : Exit → Act → World → Prop} {c : Prop} [Decidable c] (hc : c) {X : Prop} (h : Oper.wp P o a w K Q) : if c then Oper.wp P o a w K Q else X := by rw [if_pos hc]; exact h
theorem wp_stRow0 {o : Oper} {a : Act} {w : World} {K : Act → World → Prop} {Q : Exit → Act → World → Prop} (ty : TypeId) (x y : Operand) (ho : o.op = .store ty x y) (g : Nat) (cells : List Value) (hx : a.eval x = .pointer (some ⟨g, 0, none⟩)) (hy : a.eval y = .agg cells.toArray)
    (old : Array Value) (hg : w.heap[g]? = some (.cells old ty (0, 0))) (hi : (Tryz.prog.info? ty).map (·.size) = some cells.length) (hold : old.size = cells.length) (h1 : cells.all (·.oneCell') = true) (hd : o.dst = none) (h : K a (w.setRow g cells.toArray)) : o.wp Tryz.prog a w K Q := by
  refine wp_store_row ty x y ho g cells.toArray hx hy ty old hg (by simpa using hi) (by simpa using hold) (by simpa using h1) ?_
  rw [hd]
  exact h
set_option maxRecDepth 100000 in
set_option maxHeartbeats 1000000 in
theorem box_any (g : Nat) (s : ByteArray) (c : Nat) (w : World) (h : Rr w g c s) (hs : s.size < 1125899906842624) :
    Calls Tryz.prog 101 #[.agg #[.pointer (some ⟨g, 0, none⟩)] ] w fun e w' => RO g s w w' e ((pB (tb (bys s)) c).map fun p => (.agg (bxl p.1).toArray, p.2)) := by
  have hb := RB.new2 h (.cells #[.int .i64 0, .int .i64 0, .int .i64 0, .int .i64 0] 31)
  have HS : Hid (s.size < 1125899906842624) := hs
  clear h hs
  obtain ⟨r, hr⟩ : ∃ r, (pB (tb (bys s)) c).map (fun p => (Value.agg (bxl p.1).toArray, p.2)) = r := ⟨_, rfl⟩
  have HR : Hid ((pB (tb (bys s)) c).map (fun p => (Value.agg (bxl p.1).toArray, p.2)) = r) := hr
  rw [hr]
  clear hr
  go_enter Tryz.func101, Tryz.ntmps101
  go_upto_region 1 with (fail)
  generalize (w.alloc (.cells #[.pointer (some ⟨g, 0, none⟩)] 80)).alloc (.cells #[.int .i64 0, .int .i64 0, .int .i64 0, .int .i64 0] 31) = w1 at *
  obtain ⟨D, hD⟩ : ∃ D, w.heap.size + 1 = D := ⟨_, rfl⟩
  rw [hD] at hb ⊢
  obtain ⟨C, hC⟩ : ∃ C, w.heap.size = C := ⟨_, rfl⟩
  have HCD : Hid (D ≠ C) := by unfold Hid; omega
  rw [hC] at hb ⊢
  clear hD hC
  have c0 : w1.cell? ⟨C, 0, none⟩ = some (.pointer (some ⟨g, 0, none⟩)) := cell_of_row w1 C 0 _ _ _ hb.hc
  have hp := key_any g s c w1 hb.rr HS.out
  have HB : Hid (RB g s w w1 c C D (.cells #[.int .i64 0, .int .i64 0, .int .i64 0, .int .i64 0] 31)) := hb
  clear hb
  cases hn : pK (tb (bys s)) c with
  | none =>
    rw [hn] at hp
    have HN : Hid (r = none) := by unfold Hid; rw [← HR.out]; unfold pB; rw [pq_no hn]; rfl
    clear hn
    go_wp2_with fail
    refine hp.mono ?_
    rintro e w2 ⟨rfl, hk2⟩
    have HK : Hid (Kept (fun k => k = g) w w2) := HB.out.gone hk2
    clear hk2 hp
    go_wp2_with fail
    exact ⟨rfl, by rw [HN.out]; exact ⟨rfl, HK.out⟩⟩
  | some p =>
    obtain ⟨⟨kb, ks⟩, c1⟩ := p
    rw [hn] at hp
    dsimp only [Option.map, stl] at hp
    have HN1 : Hid (pK (tb (bys s)) c = some ((kb, ks), c1)) := hn
    clear hn
    go_wp2_with fail
    refine hp.mono ?_
    rintro e w2 ⟨rfl, hr2, hk2⟩
    have hb2 := HB.out.next hr2 hk2
    clear hr2 hk2 hp HB c0
    go_upto_region 2 with (fail)
    have hb3 := hb2.later (below_alloc w2 (.cells #[.int .i64 kb, .int .i64 ks] 29))
    have hE := heap_alloc_last w2 (.cells #[.int .i64 kb, .int .i64 ks] 29)
    have HEl : Hid (w.heap.size ≤ w2.heap.size) := hb2.kp.size
    generalize w2.alloc (.cells #[.int .i64 kb, .int .i64 ks] 29) = w3 at *
    generalize w2.heap.size = E at *
    have hb4 := hb3.later (drew_below w3)
    have hE4 : w3.drew.heap[E]? = some (.cells #[.int .i64 kb, .int .i64 ks] 29) := hE
    have HEg : Hid (E ≠ g) := by have := hb4.le; have := HEl.out; unfold Hid; omega
    have hp := key_any g s c1 w3.drew hb4.rr HS.out
    have HB4 : Hid (RB g s w w3.drew c1 C D (.cells #[.int .i64 0, .int .i64 0, .int .i64 0, .int .i64 0] 31)) := hb4
    have c0 : w3.cell? ⟨C, 0, none⟩ = some (.pointer (some ⟨g, 0, none⟩)) := cell_of_row w3 C 0 _ _ _ hb3.hc
    have k0 : w3.cell? ⟨E, 0, none⟩ = some (.int .i64 kb) := cell_of_row w3 E 0 _ _ _ hE
    have k1 : w3.cell? ⟨E, 1, none⟩ = some (.int .i64 ks) := cell_of_row w3 E 1 _ _ _ hE
    clear hb2 hb3 hb4 hE
    cases hn : pK (tb (bys s)) c1 with
    | none =>
      rw [hn] at hp
      have HN : Hid (r = none) := by unfold Hid; rw [← HR.out]; unfold pB; rw [pq_no2 HN1.out hn]; rfl
      clear hn
      refine wp_region_held_drew (S := fun W => W.cell? ⟨C, 0, none⟩ = some (.pointer (some ⟨g, 0, none⟩)) ∧ W.cell? ⟨E, 0, none⟩ = some (.int .i64 kb) ∧ W.cell? ⟨E, 1, none⟩ = some (.int .i64 ks)) (by kernel_rfl) ⟨c0, k0, k1⟩ (fun hHeld => ?_)
      refine wpAnyH_take (i := 0) (oi := { dst := some 6, op := Op.load 29 (Operand.tmp 3), type := _, pos := _, after := _, guard := none }) (v := .agg #[.int .i64 kb, .int .i64 ks]) rfl (by kernel_rfl) (by kernel_rfl) (by kernel_rfl) (fun _ _ _ h => h) (Or.inl ⟨by rfl, fun w hSw => by (try dsimp only at hSw); go_simp⟩) (by assumption) ?_
      simp only [Act.put, List.setIfInBounds_toArray, List.set_cons_zero, List.set_cons_succ]
      refine wpAnyH_take (i := 1) (oi := { dst := some 7, op := Op.load 80 (Operand.tmp 1), type := _, pos := _, after := _, guard := none }) (v := .agg #[.pointer (some ⟨g, 0, none⟩)]) rfl (by kernel_rfl) (by kernel_rfl) (by kernel_rfl) (fun _ _ _ h => h) (Or.inl ⟨by rfl, fun w hSw => by (try dsimp only at hSw); go_simp⟩) (by assumption) ?_
      simp only [Act.put, List.setIfInBounds_toArray, List.set_cons_zero, List.set_cons_succ]
      refine wpAnyH_ready (rs := [2]) (by kernel_rfl) (by simp) ?_
      refine AllReadyH.cons rfl (fun K hK => ?_) AllReadyH.nil
      go_simp
      refine hp.mono ?_
      rintro e w4 ⟨rfl, hk4⟩
      have HK : Hid (Kept (fun k => k = g) w w4) := HB4.out.gone hk4
      clear hk4 hp
      go_wp2_with fail
      exact ⟨rfl, by rw [HN.out]; exact ⟨rfl, HK.out⟩⟩
    | some p =>
      obtain ⟨⟨lb, ls⟩, c2⟩ := p
      rw [hn] at hp
      dsimp only [Option.map, stl] at hp
      have HN : Hid (r = some (.agg #[.int .i64 kb, .int .i64 ks, .int .i64 lb, .int .i64 ls], c2)) := by unfold Hid; rw [← HR.out]; unfold pB; rw [pq_yes HN1.out hn]; rfl
      clear hn
      refine wp_region_held_drew (S := fun W => W.cell? ⟨C, 0, none⟩ = some (.pointer (some ⟨g, 0, none⟩)) ∧ W.cell? ⟨E, 0, none⟩ = some (.int .i64 kb) ∧ W.cell? ⟨E, 1, none⟩ = some (.int .i64 ks)) (by kernel_rfl) ⟨c0, k0, k1⟩ (fun hHeld => ?_)
      refine wpAnyH_take (i := 0) (oi := { dst := some 6, op := Op.load 29 (Operand.tmp 3), type := _, pos := _, after := _, guard := none }) (v := .agg #[.int .i64 kb, .int .i64 ks]) rfl (by kernel_rfl) (by kernel_rfl) (by kernel_rfl) (fun _ _ _ h => h) (Or.inl ⟨by rfl, fun w hSw => by (try dsimp only at hSw); go_simp⟩) (by assumption) ?_
      simp only [Act.put, List.setIfInBounds_toArray, List.set_cons_zero, List.set_cons_succ]
      refine wpAnyH_take (i := 1) (oi := { dst := some 7, op := Op.load 80 (Operand.tmp 1), type := _, pos := _, after := _, guard := none }) (v := .agg #[.pointer (some ⟨g, 0, none⟩)]) rfl (by kernel_rfl) (by kernel_rfl) (by kernel_rfl) (fun _ _ _ h => h) (Or.inl ⟨by rfl, fun w hSw => by (try dsimp only at hSw); go_simp⟩) (by assumption) ?_
      simp only [Act.put, List.setIfInBounds_toArray, List.set_cons_zero, List.set_cons_succ]
      refine wpAnyH_ready (rs := [2]) (by kernel_rfl) (by simp) ?_
      refine AllReadyH.cons rfl (fun K hK => ?_) AllReadyH.nil
      go_simp
      refine hp.mono ?_
      rintro e w4 ⟨rfl, hr4, hk4⟩
      have hb5 := HB4.out.next hr4 hk4
      have hE5 := row_kept hE4 hk4 HEg.out
      have HB5 : Hid (RB g s w w4 c2 C D (.cells #[.int .i64 0, .int .i64 0, .int .i64 0, .int .i64 0] 31)) := hb5
      have HE5 : Hid (w4.heap[E]? = some (.cells #[.int .i64 kb, .int .i64 ks] 29)) := hE5
      have hS5 : w4.cell? ⟨C, 0, none⟩ = some (.pointer (some ⟨g, 0, none⟩)) ∧ w4.cell? ⟨E, 0, none⟩ = some (.int .i64 kb) ∧ w4.cell? ⟨E, 1, none⟩ = some (.int .i64 ks) := ⟨cell_of_row w4 C 0 _ _ _ hb5.hc, cell_of_row w4 E 0 _ _ _ hE5, cell_of_row w4 E 1 _ _ _ hE5⟩
      clear hp hr4 hk4 hb5 hE5
      go_wp2_with fail
      refine hK.out _ _ hS5 (fun hHeld2 => ?_)
      clear hHeld hS5
      clear hK K
      try simp only [Act.put, List.setIfInBounds_toArray, List.set_cons_zero, List.set_cons_succ]
      refine wpAnyH_take (i := 3) (oi := { dst := some 9, op := Op.build 31 #[(0, (Operand.tmp 6)), (1, (Operand.tmp 8))], type := _, pos := _, after := _, guard := none }) (v := .agg #[.int .i64 kb, .int .i64 ks, .int .i64 lb, .int .i64 ls]) rfl (by kernel_rfl) (by kernel_rfl) (by kernel_rfl) (fun _ _ _ h => h) (Or.inl ⟨by rfl, fun w hSw => by (try dsimp only at hSw); go_simp⟩) (by assumption) ?_
      simp only [Act.put, List.setIfInBounds_toArray, List.set_cons_zero, List.set_cons_succ]
      refine wpAnyH_ready (rs := [4]) (by kernel_rfl) (by simp) ?_
      refine AllReadyH.cons rfl (fun Kc hK => ?_) AllReadyH.nil
      have hED : E ≠ D := row_ne HE5.out HB5.out.hd (by decide)
      have hb6 := HB5.out.setRow #[.int .i64 kb, .int .i64 ks, .int .i64 lb, .int .i64 ls] HCD.out
      have hE6 := (setRow_other hED #[.int .i64 kb, .int .i64 ks, .int .i64 lb, .int .i64 ls]).trans HE5.out
      have HB6 : Hid (RB g s w (w4.setRow D #[.int .i64 kb, .int .i64 ks, .int .i64 lb, .int .i64 ls]) c2 C D (.cells #[.int .i64 kb, .int .i64 ks, .int .i64 lb, .int .i64 ls] 31)) := hb6
      refine if_wp rfl (wp_stRow0 31 _ _ rfl D [.int .i64 kb, .int .i64 ks, .int .i64 lb, .int .i64 ls] rfl rfl _ HB5.out.hd szBox rfl rfl rfl ?_)
      refine hK.out _ _ ⟨cell_of_row _ C 0 _ _ _ hb6.hc, cell_of_row _ E 0 _ _ _ hE6, cell_of_row _ E 1 _ _ _ hE6⟩ (fun hHeld3 => ?_)
      clear hHeld2 hED hb6 hE6
      clear hK Kc
      try simp only [Act.put, List.setIfInBounds_toArray, List.set_cons_zero, List.set_cons_succ]
      refine wpAnyH_done (by kernel_rfl) ?_ _
      go_wp2_with fail
      refine bodyPost_ret (res1 (T := 31) (p := 2) rfl _ _ D #[.int .i64 kb, .int .i64 ks, .int .i64 lb, .int .i64 ls] rfl (run_loadVar_row _ D _ 31 _ _ _ HB6.out.hd Tryz.underlying31 rfl szBox)) rfl ?_
      rw [HN.out]
      exact ⟨rfl, HB6.out.rr, HB6.out.kp⟩
set_option maxRecDepth 100000 in
set_option maxHeartbeats 1000000 in
theorem item_any (g : Nat) (s : ByteArray) (c : Nat) (w : World) (h : Rr w g c s) (hs : s.size < 1125899906842624) :
    Calls Tryz.prog 100 #[.agg #[.pointer (some ⟨g, 0, none⟩)] ] w fun e w' => RO g s w w' e ((pI (tb (bys s)) c).map fun p => (.agg (itl p.1).toArray, p.2)) := by
  have hb := RB.new2 h (.cells #[.int .i64 0, .int .i64 0, .int .i64 0, .int .i64 0, .int .i64 0, .int .i64 0] 53)
  have HS : Hid (s.size < 1125899906842624) := hs
  clear h hs
  obtain ⟨r, hr⟩ : ∃ r, (pI (tb (bys s)) c).map (fun p => (Value.agg (itl p.1).toArray, p.2)) = r := ⟨_, rfl⟩
  have HR : Hid ((pI (tb (bys s)) c).map (fun p => (Value.agg (itl p.1).toArray, p.2)) = r) := hr
  rw [hr]
  clear hr
  go_enter Tryz.func100, Tryz.ntmps100
  go_upto_region 1 with (fail)
  generalize (w.alloc (.cells #[.pointer (some ⟨g, 0, none⟩)] 80)).alloc (.cells #[.int .i64 0, .int .i64 0, .int .i64 0, .int .i64 0, .int .i64 0, .int .i64 0] 53) = w1 at *
  obtain ⟨D, hD⟩ : ∃ D, w.heap.size + 1 = D := ⟨_, rfl⟩
  rw [hD] at hb ⊢
  obtain ⟨C, hC⟩ : ∃ C, w.heap.size = C := ⟨_, rfl⟩
  have HCD : Hid (D ≠ C) := by unfold Hid; omega
  rw [hC] at hb ⊢
  clear hD hC
  have c0 : w1.cell? ⟨C, 0, none⟩ = some (.pointer (some ⟨g, 0, none⟩)) := cell_of_row w1 C 0 _ _ _ hb.hc
  have hp := number_any g s 5 c w1 hb.rr HS.out (by omega) (by omega)
  have HB : Hid (RB g s w w1 c C D (.cells #[.int .i64 0, .int .i64 0, .int .i64 0, .int .i64 0, .int .i64 0, .int .i64 0] 53)) := hb
  clear hb
  cases hn : pn 5 (tb (bys s)) c with
  | none =>
    rw [hn] at hp
    have HN : Hid (r = none) := by unfold Hid; rw [← HR.out]; unfold pI; rw [pq_no (pq_no (pi_no hn))]; rfl
    clear hn
    go_wp2_with fail
    refine hp.mono ?_
    rintro e w2 ⟨rfl, hk2⟩
    have HK : Hid (Kept (fun k => k = g) w w2) := HB.out.gone hk2
    clear hk2 hp
    go_wp2_with fail
    exact ⟨rfl, by rw [HN.out]; exact ⟨rfl, HK.out⟩⟩
  | some p =>
    obtain ⟨v, c1⟩ := p
    rw [hn] at hp
    dsimp only [Option.map] at hp
    have HN1 : Hid (pi 5 (tb (bys s)) c = some ((v : Int), c1)) := pi_yes hn
    clear hn
    go_wp2_with fail
    refine hp.mono ?_
    rintro e w2 ⟨rfl, hr2, hk2⟩
    have hb2 := HB.out.next hr2 hk2
    have HB2 : Hid (RB g s w w2 c1 C D (.cells #[.int .i64 0, .int .i64 0, .int .i64 0, .int .i64 0, .int .i64 0, .int .i64 0] 53)) := hb2
    clear hr2 hk2 hp HB c0
    have c0 : w2.cell? ⟨C, 0, none⟩ = some (.pointer (some ⟨g, 0, none⟩)) := cell_of_row w2 C 0 _ _ _ hb2.hc
    have hp := number_any g s 7 c1 w2 hb2.rr HS.out (by omega) (by omega)
    clear hb2
    cases hn : pn 7 (tb (bys s)) c1 with
    | none =>
      rw [hn] at hp
      have HN : Hid (r = none) := by unfold Hid; rw [← HR.out]; unfold pI; rw [pq_no (pq_no2 HN1.out (pi_no hn))]; rfl
      clear hn
      go_wp2_with fail
      refine hp.mono ?_
      rintro e w3 ⟨rfl, hk3⟩
      have HK : Hid (Kept (fun k => k = g) w w3) := HB2.out.gone hk3
      clear hk3 hp
      go_wp2_with fail
      exact ⟨rfl, by rw [HN.out]; exact ⟨rfl, HK.out⟩⟩
    | some p =>
      obtain ⟨u, c2⟩ := p
      rw [hn] at hp
      dsimp only [Option.map] at hp
      have HN2 : Hid (pq (pi 5) (pi 7) (tb (bys s)) c = some (((v : Int), (u : Int)), c2)) := pq_yes HN1.out (pi_yes hn)
      clear hn
      go_wp2_with fail
      refine hp.mono ?_
      rintro e w3 ⟨rfl, hr3, hk3⟩
      have hb3 := HB2.out.next hr3 hk3
      have HB3 : Hid (RB g s w w3 c2 C D (.cells #[.int .i64 0, .int .i64 0, .int .i64 0, .int .i64 0, .int .i64 0, .int .i64 0] 53)) := hb3
      clear hr3 hk3 hp HB2 c0
      have c0 : w3.cell? ⟨C, 0, none⟩ = some (.pointer (some ⟨g, 0, none⟩)) := cell_of_row w3 C 0 _ _ _ hb3.hc
      have hp := box_any g s c2 w3 hb3.rr HS.out
      clear hb3
      cases hn : pB (tb (bys s)) c2 with
      | none =>
        rw [hn] at hp
        have HN : Hid (r = none) := by unfold Hid; rw [← HR.out]; unfold pI; rw [pq_no2 HN2.out hn]; rfl
        clear hn
        go_wp2_with fail
        refine hp.mono ?_
        rintro e w4 ⟨rfl, hk4⟩
        have HK : Hid (Kept (fun k => k = g) w w4) := HB3.out.gone hk4
        clear hk4 hp
        go_wp2_with fail
        exact ⟨rfl, by rw [HN.out]; exact ⟨rfl, HK.out⟩⟩
      | some p =>
        obtain ⟨⟨⟨kb, ks⟩, lb, ls⟩, c3⟩ := p
        rw [hn] at hp
        dsimp only [Option.map, bxl] at hp
        have HN : Hid (r = some (.agg #[.int .i64 (v : Int), .int .i64 (u : Int), .int .i64 kb, .int .i64 ks, .int .i64 lb, .int .i64 ls], c3)) := by unfold Hid; rw [← HR.out]; unfold pI; rw [pq_yes HN2.out hn]; rfl
        clear hn
        go_wp2_with fail
        refine hp.mono ?_
        rintro e w4 ⟨rfl, hr4, hk4⟩
        have HB4 : Hid (RB g s w w4 c3 C D (.cells #[.int .i64 0, .int .i64 0, .int .i64 0, .int .i64 0, .int .i64 0, .int .i64 0] 53)) := HB3.out.next hr4 hk4
        clear hr4 hk4 hp HB3 c0
        go_wp2_with (refine stW szItem HB4.out.hd rfl [.int .i64 (v : Int), .int .i64 (u : Int), .int .i64 kb, .int .i64 ks, .int .i64 lb, .int .i64 ls] rfl rfl rfl _ _ rfl rfl rfl ?_)
        have hb5 := HB4.out.setRow #[.int .i64 (v : Int), .int .i64 (u : Int), .int .i64 kb, .int .i64 ks, .int .i64 lb, .int .i64 ls] HCD.out
        refine bodyPost_ret (res1 (T := 53) (p := 2) rfl _ _ D #[.int .i64 (v : Int), .int .i64 (u : Int), .int .i64 kb, .int .i64 ks, .int .i64 lb, .int .i64 ls] rfl (run_loadVar_row _ D _ 53 _ _ _ hb5.hd Tryz.underlying53 rfl szItem)) rfl ?_
        rw [HN.out]
        exact ⟨rfl, hb5.rr, hb5.kp⟩
end Go.Proofs.YtdkfifnhmfbagaaGreat.Wi
