/- Contracts: the writer's reply, sealed; Encode. -/
import Derived.Test.YtdkfifnhmfbagaaGreatWiY
import Derived.Test.YtdkfifnhmfbagaaGreatWiG
namespace Go.Proofs.YtdkfifnhmfbagaaGreat.Wi
open Go.RowKit Go.Maps
open Bt (Wr Fw Kept bo bo_length tb tb_length bys bys_length tx pk)
open Rt (gd)
set_option linter.unusedVariables false
set_option linter.unusedSimpArgs false

/- A box out of a path that is held as a value. -/
theorem ix_run (x y z : (Int × Int) × (Int × Int)) (w : World) : (Instr.index 32 (.agg #[.int .i64 x.1.1, .int .i64 x.1.2, .int .i64 x.2.1, .int .i64 x.2.2, .int .i64 y.1.1, .int .i64 y.1.2, .int .i64 y.2.1, .int .i64 y.2.2, .int .i64 z.1.1, .int .i64 z.1.2, .int .i64 z.2.1, .int .i64 z.2.2]) (.int .i64 0)).run Tryz.prog w = .ok (.agg #[.int .i64 x.1.1, .int .i64 x.1.2, .int .i64 x.2.1, .int .i64 x.2.2]) w ∧
    (Instr.index 32 (.agg #[.int .i64 x.1.1, .int .i64 x.1.2, .int .i64 x.2.1, .int .i64 x.2.2, .int .i64 y.1.1, .int .i64 y.1.2, .int .i64 y.2.1, .int .i64 y.2.2, .int .i64 z.1.1, .int .i64 z.1.2, .int .i64 z.2.1, .int .i64 z.2.2]) (.int .i64 1)).run Tryz.prog w = .ok (.agg #[.int .i64 y.1.1, .int .i64 y.1.2, .int .i64 y.2.1, .int .i64 y.2.2]) w ∧
    (Instr.index 32 (.agg #[.int .i64 x.1.1, .int .i64 x.1.2, .int .i64 x.2.1, .int .i64 x.2.2, .int .i64 y.1.1, .int .i64 y.1.2, .int .i64 y.2.1, .int .i64 y.2.2, .int .i64 z.1.1, .int .i64 z.1.2, .int .i64 z.2.1, .int .i64 z.2.2]) (.int .i64 2)).run Tryz.prog w = .ok (.agg #[.int .i64 z.1.1, .int .i64 z.1.2, .int .i64 z.2.1, .int .i64 z.2.2]) w := by
  refine ⟨?_, ?_, ?_⟩ <;> simp [Instr.index, asIntOf, part, go_sem]
set_option maxRecDepth 100000 in
set_option maxHeartbeats 1000000 in
theorem wReply_any (n0 g : Nat) (p : (Int × Int) × (Int × (((Int × Int) × (Int × Int)) × (((Int × Int) × (Int × Int)) × ((Int × Int) × (Int × Int)))))) (l : List Bool) (x : Value) (w : World) (hk : okP p) (hB : n0 ≤ w.heap.size) (hw : Wr n0 w g l x) (hl : l.length ≤ 1024) :
    Calls Tryz.prog 32 #[.agg #[.pointer (some ⟨g, 0, none⟩)], .agg (rpl p).toArray] w fun e w' => e = .returned (.tuple #[]) ∧ WP n0 g w x (l ++ eP p) w' := by
  obtain ⟨⟨a, b⟩, c, p0, p1, p2⟩ := p
  obtain ⟨h1, h2, h3, h4, h5⟩ := hk
  obtain ⟨u, rfl, eu, hu⟩ := fit_nat h2
  have e0 : (rpl ((a, b), (u : Int), p0, p1, p2)).toArray = (rpq a b (u : Int) p0 p1 p2).toArray := rfl
  rw [e0]
  dsimp only at *
  have HE : Hid (l ++ eP ((a, b), (u : Int), p0, p1, p2) = l ++ eS (a, b) ++ bo u 8 ++ eB p0 ++ eB p1 ++ eB p2) := by unfold Hid eP; dsimp only; rw [eu]; simp
  rw [HE.out]
  have n1 : (eS (a, b)).length = 14 := by simp [eS]
  have n2 : ∀ p, (eB p).length = 48 := fun p => by simp [eB, eK]
  have l1 : (l ++ eS (a, b)).length ≤ 2048 := by rw [List.length_append, n1]; omega
  have l2 : (l ++ eS (a, b) ++ bo u 8).length ≤ 2060 := by rw [List.length_append, bo_length]; omega
  have l3 : (l ++ eS (a, b) ++ bo u 8 ++ eB p0).length ≤ 2110 := by rw [List.length_append, n2]; omega
  have l4 : (l ++ eS (a, b) ++ bo u 8 ++ eB p0 ++ eB p1).length ≤ 2160 := by rw [List.length_append, n2]; omega
  have HL : Hid ((l ++ eS (a, b)).length ≤ 2048 ∧ (l ++ eS (a, b) ++ bo u 8).length ≤ 2060 ∧ (l ++ eS (a, b) ++ bo u 8 ++ eB p0).length ≤ 2110 ∧ (l ++ eS (a, b) ++ bo u 8 ++ eB p0 ++ eB p1).length ≤ 2160) := ⟨l1, l2, l3, l4⟩
  have HK : Hid (oS (a, b) ∧ gB p0 = true ∧ gB p1 = true ∧ gB p2 = true) := ⟨h1, gB_iff.2 h3, gB_iff.2 h4, gB_iff.2 h5⟩
  have hb := WB.new2 hw hB (.cells #[.pointer (some ⟨g, 0, none⟩)] 64) (.cells (rpq a b (u : Int) p0 p1 p2).toArray 34)
  clear HE h1 h2 h3 h4 h5 hw hB eu l1 l2 l3 l4 n1 n2 e0
  obtain ⟨OC, hOC⟩ : ∃ o, o = Obj.cells #[.pointer (some ⟨g, 0, none⟩)] 64 := ⟨_, rfl⟩
  obtain ⟨OD, hOD⟩ : ∃ o, o = Obj.cells (rpq a b (u : Int) p0 p1 p2).toArray 34 := ⟨_, rfl⟩
  have HOC : Hid (OC = Obj.cells #[.pointer (some ⟨g, 0, none⟩)] 64) := hOC
  have HOD : Hid (OD = Obj.cells (rpq a b (u : Int) p0 p1 p2).toArray 34) := hOD
  clear hOC hOD
  have HD : Hid (∀ (W : World) (D : Nat), W.heap[D]? = some OD → W.cell? ⟨D, 0, none⟩ = some (.int .i64 a) ∧ W.cell? ⟨D, 1, none⟩ = some (.int .i64 b) ∧ W.cell? ⟨D, 2, none⟩ = some (.int .i64 (u : Int)) ∧ W.rangeAt D 3 (pal p0 p1 p2)) := by
    intro W D h
    rw [HOD.out] at h
    exact ⟨(cell_of_row W D 0 _ _ _ h).trans rfl, (cell_of_row W D 1 _ _ _ h).trans rfl, (cell_of_row W D 2 _ _ _ h).trans rfl, ra_of h 3 _ rfl⟩
  rw [← HOC.out, ← HOD.out] at hb
  obtain ⟨cs, hcs⟩ : ∃ cs, (rpq a b (u : Int) p0 p1 p2).toArray = cs := ⟨_, rfl⟩
  rw [hcs] at HOD
  rw [hcs]
  clear hcs
  rw [HOC.out, HOD.out] at hb
  go_enter Tryz.func32, Tryz.ntmps32
  go_upto_region 1 with (fail)
  rw [← HOC.out, ← HOD.out] at hb
  rw [← HOC.out, ← HOD.out]
  generalize (w.alloc OC).alloc OD = w1 at *
  obtain ⟨D, hD⟩ : ∃ D, w.heap.size + 1 = D := ⟨_, rfl⟩
  rw [hD] at hb ⊢
  obtain ⟨C, hC⟩ : ∃ C, w.heap.size = C := ⟨_, rfl⟩
  rw [hC] at hb ⊢
  clear hD hC
  obtain ⟨d0, d1, d2, d3⟩ := HD.out _ _ hb.hd
  have c0 := c1' (HOC.out ▸ hb.hc)
  have hp := wSeat_any n0 g (a, b) l x w1 HK.out.1 hb.sz hb.wr (by omega)
  have HB : Hid (WB n0 g w w1 x x l C D OC OD) := hb
  clear hb
  dsimp only at hp
  go_wp2_with fail
  refine hp.mono ?_
  rintro e w2 ⟨rfl, hp2⟩
  obtain ⟨x2, hb2⟩ := HB.out.next hp2
  clear hp hp2 HB c0 d0 d1 d2 d3
  obtain ⟨d0, d1, d2, d3⟩ := HD.out _ _ hb2.hd
  have c0 := c1' (HOC.out ▸ hb2.hc)
  have hp := wNumber_any n0 g u 8 (l ++ eS (a, b)) x2 w2 (by omega) (by omega) hu hb2.sz hb2.wr (by have := HL.out; omega)
  have HB : Hid (WB n0 g w w2 x x2 (l ++ eS (a, b)) C D OC OD) := hb2
  clear hb2
  go_wp2_with fail
  refine hp.mono ?_
  rintro e w3 ⟨rfl, hp3⟩
  obtain ⟨x3, hb3⟩ := HB.out.next hp3
  clear hp hp3 HB c0 d0 d1 d2 d3
  obtain ⟨d0, d1, d2, d3⟩ := HD.out _ _ hb3.hd
  unfold pal at d3
  have HB : Hid (WB n0 g w w3 x x3 (l ++ eS (a, b) ++ bo u 8) C D OC OD) := hb3
  clear hb3
  go_wp2_with (refine ldM d3 Tryz.underlying32 rfl szPa _ rfl rfl rfl ?_)
  have hba := fun o => HB.out.alloc o
  have ca : ∀ o, (w3.alloc o).cell? ⟨C, 0, none⟩ = some (.pointer (some ⟨g, 0, none⟩)) := fun o => c1' (HOC.out ▸ (hba o).hc)
  have hp := fun o => wBox_any n0 g p0 (l ++ eS (a, b) ++ bo u 8) x3 (w3.alloc o) HK.out.2.1 (hba o).sz (hba o).wr (by have := HL.out; omega)
  clear d0 d1 d2 d3 hba
  have x0 := fun W => (ix_run p0 p1 p2 W).1
  have x1 := fun W => (ix_run p0 p1 p2 W).2.1
  have xx2 := fun W => (ix_run p0 p1 p2 W).2.2
  refine wp_loop_rounds 4 ?_
  rw [rounds_succ]; go_wp2_with fail
  refine (hp _).mono ?_
  rintro e w4 ⟨rfl, hp4⟩
  obtain ⟨x4, hb4⟩ := (HB.out.alloc _).next hp4
  have HB4 : Hid (WB n0 g w w4 x x4 (l ++ eS (a, b) ++ bo u 8 ++ eB p0) C D OC OD) := hb4
  clear hp hp4 HB ca hb4
  have ca : ∀ o, (w4.alloc o).cell? ⟨C, 0, none⟩ = some (.pointer (some ⟨g, 0, none⟩)) := fun o => c1' (HOC.out ▸ (HB4.out.alloc o).hc)
  have hp := fun o => wBox_any n0 g p1 (l ++ eS (a, b) ++ bo u 8 ++ eB p0) x4 (w4.alloc o) HK.out.2.2.1 (HB4.out.alloc o).sz (HB4.out.alloc o).wr (by have := HL.out; omega)
  go_wp2_with fail
  rw [rounds_succ]; go_wp2_with fail
  refine (hp _).mono ?_
  rintro e w5 ⟨rfl, hp5⟩
  obtain ⟨x5, hb5⟩ := (HB4.out.alloc _).next hp5
  have HB5 : Hid (WB n0 g w w5 x x5 (l ++ eS (a, b) ++ bo u 8 ++ eB p0 ++ eB p1) C D OC OD) := hb5
  clear hp hp5 HB4 ca hb5
  have ca : ∀ o, (w5.alloc o).cell? ⟨C, 0, none⟩ = some (.pointer (some ⟨g, 0, none⟩)) := fun o => c1' (HOC.out ▸ (HB5.out.alloc o).hc)
  have hp := fun o => wBox_any n0 g p2 (l ++ eS (a, b) ++ bo u 8 ++ eB p0 ++ eB p1) x5 (w5.alloc o) HK.out.2.2.2 (HB5.out.alloc o).sz (HB5.out.alloc o).wr (by have := HL.out; omega)
  go_wp2_with fail
  rw [rounds_succ]; go_wp2_with fail
  refine (hp _).mono ?_
  rintro e w6 ⟨rfl, hp6⟩
  have HP : Hid (WP n0 g w x (l ++ eS (a, b) ++ bo u 8 ++ eB p0 ++ eB p1 ++ eB p2) w6) := ((HB5.out.alloc _).next hp6).elim fun _ h => h.out
  clear hp hp6 HB5 ca
  go_wp2_with fail
  rw [rounds_succ]; go_wp2_with fail
  go_end0
  exact ⟨rfl, HP.out⟩
set_option maxRecDepth 100000 in
set_option maxHeartbeats 1000000 in
theorem wSealed_any (n0 g : Nat) (d : Int × ((Int × Int) × ByteArray)) (l : List Bool) (x : Value) (w : World) (hk : okT d) (hB : n0 ≤ w.heap.size) (hw : Wr n0 w g l x) (hl : l.length ≤ 1024) :
    Calls Tryz.prog 33 #[.agg #[.pointer (some ⟨g, 0, none⟩)], .agg (sdl d).toArray] w fun e w' => e = .returned (.tuple #[]) ∧ WP n0 g w x (l ++ eD d) w' := by
  obtain ⟨e, ⟨b, c⟩, s⟩ := d
  obtain ⟨h1, h2, h3⟩ := hk
  obtain ⟨u, rfl, eu, hu⟩ := fit_nat h1
  unfold sdl
  dsimp only at *
  obtain ⟨n, hn⟩ : ∃ n, s.size = n := ⟨_, rfl⟩
  have HN : Hid (s.size = n) := hn
  have HE : Hid (l ++ eD ((u : Int), (b, c), s) = l ++ bo u 8 ++ eK (b, c) ++ (bo n 7 ++ (bys s).flatMap fun v => bo v 8)) := by unfold Hid eD eX; dsimp only; rw [eu, hn]; simp [tb]
  rw [HE.out]
  have hmf : ∀ (fn : Fn) (first cap : Array Value) (w : World), (Instr.makeFunc fn first cap).run Tryz.prog w = .ok (.func fn first cap) w := fun _ _ _ _ => rfl
  have hcv := fun W => run_bytes_of_string (P := Tryz.prog) W 9 101 5 s Tryz.underlying9 Tryz.underlying101 Tryz.underlying5
  have l1 : (l ++ bo u 8).length ≤ 2048 := by rw [List.length_append, bo_length]; omega
  have l2 : (l ++ bo u 8 ++ eK (b, c)).length ≤ 2090 := by rw [List.length_append]; simp [eK] at *; omega
  have HL : Hid ((l ++ bo u 8).length ≤ 2048 ∧ (l ++ bo u 8 ++ eK (b, c)).length ≤ 2090) := ⟨l1, l2⟩
  have HK : Hid (gK (b, c) = true) := h2
  have HSZ : Hid (s.size < 128) := h3
  have HSL : Hid ((bys s).length = s.size) := bys_length s
  have hb := WB.new2 hw hB (.cells #[.pointer (some ⟨g, 0, none⟩)] 64) (.cells #[.int .i64 (u : Int), .int .i64 b, .int .i64 c, .string s] 36)
  clear HE h1 h2 h3 hw hB eu l1 l2
  rw [hn] at hcv
  clear hn
  go_enter Tryz.func33, Tryz.ntmps33
  go_upto_region 1 with (fail)
  generalize (w.alloc (.cells #[.pointer (some ⟨g, 0, none⟩)] 64)).alloc (.cells #[.int .i64 (u : Int), .int .i64 b, .int .i64 c, .string s] 36) = w1 at *
  obtain ⟨D, hD⟩ : ∃ D, w.heap.size + 1 = D := ⟨_, rfl⟩
  rw [hD] at hb ⊢
  obtain ⟨C, hC⟩ : ∃ C, w.heap.size = C := ⟨_, rfl⟩
  rw [hC] at hb ⊢
  clear hD hC
  obtain ⟨OC, hOC⟩ : ∃ o, o = Obj.cells #[.pointer (some ⟨g, 0, none⟩)] 64 := ⟨_, rfl⟩
  obtain ⟨OD, hOD⟩ : ∃ o, o = Obj.cells #[.int .i64 (u : Int), .int .i64 b, .int .i64 c, .string s] 36 := ⟨_, rfl⟩
  have HOC : Hid (OC = Obj.cells #[.pointer (some ⟨g, 0, none⟩)] 64) := hOC
  have HOD : Hid (OD = Obj.cells #[.int .i64 (u : Int), .int .i64 b, .int .i64 c, .string s] 36) := hOD
  rw [← hOC, ← hOD] at hb
  clear hOC hOD
  obtain ⟨d0, d1, d2, d3⟩ := c4 (HOD.out ▸ hb.hd)
  have c0 := c1' (HOC.out ▸ hb.hc)
  have hp := wNumber_any n0 g u 8 l x w1 (by omega) (by omega) hu hb.sz hb.wr (by omega)
  have HB : Hid (WB n0 g w w1 x x l C D OC OD) := hb
  clear hb
  go_wp2_with fail
  refine hp.mono ?_
  rintro e w2 ⟨rfl, hp2⟩
  obtain ⟨x2, hb2⟩ := HB.out.next hp2
  clear hp hp2 HB c0 d0 d1 d2 d3
  obtain ⟨d0, d1, d2, d3⟩ := c4 (HOD.out ▸ hb2.hd)
  have c0 := c1' (HOC.out ▸ hb2.hc)
  have hp := wKey_any n0 g (b, c) (l ++ bo u 8) x2 w2 HK.out hb2.sz hb2.wr (by have := HL.out; omega)
  have HB : Hid (WB n0 g w w2 x x2 (l ++ bo u 8) C D OC OD) := hb2
  clear hb2
  dsimp only at hp
  go_wp2_with fail
  refine hp.mono ?_
  rintro e w3 ⟨rfl, hp3⟩
  obtain ⟨x3, hb3⟩ := HB.out.next hp3
  clear hp hp3 HB c0 d0 d1 d2 d3
  obtain ⟨d0, d1, d2, d3⟩ := c4 (HOD.out ▸ hb3.hd)
  have c0 := c1' (HOC.out ▸ hb3.hc)
  have hd3 := hb3.later (drew_below w3)
  have ca : ∀ o, (w3.alloc o).cell? ⟨C, 0, none⟩ = some (.pointer (some ⟨g, 0, none⟩)) := fun o => c1' (HOC.out ▸ (hb3.alloc o).hc)
  have HB : Hid (WB n0 g w w3.drew x x3 (l ++ bo u 8 ++ eK (b, c)) C D OC OD) := hd3
  have HX : Hid (∀ k, Fw g x3 k → k < w3.heap.size) := hb3.wr.inHeap
  have hp := fun cap => putB_any n0 g 7 (some ⟨w3.heap.size, 0, none⟩) cap (bys s) (l ++ bo u 8 ++ eK (b, c)) x3 ((w3.alloc (.cells (bytesRow s cap) 5 ((bytesRow s cap).size, (bytesRow s cap).size + 1))).drew) (by omega) (by omega) (by rw [HSL.out]; exact HSZ.out) (by rw [HSL.out]; have := HSZ.out; omega) (bys_lt s) (by
    intro W' x' hst i hi
    obtain ⟨q, e, r⟩ := rd_conv w3 s 5 cap i hi
    cases e
    refine ⟨_, rfl, ?_⟩
    have hk := hst.kept.block w3.heap.size (by show w3.heap.size < (w3.heap.push _).size; simp) (fun hf => by have := HX.out _ hf; omega)
    exact (World.cell?_of_block (a := ⟨w3.heap.size, i, none⟩) hk).trans r) (hd3.alloc _).sz (hd3.alloc _).wr (by have := HL.out; omega)
  rw [HSL.out, HN.out] at hp
  clear hb3 hd3
  go_wp2_with fail
  refine (hp _).mono ?_
  rintro e w4 ⟨rfl, hp4⟩
  have HP : Hid (WP n0 g w x (l ++ bo u 8 ++ eK (b, c) ++ (bo n 7 ++ (bys s).flatMap fun v => bo v 8)) w4) := ((HB.out.alloc _).next hp4).elim fun _ h => h.out
  clear hp hp4
  go_wp2_with fail
  go_end0
  exact ⟨rfl, HP.out⟩
end Go.Proofs.YtdkfifnhmfbagaaGreat.Wi
