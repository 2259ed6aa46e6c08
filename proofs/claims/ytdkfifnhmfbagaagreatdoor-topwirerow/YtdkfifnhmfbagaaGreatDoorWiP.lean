/- Contract: the reader's message. -/
import Derived.Test.YtdkfifnhmfbagaaGreatDoorWiJ7
namespace Go.Proofs.YtdkfifnhmfbagaaGreatDoor.Wi
open Go.RowKit Go.Maps
open Bt (Rr Kept tb bys tb_length bys_length tx u8s dn)
open Rt (gd)
set_option linter.unusedVariables false
set_option linter.unusedSimpArgs false
theorem owns_later {W W' : World} {b : Nat} {e : TypeId} {sz : Nat} {v : Value} {n : Nat} {xs : List Value} (h : W.ownsRow b e sz v n xs) (hb : Below W.heap.size W W') : W'.ownsRow b e sz v n xs := owns_block h fun g _ hg => hb.block g hg
set_option maxRecDepth 100000 in
set_option maxHeartbeats 4000000 in
theorem message_no (g : Nat) (s : ByteArray) (w : World) (h : Rr w g 0 s) (hs : s.size < 1125899906842624) (hn : pn 2 (tb (bys s)) 0 = none) :
  Calls Tryz.prog 22 #[.agg #[.pointer (some ⟨g, 0, none⟩)] ] w fun e w' => RM w w' g (tb (bys s)) e := by
 have hb := RB.new2 h (.cells (mgl ⟨0, zR, zQ, zP, zD⟩ (.slice none 0 0) (.slice none 0 0) (.slice none 0 0)).toArray 47)
 have HS : Hid (s.size < 1125899906842624) := hs
 clear h hs
 go_enter Tryz.func22, Tryz.ntmps22
 go_upto_region 1 with (fail)
 rw [mgz 0]
 obtain ⟨OD, hOD⟩ : ∃ o, o = Obj.cells (mgl ⟨0, zR, zQ, zP, zD⟩ (.slice none 0 0) (.slice none 0 0) (.slice none 0 0)).toArray 47 := ⟨_, rfl⟩
 have HOD : Hid (OD = Obj.cells (mgl ⟨0, zR, zQ, zP, zD⟩ (.slice none 0 0) (.slice none 0 0) (.slice none 0 0)).toArray 47) := hOD
 rw [← hOD] at hb
 rw [← hOD]
 clear hOD
 generalize (w.alloc (.cells #[.pointer (some ⟨g, 0, none⟩)] 81)).alloc OD = w1 at *
 obtain ⟨D, hD⟩ : ∃ D, w.heap.size + 1 = D := ⟨_, rfl⟩
 rw [hD] at hb ⊢
 obtain ⟨C, hC⟩ : ∃ C, w.heap.size = C := ⟨_, rfl⟩
 have HCD : Hid (D ≠ C) := by unfold Hid; omega
 rw [hC] at hb ⊢
 clear hD hC
 have c0 : w1.cell? ⟨C, 0, none⟩ = some (.pointer (some ⟨g, 0, none⟩)) := cell_of_row w1 C 0 _ _ _ hb.hc
 have hp := number_any g s 2 0 w1 hb.rr HS.out (by omega) (by omega)
 have HB : Hid (RB g s w w1 0 C D OD) := hb
 clear hb
 rw [hn] at hp
 have HN : Hid (okD (tb (bys s)) = false) := okD_none (by unfold pM; rw [hn])
 clear hn
 go_wp2_with fail
 refine hp.mono ?_
 rintro q w2 ⟨rfl, hk2⟩
 have HK : Hid (Kept (fun k => k = g) w w2) := HB.out.gone hk2
 clear hk2 hp
 go_wp2_with fail
 exact ⟨rfl, HK.out, .inl ⟨HN.out, rfl⟩⟩
set_option maxRecDepth 100000 in
set_option maxHeartbeats 4000000 in
theorem message_0 (g : Nat) (s : ByteArray) (w : World) (h : Rr w g 0 s) (hs : s.size < 1125899906842624) (c1 : Nat) (hn : pn 2 (tb (bys s)) 0 = some (0, c1)) :
  Calls Tryz.prog 22 #[.agg #[.pointer (some ⟨g, 0, none⟩)] ] w fun e w' => RM w w' g (tb (bys s)) e := by
 have hb := RB.new2 h (.cells (mgl ⟨0, zR, zQ, zP, zD⟩ (.slice none 0 0) (.slice none 0 0) (.slice none 0 0)).toArray 47)
 have HS : Hid (s.size < 1125899906842624) := hs
 clear h hs
 go_enter Tryz.func22, Tryz.ntmps22
 go_upto_region 1 with (fail)
 rw [mgz 0]
 obtain ⟨OD, hOD⟩ : ∃ o, o = Obj.cells (mgl ⟨0, zR, zQ, zP, zD⟩ (.slice none 0 0) (.slice none 0 0) (.slice none 0 0)).toArray 47 := ⟨_, rfl⟩
 have HOD : Hid (OD = Obj.cells (mgl ⟨0, zR, zQ, zP, zD⟩ (.slice none 0 0) (.slice none 0 0) (.slice none 0 0)).toArray 47) := hOD
 rw [← hOD] at hb
 rw [← hOD]
 clear hOD
 generalize (w.alloc (.cells #[.pointer (some ⟨g, 0, none⟩)] 81)).alloc OD = w1 at *
 obtain ⟨D, hD⟩ : ∃ D, w.heap.size + 1 = D := ⟨_, rfl⟩
 rw [hD] at hb ⊢
 obtain ⟨C, hC⟩ : ∃ C, w.heap.size = C := ⟨_, rfl⟩
 have HCD : Hid (D ≠ C) := by unfold Hid; omega
 rw [hC] at hb ⊢
 clear hD hC
 have c0 : w1.cell? ⟨C, 0, none⟩ = some (.pointer (some ⟨g, 0, none⟩)) := cell_of_row w1 C 0 _ _ _ hb.hc
 have hp := number_any g s 2 0 w1 hb.rr HS.out (by omega) (by omega)
 have HB : Hid (RB g s w w1 0 C D OD) := hb
 clear hb
 rw [hn] at hp
 have HPK : Hid (pM (tb (bys s)) 0 = pm mR pR (tb (bys s)) c1) := by unfold Hid pM; rw [hn]; rfl
 dsimp only [Option.map] at hp
 clear hn
 go_wp2_with fail
 refine hp.mono ?_
 rintro q w2 ⟨rfl, hr2, hk2⟩
 have hb2 := HB.out.next hr2 hk2
 have HB2 : Hid (RB g s w w2 c1 C D OD) := hb2
 clear hr2 hk2 hp HB c0 hb2
 have HZ : Hid ((w2.alloc (.cells #[.int .i64 0, .int .i64 0, .slice none 0 0, .slice none 0 0, .slice none 0 0, .int .i64 0, .int .i64 0, .int .i64 0, .int .i64 0, .int .i64 0, .int .i64 0, .int .i64 0, .int .i64 0, .int .i64 0, .int .i64 0, .int .i64 0, .int .i64 0, .int .i64 0, .int .i64 0, .int .i64 0, .int .i64 0, .int .i64 0, .int .i64 0, .int .i64 0, .int .i64 0, .string ⟨#[]⟩] 47)).heap[w2.heap.size]? = some (.cells #[.int .i64 0, .int .i64 0, .slice none 0 0, .slice none 0 0, .slice none 0 0, .int .i64 0, .int .i64 0, .int .i64 0, .int .i64 0, .int .i64 0, .int .i64 0, .int .i64 0, .int .i64 0, .int .i64 0, .int .i64 0, .int .i64 0, .int .i64 0, .int .i64 0, .int .i64 0, .int .i64 0, .int .i64 0, .int .i64 0, .int .i64 0, .int .i64 0, .int .i64 0, .string ⟨#[]⟩] 47 (0, 0))) := heap_alloc_last w2 _
 go_upto_region 2 with (refine stW szMg HZ.out rfl (mgl ⟨1, zR, zQ, zP, zD⟩ (.slice none 0 0) (.slice none 0 0) (.slice none 0 0)) rfl rfl rfl _ _ rfl rfl rfl ?_)
 rw [World.setRow_alloc_new]
 clear HZ
 have hb3 := RE.new (T := 47) HB2.out HCD.out (mgl ⟨1, zR, zQ, zP, zD⟩ (.slice none 0 0) (.slice none 0 0) (.slice none 0 0)).toArray
 have HCW : Hid (w.heap.size ≤ w2.heap.size + 1) := by have := HB2.out.kp.size; unfold Hid; omega
 generalize w2.alloc (.cells (mgl ⟨1, zR, zQ, zP, zD⟩ (.slice none 0 0) (.slice none 0 0) (.slice none 0 0)).toArray 47) = w3 at *
 generalize w2.heap.size = E at *
 have ck : w3.cell? ⟨E, 0, none⟩ = some (.int .i64 1) := (cell_of_row w3 E 0 _ _ _ hb3.he).trans rfl
 have c0 : w3.cell? ⟨C, 0, none⟩ = some (.pointer (some ⟨g, 0, none⟩)) := cell_of_row w3 C 0 _ _ _ hb3.rb.hc
 have hp := rekey_or g s c1 w3 hb3.rb.rr HS.out
 have HB3 : Hid (RE g s w w3 c1 C D E OD 47 (mgl ⟨1, zR, zQ, zP, zD⟩ (.slice none 0 0) (.slice none 0 0) (.slice none 0 0)).toArray) := hb3
 clear hb3 HB2
 go_wp2_with fail
 refine hp.mono ?_
 rintro q w4 hro
 rcases hro with ⟨hn, rfl, hk4⟩ | ⟨r, c2, aL, cL, aJ, cJ, aI, cI, hn, rfl, hr4, hk4, oL, oJ, oI, hap⟩
 ·have HK : Hid (Kept (fun k => k = g) w w4) := HB3.out.rb.gone hk4
  have HN : Hid (okD (tb (bys s)) = false) := okD_none (by rw [HPK.out]; exact pm_no hn)
  clear hk4 hn hp
  go_wp2_with fail
  exact ⟨rfl, HK.out, .inl ⟨HN.out, rfl⟩⟩
 have HPM : Hid (pM (tb (bys s)) 0 = some (mR r, c2)) := by unfold Hid; rw [HPK.out]; exact pm_yes hn
 have hb4 := HB3.out.next hr4 hk4
 have HB4 : Hid (RE g s w w4 c2 C D E OD 47 (mgl ⟨1, zR, zQ, zP, zD⟩ (.slice none 0 0) (.slice none 0 0) (.slice none 0 0)).toArray) := hb4
 have HSR : Hid (r.2.1.length < 2048 ∧ r.2.2.1.length < 2048 ∧ r.2.2.2.length < 2048) := small_R hn
 have hEw : E + 1 ≤ w3.heap.size := row_lt HB3.out.he
 have HOL4 : Hid (w4.ownsRow (E + 1) 108 2 (.slice aL r.2.1.length cL) r.2.1.length (r.2.1.flatMap stl)) := owns_wide oL hEw
 have HOJ4 : Hid (w4.ownsRow (E + 1) 108 2 (.slice aJ r.2.2.1.length cJ) r.2.2.1.length (r.2.2.1.flatMap stl)) := owns_wide oJ hEw
 have HOI4 : Hid (w4.ownsRow (E + 1) 112 6 (.slice aI r.2.2.2.length cI) r.2.2.2.length (r.2.2.2.flatMap itl)) := owns_wide oI hEw
 have HAP : Hid (AP aL aJ) := hap
 clear oL oJ oI hEw hap
 have HTH : Hid (w4.there E 1 4) := th_of hb4.he 1 4 (by simp [mgl_len])
 clear hr4 hk4 hn hp HB3 c0 ck hb4 HPK
 go_upto_region 11 with (refine stM (cs := rkl r.1 (.slice aL r.2.1.length cL) (.slice aJ r.2.2.1.length cJ) (.slice aI r.2.2.2.length cI)) HTH.out szRk rfl rfl _ _ rfl rfl rfl ?_)
 have hb8 := RE.upd (rkl r.1 (.slice aL r.2.1.length cL) (.slice aJ r.2.2.1.length cJ) (.slice aI r.2.2.2.length cI)) 1 HB4.out
 rw [updR] at hb8
 have HOL : Hid ((w4.setCells E 1 (rkl r.1 (.slice aL r.2.1.length cL) (.slice aJ r.2.2.1.length cJ) (.slice aI r.2.2.2.length cI))).ownsRow (E + 1) 108 2 (.slice aL (mR r).rk.2.1.length cL) (mR r).rk.2.1.length ((mR r).rk.2.1.flatMap stl)) := owns_cells HOL4.out (by omega)
 have HOJ : Hid ((w4.setCells E 1 (rkl r.1 (.slice aL r.2.1.length cL) (.slice aJ r.2.2.1.length cJ) (.slice aI r.2.2.2.length cI))).ownsRow (E + 1) 108 2 (.slice aJ (mR r).rk.2.2.1.length cJ) (mR r).rk.2.2.1.length ((mR r).rk.2.2.1.flatMap stl)) := owns_cells HOJ4.out (by omega)
 have HOI : Hid ((w4.setCells E 1 (rkl r.1 (.slice aL r.2.1.length cL) (.slice aJ r.2.2.1.length cJ) (.slice aI r.2.2.2.length cI))).ownsRow (E + 1) 112 6 (.slice aI (mR r).rk.2.2.2.length cI) (mR r).rk.2.2.2.length ((mR r).rk.2.2.2.flatMap itl)) := owns_cells HOI4.out (by omega)
 clear HOL4 HOJ4 HOI4
 generalize w4.setCells E 1 (rkl r.1 (.slice aL r.2.1.length cL) (.slice aJ r.2.2.1.length cJ) (.slice aI r.2.2.2.length cI)) = w8 at *
 have HNS : Hid ((mR r).rk.2.1.length < 2048 ∧ (mR r).rk.2.2.1.length < 2048 ∧ (mR r).rk.2.2.2.length < 2048 ∧ (mR r).sd.2.2.size < 2048) := ⟨HSR.out.1, HSR.out.2.1, HSR.out.2.2, by show (0 : Nat) < 2048; omega⟩
 have HB : Hid (RE g s w w8 c2 C D E OD 47 (mgl (mR r) (.slice aL (mR r).rk.2.1.length cL) (.slice aJ (mR r).rk.2.2.1.length cJ) (.slice aI (mR r).rk.2.2.2.length cI)).toArray) := hb8
 clear hb8 HB4 HTH
 obtain ⟨m, hm⟩ : ∃ m : Msg, mR r = m := ⟨_, rfl⟩
 rw [hm] at HPM HB HOL HOJ HOI HNS
 obtain ⟨nL, hnL⟩ : ∃ n, m.rk.2.1.length = n := ⟨_, rfl⟩
 obtain ⟨nJ, hnJ⟩ : ∃ n, m.rk.2.2.1.length = n := ⟨_, rfl⟩
 obtain ⟨nI, hnI⟩ : ∃ n, m.rk.2.2.2.length = n := ⟨_, rfl⟩
 clear hm
 have HMR : Hid (∀ W, Below w8.heap.size w8 W → MR W m aL aJ aI) := fun W hb => MR.later ⟨rd_owns (f := stl) (n := 2) (fun _ => rfl) HOL.out, rd_owns (f := stl) (n := 2) (fun _ => rfl) HOJ.out, rd_owns (f := itl) (n := 6) (fun _ => rfl) HOI.out, by have := HNS.out; omega, by have := HNS.out; omega, by have := HNS.out; omega, by have := HNS.out; omega⟩ hb
 have HGD : Hid _ := fun W hb => good_any m aL aJ aI cL cJ cI W (HMR.out W hb)
 unfold mgv at HGD
 have HNN : Hid (m.rk.2.1.length = nL ∧ m.rk.2.2.1.length = nJ ∧ m.rk.2.2.2.length = nI) := ⟨hnL, hnJ, hnI⟩
 simp only [hnL, hnJ, hnI] at HGD HB
 clear hnL hnJ hnI
 have HOK : Hid (okD (tb (bys s)) = (dn (tb (bys s)) c2 && gM m)) := okD_some HPM.out
 have HTM : Hid (tM (tb (bys s)) = m) := sim_M HPM.out
 have c0 : w8.cell? ⟨C, 0, none⟩ = some (.pointer (some ⟨g, 0, none⟩)) := cell_of_row w8 C 0 _ _ _ HB.out.rb.hc
 have hd := Bt.done_any g c2 s w8 HB.out.rb.rr HS.out
 cases hdn : dn (tb (bys s)) c2 with
 | false =>
  rw [hdn] at hd HOK
  clear hdn
  go_wp2_with fail
  refine hd.mono ?_
  rintro q w9 ⟨rfl, hb9⟩
  have HK : Hid (Kept (fun k => k = g) w w9) := (HB.out.later hb9).rb.kp
  clear hd hb9 c0
  go_wp2_with fail
  refine (giveUp_any _).mono ?_
  rintro q wz ⟨rfl, rfl⟩
  go_wp2_with fail
  exact ⟨rfl, HK.out, .inl ⟨by rw [HOK.out]; rfl, rfl⟩⟩
 | true =>
  rw [hdn] at hd HOK
  clear hdn
  go_wp2_with fail
  refine hd.mono ?_
  rintro q w9 ⟨rfl, hb9⟩
  have HB9 : Hid (RE g s w w9 c2 C D E OD 47 (mgl m (.slice aL nL cL) (.slice aJ nJ cJ) (.slice aI nI cI)).toArray) := HB.out.later hb9
  have HLD : Hid (w9.rangeAt E 0 (mgl m (.slice aL nL cL) (.slice aJ nJ cJ) (.slice aI nI cI))) := ra_of HB9.out.he 0 _ rfl
  have hG := HGD.out w9 hb9
  have HB89 : Hid (Below w8.heap.size w8 w9) := hb9
  clear hd hb9 c0
  cases hgm : gM m with
  | false =>
   rw [hgm] at hG HOK
   clear hgm
   go_wp2_with (refine ldM HLD.out Tryz.underlying47 rfl szMg _ rfl rfl rfl ?_)
   refine hG.mono ?_
   rintro q wa ⟨rfl, hba⟩
   have HK : Hid (Kept (fun k => k = g) w wa) := (HB9.out.later hba).rb.kp
   clear hG hba HLD
   go_wp2_with fail
   refine (giveUp_any _).mono ?_
   rintro q wz ⟨rfl, rfl⟩
   go_wp2_with fail
   exact ⟨rfl, HK.out, .inl ⟨by rw [HOK.out]; rfl, rfl⟩⟩
  | true =>
   rw [hgm] at hG HOK
   clear hgm
   go_wp2_with (refine ldM HLD.out Tryz.underlying47 rfl szMg _ rfl rfl rfl ?_)
   refine hG.mono ?_
   rintro q wa ⟨rfl, hba⟩
   have hbA := HB9.out.later hba
   rw [HOD.out] at hbA
   have HBA : Hid (RE g s w wa c2 C D E (.cells (mgl ⟨0, zR, zQ, zP, zD⟩ (.slice none 0 0) (.slice none 0 0) (.slice none 0 0)).toArray 47) 47 (mgl m (.slice aL nL cL) (.slice aJ nJ cJ) (.slice aI nI cI)).toArray) := hbA
   have HLA : Hid (wa.rangeAt E 0 (mgl m (.slice aL nL cL) (.slice aJ nJ cJ) (.slice aI nI cI))) := ra_of hbA.he 0 _ rfl
   have HBW : Hid (Below w8.heap.size w8 wa) := HB89.out.trans (hba.mono HB89.out.size)
   clear hG hba HLD hbA
   go_wp2_with (first | (refine ldM HLA.out Tryz.underlying47 rfl szMg _ rfl rfl rfl ?_) | (refine stW szMg HBA.out.rb.hd rfl (mgl m (.slice aL nL cL) (.slice aJ nJ cJ) (.slice aI nI cI)) rfl rfl rfl _ _ rfl rfl rfl ?_))
   have hbB := HBA.out.setD (mgl m (.slice aL nL cL) (.slice aJ nJ cJ) (.slice aI nI cI)).toArray
   refine bodyPost_ret (res1 (T := 47) (p := 2) rfl _ _ D (mgl m (.slice aL nL cL) (.slice aJ nJ cJ) (.slice aI nI cI)).toArray rfl (run_loadVar_row _ D _ 47 _ _ _ hbB.rb.hd Tryz.underlying47 rfl szMg)) rfl ?_
   have hDE : D < E + 1 := by have := HBA.out.ec; omega
   refine ⟨hbB.rb.kp, .inr ⟨by rw [HOK.out]; rfl, aL, cL, aJ, cJ, aI, cI, ?_⟩⟩
   rw [HTM.out]
   unfold mgv
   rw [HNN.out.1, HNN.out.2.1, HNN.out.2.2]
   have q1 := HOL.out
   have q2 := HOJ.out
   have q3 := HOI.out
   rw [HNN.out.1] at q1
   rw [HNN.out.2.1] at q2
   rw [HNN.out.2.2] at q3
   exact ⟨rfl, owns_wide (owns_row (owns_later q1 HBW.out) hDE) HCW.out, owns_wide (owns_row (owns_later q2 HBW.out) hDE) HCW.out, owns_wide (owns_row (owns_later q3 HBW.out) hDE) HCW.out, HAP.out⟩
set_option maxRecDepth 100000 in
set_option maxHeartbeats 4000000 in
theorem message_1 (g : Nat) (s : ByteArray) (w : World) (h : Rr w g 0 s) (hs : s.size < 1125899906842624) (c1 : Nat) (hn : pn 2 (tb (bys s)) 0 = some (1, c1)) :
  Calls Tryz.prog 22 #[.agg #[.pointer (some ⟨g, 0, none⟩)] ] w fun e w' => RM w w' g (tb (bys s)) e := by
 have hb := RB.new2 h (.cells (mgl ⟨0, zR, zQ, zP, zD⟩ (.slice none 0 0) (.slice none 0 0) (.slice none 0 0)).toArray 47)
 have HS : Hid (s.size < 1125899906842624) := hs
 clear h hs
 go_enter Tryz.func22, Tryz.ntmps22
 go_upto_region 1 with (fail)
 rw [mgz 0]
 obtain ⟨OD, hOD⟩ : ∃ o, o = Obj.cells (mgl ⟨0, zR, zQ, zP, zD⟩ (.slice none 0 0) (.slice none 0 0) (.slice none 0 0)).toArray 47 := ⟨_, rfl⟩
 have HOD : Hid (OD = Obj.cells (mgl ⟨0, zR, zQ, zP, zD⟩ (.slice none 0 0) (.slice none 0 0) (.slice none 0 0)).toArray 47) := hOD
 rw [← hOD] at hb
 rw [← hOD]
 clear hOD
 generalize (w.alloc (.cells #[.pointer (some ⟨g, 0, none⟩)] 81)).alloc OD = w1 at *
 obtain ⟨D, hD⟩ : ∃ D, w.heap.size + 1 = D := ⟨_, rfl⟩
 rw [hD] at hb ⊢
 obtain ⟨C, hC⟩ : ∃ C, w.heap.size = C := ⟨_, rfl⟩
 have HCD : Hid (D ≠ C) := by unfold Hid; omega
 rw [hC] at hb ⊢
 clear hD hC
 have c0 : w1.cell? ⟨C, 0, none⟩ = some (.pointer (some ⟨g, 0, none⟩)) := cell_of_row w1 C 0 _ _ _ hb.hc
 have hp := number_any g s 2 0 w1 hb.rr HS.out (by omega) (by omega)
 have HB : Hid (RB g s w w1 0 C D OD) := hb
 clear hb
 rw [hn] at hp
 have HPK : Hid (pM (tb (bys s)) 0 = pm mQ pQ (tb (bys s)) c1) := by unfold Hid pM; rw [hn]; rfl
 dsimp only [Option.map] at hp
 clear hn
 go_wp2_with fail
 refine hp.mono ?_
 rintro q w2 ⟨rfl, hr2, hk2⟩
 have hb2 := HB.out.next hr2 hk2
 have HB2 : Hid (RB g s w w2 c1 C D OD) := hb2
 clear hr2 hk2 hp HB c0 hb2
 have HZ : Hid ((w2.alloc (.cells #[.int .i64 0, .int .i64 0, .slice none 0 0, .slice none 0 0, .slice none 0 0, .int .i64 0, .int .i64 0, .int .i64 0, .int .i64 0, .int .i64 0, .int .i64 0, .int .i64 0, .int .i64 0, .int .i64 0, .int .i64 0, .int .i64 0, .int .i64 0, .int .i64 0, .int .i64 0, .int .i64 0, .int .i64 0, .int .i64 0, .int .i64 0, .int .i64 0, .int .i64 0, .string ⟨#[]⟩] 47)).heap[w2.heap.size]? = some (.cells #[.int .i64 0, .int .i64 0, .slice none 0 0, .slice none 0 0, .slice none 0 0, .int .i64 0, .int .i64 0, .int .i64 0, .int .i64 0, .int .i64 0, .int .i64 0, .int .i64 0, .int .i64 0, .int .i64 0, .int .i64 0, .int .i64 0, .int .i64 0, .int .i64 0, .int .i64 0, .int .i64 0, .int .i64 0, .int .i64 0, .int .i64 0, .int .i64 0, .int .i64 0, .string ⟨#[]⟩] 47 (0, 0))) := heap_alloc_last w2 _
 go_upto_region 2 with (refine stW szMg HZ.out rfl (mgl ⟨2, zR, zQ, zP, zD⟩ (.slice none 0 0) (.slice none 0 0) (.slice none 0 0)) rfl rfl rfl _ _ rfl rfl rfl ?_)
 rw [World.setRow_alloc_new]
 clear HZ
 have hb3 := RE.new (T := 47) HB2.out HCD.out (mgl ⟨2, zR, zQ, zP, zD⟩ (.slice none 0 0) (.slice none 0 0) (.slice none 0 0)).toArray
 have HCW : Hid (w.heap.size ≤ w2.heap.size + 1) := by have := HB2.out.kp.size; unfold Hid; omega
 generalize w2.alloc (.cells (mgl ⟨2, zR, zQ, zP, zD⟩ (.slice none 0 0) (.slice none 0 0) (.slice none 0 0)).toArray 47) = w3 at *
 generalize w2.heap.size = E at *
 have ck : w3.cell? ⟨E, 0, none⟩ = some (.int .i64 2) := (cell_of_row w3 E 0 _ _ _ hb3.he).trans rfl
 have c0 : w3.cell? ⟨C, 0, none⟩ = some (.pointer (some ⟨g, 0, none⟩)) := cell_of_row w3 C 0 _ _ _ hb3.rb.hc
 have hp := request_or g s c1 w3 hb3.rb.rr HS.out
 have HB3 : Hid (RE g s w w3 c1 C D E OD 47 (mgl ⟨2, zR, zQ, zP, zD⟩ (.slice none 0 0) (.slice none 0 0) (.slice none 0 0)).toArray) := hb3
 clear hb3 HB2
 go_wp2_with fail
 refine hp.mono ?_
 rintro q w4 hro
 rcases hro with ⟨hn, rfl, hk4⟩ | ⟨r, c2, hn, rfl, hr4, hk4⟩
 ·have HK : Hid (Kept (fun k => k = g) w w4) := HB3.out.rb.gone hk4
  have HN : Hid (okD (tb (bys s)) = false) := okD_none (by rw [HPK.out]; exact pm_no hn)
  clear hk4 hn hp
  go_wp2_with fail
  exact ⟨rfl, HK.out, .inl ⟨HN.out, rfl⟩⟩
 have HPM : Hid (pM (tb (bys s)) 0 = some (mQ r, c2)) := by unfold Hid; rw [HPK.out]; exact pm_yes hn
 have hb4 := HB3.out.next hr4 hk4
 have HB4 : Hid (RE g s w w4 c2 C D E OD 47 (mgl ⟨2, zR, zQ, zP, zD⟩ (.slice none 0 0) (.slice none 0 0) (.slice none 0 0)).toArray) := hb4
 have HTH : Hid (w4.there E 5 2) := th_of hb4.he 5 2 (by simp [mgl_len])
 clear hr4 hk4 hn hp HB3 c0 ck hb4 HPK
 go_upto_region 11 with (refine stM (cs := stl r) HTH.out szRq rfl rfl _ _ rfl rfl rfl ?_)
 have hb8 := RE.upd (stl r) 5 HB4.out
 rw [updQ] at hb8
 generalize w4.setCells E 5 (stl r) = w8 at *
 obtain ⟨aL, haL⟩ : ∃ a : Option Addr, a = none := ⟨_, rfl⟩
 obtain ⟨aJ, haJ⟩ : ∃ a : Option Addr, a = none := ⟨_, rfl⟩
 obtain ⟨aI, haI⟩ : ∃ a : Option Addr, a = none := ⟨_, rfl⟩
 obtain ⟨cL, hcL⟩ : ∃ a : Nat, a = 0 := ⟨_, rfl⟩
 obtain ⟨cJ, hcJ⟩ : ∃ a : Nat, a = 0 := ⟨_, rfl⟩
 obtain ⟨cI, hcI⟩ : ∃ a : Nat, a = 0 := ⟨_, rfl⟩
 have HOL : Hid (w8.ownsRow (E + 1) 108 2 (.slice aL (mQ r).rk.2.1.length cL) (mQ r).rk.2.1.length ((mQ r).rk.2.1.flatMap stl)) := by unfold Hid; rw [haL, hcL]; exact World.ownsRow_nil _ _ _ _
 have HOJ : Hid (w8.ownsRow (E + 1) 108 2 (.slice aJ (mQ r).rk.2.2.1.length cJ) (mQ r).rk.2.2.1.length ((mQ r).rk.2.2.1.flatMap stl)) := by unfold Hid; rw [haJ, hcJ]; exact World.ownsRow_nil _ _ _ _
 have HOI : Hid (w8.ownsRow (E + 1) 112 6 (.slice aI (mQ r).rk.2.2.2.length cI) (mQ r).rk.2.2.2.length ((mQ r).rk.2.2.2.flatMap itl)) := by unfold Hid; rw [haI, hcI]; exact World.ownsRow_nil _ _ _ _
 have HNS : Hid ((mQ r).rk.2.1.length < 2048 ∧ (mQ r).rk.2.2.1.length < 2048 ∧ (mQ r).rk.2.2.2.length < 2048 ∧ (mQ r).sd.2.2.size < 2048) := ⟨by show (0 : Nat) < 2048; omega, by show (0 : Nat) < 2048; omega, by show (0 : Nat) < 2048; omega, by show (0 : Nat) < 2048; omega⟩
 have HB : Hid (RE g s w w8 c2 C D E OD 47 (mgl (mQ r) (.slice aL (mQ r).rk.2.1.length cL) (.slice aJ (mQ r).rk.2.2.1.length cJ) (.slice aI (mQ r).rk.2.2.2.length cI)).toArray) := by unfold Hid; rw [haL, haJ, haI, hcL, hcJ, hcI]; exact hb8
 have HAP : Hid (AP aL aJ) := fun p q h1 _ => by rw [haL] at h1; cases h1
 clear haL haJ haI hcL hcJ hcI
 clear hb8 HB4 HTH
 obtain ⟨m, hm⟩ : ∃ m : Msg, mQ r = m := ⟨_, rfl⟩
 rw [hm] at HPM HB HOL HOJ HOI HNS
 obtain ⟨nL, hnL⟩ : ∃ n, m.rk.2.1.length = n := ⟨_, rfl⟩
 obtain ⟨nJ, hnJ⟩ : ∃ n, m.rk.2.2.1.length = n := ⟨_, rfl⟩
 obtain ⟨nI, hnI⟩ : ∃ n, m.rk.2.2.2.length = n := ⟨_, rfl⟩
 clear hm
 have HMR : Hid (∀ W, Below w8.heap.size w8 W → MR W m aL aJ aI) := fun W hb => MR.later ⟨rd_owns (f := stl) (n := 2) (fun _ => rfl) HOL.out, rd_owns (f := stl) (n := 2) (fun _ => rfl) HOJ.out, rd_owns (f := itl) (n := 6) (fun _ => rfl) HOI.out, by have := HNS.out; omega, by have := HNS.out; omega, by have := HNS.out; omega, by have := HNS.out; omega⟩ hb
 have HGD : Hid _ := fun W hb => good_any m aL aJ aI cL cJ cI W (HMR.out W hb)
 unfold mgv at HGD
 have HNN : Hid (m.rk.2.1.length = nL ∧ m.rk.2.2.1.length = nJ ∧ m.rk.2.2.2.length = nI) := ⟨hnL, hnJ, hnI⟩
 simp only [hnL, hnJ, hnI] at HGD HB
 clear hnL hnJ hnI
 have HOK : Hid (okD (tb (bys s)) = (dn (tb (bys s)) c2 && gM m)) := okD_some HPM.out
 have HTM : Hid (tM (tb (bys s)) = m) := sim_M HPM.out
 have c0 : w8.cell? ⟨C, 0, none⟩ = some (.pointer (some ⟨g, 0, none⟩)) := cell_of_row w8 C 0 _ _ _ HB.out.rb.hc
 have hd := Bt.done_any g c2 s w8 HB.out.rb.rr HS.out
 cases hdn : dn (tb (bys s)) c2 with
 | false =>
  rw [hdn] at hd HOK
  clear hdn
  go_wp2_with fail
  refine hd.mono ?_
  rintro q w9 ⟨rfl, hb9⟩
  have HK : Hid (Kept (fun k => k = g) w w9) := (HB.out.later hb9).rb.kp
  clear hd hb9 c0
  go_wp2_with fail
  refine (giveUp_any _).mono ?_
  rintro q wz ⟨rfl, rfl⟩
  go_wp2_with fail
  exact ⟨rfl, HK.out, .inl ⟨by rw [HOK.out]; rfl, rfl⟩⟩
 | true =>
  rw [hdn] at hd HOK
  clear hdn
  go_wp2_with fail
  refine hd.mono ?_
  rintro q w9 ⟨rfl, hb9⟩
  have HB9 : Hid (RE g s w w9 c2 C D E OD 47 (mgl m (.slice aL nL cL) (.slice aJ nJ cJ) (.slice aI nI cI)).toArray) := HB.out.later hb9
  have HLD : Hid (w9.rangeAt E 0 (mgl m (.slice aL nL cL) (.slice aJ nJ cJ) (.slice aI nI cI))) := ra_of HB9.out.he 0 _ rfl
  have hG := HGD.out w9 hb9
  have HB89 : Hid (Below w8.heap.size w8 w9) := hb9
  clear hd hb9 c0
  cases hgm : gM m with
  | false =>
   rw [hgm] at hG HOK
   clear hgm
   go_wp2_with (refine ldM HLD.out Tryz.underlying47 rfl szMg _ rfl rfl rfl ?_)
   refine hG.mono ?_
   rintro q wa ⟨rfl, hba⟩
   have HK : Hid (Kept (fun k => k = g) w wa) := (HB9.out.later hba).rb.kp
   clear hG hba HLD
   go_wp2_with fail
   refine (giveUp_any _).mono ?_
   rintro q wz ⟨rfl, rfl⟩
   go_wp2_with fail
   exact ⟨rfl, HK.out, .inl ⟨by rw [HOK.out]; rfl, rfl⟩⟩
  | true =>
   rw [hgm] at hG HOK
   clear hgm
   go_wp2_with (refine ldM HLD.out Tryz.underlying47 rfl szMg _ rfl rfl rfl ?_)
   refine hG.mono ?_
   rintro q wa ⟨rfl, hba⟩
   have hbA := HB9.out.later hba
   rw [HOD.out] at hbA
   have HBA : Hid (RE g s w wa c2 C D E (.cells (mgl ⟨0, zR, zQ, zP, zD⟩ (.slice none 0 0) (.slice none 0 0) (.slice none 0 0)).toArray 47) 47 (mgl m (.slice aL nL cL) (.slice aJ nJ cJ) (.slice aI nI cI)).toArray) := hbA
   have HLA : Hid (wa.rangeAt E 0 (mgl m (.slice aL nL cL) (.slice aJ nJ cJ) (.slice aI nI cI))) := ra_of hbA.he 0 _ rfl
   have HBW : Hid (Below w8.heap.size w8 wa) := HB89.out.trans (hba.mono HB89.out.size)
   clear hG hba HLD hbA
   go_wp2_with (first | (refine ldM HLA.out Tryz.underlying47 rfl szMg _ rfl rfl rfl ?_) | (refine stW szMg HBA.out.rb.hd rfl (mgl m (.slice aL nL cL) (.slice aJ nJ cJ) (.slice aI nI cI)) rfl rfl rfl _ _ rfl rfl rfl ?_))
   have hbB := HBA.out.setD (mgl m (.slice aL nL cL) (.slice aJ nJ cJ) (.slice aI nI cI)).toArray
   refine bodyPost_ret (res1 (T := 47) (p := 2) rfl _ _ D (mgl m (.slice aL nL cL) (.slice aJ nJ cJ) (.slice aI nI cI)).toArray rfl (run_loadVar_row _ D _ 47 _ _ _ hbB.rb.hd Tryz.underlying47 rfl szMg)) rfl ?_
   have hDE : D < E + 1 := by have := HBA.out.ec; omega
   refine ⟨hbB.rb.kp, .inr ⟨by rw [HOK.out]; rfl, aL, cL, aJ, cJ, aI, cI, ?_⟩⟩
   rw [HTM.out]
   unfold mgv
   rw [HNN.out.1, HNN.out.2.1, HNN.out.2.2]
   have q1 := HOL.out
   have q2 := HOJ.out
   have q3 := HOI.out
   rw [HNN.out.1] at q1
   rw [HNN.out.2.1] at q2
   rw [HNN.out.2.2] at q3
   exact ⟨rfl, owns_wide (owns_row (owns_later q1 HBW.out) hDE) HCW.out, owns_wide (owns_row (owns_later q2 HBW.out) hDE) HCW.out, owns_wide (owns_row (owns_later q3 HBW.out) hDE) HCW.out, HAP.out⟩
set_option maxRecDepth 100000 in
set_option maxHeartbeats 4000000 in
theorem message_2 (g : Nat) (s : ByteArray) (w : World) (h : Rr w g 0 s) (hs : s.size < 1125899906842624) (c1 : Nat) (hn : pn 2 (tb (bys s)) 0 = some (2, c1)) :
  Calls Tryz.prog 22 #[.agg #[.pointer (some ⟨g, 0, none⟩)] ] w fun e w' => RM w w' g (tb (bys s)) e := by
 have hb := RB.new2 h (.cells (mgl ⟨0, zR, zQ, zP, zD⟩ (.slice none 0 0) (.slice none 0 0) (.slice none 0 0)).toArray 47)
 have HS : Hid (s.size < 1125899906842624) := hs
 clear h hs
 go_enter Tryz.func22, Tryz.ntmps22
 go_upto_region 1 with (fail)
 rw [mgz 0]
 obtain ⟨OD, hOD⟩ : ∃ o, o = Obj.cells (mgl ⟨0, zR, zQ, zP, zD⟩ (.slice none 0 0) (.slice none 0 0) (.slice none 0 0)).toArray 47 := ⟨_, rfl⟩
 have HOD : Hid (OD = Obj.cells (mgl ⟨0, zR, zQ, zP, zD⟩ (.slice none 0 0) (.slice none 0 0) (.slice none 0 0)).toArray 47) := hOD
 rw [← hOD] at hb
 rw [← hOD]
 clear hOD
 generalize (w.alloc (.cells #[.pointer (some ⟨g, 0, none⟩)] 81)).alloc OD = w1 at *
 obtain ⟨D, hD⟩ : ∃ D, w.heap.size + 1 = D := ⟨_, rfl⟩
 rw [hD] at hb ⊢
 obtain ⟨C, hC⟩ : ∃ C, w.heap.size = C := ⟨_, rfl⟩
 have HCD : Hid (D ≠ C) := by unfold Hid; omega
 rw [hC] at hb ⊢
 clear hD hC
 have c0 : w1.cell? ⟨C, 0, none⟩ = some (.pointer (some ⟨g, 0, none⟩)) := cell_of_row w1 C 0 _ _ _ hb.hc
 have hp := number_any g s 2 0 w1 hb.rr HS.out (by omega) (by omega)
 have HB : Hid (RB g s w w1 0 C D OD) := hb
 clear hb
 rw [hn] at hp
 have HPK : Hid (pM (tb (bys s)) 0 = pm mP pP (tb (bys s)) c1) := by unfold Hid pM; rw [hn]; rfl
 dsimp only [Option.map] at hp
 clear hn
 go_wp2_with fail
 refine hp.mono ?_
 rintro q w2 ⟨rfl, hr2, hk2⟩
 have hb2 := HB.out.next hr2 hk2
 have HB2 : Hid (RB g s w w2 c1 C D OD) := hb2
 clear hr2 hk2 hp HB c0 hb2
 have HZ : Hid ((w2.alloc (.cells #[.int .i64 0, .int .i64 0, .slice none 0 0, .slice none 0 0, .slice none 0 0, .int .i64 0, .int .i64 0, .int .i64 0, .int .i64 0, .int .i64 0, .int .i64 0, .int .i64 0, .int .i64 0, .int .i64 0, .int .i64 0, .int .i64 0, .int .i64 0, .int .i64 0, .int .i64 0, .int .i64 0, .int .i64 0, .int .i64 0, .int .i64 0, .int .i64 0, .int .i64 0, .string ⟨#[]⟩] 47)).heap[w2.heap.size]? = some (.cells #[.int .i64 0, .int .i64 0, .slice none 0 0, .slice none 0 0, .slice none 0 0, .int .i64 0, .int .i64 0, .int .i64 0, .int .i64 0, .int .i64 0, .int .i64 0, .int .i64 0, .int .i64 0, .int .i64 0, .int .i64 0, .int .i64 0, .int .i64 0, .int .i64 0, .int .i64 0, .int .i64 0, .int .i64 0, .int .i64 0, .int .i64 0, .int .i64 0, .int .i64 0, .string ⟨#[]⟩] 47 (0, 0))) := heap_alloc_last w2 _
 go_upto_region 2 with (refine stW szMg HZ.out rfl (mgl ⟨3, zR, zQ, zP, zD⟩ (.slice none 0 0) (.slice none 0 0) (.slice none 0 0)) rfl rfl rfl _ _ rfl rfl rfl ?_)
 rw [World.setRow_alloc_new]
 clear HZ
 have hb3 := RE.new (T := 47) HB2.out HCD.out (mgl ⟨3, zR, zQ, zP, zD⟩ (.slice none 0 0) (.slice none 0 0) (.slice none 0 0)).toArray
 have HCW : Hid (w.heap.size ≤ w2.heap.size + 1) := by have := HB2.out.kp.size; unfold Hid; omega
 generalize w2.alloc (.cells (mgl ⟨3, zR, zQ, zP, zD⟩ (.slice none 0 0) (.slice none 0 0) (.slice none 0 0)).toArray 47) = w3 at *
 generalize w2.heap.size = E at *
 have ck : w3.cell? ⟨E, 0, none⟩ = some (.int .i64 3) := (cell_of_row w3 E 0 _ _ _ hb3.he).trans rfl
 have c0 : w3.cell? ⟨C, 0, none⟩ = some (.pointer (some ⟨g, 0, none⟩)) := cell_of_row w3 C 0 _ _ _ hb3.rb.hc
 have hp := reply_or g s c1 w3 hb3.rb.rr HS.out
 have HB3 : Hid (RE g s w w3 c1 C D E OD 47 (mgl ⟨3, zR, zQ, zP, zD⟩ (.slice none 0 0) (.slice none 0 0) (.slice none 0 0)).toArray) := hb3
 clear hb3 HB2
 go_wp2_with fail
 refine hp.mono ?_
 rintro q w4 hro
 rcases hro with ⟨hn, rfl, hk4⟩ | ⟨r, c2, hn, rfl, hr4, hk4⟩
 ·have HK : Hid (Kept (fun k => k = g) w w4) := HB3.out.rb.gone hk4
  have HN : Hid (okD (tb (bys s)) = false) := okD_none (by rw [HPK.out]; exact pm_no hn)
  clear hk4 hn hp
  go_wp2_with fail
  exact ⟨rfl, HK.out, .inl ⟨HN.out, rfl⟩⟩
 have HPM : Hid (pM (tb (bys s)) 0 = some (mP r, c2)) := by unfold Hid; rw [HPK.out]; exact pm_yes hn
 have hb4 := HB3.out.next hr4 hk4
 have HB4 : Hid (RE g s w w4 c2 C D E OD 47 (mgl ⟨3, zR, zQ, zP, zD⟩ (.slice none 0 0) (.slice none 0 0) (.slice none 0 0)).toArray) := hb4
 have HTH : Hid (w4.there E 7 15) := th_of hb4.he 7 15 (by simp [mgl_len])
 clear hr4 hk4 hn hp HB3 c0 ck hb4 HPK
 go_upto_region 11 with (refine stM (cs := rpl r) HTH.out szRp rfl rfl _ _ rfl rfl rfl ?_)
 have hb8 := RE.upd (rpl r) 7 HB4.out
 rw [updP] at hb8
 generalize w4.setCells E 7 (rpl r) = w8 at *
 obtain ⟨aL, haL⟩ : ∃ a : Option Addr, a = none := ⟨_, rfl⟩
 obtain ⟨aJ, haJ⟩ : ∃ a : Option Addr, a = none := ⟨_, rfl⟩
 obtain ⟨aI, haI⟩ : ∃ a : Option Addr, a = none := ⟨_, rfl⟩
 obtain ⟨cL, hcL⟩ : ∃ a : Nat, a = 0 := ⟨_, rfl⟩
 obtain ⟨cJ, hcJ⟩ : ∃ a : Nat, a = 0 := ⟨_, rfl⟩
 obtain ⟨cI, hcI⟩ : ∃ a : Nat, a = 0 := ⟨_, rfl⟩
 have HOL : Hid (w8.ownsRow (E + 1) 108 2 (.slice aL (mP r).rk.2.1.length cL) (mP r).rk.2.1.length ((mP r).rk.2.1.flatMap stl)) := by unfold Hid; rw [haL, hcL]; exact World.ownsRow_nil _ _ _ _
 have HOJ : Hid (w8.ownsRow (E + 1) 108 2 (.slice aJ (mP r).rk.2.2.1.length cJ) (mP r).rk.2.2.1.length ((mP r).rk.2.2.1.flatMap stl)) := by unfold Hid; rw [haJ, hcJ]; exact World.ownsRow_nil _ _ _ _
 have HOI : Hid (w8.ownsRow (E + 1) 112 6 (.slice aI (mP r).rk.2.2.2.length cI) (mP r).rk.2.2.2.length ((mP r).rk.2.2.2.flatMap itl)) := by unfold Hid; rw [haI, hcI]; exact World.ownsRow_nil _ _ _ _
 have HNS : Hid ((mP r).rk.2.1.length < 2048 ∧ (mP r).rk.2.2.1.length < 2048 ∧ (mP r).rk.2.2.2.length < 2048 ∧ (mP r).sd.2.2.size < 2048) := ⟨by show (0 : Nat) < 2048; omega, by show (0 : Nat) < 2048; omega, by show (0 : Nat) < 2048; omega, by show (0 : Nat) < 2048; omega⟩
 have HB : Hid (RE g s w w8 c2 C D E OD 47 (mgl (mP r) (.slice aL (mP r).rk.2.1.length cL) (.slice aJ (mP r).rk.2.2.1.length cJ) (.slice aI (mP r).rk.2.2.2.length cI)).toArray) := by unfold Hid; rw [haL, haJ, haI, hcL, hcJ, hcI]; exact hb8
 have HAP : Hid (AP aL aJ) := fun p q h1 _ => by rw [haL] at h1; cases h1
 clear haL haJ haI hcL hcJ hcI
 clear hb8 HB4 HTH
 obtain ⟨m, hm⟩ : ∃ m : Msg, mP r = m := ⟨_, rfl⟩
 rw [hm] at HPM HB HOL HOJ HOI HNS
 obtain ⟨nL, hnL⟩ : ∃ n, m.rk.2.1.length = n := ⟨_, rfl⟩
 obtain ⟨nJ, hnJ⟩ : ∃ n, m.rk.2.2.1.length = n := ⟨_, rfl⟩
 obtain ⟨nI, hnI⟩ : ∃ n, m.rk.2.2.2.length = n := ⟨_, rfl⟩
 clear hm
 have HMR : Hid (∀ W, Below w8.heap.size w8 W → MR W m aL aJ aI) := fun W hb => MR.later ⟨rd_owns (f := stl) (n := 2) (fun _ => rfl) HOL.out, rd_owns (f := stl) (n := 2) (fun _ => rfl) HOJ.out, rd_owns (f := itl) (n := 6) (fun _ => rfl) HOI.out, by have := HNS.out; omega, by have := HNS.out; omega, by have := HNS.out; omega, by have := HNS.out; omega⟩ hb
 have HGD : Hid _ := fun W hb => good_any m aL aJ aI cL cJ cI W (HMR.out W hb)
 unfold mgv at HGD
 have HNN : Hid (m.rk.2.1.length = nL ∧ m.rk.2.2.1.length = nJ ∧ m.rk.2.2.2.length = nI) := ⟨hnL, hnJ, hnI⟩
 simp only [hnL, hnJ, hnI] at HGD HB
 clear hnL hnJ hnI
 have HOK : Hid (okD (tb (bys s)) = (dn (tb (bys s)) c2 && gM m)) := okD_some HPM.out
 have HTM : Hid (tM (tb (bys s)) = m) := sim_M HPM.out
 have c0 : w8.cell? ⟨C, 0, none⟩ = some (.pointer (some ⟨g, 0, none⟩)) := cell_of_row w8 C 0 _ _ _ HB.out.rb.hc
 have hd := Bt.done_any g c2 s w8 HB.out.rb.rr HS.out
 cases hdn : dn (tb (bys s)) c2 with
 | false =>
  rw [hdn] at hd HOK
  clear hdn
  go_wp2_with fail
  refine hd.mono ?_
  rintro q w9 ⟨rfl, hb9⟩
  have HK : Hid (Kept (fun k => k = g) w w9) := (HB.out.later hb9).rb.kp
  clear hd hb9 c0
  go_wp2_with fail
  refine (giveUp_any _).mono ?_
  rintro q wz ⟨rfl, rfl⟩
  go_wp2_with fail
  exact ⟨rfl, HK.out, .inl ⟨by rw [HOK.out]; rfl, rfl⟩⟩
 | true =>
  rw [hdn] at hd HOK
  clear hdn
  go_wp2_with fail
  refine hd.mono ?_
  rintro q w9 ⟨rfl, hb9⟩
  have HB9 : Hid (RE g s w w9 c2 C D E OD 47 (mgl m (.slice aL nL cL) (.slice aJ nJ cJ) (.slice aI nI cI)).toArray) := HB.out.later hb9
  have HLD : Hid (w9.rangeAt E 0 (mgl m (.slice aL nL cL) (.slice aJ nJ cJ) (.slice aI nI cI))) := ra_of HB9.out.he 0 _ rfl
  have hG := HGD.out w9 hb9
  have HB89 : Hid (Below w8.heap.size w8 w9) := hb9
  clear hd hb9 c0
  cases hgm : gM m with
  | false =>
   rw [hgm] at hG HOK
   clear hgm
   go_wp2_with (refine ldM HLD.out Tryz.underlying47 rfl szMg _ rfl rfl rfl ?_)
   refine hG.mono ?_
   rintro q wa ⟨rfl, hba⟩
   have HK : Hid (Kept (fun k => k = g) w wa) := (HB9.out.later hba).rb.kp
   clear hG hba HLD
   go_wp2_with fail
   refine (giveUp_any _).mono ?_
   rintro q wz ⟨rfl, rfl⟩
   go_wp2_with fail
   exact ⟨rfl, HK.out, .inl ⟨by rw [HOK.out]; rfl, rfl⟩⟩
  | true =>
   rw [hgm] at hG HOK
   clear hgm
   go_wp2_with (refine ldM HLD.out Tryz.underlying47 rfl szMg _ rfl rfl rfl ?_)
   refine hG.mono ?_
   rintro q wa ⟨rfl, hba⟩
   have hbA := HB9.out.later hba
   rw [HOD.out] at hbA
   have HBA : Hid (RE g s w wa c2 C D E (.cells (mgl ⟨0, zR, zQ, zP, zD⟩ (.slice none 0 0) (.slice none 0 0) (.slice none 0 0)).toArray 47) 47 (mgl m (.slice aL nL cL) (.slice aJ nJ cJ) (.slice aI nI cI)).toArray) := hbA
   have HLA : Hid (wa.rangeAt E 0 (mgl m (.slice aL nL cL) (.slice aJ nJ cJ) (.slice aI nI cI))) := ra_of hbA.he 0 _ rfl
   have HBW : Hid (Below w8.heap.size w8 wa) := HB89.out.trans (hba.mono HB89.out.size)
   clear hG hba HLD hbA
   go_wp2_with (first | (refine ldM HLA.out Tryz.underlying47 rfl szMg _ rfl rfl rfl ?_) | (refine stW szMg HBA.out.rb.hd rfl (mgl m (.slice aL nL cL) (.slice aJ nJ cJ) (.slice aI nI cI)) rfl rfl rfl _ _ rfl rfl rfl ?_))
   have hbB := HBA.out.setD (mgl m (.slice aL nL cL) (.slice aJ nJ cJ) (.slice aI nI cI)).toArray
   refine bodyPost_ret (res1 (T := 47) (p := 2) rfl _ _ D (mgl m (.slice aL nL cL) (.slice aJ nJ cJ) (.slice aI nI cI)).toArray rfl (run_loadVar_row _ D _ 47 _ _ _ hbB.rb.hd Tryz.underlying47 rfl szMg)) rfl ?_
   have hDE : D < E + 1 := by have := HBA.out.ec; omega
   refine ⟨hbB.rb.kp, .inr ⟨by rw [HOK.out]; rfl, aL, cL, aJ, cJ, aI, cI, ?_⟩⟩
   rw [HTM.out]
   unfold mgv
   rw [HNN.out.1, HNN.out.2.1, HNN.out.2.2]
   have q1 := HOL.out
   have q2 := HOJ.out
   have q3 := HOI.out
   rw [HNN.out.1] at q1
   rw [HNN.out.2.1] at q2
   rw [HNN.out.2.2] at q3
   exact ⟨rfl, owns_wide (owns_row (owns_later q1 HBW.out) hDE) HCW.out, owns_wide (owns_row (owns_later q2 HBW.out) hDE) HCW.out, owns_wide (owns_row (owns_later q3 HBW.out) hDE) HCW.out, HAP.out⟩
set_option maxRecDepth 100000 in
set_option maxHeartbeats 4000000 in
theorem message_3 (g : Nat) (s : ByteArray) (w : World) (h : Rr w g 0 s) (hs : s.size < 1125899906842624) (c1 : Nat) (hn : pn 2 (tb (bys s)) 0 = some (3, c1)) :
  Calls Tryz.prog 22 #[.agg #[.pointer (some ⟨g, 0, none⟩)] ] w fun e w' => RM w w' g (tb (bys s)) e := by
 have hb := RB.new2 h (.cells (mgl ⟨0, zR, zQ, zP, zD⟩ (.slice none 0 0) (.slice none 0 0) (.slice none 0 0)).toArray 47)
 have HS : Hid (s.size < 1125899906842624) := hs
 clear h hs
 go_enter Tryz.func22, Tryz.ntmps22
 go_upto_region 1 with (fail)
 rw [mgz 0]
 obtain ⟨OD, hOD⟩ : ∃ o, o = Obj.cells (mgl ⟨0, zR, zQ, zP, zD⟩ (.slice none 0 0) (.slice none 0 0) (.slice none 0 0)).toArray 47 := ⟨_, rfl⟩
 have HOD : Hid (OD = Obj.cells (mgl ⟨0, zR, zQ, zP, zD⟩ (.slice none 0 0) (.slice none 0 0) (.slice none 0 0)).toArray 47) := hOD
 rw [← hOD] at hb
 rw [← hOD]
 clear hOD
 generalize (w.alloc (.cells #[.pointer (some ⟨g, 0, none⟩)] 81)).alloc OD = w1 at *
 obtain ⟨D, hD⟩ : ∃ D, w.heap.size + 1 = D := ⟨_, rfl⟩
 rw [hD] at hb ⊢
 obtain ⟨C, hC⟩ : ∃ C, w.heap.size = C := ⟨_, rfl⟩
 have HCD : Hid (D ≠ C) := by unfold Hid; omega
 rw [hC] at hb ⊢
 clear hD hC
 have c0 : w1.cell? ⟨C, 0, none⟩ = some (.pointer (some ⟨g, 0, none⟩)) := cell_of_row w1 C 0 _ _ _ hb.hc
 have hp := number_any g s 2 0 w1 hb.rr HS.out (by omega) (by omega)
 have HB : Hid (RB g s w w1 0 C D OD) := hb
 clear hb
 rw [hn] at hp
 have HPK : Hid (pM (tb (bys s)) 0 = pm mD pD (tb (bys s)) c1) := by unfold Hid pM; rw [hn]; rfl
 dsimp only [Option.map] at hp
 clear hn
 go_wp2_with fail
 refine hp.mono ?_
 rintro q w2 ⟨rfl, hr2, hk2⟩
 have hb2 := HB.out.next hr2 hk2
 have HB2 : Hid (RB g s w w2 c1 C D OD) := hb2
 clear hr2 hk2 hp HB c0 hb2
 have HZ : Hid ((w2.alloc (.cells #[.int .i64 0, .int .i64 0, .slice none 0 0, .slice none 0 0, .slice none 0 0, .int .i64 0, .int .i64 0, .int .i64 0, .int .i64 0, .int .i64 0, .int .i64 0, .int .i64 0, .int .i64 0, .int .i64 0, .int .i64 0, .int .i64 0, .int .i64 0, .int .i64 0, .int .i64 0, .int .i64 0, .int .i64 0, .int .i64 0, .int .i64 0, .int .i64 0, .int .i64 0, .string ⟨#[]⟩] 47)).heap[w2.heap.size]? = some (.cells #[.int .i64 0, .int .i64 0, .slice none 0 0, .slice none 0 0, .slice none 0 0, .int .i64 0, .int .i64 0, .int .i64 0, .int .i64 0, .int .i64 0, .int .i64 0, .int .i64 0, .int .i64 0, .int .i64 0, .int .i64 0, .int .i64 0, .int .i64 0, .int .i64 0, .int .i64 0, .int .i64 0, .int .i64 0, .int .i64 0, .int .i64 0, .int .i64 0, .int .i64 0, .string ⟨#[]⟩] 47 (0, 0))) := heap_alloc_last w2 _
 go_upto_region 2 with (refine stW szMg HZ.out rfl (mgl ⟨4, zR, zQ, zP, zD⟩ (.slice none 0 0) (.slice none 0 0) (.slice none 0 0)) rfl rfl rfl _ _ rfl rfl rfl ?_)
 rw [World.setRow_alloc_new]
 clear HZ
 have hb3 := RE.new (T := 47) HB2.out HCD.out (mgl ⟨4, zR, zQ, zP, zD⟩ (.slice none 0 0) (.slice none 0 0) (.slice none 0 0)).toArray
 have HCW : Hid (w.heap.size ≤ w2.heap.size + 1) := by have := HB2.out.kp.size; unfold Hid; omega
 generalize w2.alloc (.cells (mgl ⟨4, zR, zQ, zP, zD⟩ (.slice none 0 0) (.slice none 0 0) (.slice none 0 0)).toArray 47) = w3 at *
 generalize w2.heap.size = E at *
 have ck : w3.cell? ⟨E, 0, none⟩ = some (.int .i64 4) := (cell_of_row w3 E 0 _ _ _ hb3.he).trans rfl
 have c0 : w3.cell? ⟨C, 0, none⟩ = some (.pointer (some ⟨g, 0, none⟩)) := cell_of_row w3 C 0 _ _ _ hb3.rb.hc
 have hp := sealed_or g s c1 w3 hb3.rb.rr HS.out
 have HB3 : Hid (RE g s w w3 c1 C D E OD 47 (mgl ⟨4, zR, zQ, zP, zD⟩ (.slice none 0 0) (.slice none 0 0) (.slice none 0 0)).toArray) := hb3
 clear hb3 HB2
 go_wp2_with fail
 refine hp.mono ?_
 rintro q w4 hro
 rcases hro with ⟨hn, rfl, hk4⟩ | ⟨r, c2, hn, rfl, hr4, hk4⟩
 ·have HK : Hid (Kept (fun k => k = g) w w4) := HB3.out.rb.gone hk4
  have HN : Hid (okD (tb (bys s)) = false) := okD_none (by rw [HPK.out]; exact pm_no hn)
  clear hk4 hn hp
  go_wp2_with fail
  exact ⟨rfl, HK.out, .inl ⟨HN.out, rfl⟩⟩
 have HPM : Hid (pM (tb (bys s)) 0 = some (mD r, c2)) := by unfold Hid; rw [HPK.out]; exact pm_yes hn
 have hb4 := HB3.out.next hr4 hk4
 have HB4 : Hid (RE g s w w4 c2 C D E OD 47 (mgl ⟨4, zR, zQ, zP, zD⟩ (.slice none 0 0) (.slice none 0 0) (.slice none 0 0)).toArray) := hb4
 have HSR : Hid (r.2.2.size < 2048) := small_D hn
 have HTH : Hid (w4.there E 22 4) := th_of hb4.he 22 4 (by simp [mgl_len])
 clear hr4 hk4 hn hp HB3 c0 ck hb4 HPK
 go_upto_region 11 with (refine stM (cs := sdl r) HTH.out szSd rfl rfl _ _ rfl rfl rfl ?_)
 have hb8 := RE.upd (sdl r) 22 HB4.out
 rw [updD] at hb8
 generalize w4.setCells E 22 (sdl r) = w8 at *
 obtain ⟨aL, haL⟩ : ∃ a : Option Addr, a = none := ⟨_, rfl⟩
 obtain ⟨aJ, haJ⟩ : ∃ a : Option Addr, a = none := ⟨_, rfl⟩
 obtain ⟨aI, haI⟩ : ∃ a : Option Addr, a = none := ⟨_, rfl⟩
 obtain ⟨cL, hcL⟩ : ∃ a : Nat, a = 0 := ⟨_, rfl⟩
 obtain ⟨cJ, hcJ⟩ : ∃ a : Nat, a = 0 := ⟨_, rfl⟩
 obtain ⟨cI, hcI⟩ : ∃ a : Nat, a = 0 := ⟨_, rfl⟩
 have HOL : Hid (w8.ownsRow (E + 1) 108 2 (.slice aL (mD r).rk.2.1.length cL) (mD r).rk.2.1.length ((mD r).rk.2.1.flatMap stl)) := by unfold Hid; rw [haL, hcL]; exact World.ownsRow_nil _ _ _ _
 have HOJ : Hid (w8.ownsRow (E + 1) 108 2 (.slice aJ (mD r).rk.2.2.1.length cJ) (mD r).rk.2.2.1.length ((mD r).rk.2.2.1.flatMap stl)) := by unfold Hid; rw [haJ, hcJ]; exact World.ownsRow_nil _ _ _ _
 have HOI : Hid (w8.ownsRow (E + 1) 112 6 (.slice aI (mD r).rk.2.2.2.length cI) (mD r).rk.2.2.2.length ((mD r).rk.2.2.2.flatMap itl)) := by unfold Hid; rw [haI, hcI]; exact World.ownsRow_nil _ _ _ _
 have HNS : Hid ((mD r).rk.2.1.length < 2048 ∧ (mD r).rk.2.2.1.length < 2048 ∧ (mD r).rk.2.2.2.length < 2048 ∧ (mD r).sd.2.2.size < 2048) := ⟨by show (0 : Nat) < 2048; omega, by show (0 : Nat) < 2048; omega, by show (0 : Nat) < 2048; omega, HSR.out⟩
 have HB : Hid (RE g s w w8 c2 C D E OD 47 (mgl (mD r) (.slice aL (mD r).rk.2.1.length cL) (.slice aJ (mD r).rk.2.2.1.length cJ) (.slice aI (mD r).rk.2.2.2.length cI)).toArray) := by unfold Hid; rw [haL, haJ, haI, hcL, hcJ, hcI]; exact hb8
 have HAP : Hid (AP aL aJ) := fun p q h1 _ => by rw [haL] at h1; cases h1
 clear haL haJ haI hcL hcJ hcI
 clear hb8 HB4 HTH
 obtain ⟨m, hm⟩ : ∃ m : Msg, mD r = m := ⟨_, rfl⟩
 rw [hm] at HPM HB HOL HOJ HOI HNS
 obtain ⟨nL, hnL⟩ : ∃ n, m.rk.2.1.length = n := ⟨_, rfl⟩
 obtain ⟨nJ, hnJ⟩ : ∃ n, m.rk.2.2.1.length = n := ⟨_, rfl⟩
 obtain ⟨nI, hnI⟩ : ∃ n, m.rk.2.2.2.length = n := ⟨_, rfl⟩
 clear hm
 have HMR : Hid (∀ W, Below w8.heap.size w8 W → MR W m aL aJ aI) := fun W hb => MR.later ⟨rd_owns (f := stl) (n := 2) (fun _ => rfl) HOL.out, rd_owns (f := stl) (n := 2) (fun _ => rfl) HOJ.out, rd_owns (f := itl) (n := 6) (fun _ => rfl) HOI.out, by have := HNS.out; omega, by have := HNS.out; omega, by have := HNS.out; omega, by have := HNS.out; omega⟩ hb
 have HGD : Hid _ := fun W hb => good_any m aL aJ aI cL cJ cI W (HMR.out W hb)
 unfold mgv at HGD
 have HNN : Hid (m.rk.2.1.length = nL ∧ m.rk.2.2.1.length = nJ ∧ m.rk.2.2.2.length = nI) := ⟨hnL, hnJ, hnI⟩
 simp only [hnL, hnJ, hnI] at HGD HB
 clear hnL hnJ hnI
 have HOK : Hid (okD (tb (bys s)) = (dn (tb (bys s)) c2 && gM m)) := okD_some HPM.out
 have HTM : Hid (tM (tb (bys s)) = m) := sim_M HPM.out
 have c0 : w8.cell? ⟨C, 0, none⟩ = some (.pointer (some ⟨g, 0, none⟩)) := cell_of_row w8 C 0 _ _ _ HB.out.rb.hc
 have hd := Bt.done_any g c2 s w8 HB.out.rb.rr HS.out
 cases hdn : dn (tb (bys s)) c2 with
 | false =>
  rw [hdn] at hd HOK
  clear hdn
  go_wp2_with fail
  refine hd.mono ?_
  rintro q w9 ⟨rfl, hb9⟩
  have HK : Hid (Kept (fun k => k = g) w w9) := (HB.out.later hb9).rb.kp
  clear hd hb9 c0
  go_wp2_with fail
  refine (giveUp_any _).mono ?_
  rintro q wz ⟨rfl, rfl⟩
  go_wp2_with fail
  exact ⟨rfl, HK.out, .inl ⟨by rw [HOK.out]; rfl, rfl⟩⟩
 | true =>
  rw [hdn] at hd HOK
  clear hdn
  go_wp2_with fail
  refine hd.mono ?_
  rintro q w9 ⟨rfl, hb9⟩
  have HB9 : Hid (RE g s w w9 c2 C D E OD 47 (mgl m (.slice aL nL cL) (.slice aJ nJ cJ) (.slice aI nI cI)).toArray) := HB.out.later hb9
  have HLD : Hid (w9.rangeAt E 0 (mgl m (.slice aL nL cL) (.slice aJ nJ cJ) (.slice aI nI cI))) := ra_of HB9.out.he 0 _ rfl
  have hG := HGD.out w9 hb9
  have HB89 : Hid (Below w8.heap.size w8 w9) := hb9
  clear hd hb9 c0
  cases hgm : gM m with
  | false =>
   rw [hgm] at hG HOK
   clear hgm
   go_wp2_with (refine ldM HLD.out Tryz.underlying47 rfl szMg _ rfl rfl rfl ?_)
   refine hG.mono ?_
   rintro q wa ⟨rfl, hba⟩
   have HK : Hid (Kept (fun k => k = g) w wa) := (HB9.out.later hba).rb.kp
   clear hG hba HLD
   go_wp2_with fail
   refine (giveUp_any _).mono ?_
   rintro q wz ⟨rfl, rfl⟩
   go_wp2_with fail
   exact ⟨rfl, HK.out, .inl ⟨by rw [HOK.out]; rfl, rfl⟩⟩
  | true =>
   rw [hgm] at hG HOK
   clear hgm
   go_wp2_with (refine ldM HLD.out Tryz.underlying47 rfl szMg _ rfl rfl rfl ?_)
   refine hG.mono ?_
   rintro q wa ⟨rfl, hba⟩
   have hbA := HB9.out.later hba
   rw [HOD.out] at hbA
   have HBA : Hid (RE g s w wa c2 C D E (.cells (mgl ⟨0, zR, zQ, zP, zD⟩ (.slice none 0 0) (.slice none 0 0) (.slice none 0 0)).toArray 47) 47 (mgl m (.slice aL nL cL) (.slice aJ nJ cJ) (.slice aI nI cI)).toArray) := hbA
   have HLA : Hid (wa.rangeAt E 0 (mgl m (.slice aL nL cL) (.slice aJ nJ cJ) (.slice aI nI cI))) := ra_of hbA.he 0 _ rfl
   have HBW : Hid (Below w8.heap.size w8 wa) := HB89.out.trans (hba.mono HB89.out.size)
   clear hG hba HLD hbA
   go_wp2_with (first | (refine ldM HLA.out Tryz.underlying47 rfl szMg _ rfl rfl rfl ?_) | (refine stW szMg HBA.out.rb.hd rfl (mgl m (.slice aL nL cL) (.slice aJ nJ cJ) (.slice aI nI cI)) rfl rfl rfl _ _ rfl rfl rfl ?_))
   have hbB := HBA.out.setD (mgl m (.slice aL nL cL) (.slice aJ nJ cJ) (.slice aI nI cI)).toArray
   refine bodyPost_ret (res1 (T := 47) (p := 2) rfl _ _ D (mgl m (.slice aL nL cL) (.slice aJ nJ cJ) (.slice aI nI cI)).toArray rfl (run_loadVar_row _ D _ 47 _ _ _ hbB.rb.hd Tryz.underlying47 rfl szMg)) rfl ?_
   have hDE : D < E + 1 := by have := HBA.out.ec; omega
   refine ⟨hbB.rb.kp, .inr ⟨by rw [HOK.out]; rfl, aL, cL, aJ, cJ, aI, cI, ?_⟩⟩
   rw [HTM.out]
   unfold mgv
   rw [HNN.out.1, HNN.out.2.1, HNN.out.2.2]
   have q1 := HOL.out
   have q2 := HOJ.out
   have q3 := HOI.out
   rw [HNN.out.1] at q1
   rw [HNN.out.2.1] at q2
   rw [HNN.out.2.2] at q3
   exact ⟨rfl, owns_wide (owns_row (owns_later q1 HBW.out) hDE) HCW.out, owns_wide (owns_row (owns_later q2 HBW.out) hDE) HCW.out, owns_wide (owns_row (owns_later q3 HBW.out) hDE) HCW.out, HAP.out⟩
theorem message_any (g : Nat) (s : ByteArray) (w : World) (h : Rr w g 0 s) (hs : s.size < 1125899906842624) :
  Calls Tryz.prog 22 #[.agg #[.pointer (some ⟨g, 0, none⟩)] ] w fun e w' => RM w w' g (tb (bys s)) e := by
 cases hn : pn 2 (tb (bys s)) 0 with
 | none => exact message_no g s w h hs hn
 | some p =>
  obtain ⟨v, c1⟩ := p
  have hv4 : v < 4 := pn_lt hn
  have hv : v = 0 ∨ v = 1 ∨ v = 2 ∨ v = 3 := by omega
  rcases hv with rfl | rfl | rfl | rfl
  ·exact message_0 g s w h hs c1 hn
  ·exact message_1 g s w h hs c1 hn
  ·exact message_2 g s w h hs c1 hn
  ·exact message_3 g s w h hs c1 hn
end Go.Proofs.YtdkfifnhmfbagaaGreatDoor.Wi
