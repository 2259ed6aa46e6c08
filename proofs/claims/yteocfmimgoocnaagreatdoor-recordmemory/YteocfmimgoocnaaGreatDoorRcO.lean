/- Contract of the document's answer: Of. -/
import Derived.Test.YteocfmimgoocnaaGreatDoorRcJ3
import Derived.Test.YteocfmimgoocnaaGreatDoorPlH
namespace Go.Proofs.YteocfmimgoocnaaGreatDoor.Rc
open Go.RowKit Go.Maps Go.Great
open Rs (RdI cell_later ps evl Tb i64s owns_later owns_slice owns_type infoInt)
set_option linter.unusedVariables false
set_option linter.unusedSimpArgs false

def ROfA (w w' : World) (t : Tr) (aL : Option Addr) (L J : List Int) (r : Ending) : Prop := ∃ a4 k4 v5, r = .returned (.tuple #[.agg #[.int .i64 (pnT t L J).ep, .int .i64 (pnT t L J).fr, .slice a4 (oLv t L J).length k4, v5], .int .i64 (plE t L J)]) ∧ (a4 = aL ∨ a4 = none) ∧ RdI w' a4 (oLv t L J) ∧ w'.ownsRow w.heap.size 62 2 v5 (pnJ t L J).length (ps (pnJ t L J))
set_option maxRecDepth 100000 in
set_option maxHeartbeats 2000000 in
theorem rOf_any (t : Tr) (aL aJ : Option Addr) (cL cJ : Nat) (L J : List Int) (w : World) (lL : L.length < 1152921504606846976) (lJ : J.length < 1152921504606846976) (hL : RdI w aL L) (hJ : RdI w aJ J) :
    Calls Tryz.prog 9 #[.agg (tcs t), .agg #[.slice aL L.length cL, .slice aJ J.length cJ] ] w fun e w' => ROfA w w' t aL L J e ∧ Below w.heap.size w w' := by
  have hX := (TB.new w t aL aJ L.length J.length cL cJ).later (below_alloc _ (.cells #[.int .i64 0, .int .i64 0, .slice none 0 0, .slice none 0 0] 38))
  have hE0 := RcAt.new ((w.alloc (.cells (tcs t) 31)).alloc (.cells #[.slice aL L.length cL, .slice aJ J.length cJ] 34)) #[.int .i64 0, .int .i64 0, .slice none 0 0, .slice none 0 0]
  rw [World.size_alloc, World.size_alloc] at hE0
  obtain ⟨ct, hct⟩ : ∃ c, tcs t = c := ⟨_, rfl⟩
  have HT : Hid (tcs t = ct) := hct
  clear hct
  go_enter Tryz.func9, Tryz.ntmps9
  go_upto_region 1 with (fail)
  generalize ((w.alloc (.cells (tcs t) 31)).alloc (.cells #[.slice aL L.length cL, .slice aJ J.length cJ] 34)).alloc (.cells #[.int .i64 0, .int .i64 0, .slice none 0 0, .slice none 0 0] 38) = w1 at *
  rw [HT.out]
  obtain ⟨E, hE⟩ : ∃ D, w.heap.size + 1 + 1 = D := ⟨_, rfl⟩
  obtain ⟨C, hC⟩ : ∃ D, w.heap.size + 1 = D := ⟨_, rfl⟩
  obtain ⟨B, hB⟩ : ∃ D, w.heap.size = D := ⟨_, rfl⟩
  try rw [show w.heap.size + 2 = w.heap.size + 1 + 1 from rfl]
  have HGE : Hid (w.heap.size ≤ E) := by unfold Hid; omega
  rw [hE] at hE0 ⊢
  rw [hC, hB] at hX ⊢
  clear hE hC hB
  have h1 := rNext_any t aL aJ cL cJ L J w1 lL lJ (hL.later hX.bel) (hJ.later hX.bel)
  unfold NextA at h1
  rw [HT.out] at h1
  obtain ⟨n, hn⟩ : ∃ n, pnT t L J = n := ⟨_, rfl⟩
  obtain ⟨cn, hcn⟩ : ∃ c, tcs n = c := ⟨_, rfl⟩
  have HC : Hid (tcs n = cn) := hcn
  have HN : Hid (pnT t L J = n) := hn
  simp only [hn, hcn] at h1
  obtain ⟨e, he⟩ : ∃ e, plE t L J = e := ⟨_, rfl⟩
  have HE : Hid (plE t L J = e) := he
  simp only [he] at h1
  clear he hn
  have hT1 := hX.tr
  obtain ⟨d0, d1⟩ := hX.bt.cells
  go_wp2_with (refine rdT hT1 HT.out _ rfl rfl rfl ?_)
  refine h1.mono ?_
  rintro r w2 ⟨⟨vl, vj, vi, rfl, hNP⟩, hb2⟩
  have HW1 : Hid (w.heap.size ≤ w1.heap.size) := hX.bel.size
  have HB2 : Hid (Below w.heap.size w w2) := hX.bel.trans (hb2.mono hX.bel.size)
  have hE2 := hE0.later hb2
  have hX2 := hX.later hb2
  have g2 := hNP.join
  obtain ⟨a1, k1, rfl⟩ := owns_slice hNP.left
  obtain ⟨a2, k2, rfl⟩ := owns_slice hNP.join
  obtain ⟨a3, k3, rfl⟩ := owns_slice hNP.item
  obtain ⟨t1, t2, W, hW, tT, tR, tB⟩ := two_boxes w2 n cn #[.int .i64 (pnP t L J), .slice a1 (pnL t L J).length k1, .slice a2 (pnJ t L J).length k2, .slice a3 (pnI t L J).length k3] hcn
  have hE3 := hE2.later tB
  have hX3 := hX2.later tB
  have HBW : Hid (Below w.heap.size w W) := HB2.out.trans (tB.mono HB2.out.size)
  have HJN : Hid (W.ownsRow w.heap.size 62 2 (.slice a2 (pnJ t L J).length k2) (pnJ t L J).length (ps (pnJ t L J))) := Rs.owns_wide (owns_later g2 tB) HW1.out
  clear h1 hX hT1 hb2 d0 d1 hNP hcn tB hE0 hE2 hX2 g2
  go_upto_region 2 with (first | (show wpList _ _ _ ({ dst := _, op := Op.store 31 _ _, type := _, pos := _, after := _, guard := _ } :: _) _ _; refine stTc t1 HC.out rfl _ _ rfl rfl rfl ?_) | (show wpList _ _ _ ({ dst := _, op := Op.store 45 _ _, type := _, pos := _, after := _, guard := _ } :: _) _ _; refine stRw infoRk (cs := rkz) rkz_size t2 _ rfl (rk_one _ _ _ _ _ _ _ _ _ _) rfl _ _ rfl rfl rfl ?_))
  clear t1 t2 hW
  obtain ⟨G, hG⟩ : ∃ A, w2.heap.size + 1 = A := ⟨_, rfl⟩
  rw [hG] at tR ⊢
  clear hG
  generalize w2.heap.size = N at *
  by_cases he0 : e = 0
  · subst he0
    have HOL : Hid (oLv t L J = L) := by unfold Hid oLv; rw [if_pos HE.out]
    obtain ⟨c0, c1⟩ := tT.cells
    obtain ⟨r0, r1, r2, r3⟩ := RkCells tR
    obtain ⟨d0, d1⟩ := hX3.bt.cells
    have HRL : Hid (RdI W aL L) := hL.later hX3.bel
    clear hX3 tT tR
    go_wp2_with (show wpList _ _ _ ({ dst := _, op := Op.store 38 _ _, type := _, pos := _, after := _, guard := _ } :: _) _ _; refine stRw infoRc (cs := rz) rfl hE3 #[.int .i64 n.ep, .int .i64 n.fr, .slice aL L.length cL, .slice a2 (pnJ t L J).length k2] rfl (rc_one _ _ _ _ _ _ _ _) rfl _ _ rfl rfl rfl ?_)
    refine bodyPost_ret (results_rc (p := 4) (t := 5) rfl _ _ E _ rfl (Rt.heap_setRow_same hE3 _) rfl) rfl ?_
    have hb := Rt.setRow_below HGE.out HBW.out #[.int .i64 n.ep, .int .i64 n.fr, .slice aL L.length cL, .slice a2 (pnJ t L J).length k2]
    refine ⟨⟨aL, cL, _, ?_, .inl rfl, by rw [HOL.out]; exact hL.later hb, owns_type HJN.out hE3 (by decide) _⟩, hb⟩
    rw [HN.out, HE.out, HOL.out]
    rfl
  · have hd2 : (e != 0) = true := by simpa using he0
    have HNE : Hid (e ≠ 0) := he0
    clear he0 hX3 tT tR
    go_wp2_with (show wpList _ _ _ ({ dst := _, op := Op.store 38 _ _, type := _, pos := _, after := _, guard := _ } :: _) _ _; refine stRw infoRc (cs := rz) rfl hE3 rz rfl rz_one rfl _ _ rfl rfl rfl ?_)
    refine bodyPost_ret (results_rc (p := 4) (t := 5) rfl _ _ E rz rfl (Rt.heap_setRow_same hE3 _) rfl) rfl ?_
    have hb := Rt.setRow_below HGE.out HBW.out rz
    have ho : oLv t L J = [] := by unfold oLv; rw [HE.out, if_neg HNE.out]
    have hj : pnJ t L J = [] := by unfold pnJ; rw [HE.out, if_neg HNE.out]
    have hp : pnT t L J = tz 0 := by unfold pnT; rw [HE.out, if_neg HNE.out]
    refine ⟨⟨none, 0, .slice none 0 0, ?_, .inr rfl, by rw [ho]; exact Rs.RdI.nil _ _, by rw [hj]; exact World.ownsRow_nil _ _ _ _⟩, hb⟩
    rw [ho, hp, HE.out]
    rfl
end Go.Proofs.YteocfmimgoocnaaGreatDoor.Rc
