/- RcM, RcN, joined. -/
import Derived.Test.YteocfmimgoocnaaGreatDoorRcL
import Derived.Test.YteocfmimgoocnaaGreatDoorPlH
import Derived.Test.YteocfmimgoocnaaGreatDoorPlJ5
import Derived.Test.YteocfmimgoocnaaGreatDoorRcJ3
/- Contracts of the document's answers: Of, Play. -/
namespace Go.Proofs.YteocfmimgoocnaaGreatDoor.Rc
open Go.RowKit Go.Maps Go.Great
open Rs (RdI cell_later ps evl Tb i64s owns_later owns_slice owns_type infoInt)
set_option linter.unusedVariables false
set_option linter.unusedSimpArgs false

def ROfA (w w' : World) (t : Tr) (aL : Option Addr) (L J : List Int) (r : Ending) : Prop := ∃ a4 k4 v5, r = .returned (.tuple #[.agg #[.int .i64 (pnT t L J).ep, .int .i64 (pnT t L J).fr, .slice a4 (oLv t L J).length k4, v5], .int .i64 (plE t L J)]) ∧ (a4 = aL ∨ a4 = none) ∧ RdI w' a4 (oLv t L J) ∧ w'.ownsRow w.heap.size 62 2 v5 (pnJ t L J).length (ps (pnJ t L J))
set_option maxRecDepth 100000 in
set_option maxHeartbeats 2000000 in
theorem rOf_any (t : Tr) (aL aJ : Option Addr) (cL cJ : Nat) (L J : List Int) (w : World) (lL : L.length < 1152921504606846976) (lJ : J.length < 1152921504606846976) (hL : RdI w aL L) (hJ : RdI w aJ J) :
    Calls Tryz.prog 9 #[.agg (tcs t), .agg #[.slice aL L.length cL, .slice aJ J.length cJ] ] w fun e w' => ROfA w w' t aL L J e ∧ Below w.heap.size w w' := by
  have hX := (TB.new w t aL aJ L.length J.length cL cJ).later (below_alloc _ (.cells #[.int .i64 0, .int .i64 0, .slice none 0 0, .slice none 0 0] 38))
  have hE0 := RcAt.new ((w.alloc (.cells (tcs t) 31)).alloc (.cells #[.slice aL L.length cL, .slice aJ J.length cJ] 34)) #[.int .i64 0, .int .i64 0, .slice none 0 0, .slice none 0 0]
  rw [World.size_alloc, World.size_alloc] at hE0
  obtain ⟨ct, hct⟩ : ∃ c, tcs t = c := ⟨_, rfl⟩
  have HT : Hid (tcs t = ct) := hct
  clear hct
  go_enter Tryz.func9, Tryz.ntmps9
  go_upto_region 1 with (fail)
  generalize ((w.alloc (.cells (tcs t) 31)).alloc (.cells #[.slice aL L.length cL, .slice aJ J.length cJ] 34)).alloc (.cells #[.int .i64 0, .int .i64 0, .slice none 0 0, .slice none 0 0] 38) = w1 at *
  rw [HT.out]
  obtain ⟨E, hE⟩ : ∃ D, w.heap.size + 1 + 1 = D := ⟨_, rfl⟩
  obtain ⟨C, hC⟩ : ∃ D, w.heap.size + 1 = D := ⟨_, rfl⟩
  obtain ⟨B, hB⟩ : ∃ D, w.heap.size = D := ⟨_, rfl⟩
  try rw [show w.heap.size + 2 = w.heap.size + 1 + 1 from rfl]
  have HGE : Hid (w.heap.size ≤ E) := by unfold Hid; omega
  rw [hE] at hE0 ⊢
  rw [hC, hB] at hX ⊢
  clear hE hC hB
  have h1 := rNext_any t aL aJ cL cJ L J w1 lL lJ (hL.later hX.bel) (hJ.later hX.bel)
  unfold NextA at h1
  rw [HT.out] at h1
  obtain ⟨n, hn⟩ : ∃ n, pnT t L J = n := ⟨_, rfl⟩
  obtain ⟨cn, hcn⟩ : ∃ c, tcs n = c := ⟨_, rfl⟩
  have HC : Hid (tcs n = cn) := hcn
  have HN : Hid (pnT t L J = n) := hn
  simp only [hn, hcn] at h1
  obtain ⟨e, he⟩ : ∃ e, plE t L J = e := ⟨_, rfl⟩
  have HE : Hid (plE t L J = e) := he
  simp only [he] at h1
  clear he hn
  have hT1 := hX.tr
  obtain ⟨d0, d1⟩ := hX.bt.cells
  go_wp2_with (refine rdT hT1 HT.out _ rfl rfl rfl ?_)
  refine h1.mono ?_
  rintro r w2 ⟨⟨vl, vj, vi, rfl, hNP⟩, hb2⟩
  have HW1 : Hid (w.heap.size ≤ w1.heap.size) := hX.bel.size
  have HB2 : Hid (Below w.heap.size w w2) := hX.bel.trans (hb2.mono hX.bel.size)
  have hE2 := hE0.later hb2
  have hX2 := hX.later hb2
  have g2 := hNP.join
  obtain ⟨a1, k1, rfl⟩ := owns_slice hNP.left
  obtain ⟨a2, k2, rfl⟩ := owns_slice hNP.join
  obtain ⟨a3, k3, rfl⟩ := owns_slice hNP.item
  obtain ⟨t1, t2, W, hW, tT, tR, tB⟩ := two_boxes w2 n cn #[.int .i64 (pnP t L J), .slice a1 (pnL t L J).length k1, .slice a2 (pnJ t L J).length k2, .slice a3 (pnI t L J).length k3] hcn
  have hE3 := hE2.later tB
  have hX3 := hX2.later tB
  have HBW : Hid (Below w.heap.size w W) := HB2.out.trans (tB.mono HB2.out.size)
  have HJN : Hid (W.ownsRow w.heap.size 62 2 (.slice a2 (pnJ t L J).length k2) (pnJ t L J).length (ps (pnJ t L J))) := Rs.owns_wide (owns_later g2 tB) HW1.out
  clear h1 hX hT1 hb2 d0 d1 hNP hcn tB hE0 hE2 hX2 g2
  go_upto_region 2 with (first | (show wpList _ _ _ ({ dst := _, op := Op.store 31 _ _, type := _, pos := _, after := _, guard := _ } :: _) _ _; refine stTc t1 HC.out rfl _ _ rfl rfl rfl ?_) | (show wpList _ _ _ ({ dst := _, op := Op.store 45 _ _, type := _, pos := _, after := _, guard := _ } :: _) _ _; refine stRw infoRk (cs := rkz) rkz_size t2 _ rfl (rk_one _ _ _ _ _ _ _ _ _ _) rfl _ _ rfl rfl rfl ?_))
  clear t1 t2 hW
  obtain ⟨G, hG⟩ : ∃ A, w2.heap.size + 1 = A := ⟨_, rfl⟩
  rw [hG] at tR ⊢
  clear hG
  generalize w2.heap.size = N at *
  by_cases he0 : e = 0
  · subst he0
    have HOL : Hid (oLv t L J = L) := by unfold Hid oLv; rw [if_pos HE.out]
    obtain ⟨c0, c1⟩ := tT.cells
    obtain ⟨r0, r1, r2, r3⟩ := RkCells tR
    obtain ⟨d0, d1⟩ := hX3.bt.cells
    have HRL : Hid (RdI W aL L) := hL.later hX3.bel
    clear hX3 tT tR
    go_wp2_with (show wpList _ _ _ ({ dst := _, op := Op.store 38 _ _, type := _, pos := _, after := _, guard := _ } :: _) _ _; refine stRw infoRc (cs := rz) rfl hE3 #[.int .i64 n.ep, .int .i64 n.fr, .slice aL L.length cL, .slice a2 (pnJ t L J).length k2] rfl (rc_one _ _ _ _ _ _ _ _) rfl _ _ rfl rfl rfl ?_)
    refine bodyPost_ret (results_rc (p := 4) (t := 5) rfl _ _ E _ rfl (Rt.heap_setRow_same hE3 _) rfl) rfl ?_
    have hb := Rt.setRow_below HGE.out HBW.out #[.int .i64 n.ep, .int .i64 n.fr, .slice aL L.length cL, .slice a2 (pnJ t L J).length k2]
    refine ⟨⟨aL, cL, _, ?_, .inl rfl, by rw [HOL.out]; exact hL.later hb, owns_type HJN.out hE3 (by decide) _⟩, hb⟩
    rw [HN.out, HE.out, HOL.out]
    rfl
  · have hd2 : (e != 0) = true := by simpa using he0
    have HNE : Hid (e ≠ 0) := he0
    clear he0 hX3 tT tR
    go_wp2_with (show wpList _ _ _ ({ dst := _, op := Op.store 38 _ _, type := _, pos := _, after := _, guard := _ } :: _) _ _; refine stRw infoRc (cs := rz) rfl hE3 rz rfl rz_one rfl _ _ rfl rfl rfl ?_)
    refine bodyPost_ret (results_rc (p := 4) (t := 5) rfl _ _ E rz rfl (Rt.heap_setRow_same hE3 _) rfl) rfl ?_
    have hb := Rt.setRow_below HGE.out HBW.out rz
    have ho : oLv t L J = [] := by unfold oLv; rw [HE.out, if_neg HNE.out]
    have hj : pnJ t L J = [] := by unfold pnJ; rw [HE.out, if_neg HNE.out]
    have hp : pnT t L J = tz 0 := by unfold pnT; rw [HE.out, if_neg HNE.out]
    refine ⟨⟨none, 0, .slice none 0 0, ?_, .inr rfl, by rw [ho]; exact Rs.RdI.nil _ _, by rw [hj]; exact World.ownsRow_nil _ _ _ _⟩, hb⟩
    rw [ho, hp, HE.out]
    rfl
theorem PX.blocks {w X Y : World} {s0 B C K D : Nat} {t : Tr} {rc : Array Value} (h : PX w X s0 B C K D t rc) (hk : ∀ k, k < s0 → Y.heap[k]? = X.heap[k]?) (hb : Below w.heap.size w Y) (hs : s0 ≤ Y.heap.size) : PX w Y s0 B C K D t rc :=
  ⟨(hk _ h.lt.1).trans h.tr, (hk _ h.lt.2.1).trans h.rc, (hk _ h.lt.2.2.1).trans h.ze, (hk _ h.lt.2.2.2).trans h.rk, hb, h.gK, h.gD, h.gs, h.lt, hs⟩
theorem er_ne31 (f : Nat → Rs.En) (b : Bool) (L : List Int) (x : Int) : Rs.er f b L x ≠ 31 := by
  unfold Rs.er
  repeat' split
  all_goals decide
theorem fr_ne31 : ∀ (f : Nat → Rs.En) (b : Bool) (L J : List Int), Rs.fr' f b L J ≠ 31 := by
  intro f b L J
  induction J generalizing L with
  | nil => unfold Rs.fr'; decide
  | cons x r ih => unfold Rs.fr'; split <;> (try split) <;> (try split) <;> first | decide | exact ih _ | exact er_ne31 _ _ _ _
theorem plE_31 {t : Tr} {L J : List Int} (h : tck t = true) : plE t L J ≠ 31 := by
  have hc := (tck_right h).ro
  unfold plE
  rw [if_pos h]
  split
  · decide
  · split
    · split <;> decide
    · unfold Rs.ft
      rw [if_pos hc]
      split
      · split
        · split <;> decide
        · exact fr_ne31 _ _ _ _
      · exact fr_ne31 _ _ _ _
set_option maxRecDepth 100000 in
set_option maxHeartbeats 4000000 in
theorem rPlay_any (t : Tr) (e f : Int) (aL aJ : Option Addr) (cL cJ : Nat) (L : List Int) (J : List (Int × Int)) (w : World) (rL : RdI w aL L) (rJ : RdP w aJ J) (lL : L.length * 8 ≤ 140737488351232) (lJ : J.length * 16 ≤ 140737488351232) :
    Calls Tryz.prog 14 #[.agg (tcs t), .agg #[.int .i64 e, .int .i64 f, .slice aL L.length cL, .slice aJ J.length cJ] ] w fun r w' => PlayA w w' t e f L J r ∧ Below w.heap.size w w' := by
  have HRL : Hid (RdI w aL L ∧ RdP w aJ J) := ⟨rL, rJ⟩
  have HOF : Hid (∀ (X : World) (aW : Option Addr) (cW : Nat), Below w.heap.size w X → RdI X aW (ws J) → Calls Tryz.prog 9 #[.agg (tcs t), .agg #[.slice aL L.length cL, .slice aW J.length cW] ] X fun r Y => ROfA X Y t aL L (ws J) r ∧ Below X.heap.size X Y) := fun X aW cW hX hW => by
    have h := rOf_any t aL aW cL cW L (ws J) X (by omega) (by rw [ws_length]; omega) (rL.later hX) hW
    rw [ws_length] at h
    exact h
  have HNX : Hid (∀ (X : World) (aW : Option Addr) (cW : Nat), Below w.heap.size w X → RdI X aW (ws J) → Calls Tryz.prog 12 #[.agg (tcs t), .agg #[.slice aL L.length cL, .slice aW J.length cW] ] X fun r Y => NextA X Y t L (ws J) r ∧ Below X.heap.size X Y) := fun X aW cW hX hW => by
    have h := rNext_any t aL aW cL cW L (ws J) X (by omega) (by rw [ws_length]; omega) (rL.later hX) hW
    rw [ws_length] at h
    exact h
  have HLJ : Hid ((pnJ t L (ws J)).length ≤ 8796093022208) := by
    unfold Hid pnJ
    split
    · rename_i h
      unfold jns
      rw [Rs.adl_length]
      have := (plE_stp h).fit.lenJ
      omega
    · simp
  have HP31 : Hid (plE t L (ws J) = 31 → plyE t e f L J = 31) := fun h => by
    cases htk : tck t with
    | false => unfold plyE; rw [htk]; rfl
    | true => exact absurd h (plE_31 htk)
  have HPN : Hid (plE t L (ws J) ≠ 31 → plE t L (ws J) ≠ 0 → plyE t e f L J = 12) := fun h h2 => by
    cases htk : tck t with
    | false => exact absurd (plE_bad htk) h
    | true => unfold plyE; rw [htk, if_pos rfl, if_neg h2]
  have HPE : Hid (plE t L (ws J) = 0 → (sam (pnT t L (ws J)).ep (pnT t L (ws J)).fr L (pnJ t L (ws J)) e f L J = false → plyE t e f L J = 12) ∧ (sam (pnT t L (ws J)).ep (pnT t L (ws J)).fr L (pnJ t L (ws J)) e f L J = true → plyE t e f L J = 0)) := fun h0 => by
    have htk := (plE_stp h0).ok
    exact ⟨fun h => by unfold plyE; rw [htk, if_pos rfl, if_pos h0, h]; rfl, fun h => by unfold plyE; rw [htk, if_pos rfl, if_pos h0, h]; rfl⟩
  have HLO : Hid (plE t L (ws J) = 0 → oLv t L (ws J) = L) := fun h => by unfold oLv; rw [if_pos h]
  have HFIN : Hid (∀ W vl vj vi, plyE t e f L J = 0 → PlayP w W (pnL t L (ws J)) (pnJ t L (ws J)) (pnI t L (ws J)) vl vj vi → PlayA w W t e f L J (.returned (.tuple #[.agg (tcs (pnT t L (ws J))), .agg #[.int .i64 (pnP t L (ws J)), vl, vj, vi], .int .i64 0]))) := fun _ _ _ _ h hp => PlayA.yes h rfl hp
  have hX := PX.new w t #[.int .i64 e, .int .i64 f, .slice aL L.length cL, .slice aJ J.length cJ]
  unfold rkz at hX
  obtain ⟨nL, hnl⟩ : ∃ n, L.length = n := ⟨_, rfl⟩
  obtain ⟨nJ, hnj⟩ : ∃ n, J.length = n := ⟨_, rfl⟩
  have HNJ : Hid (L.length = nL ∧ J.length = nJ ∧ L.length ≤ 17592186044416 ∧ J.length ≤ 8796093022208) := ⟨hnl, hnj, by omega, by omega⟩
  rw [hnl, hnj] at hX HOF HNX
  rw [hnl, hnj]
  rw [hnj] at lJ
  clear hnl hnj rL lL
  obtain ⟨ct, hct⟩ : ∃ c, tcs t = c := ⟨_, rfl⟩
  have HT : Hid (tcs t = ct) := hct
  rw [hct] at HOF HNX
  clear hct
  go_enter Tryz.func14, Tryz.ntmps14
  go_upto_region 1 with (fail)
  rw [zero236]
  generalize (((w.alloc (.cells (tcs t) 31)).alloc (.cells #[.int .i64 e, .int .i64 f, .slice aL nL cL, .slice aJ nJ cJ] 38)).alloc (.cells (tcs (tz 0)) 31)).alloc (.cells #[.int .i64 0, .slice none 0 0, .slice none 0 0, .slice none 0 0] 45) = w1 at *
  rw [HT.out]
  obtain ⟨s0, hs0⟩ : ∃ D, w.heap.size + 4 = D := ⟨_, rfl⟩
  obtain ⟨D, hD⟩ : ∃ D, w.heap.size + 3 = D := ⟨_, rfl⟩
  obtain ⟨K, hK⟩ : ∃ D, w.heap.size + 2 = D := ⟨_, rfl⟩
  obtain ⟨C, hC⟩ : ∃ D, w.heap.size + 1 = D := ⟨_, rfl⟩
  obtain ⟨B, hB⟩ : ∃ D, w.heap.size = D := ⟨_, rfl⟩
  rw [hs0, hD, hK, hC, hB] at hX
  rw [hD, hK, hC, hB]
  clear hs0 hD hK hC hB
  obtain ⟨r0, r1, r2, r3⟩ := hX.rc.cells
  have hbA := below_alloc w1 (.cells #[.slice aL nL cL, .slice none 0 0] 34)
  have h3 : BxB (w1.alloc (.cells #[.slice aL nL cL, .slice none 0 0] 34)) w1.heap.size (.slice aL nL cL) (.slice none 0 0) := heap_alloc_last w1 _
  have hXA := hX.later hbA
  have hG : BG w (w1.alloc (.cells #[.slice aL nL cL, .slice none 0 0] 34)) C w1.heap.size (w1.heap.size + 1) #[.int .i64 e, .int .i64 f, .slice aL nL cL, .slice aJ nJ cJ] (.slice aL nL cL) (.slice none 0 0) [] :=
    ⟨hXA.rc, h3, World.ownsRow_nil _ _ _ _, hXA.bel, ⟨by have := hX.lt; have := hX.sz; omega, by omega⟩, by have := hX.gs; have := hX.sz; omega, by simp⟩
  have HSA : Hid (s0 ≤ w1.heap.size) := hX.sz
  clear hX hbA h3
  go_upto_region 2 with (fail)
  clear r0 r1 r2 r3
  generalize w1.alloc (.cells #[.slice aL nL cL, .slice none 0 0] 34) = w3 at *
  obtain ⟨n0, hn0⟩ : ∃ n, w1.heap.size + 1 = n := ⟨_, rfl⟩
  have HN0 : Hid (w1.heap.size < n0) := by unfold Hid; omega
  rw [hn0] at hG
  clear hn0
  generalize w1.heap.size = A at *
  obtain ⟨r0, r1, r2, r3⟩ := hG.rc.cells
  obtain ⟨ii, hii, hi0, hi1, hi2⟩ := info_parts infoInt
  have HG : Hid (BG w w3 C A n0 #[.int .i64 e, .int .i64 f, .slice aL nL cL, .slice aJ nJ cJ] (.slice aL nL cL) (.slice none 0 0) (ws (J.take 0))) := hG
  have HX : Hid (PX w w3 s0 B C K D t #[.int .i64 e, .int .i64 f, .slice aL nL cL, .slice aJ nJ cJ]) := hXA
  clear hG hXA
  go_wp2_with fail
  go_loopw [21] (fun i wx => ∃ k : Nat, k ≤ nJ ∧ i = .int .i64 (k : Int) ∧ PX w wx s0 B C K D t #[.int .i64 e, .int .i64 f, .slice aL nL cL, .slice aJ nJ cJ] ∧ ∃ v, BG w wx C A n0 #[.int .i64 e, .int .i64 f, .slice aL nL cL, .slice aJ nJ cJ] (.slice aL nL cL) v (ws (J.take k))) (fun i _ => nJ - (intOf i).toNat)
  case atStart => exact ⟨0, by omega, rfl, HX.out, _, HG.out⟩
  case round =>
    obtain ⟨k, hk, rfl, hX, v, hG⟩ := hrel
    obtain ⟨a1, k1, rfl⟩ := owns_slice hG.row
    have HLEN : Hid ((ws (J.take k)).length = k) := by unfold Hid; rw [ws_length, List.length_take, HNJ.out.2.1]; omega
    clear HG HX r0 r1 r2 r3
    by_cases hkn : k < nJ
    · have hkJ : k < J.length := by rw [HNJ.out.2.1]; exact hkn
      obtain ⟨b, o, rfl, c0, c1⟩ := rJ k hkJ
      have c0 := cell_later hG.bel c0
      have c1 := cell_later hG.bel c1
      have i1 : (0 : Int) ≤ (k : Int) := by omega
      have i2 : (k : Int) < (nJ : Int) := by omega
      have HS : Hid (ws (J.take (k + 1)) = ws (J.take k) ++ [(J.getD k (0, 0)).1]) := ws_take hkJ
      generalize (J.getD k (0, 0)).1 = x at *
      generalize (J.getD k (0, 0)).2 = y at *
      obtain ⟨l, hl⟩ : ∃ l, ws (J.take k) = l := ⟨_, rfl⟩
      rw [hl] at HS HLEN hG
      clear hl rJ hkJ
      have hSE : SeAt (wr.alloc (.cells #[.int .i64 x, .int .i64 y] 62)) wr.heap.size x y := heap_alloc_last wr _
      have hbA := below_alloc wr (.cells #[.int .i64 x, .int .i64 y] 62)
      have hGa := hG.later hbA
      have hXa := hX.later hbA
      clear hG hX hbA
      go_upto_region 5 with (fail)
      generalize wr.alloc (.cells #[.int .i64 x, .int .i64 y] 62) = wa at *
      generalize wr.heap.size = S at *
      obtain ⟨q0, q1⟩ := hSE.cells
      obtain ⟨d0, d1⟩ := hGa.bt.cells
      have hrow := hGa.row
      have hsz := hGa.sz
      have HGa : Hid (BG w wa C A n0 #[.int .i64 e, .int .i64 f, .slice aL nL cL, .slice (some ⟨b, o, none⟩) nJ cJ] (.slice aL nL cL) (.slice a1 l.length k1) l) := hGa
      have HXa : Hid (PX w wa s0 B C K D t #[.int .i64 e, .int .i64 f, .slice aL nL cL, .slice (some ⟨b, o, none⟩) nJ cJ]) := hXa
      have hlen : l.length ≤ 8796093022208 := by have := HLEN.out; omega
      clear hGa hXa hSE c0 c1
      have HZ : Hid (∀ v' W', (wa.alloc (.cells #[.int .i64 x] 3)).grownBy W' (Value.slice a1 l.length k1).ownBlock → W'.ownsRow n0 3 1 v' (l.length + 1) (i64s l ++ [.int .i64 x]) → BxB W' A (.slice aL nL cL) (.slice a1 l.length k1) ∧ BG w (W'.setCell ⟨A, 1, none⟩ v') C A n0 #[.int .i64 e, .int .i64 f, .slice aL nL cL, .slice (some ⟨b, o, none⟩) nJ cJ] (.slice aL nL cL) v' (l ++ [x]) ∧ PX w (W'.setCell ⟨A, 1, none⟩ v') s0 B C K D t #[.int .i64 e, .int .i64 f, .slice aL nL cL, .slice (some ⟨b, o, none⟩) nJ cJ]) := fun v' W' hg ho => by
        have hb := below_alloc wa (.cells #[.int .i64 x] 3)
        have e : i64s (l ++ [x]) = i64s l ++ [Value.int .i64 x] := by simp [Rs.i64s]
        obtain ⟨q1, q2, q3⟩ := (HGa.out.later hb).app (y := x) (v' := v') (by rw [e, List.length_append]; exact ho) hg (fun k => k < s0) (fun k hk => by have := HSA.out; have := HN0.out; omega)
        exact ⟨q1, q2, (HXa.out.later hb).blocks (fun k hk => q3 k hk (by have := HSA.out; omega)) q2.bel (Nat.le_trans (by have := HSA.out; have := HN0.out; omega) q2.sz)⟩
      go_wp2_with (at_builtin; (refine wpList_append_own _ rfl _ _ 32 rfl n0 3 ii (.int .i64 0) 1 8 Tryz.underlying32 hii hi0 hi1 hi2 rfl (by decide) (.slice a1 l.length k1) l.length (i64s l) rfl (hrow.alloc _) ⟨wa.heap.size, 0, none⟩ 1 1 [.int .i64 x] rfl rfl (cell_row_new _ _ _) (by simp [Value.oneCell']) (by unfold maxLen; omega) (by omega) (by simp; omega) ?_); intro v' w7 hown' hg7 _; obtain ⟨a2, k2, rfl⟩ := owns_slice hown'; have HO7 : Hid (w7.ownsRow n0 3 1 (.slice a2 (l.length + 1) k2) (l.length + 1) (i64s l ++ [.int .i64 x])) := hown'; have HG7 : Hid ((wa.alloc (.cells #[.int .i64 x] 3)).grownBy w7 (Value.slice a1 l.length k1).ownBlock) := hg7; obtain ⟨z0, z1⟩ := (HZ.out _ _ hg7 hown').1.cells; have zf := Rt.row_frozen (HZ.out _ _ hg7 hown').1 1; clear hown' hg7)
      have HS8 : Hid (BG w (w7.setCell ⟨A, 1, none⟩ (.slice a2 (l.length + 1) k2)) C A n0 #[.int .i64 e, .int .i64 f, .slice aL nL cL, .slice (some ⟨b, o, none⟩) nJ cJ] (.slice aL nL cL) (.slice a2 (l.length + 1) k2) (l ++ [x]) ∧ PX w (w7.setCell ⟨A, 1, none⟩ (.slice a2 (l.length + 1) k2)) s0 B C K D t #[.int .i64 e, .int .i64 f, .slice aL nL cL, .slice (some ⟨b, o, none⟩) nJ cJ]) := (HZ.out _ _ HG7.out HO7.out).2
      go_roundw
      case rel => exact ⟨k + 1, by omega, by go_num, HS8.out.2, _, by rw [HS.out]; exact HS8.out.1⟩
      case measure => simp [intOf]; omega
    · have hkn' : decide ((k : Int) < (nJ : Int)) = false := by simp; omega
      have etk : J.take k = J := List.take_of_length_le (by rw [HNJ.out.2.1]; omega)
      rw [etk] at hG HLEN
      clear etk
      have hWJ : (ws J).length = nJ := by rw [ws_length, HNJ.out.2.1]
      obtain ⟨d0, d1⟩ := hG.bt.cells
      have hrd := rdI_of hG.row
      have hof := HOF.out wr a1 k1 hX.bel hrd
      rw [hWJ] at d1
      have hT1 := hX.tr
      have hbt := hG.bt
      rw [hWJ] at hbt
      unfold ROfA at hof
      obtain ⟨Jw, hJw⟩ : ∃ l, ws J = l := ⟨_, rfl⟩
      rw [hJw] at hrd HLJ HP31 HPN HPE HLO HFIN
      simp only [hJw] at hof HNX
      clear hG hWJ hJw rJ HLEN
      obtain ⟨n, hn⟩ : ∃ n, pnT t L Jw = n := ⟨_, rfl⟩
      obtain ⟨cn, hcn⟩ : ∃ c, tcs n = c := ⟨_, rfl⟩
      have HC : Hid (tcs n = cn) := hcn
      obtain ⟨e0, he⟩ : ∃ e, plE t L Jw = e := ⟨_, rfl⟩
      obtain ⟨pP, hpP⟩ : ∃ e, pnP t L Jw = e := ⟨_, rfl⟩
      obtain ⟨ll, hll⟩ : ∃ l, pnL t L Jw = l := ⟨_, rfl⟩
      obtain ⟨lj, hlj⟩ : ∃ l, pnJ t L Jw = l := ⟨_, rfl⟩
      obtain ⟨li, hli⟩ : ∃ l, pnI t L Jw = l := ⟨_, rfl⟩
      obtain ⟨lo, hlo⟩ : ∃ l, oLv t L Jw = l := ⟨_, rfl⟩
      have HNP : Hid (∀ {X Y : World} {vl vj vi}, NextP X Y t L Jw vl vj vi → Y.ownsRow X.heap.size 62 2 vl ll.length (ps ll) ∧ Y.ownsRow X.heap.size 62 2 vj lj.length (ps lj) ∧ Y.ownsRow X.heap.size 98 6 vi li.length (isl li)) := fun h => by
        have h1 := h.left
        have h2 := h.join
        have h3 := h.item
        rw [hll] at h1
        rw [hlj] at h2
        rw [hli] at h3
        exact ⟨h1, h2, h3⟩
      unfold NextA at HNX
      simp only [hn, he, hpP, hlj, hlo, hcn] at hof HNX
      rw [he] at HP31 HPN
      rw [he, hn, hlj] at HPE
      rw [he, hlo] at HLO
      rw [hlj] at HLJ
      have HFIN2 : Hid (∀ W vl vj vi, plyE t e f L J = 0 → PlayP w W ll lj li vl vj vi → PlayA w W t e f L J (.returned (.tuple #[.agg (tcs n), .agg #[.int .i64 pP, vl, vj, vi], .int .i64 0]))) := by
        have h := HFIN.out
        unfold Hid
        rw [hn, hpP, hll, hlj, hli] at h
        exact h
      clear HFIN
      have HFIN := HFIN2
      clear HFIN2 hn hcn he hpP hll hlj hli hlo HOF
      go_wp2_with (refine rdT hT1 HT.out _ rfl rfl rfl ?_)
      refine hof.mono ?_
      rintro r w9 ⟨⟨a4, k4, v5, rfl, _, rl4, hj5⟩, hb9⟩
      obtain ⟨a5, k5, rfl⟩ := owns_slice hj5
      have hbR := below_alloc w9 (.cells #[.int .i64 n.ep, .int .i64 n.fr, .slice a4 lo.length k4, .slice a5 lj.length k5] 38)
      have hR9 := RcAt.new w9 #[.int .i64 n.ep, .int .i64 n.fr, .slice a4 lo.length k4, .slice a5 lj.length k5]
      have hXr := (hX.later hb9).later hbR
      have hbtr := (hbt.later hb9).later hbR
      have rl5 := rl4.later hbR
      have rj5 := (rdP_of hj5).later hbR
      have hrd5 := (hrd.later hb9).later hbR
      clear hof hX hbt rl4 hj5 hb9 hbR hT1 d0 d1 hrd
      go_upto_region 8 with (fail)
      generalize w9.alloc (.cells #[.int .i64 n.ep, .int .i64 n.fr, .slice a4 lo.length k4, .slice a5 lj.length k5] 38) = w10 at *
      generalize w9.heap.size = R at *
      by_cases h31 : e0 = 31
      · subst h31
        have HE : Hid (plyE t e f L J = 31) := HP31.out rfl
        have HNE : Hid ((31 : Int) ≠ 0) := by unfold Hid; decide
        obtain ⟨W9, rfl⟩ : ∃ W9, W9 = w10 := ⟨_, rfl⟩
        have hX9 := hXr
        clear hXr hR9 hbtr rl5 rj5 hrd5
        have hZ := hX9.ze
        obtain ⟨cz, hcz⟩ : ∃ c, tcs (tz 0) = c := ⟨_, rfl⟩
        have HZ : Hid (tcs (tz 0) = cz) := hcz
        have hZ1 : TrAt (W9.setRow K cz) K (tz 0) := by rw [← hcz]; exact hZ.row _
        have hZ2 : RkAt (W9.setRow K cz) D rkz := (Rt.row_other (block_ne hX9.rk hZ (by decide)) _).trans hX9.rk
        have HK3 : Hid (TrAt ((W9.setRow K cz).setRow D rkz) K (tz 0)) := (Rt.row_other (block_ne hZ1 hZ2 (by decide)) _).trans hZ1
        have HBZ : Hid (Below w.heap.size w ((W9.setRow K cz).setRow D rkz)) := Rt.setRow_below hX9.gD (Rt.setRow_below hX9.gK hX9.bel _) _
        clear hcz hX9 hZ1
        go_wp2_with (first | (refine bzc HZ.out rfl rfl ?_) | (show wpList _ _ _ ({ dst := _, op := Op.store 31 _ _, type := _, pos := _, after := _, guard := _ } :: _) _ _; refine stTc hZ HZ.out rfl _ _ rfl rfl rfl ?_) | (show wpList _ _ _ ({ dst := _, op := Op.store 45 _ _, type := _, pos := _, after := _, guard := _ } :: _) _ _; refine stRw infoRk (cs := rkz) rkz_size hZ2 rkz rkz_size rkz_one rfl _ _ rfl rfl rfl ?_))
        refine bodyPost_ret (results_nx (p := 4) (q := 5) (t := 6) rfl _ _ K D (tz 0) rkz rfl rfl HK3.out (Rt.heap_setRow_same hZ2 _) rfl) rfl ?_
        exact ⟨PlayA.no HE.out HNE.out, HBZ.out⟩
      have h31b : (e0 == 31) = false := by simpa using h31
      have h31c : decide (e0 = 31) = false := by simpa using h31
      by_cases he0 : e0 = 0
      · subst he0
        have hlo : lo = L := HLO.out rfl
        subst hlo
        obtain ⟨c0, c1, c2, c3⟩ := hR9.cells
        obtain ⟨d0, d1, d2, d3⟩ := hXr.rc.cells
        have hsm := sr2_any n.ep n.fr e f a4 a5 aL aJ k4 k5 cL cJ lo lo lj J w10 (by have := HNJ.out; omega) (by have := HNJ.out; omega) (by have := HLJ.out; omega) (by have := HNJ.out; omega) rl5 rj5 (HRL.out.1.later hXr.bel) (HRL.out.2.later hXr.bel)
        rw [HNJ.out.1, HNJ.out.2.1] at hsm
        rw [HNJ.out.1] at c2 ⊢
        clear h31 h31b h31c
        cases hb : sam n.ep n.fr lo lj e f lo J with
        | false =>
          rw [hb] at hsm
          have HE : Hid (plyE t e f lo J = 12) := (HPE.out rfl).1 hb
          have HNE : Hid ((12 : Int) ≠ 0) := by unfold Hid; decide
          clear hb
          go_wp2_with fail
          refine hsm.mono ?_
          rintro r W9 ⟨rfl, hb9⟩
          have hX9 := hXr.later hb9
          clear hsm hXr c0 c1 c2 c3 d0 d1 d2 d3 hb9 hR9 hbtr rl5 rj5 hrd5
          have hZ := hX9.ze
          obtain ⟨cz, hcz⟩ : ∃ c, tcs (tz 0) = c := ⟨_, rfl⟩
          have HZ : Hid (tcs (tz 0) = cz) := hcz
          have hZ1 : TrAt (W9.setRow K cz) K (tz 0) := by rw [← hcz]; exact hZ.row _
          have hZ2 : RkAt (W9.setRow K cz) D rkz := (Rt.row_other (block_ne hX9.rk hZ (by decide)) _).trans hX9.rk
          have HK3 : Hid (TrAt ((W9.setRow K cz).setRow D rkz) K (tz 0)) := (Rt.row_other (block_ne hZ1 hZ2 (by decide)) _).trans hZ1
          have HBZ : Hid (Below w.heap.size w ((W9.setRow K cz).setRow D rkz)) := Rt.setRow_below hX9.gD (Rt.setRow_below hX9.gK hX9.bel _) _
          clear hcz hX9 hZ1
          go_wp2_with (first | (refine bzc HZ.out rfl rfl ?_) | (show wpList _ _ _ ({ dst := _, op := Op.store 31 _ _, type := _, pos := _, after := _, guard := _ } :: _) _ _; refine stTc hZ HZ.out rfl _ _ rfl rfl rfl ?_) | (show wpList _ _ _ ({ dst := _, op := Op.store 45 _ _, type := _, pos := _, after := _, guard := _ } :: _) _ _; refine stRw infoRk (cs := rkz) rkz_size hZ2 rkz rkz_size rkz_one rfl _ _ rfl rfl rfl ?_))
          refine bodyPost_ret (results_nx (p := 4) (q := 5) (t := 6) rfl _ _ K D (tz 0) rkz rfl rfl HK3.out (Rt.heap_setRow_same hZ2 _) rfl) rfl ?_
          exact ⟨PlayA.no HE.out HNE.out, HBZ.out⟩
        | true =>
          rw [hb] at hsm
          have HE : Hid (plyE t e f lo J = 0) := (HPE.out rfl).2 hb
          clear hb
          go_wp2_with fail
          refine hsm.mono ?_
          rintro r w11 ⟨rfl, hb11⟩
          have hX11 := hXr.later hb11
          have hbt11 := hbtr.later hb11
          have hrd11 := hrd5.later hb11
          clear hsm hXr c0 c1 c2 c3 d0 d1 d2 d3 hb11 hR9 hbtr rl5 rj5 hrd5
          have hnx := HNX.out w11 a1 k1 hX11.bel hrd11
          have hT1 := hX11.tr
          obtain ⟨d0, d1⟩ := hbt11.cells
          go_wp2_with (refine rdT hT1 HT.out _ rfl rfl rfl ?_)
          refine hnx.mono ?_
          rintro r w12 ⟨⟨vl, vj, vi, rfl, hNP⟩, hb12⟩
          obtain ⟨g1, g2, g3⟩ := HNP.out hNP
          obtain ⟨p1, q1, rfl⟩ := owns_slice g1
          obtain ⟨p2, q2, rfl⟩ := owns_slice g2
          obtain ⟨p3, q3, rfl⟩ := owns_slice g3
          obtain ⟨t1, t2, W9, hW, tT, tR, tB⟩ := two_boxes w12 n cn #[.int .i64 pP, .slice p1 ll.length q1, .slice p2 lj.length q2, .slice p3 li.length q3] HC.out
          have hX9 := (hX11.later hb12).later tB
          have HW11 : Hid (w.heap.size ≤ w11.heap.size) := hX11.bel.size
          have HRW : Hid (PlayP w W9 ll lj li (.slice p1 ll.length q1) (.slice p2 lj.length q2) (.slice p3 li.length q3)) := ⟨Rs.owns_wide (owns_later g1 tB) HW11.out, Rs.owns_wide (owns_later g2 tB) HW11.out, Rs.owns_wide (owns_later g3 tB) HW11.out⟩
          have HNK : Hid (w12.heap.size ≠ K ∧ w12.heap.size + 1 ≠ D) := by have h1 := (hX11.later hb12).lt; have h2 := (hX11.later hb12).sz; unfold Hid; omega
          clear hnx hX11 hbt11 hrd11 hT1 d0 d1 hNP hb12 g1 g2 g3 tB
          go_upto_region 13 with (first | (show wpList _ _ _ ({ dst := _, op := Op.store 31 _ _, type := _, pos := _, after := _, guard := _ } :: _) _ _; refine stTc t1 HC.out rfl _ _ rfl rfl rfl ?_) | (show wpList _ _ _ ({ dst := _, op := Op.store 45 _ _, type := _, pos := _, after := _, guard := _ } :: _) _ _; refine stRw infoRk (cs := rkz) rkz_size t2 _ rfl (rk_one _ _ _ _ _ _ _ _ _ _) rfl _ _ rfl rfl rfl ?_))
          clear t1 t2 hW
          obtain ⟨G, hG⟩ : ∃ A, w12.heap.size + 1 = A := ⟨_, rfl⟩
          rw [hG] at tR HNK ⊢
          clear hG
          generalize w12.heap.size = N at *
          have hS0 : PY w W9.drew N G K D n #[.int .i64 pP, .slice p1 ll.length q1, .slice p2 lj.length q2, .slice p3 li.length q3] (.slice p1 ll.length q1) (.slice p2 lj.length q2) (.slice p3 li.length q3) ll lj li := PY.later ⟨tT, tR, ⟨_, hX9.ze⟩, ⟨rkz, rfl, hX9.rk⟩, HRW.out, hX9.bel, HNK.out.1, HNK.out.2, hX9.gK, hX9.gD⟩ (drew_below _)
          clear hX9 tT tR HRW
          refine wp_region_held_drew (S := fun Z => PY w Z N G K D n #[.int .i64 pP, .slice p1 ll.length q1, .slice p2 lj.length q2, .slice p3 li.length q3] (.slice p1 ll.length q1) (.slice p2 lj.length q2) (.slice p3 li.length q3) ll lj li) (by kernel_rfl) hS0 (fun hHeld => ?_)
          refine wpAnyH_take (i := 0) (oi := { dst := some 61, op := Op.load 31 (Operand.tmp 12), type := _, pos := _, after := _, guard := none }) (v := .agg cn) rfl (by kernel_rfl) (by kernel_rfl) (by kernel_rfl) (fun _ _ _ h => h) (Or.inl ⟨by rfl, fun w hSw => ld_exec (HC.out ▸ hSw.n.whole) rfl rfl⟩) (by assumption) ?_
          simp only [Act.put, List.setIfInBounds_toArray, List.set_cons_zero, List.set_cons_succ]
          refine wpAnyH_take (i := 1) (oi := { dst := some 62, op := Op.load 45 (Operand.tmp 13), type := _, pos := _, after := _, guard := none }) (v := .agg #[.int .i64 pP, .slice p1 ll.length q1, .slice p2 lj.length q2, .slice p3 li.length q3]) rfl (by kernel_rfl) (by kernel_rfl) (by kernel_rfl) (fun _ _ _ h => h) (Or.inl ⟨by rfl, fun w hSw => ld_exec (RkW hSw.m rfl) rfl rfl⟩) (by assumption) ?_
          simp only [Act.put, List.setIfInBounds_toArray, List.set_cons_zero, List.set_cons_succ]
          refine wpAnyH_ready (rs := [2]) (by kernel_rfl) (by simp) ?_
          refine AllReadyH.cons rfl (fun Kc hK => ?_) AllReadyH.nil
          obtain ⟨u, hu⟩ := hHeld.ze
          obtain ⟨hN3, hT3⟩ := hHeld.setT HC.out
          refine if_wp rfl (wp_stRow0 31 _ _ rfl K cn rfl rfl 31 (tcs u) hu (by rw [← HC.out, tcs_size]; exact infoT) (by rw [← HC.out, tcs_size, tcs_size]) (by rw [← HC.out]; exact tcs_one n) rfl ?_)
          refine hK.out _ _ hN3 (fun hHeld2 => ?_)
          clear hHeld hu hN3
          clear hK Kc
          try simp only [Act.put, List.setIfInBounds_toArray, List.set_cons_zero, List.set_cons_succ]
          refine wpAnyH_ready (rs := [3]) (by kernel_rfl) (by simp) ?_
          refine AllReadyH.cons rfl (fun Kc hK => ?_) AllReadyH.nil
          obtain ⟨cs4, hc4, hRk⟩ := hHeld2.rk
          obtain ⟨hN4, hT4, hR4⟩ := hHeld2.setD (ds := #[.int .i64 pP, .slice p1 ll.length q1, .slice p2 lj.length q2, .slice p3 li.length q3]) hT3 hRk rfl
          refine if_wp rfl (wp_stRow0 45 _ _ rfl D _ rfl rfl 45 cs4 hRk infoRk hc4 (rk_one _ _ _ _ _ _ _ _ _ _) rfl ?_)
          refine hK.out _ _ hN4 (fun hHeld3 => ?_)
          clear hHeld2 hRk hN4
          clear hK Kc
          try simp only [Act.put, List.setIfInBounds_toArray, List.set_cons_zero, List.set_cons_succ]
          refine wpAnyH_take (i := 4) (oi := { dst := some 6, op := Op.assign (Operand.const (Value.int IntKind.i64 0)), type := _, pos := _, after := _, guard := none }) (v := .int .i64 0) rfl (by kernel_rfl) (by kernel_rfl) (by kernel_rfl) (fun _ _ _ h => h) (Or.inl ⟨by rfl, fun w hSw => by (try dsimp only at hSw); go_simp⟩) (by assumption) ?_
          simp only [Act.put, List.setIfInBounds_toArray, List.set_cons_zero, List.set_cons_succ]
          refine wpAnyH_done (by kernel_rfl) ?_ _
          obtain ⟨Z9, hZ9⟩ : ∃ Z, ((W9.drew.setRow K cn).setRow D #[.int .i64 pP, .slice p1 ll.length q1, .slice p2 lj.length q2, .slice p3 li.length q3]) = Z := ⟨_, rfl⟩
          rw [hZ9] at hT4 hR4 hHeld3 ⊢
          clear hZ9 hT3
          go_wp2_with fail
          refine bodyPost_ret (results_nx (p := 4) (q := 5) (t := 6) rfl _ _ K D n _ rfl rfl hT4 hR4 rfl) rfl ?_
          exact ⟨HFIN.out _ _ _ _ HE.out hHeld3.rows, hHeld3.bel⟩
      · have hd2 : (e0 != 0) = true := by simpa using he0
        have HE : Hid (plyE t e f L J = 12) := HPN.out h31 he0
        have HNE : Hid ((12 : Int) ≠ 0) := by unfold Hid; decide
        obtain ⟨W9, rfl⟩ : ∃ W9, W9 = w10 := ⟨_, rfl⟩
        have hX9 := hXr
        clear hXr hR9 hbtr rl5 rj5 hrd5 he0 h31
        have hZ := hX9.ze
        obtain ⟨cz, hcz⟩ : ∃ c, tcs (tz 0) = c := ⟨_, rfl⟩
        have HZ : Hid (tcs (tz 0) = cz) := hcz
        have hZ1 : TrAt (W9.setRow K cz) K (tz 0) := by rw [← hcz]; exact hZ.row _
        have hZ2 : RkAt (W9.setRow K cz) D rkz := (Rt.row_other (block_ne hX9.rk hZ (by decide)) _).trans hX9.rk
        have HK3 : Hid (TrAt ((W9.setRow K cz).setRow D rkz) K (tz 0)) := (Rt.row_other (block_ne hZ1 hZ2 (by decide)) _).trans hZ1
        have HBZ : Hid (Below w.heap.size w ((W9.setRow K cz).setRow D rkz)) := Rt.setRow_below hX9.gD (Rt.setRow_below hX9.gK hX9.bel _) _
        clear hcz hX9 hZ1
        go_wp2_with (first | (refine bzc HZ.out rfl rfl ?_) | (show wpList _ _ _ ({ dst := _, op := Op.store 31 _ _, type := _, pos := _, after := _, guard := _ } :: _) _ _; refine stTc hZ HZ.out rfl _ _ rfl rfl rfl ?_) | (show wpList _ _ _ ({ dst := _, op := Op.store 45 _ _, type := _, pos := _, after := _, guard := _ } :: _) _ _; refine stRw infoRk (cs := rkz) rkz_size hZ2 rkz rkz_size rkz_one rfl _ _ rfl rfl rfl ?_))
        refine bodyPost_ret (results_nx (p := 4) (q := 5) (t := 6) rfl _ _ K D (tz 0) rkz rfl rfl HK3.out (Rt.heap_setRow_same hZ2 _) rfl) rfl ?_
        exact ⟨PlayA.no HE.out HNE.out, HBZ.out⟩
end Go.Proofs.YteocfmimgoocnaaGreatDoor.Rc
/- What a played record has; a step's own record played. -/
namespace Go.Proofs.YteocfmimgoocnaaGreatDoor.Rc
open Rs (RdI ps Tb i64s)
set_option linter.unusedVariables false

theorem ply_len (t : Tr) (e f : Int) (L : List Int) (J : List (Int × Int)) : (plyL t e f L J).length ≤ 4096 ∧ (plyJ t e f L J).length ≤ 4096 ∧ (plyI t e f L J).length ≤ 4096 := by
  unfold plyL plyJ plyI
  have h1 := pnL_len t L (ws J)
  have h2 := pnJ_len t L (ws J)
  have h3 := pnI_short t L (ws J)
  split
  · exact ⟨by omega, by omega, h3⟩
  · simp
theorem ply_ok {t : Tr} {e f : Int} {L : List Int} {J : List (Int × Int)} (h : plyE t e f L J = 0) : plE t L (ws J) = 0 ∧ (pnT t L (ws J)).ep = e ∧ (pnT t L (ws J)).fr = f ∧ pnJ t L (ws J) = J := by
  unfold plyE at h
  cases htk : tck t with
  | false => rw [htk] at h; cases h
  | true =>
    rw [htk, if_pos rfl] at h
    by_cases h0 : plE t L (ws J) = 0
    · rw [if_pos h0] at h
      cases hs : sam (pnT t L (ws J)).ep (pnT t L (ws J)).fr L (pnJ t L (ws J)) e f L J with
      | false => rw [hs] at h; cases h
      | true =>
        obtain ⟨a, b, _, d⟩ := sam_iff.1 hs
        exact ⟨h0, a, b, d⟩
    · rw [if_neg h0] at h; cases h
theorem nx_ep {t : Tr} {L J : List Int} (h : plE t L J = 0) : (pnT t L J).ep = t.ep + 1 ∧ 0 ≤ t.ep ∧ t.ep ≤ 199 := by
  have hs := plE_stp h
  refine ⟨?_, hs.rt.e0, hs.ep⟩
  unfold pnT
  rw [if_pos h]
  rfl
theorem ply_ep {t : Tr} {e f : Int} {L : List Int} {J : List (Int × Int)} (h : plyE t e f L J = 0) : (plyT t e f L J).ep = e ∧ e = t.ep + 1 ∧ 0 ≤ t.ep ∧ t.ep ≤ 199 := by
  obtain ⟨h0, h1, _, _⟩ := ply_ok h
  obtain ⟨h2, h3, h4⟩ := nx_ep h0
  unfold plyT
  rw [if_pos h]
  exact ⟨h1, by omega, h3, h4⟩
theorem ws_adl (T : List Nat) (J : List Int) : ∀ k, k ≤ J.length → ws (Rs.adl T J k) = J.take k
  | 0, _ => rfl
  | k + 1, h => by
    have ih := ws_adl T J k (by omega)
    have e : ws (Rs.adl T J (k + 1)) = ws (Rs.adl T J k) ++ [J.getD k 0] := by
      show ws (Rs.adl T J k ++ [(J.getD k 0, ((T.getD k 0 : Nat) : Int))]) = _
      unfold ws
      rw [List.map_append]
      rfl
    rw [e, ih, take_nx 0 (by omega)]
theorem ws_jn {t : Tr} {L J : List Int} (h : plE t L J = 0) : ws (pnJ t L J) = J := by
  unfold pnJ
  rw [if_pos h]
  unfold jns
  rw [ws_adl _ _ _ (Nat.le_refl _), List.take_length]
/- A step's own record, played. -/
theorem play_own {t : Tr} {L J : List Int} (h : plE t L J = 0) :
    plyE t (pnT t L J).ep (pnT t L J).fr L (pnJ t L J) = 0 ∧ plyT t (pnT t L J).ep (pnT t L J).fr L (pnJ t L J) = pnT t L J ∧ plyP t (pnT t L J).ep (pnT t L J).fr L (pnJ t L J) = pnP t L J
    ∧ plyL t (pnT t L J).ep (pnT t L J).fr L (pnJ t L J) = pnL t L J ∧ plyJ t (pnT t L J).ep (pnT t L J).fr L (pnJ t L J) = pnJ t L J ∧ plyI t (pnT t L J).ep (pnT t L J).fr L (pnJ t L J) = pnI t L J := by
  have hw := ws_jn h
  have h0 : plyE t (pnT t L J).ep (pnT t L J).fr L (pnJ t L J) = 0 := by
    unfold plyE
    rw [(plE_stp h).ok, if_pos rfl, hw, if_pos h, sam_refl]
    rfl
  unfold plyT plyP plyL plyJ plyI
  rw [h0, hw]
  exact ⟨rfl, rfl, rfl, rfl, rfl, rfl⟩
/- A record played where its epoch is no longer next. -/
theorem play_again {t : Tr} {e f : Int} {L : List Int} {J : List (Int × Int)} (ht : tck t = true) (he : e ≠ t.ep + 1) : plyE t e f L J = 12 := by
  have hne : plyE t e f L J ≠ 0 := fun h => he (ply_ep h).2.1
  unfold plyE at hne ⊢
  rw [ht, if_pos rfl] at hne ⊢
  split
  · rename_i h0
    rw [if_pos h0] at hne
    split
    · rename_i hs
      rw [hs] at hne
      exact absurd rfl hne
    · rfl
  · rfl
end Go.Proofs.YteocfmimgoocnaaGreatDoor.Rc
