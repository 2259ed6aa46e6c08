/- Contract: the document's Apply. -/
import Derived.Test.YtnaiocdldghdeaaGreatMbZ
namespace Go.Proofs.YtnaiocdldghdeaaGreat.Mb
open Go.RowKit Go.Maps
open Rt (Ky zK gd gv Gd pcs KyAt)
open Wi (gR gE gW gS gI gB gK ldM stM rd_guard ra_of th_of ra_later RdV itl stl)
set_option linter.unusedVariables false
set_option linter.unusedSimpArgs false

/- What Calm makes of an entry, of a following. -/
theorem en_calm {m : Mb} {r : Rk} (hl : r.1 = m.ep) (h : enEr m r.2.2.2 = 0) : entr m r = (0, calm (EnF m (en0 m r.2.2.2) (en1 m r.2.2.2) (en2 m r.2.2.2))) := by
  unfold entr
  rw [if_pos h, arr_eq, hl]
  unfold calm bh0 EnF
  dsimp only
  split <;> rfl
theorem en_bad {m : Mb} {r : Rk} {e : Int} (h : enEr m r.2.2.2 = e) (h0 : e ≠ 0) : entr m r = (e, m) := by unfold entr; rw [if_neg (by rw [h]; exact h0), h]
theorem fo_calm {m : Mb} {r : Rk} (hh : m.has = true) (h : foEr m r = 0) : foll m r = (0, calm (FoF m r.1 (fo0 m r) (fo1 m r) (fo2 m r))) := by
  unfold foll
  rw [if_pos h, arr_eq]
  unfold calm bh0 FoF
  dsimp only
  rw [hh]
  split <;> rfl
theorem fo_bad {m : Mb} {r : Rk} {e : Int} (h : foEr m r = e) (h0 : e ≠ 0) : foll m r = (e, m) := by unfold foll; rw [if_neg (by rw [h]; exact h0), h]
set_option maxRecDepth 100000 in
set_option maxHeartbeats 8000000 in
theorem rApply_any (m : Mb) (r : Rk) (aL aJ aI : Option Addr) (cL cJ cI : Nat) (w : World) (hr : RL w r aL aJ aI) (hn : RN r) :
    Calls Tryz.prog 6 #[.agg (mba m), .agg (rka r aL aJ aI cL cJ cI)] w fun e w' => e = ApR (apl m r) ∧ Below w.heap.size w w' := by
  have hS := MP.new (cL := cL) (cJ := cJ) (cI := cI) w m hr
  have hkd := rKind_any m
  have hgd : ∀ W (hW : RL W r aL aJ aI), Calls Tryz.prog 16 #[.agg #[.int .i64 r.1, .slice aL r.2.1.length cL, .slice aJ r.2.2.1.length cJ, .slice aI r.2.2.2.length cI] ] W fun e w' => e = .returned (.bool (gR r)) ∧ Below W.heap.size W w' := fun W hW => Wi.rRekey_any r aL aJ aI cL cJ cI W hW.l hW.j hW.i hn.l hn.j hn.i
  have hway := way m r
  have hen := fun W (hW : RL W r aL aJ aI) (hg : gR r = true) (h : Sat m) => rEnter_any m r aL aJ aI cL cJ cI W hW hg h.lf h.slot.1 h.slot.2
  have hfo := fun W (hW : RL W r aL aJ aI) (hg : gR r = true) (h : Sat m) hp0 hp1 hp2 => rFollow_any m r aL aJ aI cL cJ cI W hW hg h.lf h.slot.1 h.slot.2 hp0 hp1 hp2
  have hst := fun W (hW : RL W r aL aJ aI) => rStands_any aJ cJ r.2.2.1 (m.who, m.slt) W hW.j hn.j
  have hlv := fun W (hW : RL W r aL aJ aI) => rLeaves_any aL cL r.2.1 m.who W hW.l hn.l
  have hca := rCalm_any
  obtain ⟨x, hx⟩ : ∃ x, apl m r = x := ⟨_, rfl⟩
  have HX : Hid (apl m r = x) := hx
  rw [hx]
  obtain ⟨cm, hcm⟩ : ∃ c, mba m = c := ⟨_, rfl⟩
  have HC : Hid (mba m = cm) := hcm
  rw [hcm] at hS
  simp only [hcm] at hkd hen hfo
  rw [hcm]
  obtain ⟨k, hk⟩ : ∃ k, knd m = k := ⟨_, rfl⟩
  simp only [hk] at hkd
  have HKE : Hid (knd m = k) := hk
  clear hcm hn hx hk hr
  have HEN : Hid _ := hen
  have HFO : Hid _ := hfo
  have HST : Hid _ := hst
  have HLV : Hid _ := hlv
  have HCA : Hid _ := hca
  clear hen hfo hst hlv hca
  unfold rka at hS HEN HFO
  go_enter Tryz.func6, Tryz.ntmps6
  unfold rka
  go_upto_region 1 with (fail)
  rw [zMb_eq]
  generalize ((w.alloc (.cells cm 27)).alloc (.cells #[.int .i64 r.1, .slice aL r.2.1.length cL, .slice aJ r.2.2.1.length cJ, .slice aI r.2.2.2.length cI] 31)).alloc (.cells (mba zMb) 27) = w1 at *
  obtain ⟨K, hK⟩ : ∃ K, w.heap.size + 2 = K := ⟨_, rfl⟩
  obtain ⟨D, hD⟩ : ∃ K, w.heap.size + 1 = K := ⟨_, rfl⟩
  obtain ⟨B, hB⟩ : ∃ K, w.heap.size = K := ⟨_, rfl⟩
  rw [hK, hD, hB] at hS ⊢
  clear hK hD hB
  go_wp2_with (refine ldMb hS.v.mb HC.out _ rfl rfl rfl ?_)
  refine (hkd _).mono ?_
  rintro e w2 ⟨rfl, hb2⟩
  have HS : Hid (MP w w2 B D K m r aL aJ aI cL cJ cI) := hS.later hb2
  clear hS hb2 hkd
  cases hway with
  | card h e =>
    have HE : Hid (x = (30, m)) := by unfold Hid; rw [← HX.out]; exact e
    have dk : decide (k < 1) = true := decide_eq_true (by rw [← HKE.out]; exact h)
    clear h e hgd HEN HFO HST HLV HCA
    go_wp2_with (first | (refine ldMb HS.out.v.mb HC.out _ rfl rfl rfl ?_) | (refine stMb HS.out.re HC.out rfl _ _ rfl rfl rfl ?_))
    refine bodyPost_ret (resRow (p := 4) (t := 5) rfl _ _ K (mba m) rfl (HS.out.re.row m).var) rfl ?_
    exact ⟨ApR.of HE.out, Rt.setRow_below HS.out.ge HS.out.bel _⟩
  | out h e =>
    have HE : Hid (x = (20, m)) := by unfold Hid; rw [← HX.out]; exact e
    obtain rfl : k = 1 := by rw [← HKE.out]; exact h
    clear h e hgd HEN HFO HST HLV HCA
    go_wp2_with (first | (refine ldMb HS.out.v.mb HC.out _ rfl rfl rfl ?_) | (refine stMb HS.out.re HC.out rfl _ _ rfl rfl rfl ?_))
    refine bodyPost_ret (resRow (p := 4) (t := 5) rfl _ _ K (mba m) rfl (HS.out.re.row m).var) rfl ?_
    exact ⟨ApR.of HE.out, Rt.setRow_below HS.out.ge HS.out.bel _⟩
  | wire h g e =>
    have HE : Hid (x = (13, m)) := by unfold Hid; rw [← HX.out]; exact e
    have HKD : Hid (k = 2 ∨ k = 3) := by unfold Hid; rw [← HKE.out]; exact h
    clear e HEN HFO HST HLV HCA
    have hS1 := HS.out
    have dk0 : decide (k < 1) = false := decide_eq_false (by have := HKD.out; omega)
    have dk1 : (k == 1) = false := by have := HKD.out; simp; omega
    have hw := hgd w2 hS1.v.rd
    rw [g] at hw
    have hrk : w2.rangeAt D 0 [.int .i64 r.1, .slice aL r.2.1.length cL, .slice aJ r.2.2.1.length cJ, .slice aI r.2.2.2.length cI] := ra_of hS1.v.rk 0 _ rfl
    have HRK : Hid (w2.rangeAt D 0 [.int .i64 r.1, .slice aL r.2.1.length cL, .slice aJ r.2.2.1.length cJ, .slice aI r.2.2.2.length cI]) := hrk
    clear hS1 hrk hgd
    go_wp2_with (refine ldM HRK.out Tryz.underlying31 rfl Wi.szRk _ rfl rfl rfl ?_)
    refine hw.mono ?_
    rintro e w3 ⟨rfl, hb3⟩
    have HS3 : Hid (MP w w3 B D K m r aL aJ aI cL cJ cI) := HS.out.later hb3
    clear HS HRK hw hb3 dk0 dk1
    have HS := HS3
    clear HS3
    clear h g
    go_wp2_with (first | (refine ldMb HS.out.v.mb HC.out _ rfl rfl rfl ?_) | (refine stMb HS.out.re HC.out rfl _ _ rfl rfl rfl ?_))
    refine bodyPost_ret (resRow (p := 4) (t := 5) rfl _ _ K (mba m) rfl (HS.out.re.row m).var) rfl ?_
    exact ⟨ApR.of HE.out, Rt.setRow_below HS.out.ge HS.out.bel _⟩
  | old h g l e =>
    have HE : Hid (x = (21, m)) := by unfold Hid; rw [← HX.out]; exact e
    have HKD : Hid (k = 2 ∨ k = 3) := by unfold Hid; rw [← HKE.out]; exact h
    have HL : Hid (r.1 < m.ep ∨ (r.1 = m.ep ∧ m.has = true)) := l
    clear e HEN HFO HST HLV HCA l h
    have hS1 := HS.out
    have dk0 : decide (k < 1) = false := decide_eq_false (by have := HKD.out; omega)
    have dk1 : (k == 1) = false := by have := HKD.out; simp; omega
    have hw := hgd w2 hS1.v.rd
    rw [g] at hw
    have hrk : w2.rangeAt D 0 [.int .i64 r.1, .slice aL r.2.1.length cL, .slice aJ r.2.2.1.length cJ, .slice aI r.2.2.2.length cI] := ra_of hS1.v.rk 0 _ rfl
    have HRK : Hid (w2.rangeAt D 0 [.int .i64 r.1, .slice aL r.2.1.length cL, .slice aJ r.2.2.1.length cJ, .slice aI r.2.2.2.length cI]) := hrk
    clear hS1 hrk hgd
    go_wp2_with (refine ldM HRK.out Tryz.underlying31 rfl Wi.szRk _ rfl rfl rfl ?_)
    refine hw.mono ?_
    rintro e w3 ⟨rfl, hb3⟩
    have HS3 : Hid (MP w w3 B D K m r aL aJ aI cL cJ cI) := HS.out.later hb3
    clear HS HRK hw hb3 dk0 dk1
    have HS := HS3
    clear HS3
    obtain ⟨d0, d1, d2, d3⟩ := HS.out.v.rk.cells
    have c0 := HS.out.v.mb.ep
    have c1 := HS.out.v.mb.has
    clear g d1 d2 d3 HX
    by_cases l1 : r.1 < m.ep
    · have dl : decide (r.1 < m.ep) = true := decide_eq_true l1
      clear l1
      go_upto_region 9 with (fail)
      go_wp2_with (first | (refine ldMb HS.out.v.mb HC.out _ rfl rfl rfl ?_) | (refine stMb HS.out.re HC.out rfl _ _ rfl rfl rfl ?_))
      refine bodyPost_ret (resRow (p := 4) (t := 5) rfl _ _ K (mba m) rfl (HS.out.re.row m).var) rfl ?_
      exact ⟨ApR.of HE.out, Rt.setRow_below HS.out.ge HS.out.bel _⟩
    · have dl : decide (r.1 < m.ep) = false := decide_eq_false l1
      have l2 : r.1 = m.ep ∧ m.has = true := by
        rcases HL.out with l | l
        · exact absurd l l1
        · exact l
      have de : (r.1 == m.ep) = true := by simpa using l2.1
      rw [l2.2] at c1
      clear l2 l1
      go_upto_region 9 with (fail)
      go_wp2_with (first | (refine ldMb HS.out.v.mb HC.out _ rfl rfl rfl ?_) | (refine stMb HS.out.re HC.out rfl _ _ rfl rfl rfl ?_))
      refine bodyPost_ret (resRow (p := 4) (t := 5) rfl _ _ K (mba m) rfl (HS.out.re.row m).var) rfl ?_
      exact ⟨ApR.of HE.out, Rt.setRow_below HS.out.ge HS.out.bel _⟩
  | strange h g l hh s e =>
    have HE : Hid (x = (22, m)) := by unfold Hid; rw [← HX.out]; exact e
    have HKD : Hid (k = 2 ∨ k = 3) := by unfold Hid; rw [← HKE.out]; exact h
    have HL : Hid (r.1 = m.ep) := l
    have HSS : Hid (stds r.2.2.1 (m.who, m.slt) = false) := s
    have HHH : Hid (m.has = false) := hh
    clear e HEN HFO HLV HCA l h s hh
    have hS1 := HS.out
    have dk0 : decide (k < 1) = false := decide_eq_false (by have := HKD.out; omega)
    have dk1 : (k == 1) = false := by have := HKD.out; simp; omega
    have hw := hgd w2 hS1.v.rd
    rw [g] at hw
    have hrk : w2.rangeAt D 0 [.int .i64 r.1, .slice aL r.2.1.length cL, .slice aJ r.2.2.1.length cJ, .slice aI r.2.2.2.length cI] := ra_of hS1.v.rk 0 _ rfl
    have HRK : Hid (w2.rangeAt D 0 [.int .i64 r.1, .slice aL r.2.1.length cL, .slice aJ r.2.2.1.length cJ, .slice aI r.2.2.2.length cI]) := hrk
    clear hS1 hrk hgd
    go_wp2_with (refine ldM HRK.out Tryz.underlying31 rfl Wi.szRk _ rfl rfl rfl ?_)
    refine hw.mono ?_
    rintro e w3 ⟨rfl, hb3⟩
    have HS3 : Hid (MP w w3 B D K m r aL aJ aI cL cJ cI) := HS.out.later hb3
    clear HS HRK hw hb3 dk0 dk1
    have HS := HS3
    clear HS3
    obtain ⟨d0, d1, d2, d3⟩ := HS.out.v.rk.cells
    have c0 := HS.out.v.mb.ep
    have c1 := HS.out.v.mb.has
    have c2 := HS.out.v.mb.who
    have c3 := HS.out.v.mb.slt
    rw [HHH.out] at c1
    have dl : decide (r.1 < m.ep) = false := decide_eq_false (by rw [HL.out]; omega)
    have de : (r.1 == m.ep) = true := by simpa using HL.out
    have hst := HST.out w3 HS.out.v.rd
    rw [HSS.out] at hst
    try dsimp only at hst
    clear g HX HST
    go_upto_region 10 with (fail)
    go_wp2_with fail
    refine hst.mono ?_
    rintro e w4 ⟨rfl, hb4⟩
    have HS4 : Hid (MP w w4 B D K m r aL aJ aI cL cJ cI) := HS.out.later hb4
    clear HS hst hb4 d0 d1 d2 d3 c0 c1 c2 c3 dl de
    have HS := HS4
    clear HS4
    go_wp2_with (first | (refine ldMb HS.out.v.mb HC.out _ rfl rfl rfl ?_) | (refine stMb HS.out.re HC.out rfl _ _ rfl rfl rfl ?_))
    refine bodyPost_ret (resRow (p := 4) (t := 5) rfl _ _ K (mba m) rfl (HS.out.re.row m).var) rfl ?_
    exact ⟨ApR.of HE.out, Rt.setRow_below HS.out.ge HS.out.bel _⟩
  | enter h g l hh s e =>
    have HE0 : Hid (x = entr m r) := by unfold Hid; rw [← HX.out]; exact e
    have HKD : Hid (k = 2 ∨ k = 3) := by unfold Hid; rw [← HKE.out]; exact h
    have HL : Hid (r.1 = m.ep) := l
    have HSS : Hid (stds r.2.2.1 (m.who, m.slt) = true) := s
    have HHH : Hid (m.has = false) := hh
    have HG : Hid (gR r = true) := g
    have HSA : Hid (Sat m) := (knd_sat h).1
    clear e HFO HLV l h s hh
    have hS1 := HS.out
    have dk0 : decide (k < 1) = false := decide_eq_false (by have := HKD.out; omega)
    have dk1 : (k == 1) = false := by have := HKD.out; simp; omega
    have hw := hgd w2 hS1.v.rd
    rw [g] at hw
    have hrk : w2.rangeAt D 0 [.int .i64 r.1, .slice aL r.2.1.length cL, .slice aJ r.2.2.1.length cJ, .slice aI r.2.2.2.length cI] := ra_of hS1.v.rk 0 _ rfl
    have HRK : Hid (w2.rangeAt D 0 [.int .i64 r.1, .slice aL r.2.1.length cL, .slice aJ r.2.2.1.length cJ, .slice aI r.2.2.2.length cI]) := hrk
    clear hS1 hrk hgd
    go_wp2_with (refine ldM HRK.out Tryz.underlying31 rfl Wi.szRk _ rfl rfl rfl ?_)
    refine hw.mono ?_
    rintro e w3 ⟨rfl, hb3⟩
    have HS3 : Hid (MP w w3 B D K m r aL aJ aI cL cJ cI) := HS.out.later hb3
    clear HS HRK hw hb3 dk0 dk1
    have HS := HS3
    clear HS3
    obtain ⟨d0, d1, d2, d3⟩ := HS.out.v.rk.cells
    have c0 := HS.out.v.mb.ep
    have c1 := HS.out.v.mb.has
    have c2 := HS.out.v.mb.who
    have c3 := HS.out.v.mb.slt
    rw [HHH.out] at c1
    have dl : decide (r.1 < m.ep) = false := decide_eq_false (by rw [HL.out]; omega)
    have de : (r.1 == m.ep) = true := by simpa using HL.out
    have hst := HST.out w3 HS.out.v.rd
    rw [HSS.out] at hst
    try dsimp only at hst
    clear g HX HST
    go_upto_region 10 with (fail)
    go_wp2_with fail
    refine hst.mono ?_
    rintro e w4 ⟨rfl, hb4⟩
    have HS4 : Hid (MP w w4 B D K m r aL aJ aI cL cJ cI) := HS.out.later hb4
    clear HS hst hb4 d0 d1 d2 d3 c0 c1 c2 c3 dl
    have HS := HS4
    clear HS4
    obtain ⟨d0, d1, d2, d3⟩ := HS.out.v.rk.cells
    have c0 := HS.out.v.mb.ep
    have he := HEN.out w4 HS.out.v.rd HG.out HSA.out
    have hrk : w4.rangeAt D 0 [.int .i64 r.1, .slice aL r.2.1.length cL, .slice aJ r.2.2.1.length cJ, .slice aI r.2.2.2.length cI] := ra_of HS.out.v.rk 0 _ rfl
    have HRK : Hid (w4.rangeAt D 0 [.int .i64 r.1, .slice aL r.2.1.length cL, .slice aJ r.2.2.1.length cJ, .slice aI r.2.2.2.length cI]) := hrk
    clear hrk HEN
    go_upto_region 13 with (fail)
    clear d0 d1 d2 d3 c0 de
    go_wp2_with (first | (refine ldMb HS.out.v.mb HC.out _ rfl rfl rfl ?_) | (refine ldM HRK.out Tryz.underlying31 rfl Wi.szRk _ rfl rfl rfl ?_))
    refine he.mono ?_
    rintro e w5 ⟨⟨n, rfl, hn0⟩, hb5⟩
    have HNN : Hid (enEr m r.2.2.2 = 0 → n = EnF m (en0 m r.2.2.2) (en1 m r.2.2.2) (en2 m r.2.2.2)) := hn0
    have HEC : Hid (∀ e, enEr m r.2.2.2 = e → (e = 0 → x = (0, calm n)) ∧ (e ≠ 0 → x = (e, m))) := fun e0 he0 => by
      rw [HE0.out]
      refine ⟨fun hz => ?_, fun hz => en_bad he0 hz⟩
      rw [HNN.out (he0.trans hz)]
      exact en_calm HL.out (he0.trans hz)
    clear hn0 HNN HE0 he
    obtain ⟨ee, hee⟩ : ∃ e, enEr m r.2.2.2 = e := ⟨_, rfl⟩
    have HEC2 : Hid ((ee = 0 → x = (0, calm n)) ∧ (ee ≠ 0 → x = (ee, m))) := HEC.out ee hee
    rw [hee]
    clear hee HEC
    obtain ⟨cn, hcn⟩ : ∃ c, mba n = c := ⟨_, rfl⟩
    have HCN : Hid (mba n = cn) := hcn
    rw [hcn]
    clear hcn
    have hb6 := Wi.Below.join hb5 (below_alloc w5 (.cells (mba n) 27))
    have hS6 := HS.out.later hb6
    have hA6 := MA.new w5 n
    rw [HCN.out] at hS6 hA6
    clear HS hb5 hb6 HRK
    go_upto_region 14 with (refine stMn (w := w5) HCN.out rfl _ _ rfl rfl rfl ?_)
    generalize w5.alloc (.cells cn 27) = w6 at *
    generalize w5.heap.size = M at *
    by_cases hz : ee = 0
    · have HE : Hid (x = (0, calm n)) := HEC2.out.1 hz
      have dz : (ee != 0) = false := by simpa using hz
      have hc := HCA.out n
      simp only [HCN.out] at hc
      clear hz HEC2 HCA
      go_wp2_with (refine ldMb hA6 HCN.out _ rfl rfl rfl ?_)
      refine (hc _).mono ?_
      rintro e w7 ⟨rfl, hb7⟩
      have hS7 := hS6.later hb7
      have hre := hS7.re
      clear hS6 hA6 hb7 hc
      go_wp2_with (refine stMb (n := calm n) hre rfl rfl _ _ rfl rfl rfl ?_)
      refine bodyPost_ret (resRow (p := 4) (t := 5) rfl _ _ K (mba (calm n)) rfl (hre.row (calm n)).var) rfl ?_
      exact ⟨ApR.of HE.out, Rt.setRow_below hS7.ge hS7.bel _⟩
    · have HE : Hid (x = (ee, m)) := HEC2.out.2 hz
      have dz : (ee != 0) = true := by simpa using hz
      have HS : Hid (MP w w6 B D K m r aL aJ aI cL cJ cI) := hS6
      clear hz HEC2 HCA hS6 hA6
      go_wp2_with (first | (refine ldMb HS.out.v.mb HC.out _ rfl rfl rfl ?_) | (refine stMb HS.out.re HC.out rfl _ _ rfl rfl rfl ?_))
      refine bodyPost_ret (resRow (p := 4) (t := 5) rfl _ _ K (mba m) rfl (HS.out.re.row m).var) rfl ?_
      exact ⟨ApR.of HE.out, Rt.setRow_below HS.out.ge HS.out.bel _⟩
  | put h g l hh s e =>
    have HE : Hid (x = (0, outM m.who r.1)) := by unfold Hid; rw [← HX.out]; exact e
    have HSS : Hid (lvs r.2.1 m.who = true) := s
    have HKD : Hid (k = 2 ∨ k = 3) := by unfold Hid; rw [← HKE.out]; exact h
    have HL : Hid (r.1 = m.ep + 1) := l
    have HHH : Hid (m.has = true) := hh
    have hep := (knd_sat h).1.ep
    have HEP : Hid (1 ≤ m.ep ∧ m.ep ≤ 200) := hep
    clear e HEN HFO HST HCA l h s hh hep
    have hS1 := HS.out
    have dk0 : decide (k < 1) = false := decide_eq_false (by have := HKD.out; omega)
    have dk1 : (k == 1) = false := by have := HKD.out; simp; omega
    have hw := hgd w2 hS1.v.rd
    rw [g] at hw
    have hrk : w2.rangeAt D 0 [.int .i64 r.1, .slice aL r.2.1.length cL, .slice aJ r.2.2.1.length cJ, .slice aI r.2.2.2.length cI] := ra_of hS1.v.rk 0 _ rfl
    have HRK : Hid (w2.rangeAt D 0 [.int .i64 r.1, .slice aL r.2.1.length cL, .slice aJ r.2.2.1.length cJ, .slice aI r.2.2.2.length cI]) := hrk
    clear hS1 hrk hgd
    go_wp2_with (refine ldM HRK.out Tryz.underlying31 rfl Wi.szRk _ rfl rfl rfl ?_)
    refine hw.mono ?_
    rintro e w3 ⟨rfl, hb3⟩
    have HS3 : Hid (MP w w3 B D K m r aL aJ aI cL cJ cI) := HS.out.later hb3
    clear HS HRK hw hb3 dk0 dk1
    have HS := HS3
    clear HS3
    obtain ⟨d0, d1, d2, d3⟩ := HS.out.v.rk.cells
    have c0 := HS.out.v.mb.ep
    have c1 := HS.out.v.mb.has
    have c2 := HS.out.v.mb.who
    rw [HHH.out] at c1
    have dl : decide (r.1 < m.ep) = false := decide_eq_false (by have := HL.out; omega)
    have de : (r.1 == m.ep) = false := by have := HL.out; simp; omega
    have hwr : IntKind.i64.wrap (m.ep + 1) = m.ep + 1 := Rt.i64_fit _ (by have := HEP.out; omega) (by have := HEP.out; omega)
    have dn : decide (m.ep + 1 < r.1) = false := decide_eq_false (by have := HL.out; omega)
    have hlv := HLV.out w3 HS.out.v.rd
    clear g HX HLV
    go_upto_region 20 with (fail)
    clear dl de hwr dn c0 c1
    rw [HSS.out] at hlv
    go_wp2_with fail
    refine hlv.mono ?_
    rintro e w4 ⟨rfl, hb4⟩
    have hS4 := HS.out.later hb4
    obtain ⟨d0, d1, d2, d3⟩ := hS4.v.rk.cells
    have c0 := hS4.v.mb.who
    have hre := hS4.re
    clear HS hlv hb4
    go_wp2_with (refine stMb (n := outM m.who r.1) hre rfl rfl _ _ rfl rfl rfl ?_)
    refine bodyPost_ret (resRow (p := 4) (t := 5) rfl _ _ K (mba (outM m.who r.1)) rfl (hre.row (outM m.who r.1)).var) rfl ?_
    exact ⟨ApR.of HE.out, Rt.setRow_below hS4.ge hS4.bel _⟩
  | follow h g l hh s e =>
    have HE0 : Hid (x = foll m r) := by unfold Hid; rw [← HX.out]; exact e
    have HSS : Hid (lvs r.2.1 m.who = false) := s
    have HKD : Hid (k = 2 ∨ k = 3) := by unfold Hid; rw [← HKE.out]; exact h
    have HL : Hid (r.1 = m.ep + 1) := l
    have HHH : Hid (m.has = true) := hh
    obtain ⟨hsa, hpp⟩ := knd_sat h
    have HSA : Hid (Sat m) := hsa
    have HG : Hid (gR r = true) := g
    have HPP : Hid (gk m.p0 = true ∧ gk m.p1 = true ∧ gk m.p2 = true) := by
      rcases hpp with ⟨a, _⟩ | ⟨_, _, b⟩
      · rw [hh] at a; cases a
      · exact b
    have HEP : Hid (1 ≤ m.ep ∧ m.ep ≤ 200) := hsa.ep
    clear e HEN HST l h s hh hsa hpp
    have hS1 := HS.out
    have dk0 : decide (k < 1) = false := decide_eq_false (by have := HKD.out; omega)
    have dk1 : (k == 1) = false := by have := HKD.out; simp; omega
    have hw := hgd w2 hS1.v.rd
    rw [g] at hw
    have hrk : w2.rangeAt D 0 [.int .i64 r.1, .slice aL r.2.1.length cL, .slice aJ r.2.2.1.length cJ, .slice aI r.2.2.2.length cI] := ra_of hS1.v.rk 0 _ rfl
    have HRK : Hid (w2.rangeAt D 0 [.int .i64 r.1, .slice aL r.2.1.length cL, .slice aJ r.2.2.1.length cJ, .slice aI r.2.2.2.length cI]) := hrk
    clear hS1 hrk hgd
    go_wp2_with (refine ldM HRK.out Tryz.underlying31 rfl Wi.szRk _ rfl rfl rfl ?_)
    refine hw.mono ?_
    rintro e w3 ⟨rfl, hb3⟩
    have HS3 : Hid (MP w w3 B D K m r aL aJ aI cL cJ cI) := HS.out.later hb3
    clear HS HRK hw hb3 dk0 dk1
    have HS := HS3
    clear HS3
    obtain ⟨d0, d1, d2, d3⟩ := HS.out.v.rk.cells
    have c0 := HS.out.v.mb.ep
    have c1 := HS.out.v.mb.has
    have c2 := HS.out.v.mb.who
    rw [HHH.out] at c1
    have dl : decide (r.1 < m.ep) = false := decide_eq_false (by have := HL.out; omega)
    have de : (r.1 == m.ep) = false := by have := HL.out; simp; omega
    have hwr : IntKind.i64.wrap (m.ep + 1) = m.ep + 1 := Rt.i64_fit _ (by have := HEP.out; omega) (by have := HEP.out; omega)
    have dn : decide (m.ep + 1 < r.1) = false := decide_eq_false (by have := HL.out; omega)
    have hlv := HLV.out w3 HS.out.v.rd
    clear g HX HLV
    go_upto_region 20 with (fail)
    clear dl de hwr dn c0 c1
    rw [HSS.out] at hlv
    go_wp2_with fail
    refine hlv.mono ?_
    rintro e w4 ⟨rfl, hb4⟩
    have HS4 : Hid (MP w w4 B D K m r aL aJ aI cL cJ cI) := HS.out.later hb4
    clear HS hlv hb4
    have HS := HS4
    clear HS4
    have he := HFO.out w4 HS.out.v.rd HG.out HSA.out HPP.out.1 HPP.out.2.1 HPP.out.2.2
    have hrk : w4.rangeAt D 0 [.int .i64 r.1, .slice aL r.2.1.length cL, .slice aJ r.2.2.1.length cJ, .slice aI r.2.2.2.length cI] := ra_of HS.out.v.rk 0 _ rfl
    have HRK : Hid (w4.rangeAt D 0 [.int .i64 r.1, .slice aL r.2.1.length cL, .slice aJ r.2.2.1.length cJ, .slice aI r.2.2.2.length cI]) := hrk
    clear hrk HFO
    go_upto_region 22 with (fail)
    go_wp2_with (first | (refine ldMb HS.out.v.mb HC.out _ rfl rfl rfl ?_) | (refine ldM HRK.out Tryz.underlying31 rfl Wi.szRk _ rfl rfl rfl ?_))
    refine he.mono ?_
    rintro e w5 ⟨⟨n, rfl, hn0⟩, hb5⟩
    have HNN : Hid (foEr m r = 0 → n = FoF m r.1 (fo0 m r) (fo1 m r) (fo2 m r)) := hn0
    have HEC : Hid (∀ e, foEr m r = e → (e = 0 → x = (0, calm n)) ∧ (e ≠ 0 → x = (e, m))) := fun e0 he0 => by
      rw [HE0.out]
      refine ⟨fun hz => ?_, fun hz => fo_bad he0 hz⟩
      rw [HNN.out (he0.trans hz)]
      exact fo_calm HHH.out (he0.trans hz)
    clear hn0 HNN HE0 he
    obtain ⟨ee, hee⟩ : ∃ e, foEr m r = e := ⟨_, rfl⟩
    have HEC2 : Hid ((ee = 0 → x = (0, calm n)) ∧ (ee ≠ 0 → x = (ee, m))) := HEC.out ee hee
    rw [hee]
    clear hee HEC
    obtain ⟨cn, hcn⟩ : ∃ c, mba n = c := ⟨_, rfl⟩
    have HCN : Hid (mba n = cn) := hcn
    rw [hcn]
    clear hcn
    have hb6 := Wi.Below.join hb5 (below_alloc w5 (.cells (mba n) 27))
    have hS6 := HS.out.later hb6
    have hA6 := MA.new w5 n
    rw [HCN.out] at hS6 hA6
    clear HS hb5 hb6 HRK
    go_upto_region 23 with (refine stMn (w := w5) HCN.out rfl _ _ rfl rfl rfl ?_)
    generalize w5.alloc (.cells cn 27) = w6 at *
    generalize w5.heap.size = M at *
    by_cases hz : ee = 0
    · have HE : Hid (x = (0, calm n)) := HEC2.out.1 hz
      have dz : (ee != 0) = false := by simpa using hz
      have hc := HCA.out n
      simp only [HCN.out] at hc
      clear hz HEC2 HCA
      go_wp2_with (refine ldMb hA6 HCN.out _ rfl rfl rfl ?_)
      refine (hc _).mono ?_
      rintro e w7 ⟨rfl, hb7⟩
      have hS7 := hS6.later hb7
      have hre := hS7.re
      clear hS6 hA6 hb7 hc
      go_wp2_with (refine stMb (n := calm n) hre rfl rfl _ _ rfl rfl rfl ?_)
      refine bodyPost_ret (resRow (p := 4) (t := 5) rfl _ _ K (mba (calm n)) rfl (hre.row (calm n)).var) rfl ?_
      exact ⟨ApR.of HE.out, Rt.setRow_below hS7.ge hS7.bel _⟩
    · have HE : Hid (x = (ee, m)) := HEC2.out.2 hz
      have dz : (ee != 0) = true := by simpa using hz
      have HS : Hid (MP w w6 B D K m r aL aJ aI cL cJ cI) := hS6
      clear hz HEC2 HCA hS6 hA6
      go_wp2_with (first | (refine ldMb HS.out.v.mb HC.out _ rfl rfl rfl ?_) | (refine stMb HS.out.re HC.out rfl _ _ rfl rfl rfl ?_))
      refine bodyPost_ret (resRow (p := 4) (t := 5) rfl _ _ K (mba m) rfl (HS.out.re.row m).var) rfl ?_
      exact ⟨ApR.of HE.out, Rt.setRow_below HS.out.ge HS.out.bel _⟩
  | gap h g l n e =>
    have HE : Hid (x = (22, gapM m r.1)) := by unfold Hid; rw [← HX.out]; exact e
    have HKD : Hid (k = 2 ∨ k = 3) := by unfold Hid; rw [← HKE.out]; exact h
    have HL : Hid (m.ep < r.1) := l
    have HNX : Hid (¬ (r.1 = m.ep + 1 ∧ m.has = true)) := n
    have HEP : Hid (1 ≤ m.ep ∧ m.ep ≤ 200) := (knd_sat h).1.ep
    clear e HEN HFO HST HLV HCA l h n
    have hS1 := HS.out
    have dk0 : decide (k < 1) = false := decide_eq_false (by have := HKD.out; omega)
    have dk1 : (k == 1) = false := by have := HKD.out; simp; omega
    have hw := hgd w2 hS1.v.rd
    rw [g] at hw
    have hrk : w2.rangeAt D 0 [.int .i64 r.1, .slice aL r.2.1.length cL, .slice aJ r.2.2.1.length cJ, .slice aI r.2.2.2.length cI] := ra_of hS1.v.rk 0 _ rfl
    have HRK : Hid (w2.rangeAt D 0 [.int .i64 r.1, .slice aL r.2.1.length cL, .slice aJ r.2.2.1.length cJ, .slice aI r.2.2.2.length cI]) := hrk
    clear hS1 hrk hgd
    go_wp2_with (refine ldM HRK.out Tryz.underlying31 rfl Wi.szRk _ rfl rfl rfl ?_)
    refine hw.mono ?_
    rintro e w3 ⟨rfl, hb3⟩
    have HS3 : Hid (MP w w3 B D K m r aL aJ aI cL cJ cI) := HS.out.later hb3
    clear HS HRK hw hb3 dk0 dk1
    have HS := HS3
    clear HS3
    obtain ⟨d0, d1, d2, d3⟩ := HS.out.v.rk.cells
    have c0 := HS.out.v.mb.ep
    have c1 := HS.out.v.mb.has
    have c2 := HS.out.v.mb.bh
    have f2 := HS.out.v.mb.fr 13
    have dl : decide (r.1 < m.ep) = false := decide_eq_false (by have := HL.out; omega)
    have de : (r.1 == m.ep) = false := by have := HL.out; simp; omega
    have hwr : IntKind.i64.wrap (m.ep + 1) = m.ep + 1 := Rt.i64_fit _ (by have := HEP.out; omega) (by have := HEP.out; omega)
    clear g d1 d2 d3 HX
    by_cases hn1 : r.1 = m.ep + 1
    · have d1 : decide (m.ep + 1 < r.1) = false := decide_eq_false (by omega)
      have hh : m.has = false := by
        cases hh : m.has with
        | false => rfl
        | true => exact absurd ⟨hn1, hh⟩ HNX.out
      rw [hh] at c1
      clear hn1 hh
      go_upto_region 18 with (fail)
      go_upto_region 19 with (fail)
      have hM : MA (w3.setCell ⟨B, 13, none⟩ (.int .i64 (max m.bh r.1))) B (gapM m r.1) := by
        have h3 := Rt.row_setCell HS.out.v.mb 13 (.int .i64 (max m.bh r.1))
        rw [max_if] at h3
        rw [max_if]
        exact h3
      have hre : MA (w3.setCell ⟨B, 13, none⟩ (.int .i64 (max m.bh r.1))) K zMb := (Rt.other_setCell (Ne.symm HS.out.ne) _ _).trans HS.out.re
      have HBL : Hid (Below w.heap.size w (w3.setCell ⟨B, 13, none⟩ (.int .i64 (max m.bh r.1)))) := HS.out.bel.setCell (p := ⟨B, 13, none⟩) HS.out.gB _
      have HGE : Hid (w.heap.size ≤ K) := HS.out.ge
      generalize w3.setCell ⟨B, 13, none⟩ (.int .i64 (max m.bh r.1)) = w4 at *
      clear HS c0 c1 c2 f2 d0
      go_wp2_with (first | (refine ldMb hM rfl _ rfl rfl rfl ?_) | (refine stMb (n := gapM m r.1) hre rfl rfl _ _ rfl rfl rfl ?_))
      refine bodyPost_ret (resRow (p := 4) (t := 5) rfl _ _ K (mba (gapM m r.1)) rfl (hre.row (gapM m r.1)).var) rfl ?_
      exact ⟨ApR.of HE.out, Rt.setRow_below HGE.out HBL.out _⟩
    · have d1 : decide (m.ep + 1 < r.1) = true := decide_eq_true (by have := HL.out; omega)
      clear hn1
      go_upto_region 18 with (fail)
      go_upto_region 19 with (fail)
      have hM : MA (w3.setCell ⟨B, 13, none⟩ (.int .i64 (max m.bh r.1))) B (gapM m r.1) := by
        have h3 := Rt.row_setCell HS.out.v.mb 13 (.int .i64 (max m.bh r.1))
        rw [max_if] at h3
        rw [max_if]
        exact h3
      have hre : MA (w3.setCell ⟨B, 13, none⟩ (.int .i64 (max m.bh r.1))) K zMb := (Rt.other_setCell (Ne.symm HS.out.ne) _ _).trans HS.out.re
      have HBL : Hid (Below w.heap.size w (w3.setCell ⟨B, 13, none⟩ (.int .i64 (max m.bh r.1)))) := HS.out.bel.setCell (p := ⟨B, 13, none⟩) HS.out.gB _
      have HGE : Hid (w.heap.size ≤ K) := HS.out.ge
      generalize w3.setCell ⟨B, 13, none⟩ (.int .i64 (max m.bh r.1)) = w4 at *
      clear HS c0 c1 c2 f2 d0
      go_wp2_with (first | (refine ldMb hM rfl _ rfl rfl rfl ?_) | (refine stMb (n := gapM m r.1) hre rfl rfl _ _ rfl rfl rfl ?_))
      refine bodyPost_ret (resRow (p := 4) (t := 5) rfl _ _ K (mba (gapM m r.1)) rfl (hre.row (gapM m r.1)).var) rfl ?_
      exact ⟨ApR.of HE.out, Rt.setRow_below HGE.out HBL.out _⟩
end Go.Proofs.YtnaiocdldghdeaaGreat.Mb
