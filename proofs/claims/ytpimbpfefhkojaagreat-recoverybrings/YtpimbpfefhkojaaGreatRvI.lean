/- Contract: lives. -/
import Derived.Test.YtpimbpfefhkojaaGreatRvH
import Derived.Test.YtpimbpfefhkojaaGreatWiJ1
namespace Go.Proofs.YtpimbpfefhkojaaGreat.Rv
open Go.RowKit Go.Maps Mb
open Rt (Ky zK gd gv Gd gd_iff pcs KyAt)
open Rs (RdI ps evl)
open Wi (gR gE gW gS gI gB gK gP zP zR zQ zD ldM rd_guard ra_of th_of ra_later RdV itl stl bxl Msg gM MR mgv)
set_option linter.unusedVariables false
set_option linter.unusedSimpArgs false

theorem liv_0 : caE t3 2 = 0 := by decide +kernel
theorem liv_1 : caE t5 2 = 0 := by decide +kernel
theorem liv_2 : anE t5 2 1 = 0 := by decide +kernel
theorem liv_3 : tkE (Mb.stM t3 2) (anP t5 2 1) = 0 := by decide +kernel
theorem liv_4 : mE (tkM (Mb.stM t3 2) (anP t5 2 1)) (Mb.stM t5 2) = true := by decide +kernel
theorem liv_5 : (anP t5 2 1).1.2 = 1 := by decide +kernel
theorem liv_6 : (anP t5 2 1).2.2.1 = ((23, 2), (6, 3)) := by decide +kernel
set_option maxRecDepth 100000 in
set_option maxHeartbeats 2000000 in
theorem lives16_any (w : World) : Calls Tryz.prog 5 #[] w fun e w' => e = .returned (.bool true) ∧ Below w.heap.size w w' := by
  have h0 := three0
  have h2 := three2
  have hs0 := stand_r t3 2
  have hs2 := stand_r t5 2
  have han := answer_any t5 2 1
  have htk := take_any (Mb.stM t3 2) (anP t5 2 1)
  unfold AnA at han
  unfold TkA at htk
  rw [liv_2] at han
  rw [liv_3, mE_iff.1 liv_4] at htk
  rw [liv_0] at hs0
  rw [liv_1] at hs2
  have h5 := liv_5
  have h6 := liv_6
  obtain ⟨lp, hlp⟩ : ∃ x, anP t5 2 1 = x := ⟨_, rfl⟩
  obtain ⟨mm, hmm⟩ : ∃ x, Mb.stM t3 2 = x := ⟨_, rfl⟩
  obtain ⟨mw, hmw⟩ : ∃ x, Mb.stM t5 2 = x := ⟨_, rfl⟩
  simp only [hlp, hmm, hmw] at han htk hs0 hs2 h5 h6
  clear hlp hmm hmw
  obtain ⟨c3, hc3⟩ : ∃ c, tcs t3 = c := ⟨_, rfl⟩
  obtain ⟨c5, hc5⟩ : ∃ c, tcs t5 = c := ⟨_, rfl⟩
  obtain ⟨cm, hcm⟩ : ∃ c, mba mm = c := ⟨_, rfl⟩
  obtain ⟨cw, hcw⟩ : ∃ c, mba mw = c := ⟨_, rfl⟩
  obtain ⟨cp, hcp⟩ : ∃ c, rpa lp = c := ⟨_, rfl⟩
  have HM : Hid (mba mm = cm) := hcm
  have HW : Hid (mba mw = cw) := hcw
  have HP : Hid (rpa lp = cp) := hcp
  simp only [hc3, hc5, hcm, hcw, hcp] at h0 h2 hs0 hs2 han htk
  clear hc3 hc5 hcm hcw hcp
  unfold rqa at han
  have HEQ : Hid (mE mw mw = true) := mE_iff.2 rfl
  have ebx := fun W => Wi.run_eqBx (w := W) 9997 ((23, 2), (6, 3)) ((23, 2), (6, 3))
  rw [decide_eq_true rfl] at ebx
  go_enter Tryz.func5, Tryz.ntmps5
  go_wp2_with fail
  refine (h0 _).mono ?_
  rintro r w1 ⟨rfl, hb1⟩
  go_wp2_with fail
  refine (hs0 _).mono ?_
  rintro r w2 ⟨rfl, hb2⟩
  have hB3 := Wi.Below.join (Wi.Below.join hb1 hb2) (below_alloc w2 (.cells (mba mm) 39))
  have hA3 := MA.new w2 mm
  rw [HM.out] at hB3 hA3
  clear hb1 hb2 hs0 h0
  go_upto_region 2 with (refine stMn (w := w2) HM.out rfl _ _ rfl rfl rfl ?_)
  generalize w2.alloc (.cells cm 39) = w3 at *
  generalize w2.heap.size = A at *
  go_wp2_with fail
  refine (h2 _).mono ?_
  rintro r w4 ⟨rfl, hb4⟩
  go_wp2_with fail
  refine (han _).mono ?_
  rintro r w5 ⟨rfl, hb5⟩
  have hb6 := Wi.Below.join (Wi.Below.join hb4 hb5) (below_alloc w5 (.cells (rpa lp) 60))
  have hP6 := RA.new w5 lp
  have hB6 := Wi.Below.join hB3 hb6
  have hA6 := hA3.later hb6
  clear hb4 hb5 hb6 han hB3 hA3
  go_upto_region 3 with (refine stRpn (w := w5) zP lp rfl HP.out rfl _ _ rfl rfl rfl ?_)
  generalize w5.alloc (.cells (rpa lp) 60) = w6 at *
  generalize w5.heap.size = P at *
  go_wp2_with (first | (refine ldMb hA6 HM.out _ rfl rfl rfl ?_) | (refine ldRp hP6 HP.out _ rfl rfl rfl ?_))
  refine (htk _).mono ?_
  rintro r w7 ⟨rfl, hb7⟩
  have hb8 := Wi.Below.join hb7 (below_alloc w7 (.cells (mba mw) 39))
  have hB8 := Wi.Below.join hB6 hb8
  have hP8 := hP6.later hb8
  have hN8 := MA.new w7 mw
  rw [HW.out] at hb8 hB8 hN8 hP8
  clear hb7 hb8 hB6 hP6 hA6 htk
  go_upto_region 4 with (refine stMn (w := w7) HW.out rfl _ _ rfl rfl rfl ?_)
  generalize w7.alloc (.cells cw 39) = w8 at *
  generalize w7.heap.size = N at *
  go_wp2_with fail
  refine (h2 _).mono ?_
  rintro r w9 ⟨rfl, hb9⟩
  go_wp2_with fail
  refine (hs2 _).mono ?_
  rintro r w10 ⟨rfl, hb10⟩
  have hb11 := Wi.Below.join (Wi.Below.join hb9 hb10) (below_alloc w10 (.cells (mba mw) 39))
  have hB11 := Wi.Below.join hB8 hb11
  have hP11 := hP8.later hb11
  have hN11 := hN8.later hb11
  have hW11 := MA.new w10 mw
  rw [HW.out] at hb11 hB11 hN11 hP11 hW11
  clear hb9 hb10 hb11 hB8 hP8 hN8 hs2 h2
  go_upto_region 5 with (refine stMn (w := w10) HW.out rfl _ _ rfl rfl rfl ?_)
  generalize w10.alloc (.cells cw 39) = w11 at *
  generalize w10.heap.size = D at *
  have c1 := hP11.slt
  rw [h5] at c1
  have b0 := hP11.b0
  rw [h6] at b0
  have HB : Hid (Below w.heap.size w w11) := hB11
  have e1 := ebx w11
  clear hB11 h5 h6 hP11 ebx
  go_wp2_with (first | (refine ldMb hN11 HW.out _ rfl rfl rfl ?_) | (refine ldMb hW11 HW.out _ rfl rfl rfl ?_) | (refine eqM HW.out HW.out HEQ.out _ _ rfl rfl rfl rfl ?_) | (refine ldM b0 Tryz.underlying57 rfl Wi.szBox _ rfl rfl rfl ?_) | (refine Wi.eqX e1 Tryz.eqGuardType57 _ _ rfl rfl rfl rfl ?_))
  go_ret
  exact ⟨rfl, HB.out⟩
end Go.Proofs.YtpimbpfefhkojaaGreat.Rv
