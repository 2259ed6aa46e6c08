/- For any state and any reply: Take is the document's; a right state stays right; beside an error the state stays. No conditions. -/
import Derived.Test.YtdghibimelhgjaaGreatRows
import Derived.Test.YtdghibimelhgjaaGreatRvI
import Derived.Test.YtdghibimelhgjaaGreatOpenRv
import Derived.BigQuiet
import Derived.OpenShut
import Derived.ChangeMaps5
namespace Go.Proofs.YtdghibimelhgjaaGreat.recoveryTakes
open Go.ChangeShapes Go.WideShapes Go.ChangeAt Go.RowKit Go.Maps
open Go.Proofs.YtdghibimelhgjaaGreat.Mb Go.Proofs.YtdghibimelhgjaaGreat.Rv
open Rt (Ky KyAt)
open Wi (ldM ra_of zP)
set_option linter.unusedVariables false
set_option linter.unusedSimpArgs false

set_option maxHeartbeats 4000000 in
set_option maxRecDepth 100000 in
theorem walk (m0 : Mb) (p1_ : Rp) (w : World) :
    Calls Tryz.prog 5 #[.agg (mba m0), .agg (rpa p1_)] w fun e w' => e = .returned (.bool true) ∧ Below w.heap.size w w' := by
  have hli := lives16_any
  have ha1 := take_any m0 p1_
  have ha2 := rTake_any m0 p1_
  have hk1 := rKind_any m0
  have hk2 := rKind_any (tkM m0 p1_)
  have HNO : Hid (tkE m0 p1_ ≠ 0 → tkM m0 p1_ = m0) := tkM_no
  have HRT : Hid (0 ≤ knd m0 → 0 ≤ knd (tkM m0 p1_)) := tk_right
  unfold TkA at ha1 ha2
  obtain ⟨n, hn⟩ : ∃ b, tkM m0 p1_ = b := ⟨_, rfl⟩
  obtain ⟨e, he⟩ : ∃ b, tkE m0 p1_ = b := ⟨_, rfl⟩
  simp only [hn, he] at ha1 ha2 hk2
  rw [hn, he] at HNO
  rw [hn] at HRT
  clear hn he
  obtain ⟨k, hk⟩ : ∃ b, knd m0 = b := ⟨_, rfl⟩
  obtain ⟨l, hl⟩ : ∃ b, knd n = b := ⟨_, rfl⟩
  simp only [hk] at hk1
  simp only [hl] at hk2
  rw [hk, hl] at HRT
  clear hk hl
  have hS := S2.new w m0 p1_
  obtain ⟨cm, hcm⟩ : ∃ c, mba m0 = c := ⟨_, rfl⟩
  have HC : Hid (mba m0 = cm) := hcm
  rw [hcm] at hS
  simp only [hcm] at hk1 ha1 ha2
  rw [hcm]
  clear hcm
  obtain ⟨cp, hcp⟩ : ∃ c, rpa p1_ = c := ⟨_, rfl⟩
  have HP : Hid (rpa p1_ = cp) := hcp
  rw [hcp] at hS
  simp only [hcp] at ha1 ha2
  rw [hcp]
  clear hcp
  obtain ⟨cn, hcn⟩ : ∃ c, mba n = c := ⟨_, rfl⟩
  have HN : Hid (mba n = cn) := hcn
  simp only [hcn] at hk2 ha1 ha2
  clear hcn
  have HNN : Hid (mE n n = true) := mE_iff.2 rfl
  have HK1 : Hid _ := hk1
  have HK2 : Hid _ := hk2
  clear hk1 hk2
  go_enter Tryz.func5, Tryz.ntmps5
  go_upto_region 1 with (fail)
  generalize (w.alloc (.cells cm 27)).alloc (.cells cp 47) = w1 at *
  obtain ⟨R, hR⟩ : ∃ Q, w.heap.size + 1 = Q := ⟨_, rfl⟩
  obtain ⟨B, hB⟩ : ∃ B, w.heap.size = B := ⟨_, rfl⟩
  have hS1 : S2 w w1 B R m0 p1_ := by rw [← hB, ← hR]; exact hS
  rw [hR, hB]
  clear hR hB hS
  go_wp2_with fail
  refine (hli _).mono ?_
  rintro r w2 ⟨rfl, hb2⟩
  have hS2 := hS1.later hb2
  clear hb2 hli hS1
  go_wp2_with (first | (refine ldMb hS2.mb HC.out _ rfl rfl rfl ?_) | (refine ldRp hS2.rp HP.out _ rfl rfl rfl ?_))
  refine (ha1 _).mono ?_
  rintro r w3 ⟨rfl, hb3⟩
  have hS4 := (hS2.later hb3).later (below_alloc w3 (.cells cn 27))
  have hP4 := MA.new w3 n
  rw [HN.out] at hP4
  clear hb3 hS2 ha1
  go_upto_region 4 with (refine stMn (w := w3) HN.out rfl _ _ rfl rfl rfl ?_)
  generalize w3.alloc (.cells cn 27) = w4 at *
  generalize w3.heap.size = P at *
  go_wp2_with (first | (refine ldMb hS4.mb HC.out _ rfl rfl rfl ?_) | (refine ldRp hS4.rp HP.out _ rfl rfl rfl ?_))
  refine (ha2 _).mono ?_
  rintro r w5 ⟨rfl, hb5⟩
  have hS6 := (hS4.later hb5).later (below_alloc w5 (.cells cn 27))
  have hP6 := (hP4.later hb5).later (below_alloc w5 (.cells cn 27))
  have hR6 := MA.new w5 n
  rw [HN.out] at hR6
  clear hb5 hS4 ha2 hP4
  go_upto_region 5 with (refine stMn (w := w5) HN.out rfl _ _ rfl rfl rfl ?_)
  generalize w5.alloc (.cells cn 27) = w6 at *
  generalize w5.heap.size = D at *
  have d0 : (e != e) = false := by simp
  have HS : Hid (S2 w w6 B R m0 p1_) := hS6
  clear hS6 HP
  go_cut [40] (fun s40 wx => s40 = .bool false ∧ S2 w wx B R m0 p1_ ∧ MA wx P n)
  case first =>
    by_cases hk0 : 0 ≤ k
    · have d1 : decide (0 ≤ k) = true := decide_eq_true hk0
      have d2 : decide (l < 0) = false := decide_eq_false (by have := HRT.out hk0; omega)
      have hM := HS.out.mb
      clear hk0
      go_wp2_with (first | (refine ldMb hP6 HN.out _ rfl rfl rfl ?_) | (refine ldMb hR6 HN.out _ rfl rfl rfl ?_) | (refine neM HN.out HN.out HNN.out _ _ rfl rfl rfl rfl ?_) | (refine ldMb hM HC.out _ rfl rfl rfl ?_))
      refine (HK1.out _).mono ?_
      rintro r w7 ⟨rfl, hb7⟩
      have hS7 := HS.out.later hb7
      have hP7 := hP6.later hb7
      clear hM hP6 hR6 hb7 HS
      go_wp2_with (refine ldMb hP7 HN.out _ rfl rfl rfl ?_)
      refine (HK2.out _).mono ?_
      rintro r w8 ⟨rfl, hb8⟩
      have hS8 := hS7.later hb8
      have hP8 := hP7.later hb8
      clear hS7 hP7 hb8
      go_wp2_with fail
      go_meet
      case rel => exact ⟨rfl, hS8, hP8⟩
    · have d1 : decide (0 ≤ k) = false := decide_eq_false hk0
      have hM := HS.out.mb
      clear hk0
      go_wp2_with (first | (refine ldMb hP6 HN.out _ rfl rfl rfl ?_) | (refine ldMb hR6 HN.out _ rfl rfl rfl ?_) | (refine neM HN.out HN.out HNN.out _ _ rfl rfl rfl rfl ?_) | (refine ldMb hM HC.out _ rfl rfl rfl ?_))
      refine (HK1.out _).mono ?_
      rintro r w7 ⟨rfl, hb7⟩
      have hS7 := HS.out.later hb7
      have hP7 := hP6.later hb7
      clear hM hP6 hR6 hb7 HS
      go_wp2_with fail
      go_meet
      case rel => exact ⟨rfl, hS7, hP7⟩
  case rest =>
    obtain ⟨rfl, hSc, hPc⟩ := hcut
    have HB : Hid (Below w.heap.size w wc) := hSc.bel
    have hM := hSc.mb
    clear hP6 hR6 HS hSc
    by_cases he : e = 0
    · subst he
      go_upto_region 7 with (fail)
      go_wp2_with fail
      go_ret
      exact ⟨rfl, HB.out⟩
    · have d1 : (e == 0) = false := by simpa using he
      obtain rfl := HNO.out he
      go_upto_region 7 with (fail)
      go_wp2_with (first | (refine ldMb hPc HN.out _ rfl rfl rfl ?_) | (refine ldMb hM HC.out _ rfl rfl rfl ?_) | (refine eqM HN.out HC.out HNN.out _ _ rfl rfl rfl rfl ?_))
      go_ret
      exact ⟨rfl, HB.out⟩
theorem own : ownKnob Tryz.prog.godebug = none := by kernel_rfl
theorem laidOut : laidOutB Tryz.prog = true := by kernel_rfl
set_option maxRecDepth 100000 in
theorem lifted (os : Os) (started : os.Started) (H : Type) (enc : TypeId × Value → H) :
    ReturnsInHanded {} Tryz.checked os 5 .any (Rows.recoveryTakesSpec.pre6 enc Tryz.prog Tryz.f5 Rows.recoveryTakesRow.domain false) (Rows.recoveryTakesSpec.post enc Tryz.prog Tryz.f5 false true false false) := by
  refine returnsInHanded_of_change (C := Tryz.checked) own started (by kernel_rfl) Tryz.func5
    (ChangeSpec.witness6 (enc := enc) (C := Tryz.checked) false ⟨#[], #[.agg #[.int .i64 0, .int .i64 0, .int .i64 0, .int .i64 0, .int .i64 0, .int .i64 0, .int .i64 0, .int .i64 0, .int .i64 0, .int .i64 0, .int .i64 0, .bool false, .bool false, .int .i64 0], .agg #[.int .i64 0, .int .i64 0, .int .i64 0, .int .i64 0, .int .i64 0, .int .i64 0, .int .i64 0, .int .i64 0, .int .i64 0, .int .i64 0, .int .i64 0, .int .i64 0, .int .i64 0, .int .i64 0, .int .i64 0]], []⟩ 8 (by kernel_rfl) (by kernel_rfl) (by kernel_rfl) (by kernel_rfl)) ?_
  intro W base args ds gs before hval0 hW hcnd _
  have hval : ∀ (j : Nat) t v, Tryz.f5.params[j]? = some t → args[j]? = some v → Value.okWide Tryz.prog W .any base t v := hval0
  have hW' := hW
  obtain ⟨p, q, hA0, hV, rfl, hfz, hnd⟩ := hW
  have hA : DataW.TrodAll enc Tryz.prog W 0 (fun _ => true) true Tryz.f5.params.toList args.toList ds p := hA0
  rw [Tryz.params5] at hA hval
  obtain ⟨v0, vs0, d0, ds0, p0, q0, hargs, rfl, rfl, h0, r0⟩ := trodAll_cons hA
  obtain ⟨v1, vs1, d1, ds1, p1, q1, rfl, rfl, rfl, h1, r1⟩ := trodAll_cons r0
  obtain ⟨rfl, rfl, rfl⟩ := trodAll_nil r1
  obtain rfl : args = #[v0, v1] := by cases args; simp_all
  obtain ⟨rfl, rfl⟩ := trodVars_none hV
  have k0 := h0
  have lt0 : ∀ x ∈ p0, x.block < W.heap.size := by obtain ⟨m, hm⟩ := k0; exact DataW.trod_lt m _ _ _ hm
  obtain ⟨m0, rfl⟩ := Mb.open_mb (hval 0 27 v0 rfl rfl) h0
  have k1 := h1
  have lt1 : ∀ x ∈ p1, x.block < W.heap.size := by obtain ⟨m, hm⟩ := k1; exact DataW.trod_lt m _ _ _ hm
  obtain ⟨p1_, rfl⟩ := Rv.open_rp (hval 1 47 v1 rfl rfl) h1
  clear hA0 hval0
  refine (walk m0 p1_ W).mono fun e W' ⟨he, bel⟩ => ?_
  subst he
  exact ⟨_, rfl, _, _, _, [], _, [], hW', trodAll_mk1 (shut_bool Tryz.underlying4 _), (trodAll_cons_mk (Below.trod laidOut (by kernel_rfl) (of_decide_eq_true (by kernel_rfl)) k0 bel lt0) (trodAll_cons_mk (Below.trod laidOut (by kernel_rfl) (of_decide_eq_true (by kernel_rfl)) k1 bel lt1) trodAll_mk0)), rfl, bel.frame _, fun h => by cases h⟩
theorem over : Rows.recoveryTakesRow.holds Tryz.pinned (OpenSpec.ofChange Rows.recoveryTakesSpec) :=
  OpenClaim.holds_of_wide 5 Tryz.f5 rfl rfl rfl rfl rfl rfl rfl ⟨rfl, rfl, rfl, rfl, rfl⟩ rfl rfl rfl rfl rfl (by kernel_rfl) Tryz.func5 (by kernel_rfl)
    (of_decide_eq_true (by kernel_rfl)) (by unfold Func.isWrapper; first | (rw [if_pos (by decide +kernel)]; kernel_rfl) | (rw [if_neg (by decide +kernel)]; exact ⟨rfl, rfl⟩))
    (fun os started H enc _ => lifted os started H enc)
end Go.Proofs.YtdghibimelhgjaaGreat.recoveryTakes
namespace Go.Proofs.YtdghibimelhgjaaGreat
theorem recoveryTakes_holds : Rows.RecoveryTakesSaid := recoveryTakes.over
#print axioms recoveryTakes_holds
end Go.Proofs.YtdghibimelhgjaaGreat
