/- For any tree and any request: Answer is the document's. No conditions. -/
import Derived.Test.YtdghibimelhgjaaGreatRows
import Derived.Test.YtdghibimelhgjaaGreatRvI
import Derived.Test.YtdghibimelhgjaaGreatOpenTr
import Derived.Test.YtdghibimelhgjaaGreatOpenKey
import Derived.BigQuiet
import Derived.OpenShut
import Derived.ChangeMaps5
namespace Go.Proofs.YtdghibimelhgjaaGreat.recoveryAnswers
open Go.ChangeShapes Go.WideShapes Go.ChangeAt Go.RowKit Go.Maps
open Go.Proofs.YtdghibimelhgjaaGreat.Mb Go.Proofs.YtdghibimelhgjaaGreat.Rv
open Rt (Ky KyAt)
open Wi (ldM ra_of zP)
set_option linter.unusedVariables false
set_option linter.unusedSimpArgs false

structure SW (w W : World) (B Q : Nat) (t : Tr) (x e : Int) : Prop where
  tr : TrAt W B t
  rq : QAt W Q x e
  bel : Below w.heap.size w W
theorem SW.later {w W W' : World} {B Q : Nat} {t : Tr} {x e : Int} (h : SW w W B Q t x e) (hb : Below W.heap.size W W') : SW w W' B Q t x e := ⟨h.tr.later hb, h.rq.later hb, h.bel.trans (hb.mono h.bel.size)⟩
theorem SW.new (w : World) (t : Tr) (x e : Int) : SW w ((w.alloc (.cells (tcs t) 42)).alloc (.cells #[.int .i64 x, .int .i64 e] 31)) w.heap.size (w.heap.size + 1) t x e := by
  have h2 := QAt.new (w.alloc (.cells (tcs t) 42)) x e
  rw [World.size_alloc] at h2
  exact ⟨(TrAt.new w t).later (below_alloc _ _), h2, Wi.Below.plus (below_alloc _ _) _⟩
set_option maxHeartbeats 4000000 in
set_option maxRecDepth 100000 in
theorem walk (f0 : Tr) (a1_0 a1_1 : Int) (w1_0 : (Lit.int .i64 a1_0).wf = true) (w1_1 : (Lit.int .i64 a1_1).wf = true) (w : World) :
    Calls Tryz.prog 4 #[.agg (tcs f0), .agg #[.int .i64 a1_0, .int .i64 a1_1] ] w fun e w' => e = .returned (.bool true) ∧ Below w.heap.size w w' := by
  clear w1_0 w1_1
  generalize a1_0 = x
  generalize a1_1 = y
  have hli := lives16_any
  have ha1 := answer_any f0 x y
  have ha2 := rAnswer_any f0 x y
  unfold AnA at ha1 ha2
  obtain ⟨p, hp⟩ : ∃ b, anP f0 x y = b := ⟨_, rfl⟩
  obtain ⟨e, he⟩ : ∃ b, anE f0 x y = b := ⟨_, rfl⟩
  simp only [hp, he] at ha1 ha2
  clear hp he
  unfold rqa at ha1 ha2
  have hS := SW.new w f0 x y
  obtain ⟨ct, hct⟩ : ∃ c, tcs f0 = c := ⟨_, rfl⟩
  have HT : Hid (tcs f0 = ct) := hct
  rw [hct] at hS
  simp only [hct] at ha1 ha2
  rw [hct]
  clear hct
  obtain ⟨cp, hcp⟩ : ∃ c, rpa p = c := ⟨_, rfl⟩
  have HP : Hid (rpa p = cp) := hcp
  have eqr := fun W => Wi.run_eqRp (w := W) 9995 p p
  rw [decide_eq_true rfl] at eqr
  have eqr : ∀ W : World, (Op.equalIn 10000 47 (.agg cp) (.agg cp)).run Tryz.prog W = .ok true W := fun W => by rw [← hcp]; exact eqr W
  simp only [hcp] at ha1 ha2
  clear hcp
  go_enter Tryz.func4, Tryz.ntmps4
  go_upto_region 1 with (fail)
  generalize (w.alloc (.cells ct 42)).alloc (.cells #[.int .i64 x, .int .i64 y] 31) = w1 at *
  obtain ⟨Q, hQ⟩ : ∃ Q, w.heap.size + 1 = Q := ⟨_, rfl⟩
  obtain ⟨B, hB⟩ : ∃ B, w.heap.size = B := ⟨_, rfl⟩
  have hS1 : SW w w1 B Q f0 x y := by rw [← hB, ← hQ]; exact hS
  rw [hQ, hB]
  clear hQ hB hS
  go_wp2_with fail
  refine (hli _).mono ?_
  rintro r w2 ⟨rfl, hb2⟩
  have hS2 := hS1.later hb2
  obtain ⟨q0, q1⟩ := hS2.rq.cells
  clear hb2 hli hS1
  go_wp2_with (refine rdT hS2.tr HT.out _ rfl rfl rfl ?_)
  refine (ha1 _).mono ?_
  rintro r w3 ⟨rfl, hb3⟩
  have hS4 := (hS2.later hb3).later (below_alloc w3 (.cells (rpa p) 47))
  have hP4 := RA.new w3 p
  clear hb3 hS2 ha1 q0 q1
  go_upto_region 4 with (refine stRpn (w := w3) zP p rfl HP.out rfl _ _ rfl rfl rfl ?_)
  generalize w3.alloc (.cells (rpa p) 47) = w4 at *
  generalize w3.heap.size = P at *
  obtain ⟨q0, q1⟩ := hS4.rq.cells
  go_wp2_with (refine rdT hS4.tr HT.out _ rfl rfl rfl ?_)
  refine (ha2 _).mono ?_
  rintro r w5 ⟨rfl, hb5⟩
  have hS6 := (hS4.later hb5).later (below_alloc w5 (.cells (rpa p) 47))
  have hP6 := (hP4.later hb5).later (below_alloc w5 (.cells (rpa p) 47))
  have hR6 := RA.new w5 p
  clear hb5 hS4 ha2 q0 q1 hP4
  go_upto_region 5 with (refine stRpn (w := w5) zP p rfl HP.out rfl _ _ rfl rfl rfl ?_)
  generalize w5.alloc (.cells (rpa p) 47) = w6 at *
  generalize w5.heap.size = R at *
  have HB : Hid (Below w.heap.size w w6) := hS6.bel
  have e1 := eqr w6
  clear hS6 eqr
  go_wp2_with (first | (refine ldRp hP6 HP.out _ rfl rfl rfl ?_) | (refine ldRp hR6 HP.out _ rfl rfl rfl ?_) | (refine Wi.eqX e1 Tryz.eqGuardType47 _ _ rfl rfl rfl rfl ?_))
  go_ret
  exact ⟨by simp, HB.out⟩
theorem own : ownKnob Tryz.prog.godebug = none := by kernel_rfl
theorem laidOut : laidOutB Tryz.prog = true := by kernel_rfl
set_option maxRecDepth 100000 in
theorem lifted (os : Os) (started : os.Started) (H : Type) (enc : TypeId × Value → H) :
    ReturnsInHanded {} Tryz.checked os 4 .any (Rows.recoveryAnswersSpec.pre6 enc Tryz.prog Tryz.f4 Rows.recoveryAnswersRow.domain false) (Rows.recoveryAnswersSpec.post enc Tryz.prog Tryz.f4 false true false false) := by
  refine returnsInHanded_of_change (C := Tryz.checked) own started (by kernel_rfl) Tryz.func4
    (ChangeSpec.witness6 (enc := enc) (C := Tryz.checked) false ⟨#[], #[.agg (List.replicate 236 (Value.int .i64 0)).toArray, .agg #[.int .i64 0, .int .i64 0]], []⟩ 8 (by kernel_rfl) (by kernel_rfl) (by kernel_rfl) (by kernel_rfl)) ?_
  intro W base args ds gs before hval0 hW hcnd _
  have hval : ∀ (j : Nat) t v, Tryz.f4.params[j]? = some t → args[j]? = some v → Value.okWide Tryz.prog W .any base t v := hval0
  have hW' := hW
  obtain ⟨p, q, hA0, hV, rfl, hfz, hnd⟩ := hW
  have hA : DataW.TrodAll enc Tryz.prog W 0 (fun _ => true) true Tryz.f4.params.toList args.toList ds p := hA0
  rw [Tryz.params4] at hA hval
  obtain ⟨v0, vs0, d0, ds0, p0, q0, hargs, rfl, rfl, h0, r0⟩ := trodAll_cons hA
  obtain ⟨v1, vs1, d1, ds1, p1, q1, rfl, rfl, rfl, h1, r1⟩ := trodAll_cons r0
  obtain ⟨rfl, rfl, rfl⟩ := trodAll_nil r1
  obtain rfl : args = #[v0, v1] := by cases args; simp_all
  obtain ⟨rfl, rfl⟩ := trodVars_none hV
  have k0 := h0
  have lt0 : ∀ x ∈ p0, x.block < W.heap.size := by obtain ⟨m, hm⟩ := k0; exact DataW.trod_lt m _ _ _ hm
  obtain ⟨f0, rfl⟩ := open_tr (hval 0 42 v0 rfl rfl) h0
  have k1 := h1
  have lt1 : ∀ x ∈ p1, x.block < W.heap.size := by obtain ⟨m, hm⟩ := k1; exact DataW.trod_lt m _ _ _ hm
  obtain ⟨a1_0, a1_1, rfl, w1_0, w1_1⟩ := open_pair Tryz.underlying31 (by kernel_rfl) (by kernel_rfl) rfl rfl Tryz.underlying3 (hval 1 31 v1 rfl rfl) h1
  clear hA0 hval0
  refine (walk f0 a1_0 a1_1 w1_0 w1_1 W).mono fun e W' ⟨he, bel⟩ => ?_
  subst he
  exact ⟨_, rfl, _, _, _, [], _, [], hW', trodAll_mk1 (shut_bool Tryz.underlying4 _), (trodAll_cons_mk (Below.trod laidOut (by kernel_rfl) (of_decide_eq_true (by kernel_rfl)) k0 bel lt0) (trodAll_cons_mk (Below.trod laidOut (by kernel_rfl) (of_decide_eq_true (by kernel_rfl)) k1 bel lt1) trodAll_mk0)), rfl, bel.frame _, fun h => by cases h⟩
theorem over : Rows.recoveryAnswersRow.holds Tryz.pinned (OpenSpec.ofChange Rows.recoveryAnswersSpec) :=
  OpenClaim.holds_of_wide 4 Tryz.f4 rfl rfl rfl rfl rfl rfl rfl ⟨rfl, rfl, rfl, rfl, rfl⟩ rfl rfl rfl rfl rfl (by kernel_rfl) Tryz.func4 (by kernel_rfl)
    (of_decide_eq_true (by kernel_rfl)) (by unfold Func.isWrapper; first | (rw [if_pos (by decide +kernel)]; kernel_rfl) | (rw [if_neg (by decide +kernel)]; exact ⟨rfl, rfl⟩))
    (fun os started H enc _ => lifted os started H enc)
end Go.Proofs.YtdghibimelhgjaaGreat.recoveryAnswers
namespace Go.Proofs.YtdghibimelhgjaaGreat
theorem recoveryAnswers_holds : Rows.RecoveryAnswersSaid := recoveryAnswers.over
#print axioms recoveryAnswers_holds
end Go.Proofs.YtdghibimelhgjaaGreat
