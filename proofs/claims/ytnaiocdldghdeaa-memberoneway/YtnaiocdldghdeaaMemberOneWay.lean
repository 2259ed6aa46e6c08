/- For any state and any rekey message: led to another epoch, the leaf key is advanced once, and doesn't give the old one; the seat stays. No conditions. -/
import Derived.Test.YtnaiocdldghdeaaRows
import Derived.Test.YtnaiocdldghdeaaMbJ5
import Derived.Test.YtnaiocdldghdeaaOpJ
import Derived.OpenShut
import Derived.SizedLaws
import Derived.ChangeMaps5
namespace Go.Proofs.Ytnaiocdldghdeaa.memberOneWay
open Go.ChangeShapes Go.WideShapes Go.ChangeAt Go.RowKit Go.Maps
open Go.Proofs.Ytnaiocdldghdeaa.Mb
open Wi (ldM ra_of)
set_option linter.unusedVariables false
set_option linter.unusedSimpArgs false

theorem gv_adv (k : Rt.Ky) : Rt.gv (adv k).bas (adv k).stp k.bas k.stp = false := by
  unfold Rt.gv
  have : decide ((adv k).stp ≤ k.stp) = false := decide_eq_false (by show ¬ k.stp + 1 ≤ k.stp; omega)
  rw [this]
  simp
set_option maxHeartbeats 2000000 in
set_option maxRecDepth 100000 in
theorem walk (m0 : Mb) (rk1 : Rk) (aL1 aJ1 aI1 : Option Addr) (cL1 cJ1 cI1 : Nat) (w : World) (rl1 : RL w rk1 aL1 aJ1 aI1) (rn1 : RN rk1) :
    Calls Try.prog 7 #[.agg (mba m0), .agg (rka rk1 aL1 aJ1 aI1 cL1 cJ1 cI1)] w fun e w' => e = .returned (.bool true) ∧ Below w.heap.size w w' := by
  have hS := LW.new (cL := cL1) (cJ := cJ1) (cI := cI1) w m0 rl1
  have hap := fun W (hW : RL W rk1 aL1 aJ1 aI1) => apply_any m0 rk1 aL1 aJ1 aI1 cL1 cJ1 cI1 W hW rn1
  have hk0 := ap_way m0 rk1
  have hk1 := ap_ep (m := m0) (r := rk1)
  obtain ⟨x, hx⟩ : ∃ x, apl m0 rk1 = x := ⟨_, rfl⟩
  simp only [hx] at hap hk0 hk1
  clear hx
  obtain ⟨xe, n⟩ := x
  dsimp only at hk0 hk1
  unfold ApR at hap
  dsimp only at hap
  obtain ⟨cm, hcm⟩ : ∃ c, mba m0 = c := ⟨_, rfl⟩
  have HC : Hid (mba m0 = cm) := hcm
  rw [hcm] at hS
  simp only [hcm] at hap
  rw [hcm]
  obtain ⟨cn, hcn⟩ : ∃ c, mba n = c := ⟨_, rfl⟩
  have HN : Hid (mba n = cn) := hcn
  simp only [hcn] at hap
  clear hcm hcn rl1 rn1
  unfold rka at hS hap
  have H0 : Hid (xe = 0 → n.ep ≠ m0.ep → n.out = false → n.ep = m0.ep + 1 ∧ n.ep = rk1.1 ∧ n.lf = adv m0.lf ∧ gk m0.lf = true ∧ gk (adv m0.lf) = true ∧ n.who = m0.who ∧ n.slt = m0.slt ∧ n.has = true ∧ m0.ep ≤ 200) := hk0
  have H1 : Hid (xe = 0 → 1 ≤ m0.ep ∧ m0.ep ≤ 200) := hk1
  clear hk0 hk1
  go_enter Try.func7, Try.ntmps7
  unfold rka
  go_upto_region 1 with (fail)
  generalize (w.alloc (.cells cm 27)).alloc (.cells #[.int .i64 rk1.1, .slice aL1 rk1.2.1.length cL1, .slice aJ1 rk1.2.2.1.length cJ1, .slice aI1 rk1.2.2.2.length cI1] 53) = w1 at *
  obtain ⟨D, hD⟩ : ∃ K, w.heap.size + 1 = K := ⟨_, rfl⟩
  obtain ⟨B, hB⟩ : ∃ K, w.heap.size = K := ⟨_, rfl⟩
  rw [hD, hB] at hS ⊢
  clear hD hB
  go_wp2_with fail
  refine (lives_any _).mono ?_
  rintro e w2 ⟨rfl, hb2⟩
  have hS2 := hS.later hb2
  have ha := hap w2 hS2.v.rd
  have HR2 : Hid (w2.rangeAt D 0 [.int .i64 rk1.1, .slice aL1 rk1.2.1.length cL1, .slice aJ1 rk1.2.2.1.length cJ1, .slice aI1 rk1.2.2.2.length cI1]) := hS2.rng
  clear hS hb2 hap
  go_wp2_with (first | (refine ldMb hS2.v.mb HC.out _ rfl rfl rfl ?_) | (refine ldM HR2.out Try.underlying53 rfl Wi.szRk _ rfl rfl rfl ?_))
  refine ha.mono ?_
  rintro e w3 ⟨rfl, hb3⟩
  have hS3 := hS2.later hb3
  have hb4 := below_alloc w3 (.cells (mba n) 27)
  have hS4 := hS3.later hb4
  have hA4 := MA.new w3 n
  rw [HN.out] at hb4 hA4 hS4
  clear ha hb3 hS2 HR2 hb4 hS3
  go_upto_region 4 with (refine stMn (w := w3) HN.out rfl _ _ rfl rfl rfl ?_)
  generalize w3.alloc (.cells cn 27) = w4 at *
  generalize w3.heap.size = M at *
  have ne := hA4.ep
  have me := hS4.v.mb.ep
  have no := hA4.out
  by_cases c0 : xe = 0
  rotate_left
  · have q0 : (xe != 0) = true := by simpa using c0
    clear c0 H0
    go_wp2_with fail
    go_ret
    exact ⟨rfl, hS4.bel⟩
  have q0 : (xe != 0) = false := by simpa using c0
  by_cases c1 : n.ep = m0.ep
  · have q1 : (n.ep == m0.ep) = true := by simpa using c1
    clear c0 c1 H0
    go_wp2_with fail
    go_ret
    exact ⟨rfl, hS4.bel⟩
  have q1 : (n.ep == m0.ep) = false := by simpa using c1
  cases c2 : n.out with
  | true =>
    rw [c2] at no
    clear c0 c1 c2 H0
    go_wp2_with fail
    go_ret
    exact ⟨rfl, hS4.bel⟩
  | false =>
    rw [c2] at no
    obtain ⟨e1, e2, e3, e4, e5, e6, e7, e8, e9⟩ := H0.out c0 c1 c2
    have he := H1.out c0
    have w2' : IntKind.i64.wrap (m0.ep + 1) = m0.ep + 1 := Rt.i64_fit _ (by omega) (by omega)
    clear c0 c1 c2 H0 H1 he
    have nl := hA4.leaf
    have ml := hS4.v.mb.leaf
    have nw := hA4.who
    have mw := hS4.v.mb.who
    have nsl := hA4.slt
    have msl := hS4.v.mb.slt
    have nh := hA4.has
    have rr := hS4.v.rk.cells.1
    have hg := Rt.rGives_any n.lf.bas n.lf.stp m0.lf.bas m0.lf.stp
    have hgd := Rt.gd_iff.1 e4
    rw [e3, gv_adv] at hg
    rw [e3] at nl
    rw [e6] at nw
    rw [e7] at nsl
    rw [e8] at nh
    unfold adv at nl hg
    dsimp only at nl hg
    obtain ⟨n0, n1⟩ := nl
    obtain ⟨l0, l1⟩ := ml
    have p1 : (n.ep == m0.ep + 1) = true := by simpa using e1
    have p2 : (n.ep == rk1.1) = true := by simpa using e2
    have w1 : IntKind.i64.wrap (m0.lf.stp + 1) = m0.lf.stp + 1 := Rt.i64_fit _ (by have := hgd.2.2.1; omega) (by have := hgd.2.2.2; omega)
    have E6 : Hid (n.who = m0.who) := e6
    have E7 : Hid (n.slt = m0.slt) := e7
    have E8 : Hid (n.has = true) := e8
    clear e1 e2 e3 e4 e5 e6 e7 e8 e9 hgd
    go_wp2_with fail
    refine (hg _).mono ?_
    rintro r w5 ⟨rfl, hb5⟩
    have hA5 := hA4.later hb5
    have hS5 := hS4.later hb5
    have nw' := hA5.who
    have mw' := hS5.v.mb.who
    have nsl' := hA5.slt
    have msl' := hS5.v.mb.slt
    have nh' := hA5.has
    rw [E6.out] at nw'
    rw [E7.out] at nsl'
    rw [E8.out] at nh'
    clear hA4 hS4 hb5 hg
    go_wp2_with fail
    go_ret
    exact ⟨rfl, hS5.bel⟩
theorem own : ownKnob Try.prog.godebug = none := by kernel_rfl
theorem laidOut : laidOutB Try.prog = true := by kernel_rfl
set_option maxRecDepth 100000 in
theorem lifted (os : Os) (started : os.Started) (H : Type) (enc : TypeId × Value → H) :
    ReturnsInHanded {} Try.checked os 7 .any (Rows.memberOneWaySpec.pre6 enc Try.prog Try.f7 Rows.memberOneWayRow.domain false) (Rows.memberOneWaySpec.post enc Try.prog Try.f7 false true false false) := by
  refine returnsInHanded_of_change_sized (C := Try.checked) own started (by kernel_rfl) Try.func7
    (ChangeSpec.witness6 (enc := enc) (C := Try.checked) false ⟨#[], #[.agg #[.int .i64 0, .int .i64 0, .int .i64 0, .int .i64 0, .int .i64 0, .int .i64 0, .int .i64 0, .int .i64 0, .int .i64 0, .int .i64 0, .int .i64 0, .bool false, .bool false, .int .i64 0], .agg #[.int .i64 0, .slice none 0 0, .slice none 0 0, .slice none 0 0]], []⟩ 8 (by kernel_rfl) (by kernel_rfl) (by kernel_rfl) (by kernel_rfl)) ?_
  intro W base args ds gs before hval0 hW hcnd hsz0 _
  have hsz : (DataW.weightsEach Try.prog (Try.f7.params.toList ++ Rows.memberOneWaySpec.plain.varTypes Try.prog) (ds ++ gs)).all (· ≤ reachBytes) = true := hsz0
  clear hsz0
  have hval : ∀ (j : Nat) t v, Try.f7.params[j]? = some t → args[j]? = some v → Value.okWide Try.prog W .any base t v := hval0
  have hW' := hW
  obtain ⟨p, q, hA0, hV, rfl, hfz, hnd⟩ := hW
  have hA : DataW.TrodAll enc Try.prog W 0 (fun _ => true) true Try.f7.params.toList args.toList ds p := hA0
  rw [Try.params7] at hA hval hsz
  obtain ⟨v0, vs0, d0, ds0, p0, q0, hargs, rfl, rfl, h0, r0⟩ := trodAll_cons hA
  obtain ⟨v1, vs1, d1, ds1, p1, q1, rfl, rfl, rfl, h1, r1⟩ := trodAll_cons r0
  obtain ⟨rfl, rfl, rfl⟩ := trodAll_nil r1
  obtain rfl : args = #[v0, v1] := by cases args; simp_all
  obtain ⟨rfl, rfl⟩ := trodVars_none hV
  have k0 := h0
  have lt0 : ∀ x ∈ p0, x.block < W.heap.size := by obtain ⟨m, hm⟩ := k0; exact DataW.trod_lt m _ _ _ hm
  obtain ⟨m0, rfl⟩ := Mb.open_mb (hval 0 27 v0 rfl rfl) h0
  have k1 := h1
  have lt1 : ∀ x ∈ p1, x.block < W.heap.size := by obtain ⟨m, hm⟩ := k1; exact DataW.trod_lt m _ _ _ hm
  obtain ⟨rk1, aL1, aJ1, aI1, cL1, cJ1, cI1, rfl, rl1, rn1⟩ := Mb.open_rk (fun parts e => by subst e; exact Wi.sized_agg hsz (j := 1) (t := 53) rfl rfl Try.underlying53) (hval 1 53 v1 rfl rfl) h1
  clear hA0 hval0
  refine (walk m0 rk1 aL1 aJ1 aI1 cL1 cJ1 cI1 W rl1 rn1).mono fun e W' ⟨he, bel⟩ => ?_
  subst he
  exact ⟨_, rfl, _, _, _, [], _, [], hW', trodAll_mk1 (shut_bool Try.underlying4 _), (trodAll_cons_mk (Below.trod laidOut (by kernel_rfl) (of_decide_eq_true (by kernel_rfl)) k0 bel lt0) (trodAll_cons_mk (Below.trod laidOut (by kernel_rfl) (of_decide_eq_true (by kernel_rfl)) k1 bel lt1) trodAll_mk0)), rfl, bel.frame _, fun h => by cases h⟩
theorem over : Rows.memberOneWayRow.holds Try.pinned (OpenSpec.ofChange Rows.memberOneWaySpec) :=
  OpenClaim.holds_of_wide 7 Try.f7 rfl rfl rfl rfl rfl rfl rfl ⟨rfl, rfl, rfl, rfl, rfl⟩ rfl rfl rfl rfl rfl (by kernel_rfl) Try.func7 (by kernel_rfl)
    (of_decide_eq_true (by kernel_rfl)) (by unfold Func.isWrapper; first | (rw [if_pos (by decide +kernel)]; kernel_rfl) | (rw [if_neg (by decide +kernel)]; exact ⟨rfl, rfl⟩))
    (fun os started H enc _ => lifted os started H enc)
end Go.Proofs.Ytnaiocdldghdeaa.memberOneWay
namespace Go.Proofs.Ytnaiocdldghdeaa
theorem memberOneWay_holds : Rows.MemberOneWaySaid := memberOneWay.over
#print axioms memberOneWay_holds
end Go.Proofs.Ytnaiocdldghdeaa
