/- For any state and any rekey message: a message that is applied changes the state; beside an error the state stays, but for Behind beside ErrGap, which never sinks. No conditions. -/
import Derived.Test.YtnaiocdldghdeaaRows
import Derived.Test.YtnaiocdldghdeaaMbJ5
import Derived.Test.YtnaiocdldghdeaaOpJ
import Derived.OpenShut
import Derived.SizedLaws
import Derived.ChangeMaps5
namespace Go.Proofs.Ytnaiocdldghdeaa.memberKeeps
open Go.ChangeShapes Go.WideShapes Go.ChangeAt Go.RowKit Go.Maps
open Go.Proofs.Ytnaiocdldghdeaa.Mb
open Wi (ldM ra_of)
set_option linter.unusedVariables false
set_option linter.unusedSimpArgs false

set_option maxHeartbeats 2000000 in
set_option maxRecDepth 100000 in
theorem walk (m0 : Mb) (rk1 : Rk) (aL1 aJ1 aI1 : Option Addr) (cL1 cJ1 cI1 : Nat) (w : World) (rl1 : RL w rk1 aL1 aJ1 aI1) (rn1 : RN rk1) :
    Calls Try.prog 6 #[.agg (mba m0), .agg (rka rk1 aL1 aJ1 aI1 cL1 cJ1 cI1)] w fun e w' => e = .returned (.bool true) ∧ Below w.heap.size w w' := by
  have hS := LW.new (cL := cL1) (cJ := cJ1) (cI := cI1) w m0 rl1
  have hap := fun W (hW : RL W rk1 aL1 aJ1 aI1) => apply_any m0 rk1 aL1 aJ1 aI1 cL1 cJ1 cI1 W hW rn1
  have hk0 := ap_ok m0 rk1
  have hk1 := ap_keep m0 rk1
  have hk2 := ap_gap m0 rk1
  obtain ⟨x, hx⟩ : ∃ x, apl m0 rk1 = x := ⟨_, rfl⟩
  simp only [hx] at hap hk0 hk1 hk2
  clear hx
  obtain ⟨xe, n⟩ := x
  dsimp only at hk0 hk1 hk2
  unfold ApR at hap
  dsimp only at hap
  obtain ⟨cm, hcm⟩ : ∃ c, mba m0 = c := ⟨_, rfl⟩
  have HC : Hid (mba m0 = cm) := hcm
  rw [hcm] at hS
  simp only [hcm] at hap
  rw [hcm]
  obtain ⟨cn, hcn⟩ : ∃ c, mba n = c := ⟨_, rfl⟩
  have HN : Hid (mba n = cn) := hcn
  simp only [hcn] at hap
  clear hcm hcn rl1 rn1
  unfold rka at hS hap
  have H0 : Hid (xe = 0 → n ≠ m0) := hk0
  have H1 : Hid (xe ≠ 0 → xe ≠ 22 → n = m0) := hk1
  have H2 : Hid (xe = 22 → bhM n m0.bh = m0 ∧ (n.bh = m0.bh ∨ (n.bh = rk1.1 ∧ m0.bh < n.bh ∧ m0.ep < n.bh))) := hk2
  clear hk0 hk1 hk2
  go_enter Try.func6, Try.ntmps6
  unfold rka
  go_upto_region 1 with (fail)
  generalize (w.alloc (.cells cm 27)).alloc (.cells #[.int .i64 rk1.1, .slice aL1 rk1.2.1.length cL1, .slice aJ1 rk1.2.2.1.length cJ1, .slice aI1 rk1.2.2.2.length cI1] 53) = w1 at *
  obtain ⟨D, hD⟩ : ∃ K, w.heap.size + 1 = K := ⟨_, rfl⟩
  obtain ⟨B, hB⟩ : ∃ K, w.heap.size = K := ⟨_, rfl⟩
  rw [hD, hB] at hS ⊢
  clear hD hB
  go_wp2_with fail
  refine (lives_any _).mono ?_
  rintro e w2 ⟨rfl, hb2⟩
  have hS2 := hS.later hb2
  have ha := hap w2 hS2.v.rd
  have HR2 : Hid (w2.rangeAt D 0 [.int .i64 rk1.1, .slice aL1 rk1.2.1.length cL1, .slice aJ1 rk1.2.2.1.length cJ1, .slice aI1 rk1.2.2.2.length cI1]) := hS2.rng
  clear hS hb2 hap
  go_wp2_with (first | (refine ldMb hS2.v.mb HC.out _ rfl rfl rfl ?_) | (refine ldM HR2.out Try.underlying53 rfl Wi.szRk _ rfl rfl rfl ?_))
  refine ha.mono ?_
  rintro e w3 ⟨rfl, hb3⟩
  have hS3 := hS2.later hb3
  have hb4 := below_alloc w3 (.cells (mba n) 27)
  have hS4 := hS3.later hb4
  have hA4 := MA.new w3 n
  have hlt : B < w3.heap.size := hS3.v.mb.lt
  rw [HN.out] at hb4 hA4 hS4
  clear ha hb3 hS2 HR2 hb4
  have hbs := hS3.bel.size
  clear hS3
  go_upto_region 4 with (refine stMn (w := w3) HN.out rfl _ _ rfl rfl rfl ?_)
  generalize w3.alloc (.cells cn 27) = w4 at *
  generalize w3.heap.size = M at *
  have HLT : Hid (B < M) := hlt
  have HBS : Hid (w.heap.size ≤ M) := hbs
  clear hlt hbs
  by_cases c0 : xe = 0
  · have q0 : (xe == 0) = true := by simpa using c0
    have HQ : Hid (mE n m0 = false) := mE_no (H0.out c0)
    clear c0 H0 H1 H2
    go_wp2_with (first | (refine ldMb hA4 HN.out _ rfl rfl rfl ?_) | (refine ldMb hS4.v.mb HC.out _ rfl rfl rfl ?_) | (refine neM HN.out HC.out HQ.out _ _ rfl rfl rfl rfl ?_))
    go_ret
    exact ⟨rfl, hS4.bel⟩
  · have q0 : (xe == 0) = false := by simpa using c0
    by_cases c2 : xe = 22
    · have q2 : (xe != 22) = false := by simpa using c2
      obtain ⟨e1, e2⟩ := H2.out c2
      have HE1 : Hid (bhM n m0.bh = m0) := e1
      have hn := hA4.bh
      have hm := hS4.v.mb.bh
      have fn := hA4.fr 13
      have hbl := hS4.bel
      clear c0 c2 H0 H1 H2 e1
      go_upto_region 10 with (fail)
      have hA5 : MA (w4.setCell ⟨M, 13, none⟩ (.int .i64 m0.bh)) M (bhM n m0.bh) := Rt.row_setCell hA4 13 (.int .i64 m0.bh)
      rw [HE1.out] at hA5
      have hM5 : MA (w4.setCell ⟨M, 13, none⟩ (.int .i64 m0.bh)) B m0 := (Rt.other_setCell (Nat.ne_of_lt HLT.out) _ _).trans hS4.v.mb
      have hD5 : RK (w4.setCell ⟨M, 13, none⟩ (.int .i64 m0.bh)) D rk1 aL1 aJ1 aI1 cL1 cJ1 cI1 := by
        have hne : D ≠ M := by
          rintro rfl
          have h1 := hA4
          have h2 := hS4.v.rk
          unfold MA at h1
          unfold RK at h2
          rw [h1] at h2
          injection h2 with h2
          injection h2 with h2 h3
          exact absurd h3 (by decide)
        exact (Rt.other_setCell hne _ _).trans hS4.v.rk
      have hb5 : Below w.heap.size w (w4.setCell ⟨M, 13, none⟩ (.int .i64 m0.bh)) := hbl.setCell (p := ⟨M, 13, none⟩) HBS.out _
      clear hA4 hS4 hn hm fn hbl
      generalize w4.setCell ⟨M, 13, none⟩ (.int .i64 m0.bh) = w5 at *
      have c1 := hM5.bh
      have c2 := hM5.ep
      have c3 := hD5.cells.1
      obtain ⟨q, hq⟩ : ∃ q, n.bh = q := ⟨_, rfl⟩
      rw [hq] at e2 ⊢
      have HQ : Hid (mE m0 m0 = true) := mE_iff.2 rfl
      clear hq
      rcases e2 with e2 | ⟨e2, e3, e4⟩
      · have d1 : (q == m0.bh) = true := by simpa using e2
        clear e2
        go_wp2_with (first | (refine ldMb hA5 HC.out _ rfl rfl rfl ?_) | (refine ldMb hM5 HC.out _ rfl rfl rfl ?_) | (refine eqM HC.out HC.out HQ.out _ _ rfl rfl rfl rfl ?_))
        go_ret
        exact ⟨rfl, hb5⟩
      · have d1 : (q == m0.bh) = false := by simp; omega
        have d2 : (q == rk1.1) = true := by simpa using e2
        have d3 : decide (m0.bh < q) = true := decide_eq_true e3
        have d4 : decide (m0.ep < q) = true := decide_eq_true e4
        clear e2 e3 e4
        go_wp2_with (first | (refine ldMb hA5 HC.out _ rfl rfl rfl ?_) | (refine ldMb hM5 HC.out _ rfl rfl rfl ?_) | (refine eqM HC.out HC.out HQ.out _ _ rfl rfl rfl rfl ?_))
        go_ret
        exact ⟨rfl, hb5⟩
    · have q2 : (xe != 22) = true := by simpa using c2
      have HQ : Hid (mE n m0 = true) := mE_iff.2 (H1.out c0 c2)
      clear c0 c2 H0 H1 H2
      go_wp2_with (first | (refine ldMb hA4 HN.out _ rfl rfl rfl ?_) | (refine ldMb hS4.v.mb HC.out _ rfl rfl rfl ?_) | (refine eqM HN.out HC.out HQ.out _ _ rfl rfl rfl rfl ?_))
      go_ret
      exact ⟨rfl, hS4.bel⟩
theorem own : ownKnob Try.prog.godebug = none := by kernel_rfl
theorem laidOut : laidOutB Try.prog = true := by kernel_rfl
set_option maxRecDepth 100000 in
theorem lifted (os : Os) (started : os.Started) (H : Type) (enc : TypeId × Value → H) :
    ReturnsInHanded {} Try.checked os 6 .any (Rows.memberKeepsSpec.pre6 enc Try.prog Try.f6 Rows.memberKeepsRow.domain false) (Rows.memberKeepsSpec.post enc Try.prog Try.f6 false true false false) := by
  refine returnsInHanded_of_change_sized (C := Try.checked) own started (by kernel_rfl) Try.func6
    (ChangeSpec.witness6 (enc := enc) (C := Try.checked) false ⟨#[], #[.agg #[.int .i64 0, .int .i64 0, .int .i64 0, .int .i64 0, .int .i64 0, .int .i64 0, .int .i64 0, .int .i64 0, .int .i64 0, .int .i64 0, .int .i64 0, .bool false, .bool false, .int .i64 0], .agg #[.int .i64 0, .slice none 0 0, .slice none 0 0, .slice none 0 0]], []⟩ 8 (by kernel_rfl) (by kernel_rfl) (by kernel_rfl) (by kernel_rfl)) ?_
  intro W base args ds gs before hval0 hW hcnd hsz0 _
  have hsz : (DataW.weightsEach Try.prog (Try.f6.params.toList ++ Rows.memberKeepsSpec.plain.varTypes Try.prog) (ds ++ gs)).all (· ≤ reachBytes) = true := hsz0
  clear hsz0
  have hval : ∀ (j : Nat) t v, Try.f6.params[j]? = some t → args[j]? = some v → Value.okWide Try.prog W .any base t v := hval0
  have hW' := hW
  obtain ⟨p, q, hA0, hV, rfl, hfz, hnd⟩ := hW
  have hA : DataW.TrodAll enc Try.prog W 0 (fun _ => true) true Try.f6.params.toList args.toList ds p := hA0
  rw [Try.params6] at hA hval hsz
  obtain ⟨v0, vs0, d0, ds0, p0, q0, hargs, rfl, rfl, h0, r0⟩ := trodAll_cons hA
  obtain ⟨v1, vs1, d1, ds1, p1, q1, rfl, rfl, rfl, h1, r1⟩ := trodAll_cons r0
  obtain ⟨rfl, rfl, rfl⟩ := trodAll_nil r1
  obtain rfl : args = #[v0, v1] := by cases args; simp_all
  obtain ⟨rfl, rfl⟩ := trodVars_none hV
  have k0 := h0
  have lt0 : ∀ x ∈ p0, x.block < W.heap.size := by obtain ⟨m, hm⟩ := k0; exact DataW.trod_lt m _ _ _ hm
  obtain ⟨m0, rfl⟩ := Mb.open_mb (hval 0 27 v0 rfl rfl) h0
  have k1 := h1
  have lt1 : ∀ x ∈ p1, x.block < W.heap.size := by obtain ⟨m, hm⟩ := k1; exact DataW.trod_lt m _ _ _ hm
  obtain ⟨rk1, aL1, aJ1, aI1, cL1, cJ1, cI1, rfl, rl1, rn1⟩ := Mb.open_rk (fun parts e => by subst e; exact Wi.sized_agg hsz (j := 1) (t := 53) rfl rfl Try.underlying53) (hval 1 53 v1 rfl rfl) h1
  clear hA0 hval0
  refine (walk m0 rk1 aL1 aJ1 aI1 cL1 cJ1 cI1 W rl1 rn1).mono fun e W' ⟨he, bel⟩ => ?_
  subst he
  exact ⟨_, rfl, _, _, _, [], _, [], hW', trodAll_mk1 (shut_bool Try.underlying4 _), (trodAll_cons_mk (Below.trod laidOut (by kernel_rfl) (of_decide_eq_true (by kernel_rfl)) k0 bel lt0) (trodAll_cons_mk (Below.trod laidOut (by kernel_rfl) (of_decide_eq_true (by kernel_rfl)) k1 bel lt1) trodAll_mk0)), rfl, bel.frame _, fun h => by cases h⟩
theorem over : Rows.memberKeepsRow.holds Try.pinned (OpenSpec.ofChange Rows.memberKeepsSpec) :=
  OpenClaim.holds_of_wide 6 Try.f6 rfl rfl rfl rfl rfl rfl rfl ⟨rfl, rfl, rfl, rfl, rfl⟩ rfl rfl rfl rfl rfl (by kernel_rfl) Try.func6 (by kernel_rfl)
    (of_decide_eq_true (by kernel_rfl)) (by unfold Func.isWrapper; first | (rw [if_pos (by decide +kernel)]; kernel_rfl) | (rw [if_neg (by decide +kernel)]; exact ⟨rfl, rfl⟩))
    (fun os started H enc _ => lifted os started H enc)
end Go.Proofs.Ytnaiocdldghdeaa.memberKeeps
namespace Go.Proofs.Ytnaiocdldghdeaa
theorem memberKeeps_holds : Rows.MemberKeepsSaid := memberKeeps.over
#print axioms memberKeeps_holds
end Go.Proofs.Ytnaiocdldghdeaa
