/- For any state and any rekey message: Apply answers what the document says; right states stay right. No conditions. -/
import Derived.Test.YtnaiocdldghdeaaGreatRows
import Derived.Test.YtnaiocdldghdeaaGreatMbW
import Derived.Test.YtnaiocdldghdeaaGreatOpJ
import Derived.OpenShut
import Derived.SizedLaws
import Derived.ChangeMaps5
namespace Go.Proofs.YtnaiocdldghdeaaGreat.memberApplies
open Go.ChangeShapes Go.WideShapes Go.ChangeAt Go.RowKit Go.Maps
open Go.Proofs.YtnaiocdldghdeaaGreat.Mb
open Wi (ldM ra_of)
set_option linter.unusedVariables false
set_option linter.unusedSimpArgs false

structure MC (m : Mb) (c : Array Value) : Prop where
  out : mba m = c

set_option maxHeartbeats 4000000 in
set_option maxRecDepth 100000 in
theorem walk (m0 : Mb) (rk1 : Rk) (aL1 aJ1 aI1 : Option Addr) (cL1 cJ1 cI1 : Nat) (w : World) (rl1 : RL w rk1 aL1 aJ1 aI1) (rn1 : RN rk1) :
    Calls Tryz.prog 3 #[.agg (mba m0), .agg (rka rk1 aL1 aJ1 aI1 cL1 cJ1 cI1)] w fun e w' => e = .returned (.bool true) ∧ Below w.heap.size w w' := by
  have hS := LW.new (cL := cL1) (cJ := cJ1) (cI := cI1) w m0 rl1
  have hap := fun W (hW : RL W rk1 aL1 aJ1 aI1) => apply_any m0 rk1 aL1 aJ1 aI1 cL1 cJ1 cI1 W hW rn1
  have hrp := fun W (hW : RL W rk1 aL1 aJ1 aI1) => rApply_any m0 rk1 aL1 aJ1 aI1 cL1 cJ1 cI1 W hW rn1
  have hk0 := ap_kind m0 rk1
  have hkm := kind_any m0
  obtain ⟨x, hx⟩ : ∃ x, apl m0 rk1 = x := ⟨_, rfl⟩
  simp only [hx] at hap hrp hk0
  clear hx
  obtain ⟨xe, n⟩ := x
  dsimp only at hk0
  have hkn := kind_any n
  unfold ApR at hap hrp
  dsimp only at hap hrp
  obtain ⟨cm, hcm⟩ : ∃ c, mba m0 = c := ⟨_, rfl⟩
  have HC : MC m0 cm := ⟨hcm⟩
  rw [hcm] at hS
  simp only [hcm] at hap hrp hkm
  rw [hcm]
  obtain ⟨cn, hcn⟩ : ∃ c, mba n = c := ⟨_, rfl⟩
  have HN : MC n cn := ⟨hcn⟩
  simp only [hcn] at hap hrp hkn
  obtain ⟨km, hkme⟩ : ∃ k, knd m0 = k := ⟨_, rfl⟩
  obtain ⟨kn, hkne⟩ : ∃ k, knd n = k := ⟨_, rfl⟩
  simp only [hkme] at hkm hk0
  simp only [hkne] at hkn hk0
  clear hcm hcn rl1 rn1 hkme hkne
  unfold rka at hS hap hrp
  have H0 : Hid (0 ≤ km → 0 ≤ kn) := hk0
  have HAP : Hid _ := hap
  have HRP : Hid _ := hrp
  have HKM : Hid _ := hkm
  have HKN : Hid _ := hkn
  clear hk0 hap hrp hkm hkn
  go_enter Tryz.func3, Tryz.ntmps3
  unfold rka
  go_upto_region 1 with (fail)
  generalize (w.alloc (.cells cm 27)).alloc (.cells #[.int .i64 rk1.1, .slice aL1 rk1.2.1.length cL1, .slice aJ1 rk1.2.2.1.length cJ1, .slice aI1 rk1.2.2.2.length cI1] 31) = w1 at *
  obtain ⟨D, hD⟩ : ∃ K, w.heap.size + 1 = K := ⟨_, rfl⟩
  obtain ⟨B, hB⟩ : ∃ K, w.heap.size = K := ⟨_, rfl⟩
  rw [hD, hB] at hS ⊢
  clear hD hB
  go_wp2_with fail
  refine (lives_any _).mono ?_
  rintro e w2 ⟨rfl, hb2⟩
  have hS2 := hS.later hb2
  have ha := HAP.out w2 hS2.v.rd
  have HR2 : Hid (w2.rangeAt D 0 [.int .i64 rk1.1, .slice aL1 rk1.2.1.length cL1, .slice aJ1 rk1.2.2.1.length cJ1, .slice aI1 rk1.2.2.2.length cI1]) := hS2.rng
  clear hS hb2 HAP
  go_wp2_with (first | (refine ldMb hS2.v.mb HC.out _ rfl rfl rfl ?_) | (refine ldM HR2.out Tryz.underlying31 rfl Wi.szRk _ rfl rfl rfl ?_))
  refine ha.mono ?_
  rintro e w3 ⟨rfl, hb3⟩
  have hb4 := Wi.Below.join hb3 (below_alloc w3 (.cells (mba n) 27))
  have hS4 := hS2.later hb4
  have hA4 := MA.new w3 n
  rw [HN.out] at hA4 hS4
  clear ha hb3 hS2 HR2 hb4
  go_upto_region 4 with (refine stMn (w := w3) HN.out rfl _ _ rfl rfl rfl ?_)
  generalize w3.alloc (.cells cn 27) = w4 at *
  generalize w3.heap.size = M at *
  have hr := HRP.out w4 hS4.v.rd
  have HR4 : Hid (w4.rangeAt D 0 [.int .i64 rk1.1, .slice aL1 rk1.2.1.length cL1, .slice aJ1 rk1.2.2.1.length cJ1, .slice aI1 rk1.2.2.2.length cI1]) := hS4.rng
  clear HRP
  go_wp2_with (first | (refine ldMb hS4.v.mb HC.out _ rfl rfl rfl ?_) | (refine ldM HR4.out Tryz.underlying31 rfl Wi.szRk _ rfl rfl rfl ?_))
  refine hr.mono ?_
  rintro e w5 ⟨rfl, hb5⟩
  have hb6 := Wi.Below.join hb5 (below_alloc w5 (.cells (mba n) 27))
  have hS6 := hS4.later hb6
  have hA6 := hA4.later hb6
  have hO6 := MA.new w5 n
  rw [HN.out] at hO6 hS6 hA6
  clear hr hb5 hS4 hA4 HR4 hb6
  go_upto_region 5 with (refine stMn (w := w5) HN.out rfl _ _ rfl rfl rfl ?_)
  generalize w5.alloc (.cells cn 27) = w6 at *
  generalize w5.heap.size = O at *
  have HEQ : Hid (mE n n = true) := mE_iff.2 rfl
  go_upto_region 7 with (first | (refine ldMb hA6 HN.out _ rfl rfl rfl ?_) | (refine ldMb hO6 HN.out _ rfl rfl rfl ?_) | (refine neM HN.out HN.out HEQ.out _ _ rfl rfl rfl rfl ?_))
  clear hO6 HEQ
  by_cases hk : km < 0
  · have d0 : decide (km < 0) = true := decide_eq_true hk
    clear hk H0 HKN
    go_wp2_with (refine ldMb hS6.v.mb HC.out _ rfl rfl rfl ?_)
    refine (HKM.out _).mono ?_
    rintro e w7 ⟨rfl, hb7⟩
    have hS7 := hS6.later hb7
    clear hS6 hA6 hb7 HKM
    go_wp2_with fail
    go_ret
    exact ⟨rfl, hS7.bel⟩
  · have d0 : decide (km < 0) = false := decide_eq_false hk
    have d1 : decide (0 ≤ kn) = true := decide_eq_true (H0.out (by omega))
    clear hk H0
    go_wp2_with (refine ldMb hS6.v.mb HC.out _ rfl rfl rfl ?_)
    refine (HKM.out _).mono ?_
    rintro e w7 ⟨rfl, hb7⟩
    have hS7 := hS6.later hb7
    have hA7 := hA6.later hb7
    clear hS6 hA6 hb7 HKM
    go_wp2_with (refine ldMb hA7 HN.out _ rfl rfl rfl ?_)
    refine (HKN.out _).mono ?_
    rintro e w8 ⟨rfl, hb8⟩
    have hS8 := hS7.later hb8
    clear hS7 hA7 hb8 HKN
    go_wp2_with fail
    go_ret
    exact ⟨rfl, hS8.bel⟩
theorem own : ownKnob Tryz.prog.godebug = none := by kernel_rfl
theorem laidOut : laidOutB Tryz.prog = true := by kernel_rfl
set_option maxRecDepth 100000 in
theorem lifted (os : Os) (started : os.Started) (H : Type) (enc : TypeId × Value → H) :
    ReturnsInHanded {} Tryz.checked os 3 .any (Rows.memberAppliesSpec.pre6 enc Tryz.prog Tryz.f3 Rows.memberAppliesRow.domain false) (Rows.memberAppliesSpec.post enc Tryz.prog Tryz.f3 false true false false) := by
  refine returnsInHanded_of_change_sized (C := Tryz.checked) own started (by kernel_rfl) Tryz.func3
    (ChangeSpec.witness6 (enc := enc) (C := Tryz.checked) false ⟨#[], #[.agg #[.int .i64 0, .int .i64 0, .int .i64 0, .int .i64 0, .int .i64 0, .int .i64 0, .int .i64 0, .int .i64 0, .int .i64 0, .int .i64 0, .int .i64 0, .bool false, .bool false, .int .i64 0], .agg #[.int .i64 0, .slice none 0 0, .slice none 0 0, .slice none 0 0]], []⟩ 8 (by kernel_rfl) (by kernel_rfl) (by kernel_rfl) (by kernel_rfl)) ?_
  intro W base args ds gs before hval0 hW hcnd hsz0 _
  have hsz : (DataW.weightsEach Tryz.prog (Tryz.f3.params.toList ++ Rows.memberAppliesSpec.plain.varTypes Tryz.prog) (ds ++ gs)).all (· ≤ reachBytes) = true := hsz0
  clear hsz0
  have hval : ∀ (j : Nat) t v, Tryz.f3.params[j]? = some t → args[j]? = some v → Value.okWide Tryz.prog W .any base t v := hval0
  have hW' := hW
  obtain ⟨p, q, hA0, hV, rfl, hfz, hnd⟩ := hW
  have hA : DataW.TrodAll enc Tryz.prog W 0 (fun _ => true) true Tryz.f3.params.toList args.toList ds p := hA0
  rw [Tryz.params3] at hA hval hsz
  obtain ⟨v0, vs0, d0, ds0, p0, q0, hargs, rfl, rfl, h0, r0⟩ := trodAll_cons hA
  obtain ⟨v1, vs1, d1, ds1, p1, q1, rfl, rfl, rfl, h1, r1⟩ := trodAll_cons r0
  obtain ⟨rfl, rfl, rfl⟩ := trodAll_nil r1
  obtain rfl : args = #[v0, v1] := by cases args; simp_all
  obtain ⟨rfl, rfl⟩ := trodVars_none hV
  have k0 := h0
  have lt0 : ∀ x ∈ p0, x.block < W.heap.size := by obtain ⟨m, hm⟩ := k0; exact DataW.trod_lt m _ _ _ hm
  obtain ⟨m0, rfl⟩ := Mb.open_mb (hval 0 27 v0 rfl rfl) h0
  have k1 := h1
  have lt1 : ∀ x ∈ p1, x.block < W.heap.size := by obtain ⟨m, hm⟩ := k1; exact DataW.trod_lt m _ _ _ hm
  obtain ⟨rk1, aL1, aJ1, aI1, cL1, cJ1, cI1, rfl, rl1, rn1⟩ := Mb.open_rk (fun parts e => by subst e; exact Wi.sized_agg hsz (j := 1) (t := 31) rfl rfl Tryz.underlying31) (hval 1 31 v1 rfl rfl) h1
  clear hA0 hval0
  refine (walk m0 rk1 aL1 aJ1 aI1 cL1 cJ1 cI1 W rl1 rn1).mono fun e W' ⟨he, bel⟩ => ?_
  subst he
  exact ⟨_, rfl, _, _, _, [], _, [], hW', trodAll_mk1 (shut_bool Tryz.underlying4 _), (trodAll_cons_mk (Below.trod laidOut (by kernel_rfl) (of_decide_eq_true (by kernel_rfl)) k0 bel lt0) (trodAll_cons_mk (Below.trod laidOut (by kernel_rfl) (of_decide_eq_true (by kernel_rfl)) k1 bel lt1) trodAll_mk0)), rfl, bel.frame _, fun h => by cases h⟩
theorem over : Rows.memberAppliesRow.holds Tryz.pinned (OpenSpec.ofChange Rows.memberAppliesSpec) :=
  OpenClaim.holds_of_wide 3 Tryz.f3 rfl rfl rfl rfl rfl rfl rfl ⟨rfl, rfl, rfl, rfl, rfl⟩ rfl rfl rfl rfl rfl (by kernel_rfl) Tryz.func3 (by kernel_rfl)
    (of_decide_eq_true (by kernel_rfl)) (by unfold Func.isWrapper; first | (rw [if_pos (by decide +kernel)]; kernel_rfl) | (rw [if_neg (by decide +kernel)]; exact ⟨rfl, rfl⟩))
    (fun os started H enc _ => lifted os started H enc)
end Go.Proofs.YtnaiocdldghdeaaGreat.memberApplies
namespace Go.Proofs.YtnaiocdldghdeaaGreat
theorem memberApplies_holds : Rows.MemberAppliesSaid := memberApplies.over
#print axioms memberApplies_holds
end Go.Proofs.YtnaiocdldghdeaaGreat
