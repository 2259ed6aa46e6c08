/- For every three keys: Compare of package key is a total order (its signs turn about, it is 0 just at the same key, it leads on), and what gives and gives again gives, and comes no later. No conditions. -/
import Derived.Test.YtdbnaoddnelebaaRows
import Derived.Test.YtdbnaoddnelebaaKeyC
import Derived.Test.YtdbnaoddnelebaaKeyD
import Derived.Test.YtdbnaoddnelebaaKeyQ
import Derived.Test.YtdbnaoddnelebaaOpenKey
namespace Go.Proofs.Ytdbnaoddnelebaa.keyOrder
open Go.ChangeShapes Go.WideShapes Go.ChangeAt Go.RowKit
set_option linter.unusedVariables false

theorem compare_below (b s c t : Int) (w : World) :
    Calls Try.prog 16 #[.agg #[.int .i64 b, .int .i64 s], .agg #[.int .i64 c, .int .i64 t]] w fun e w' => e = .returned (.int .i64 (cm b s c t)) ∧ Below w.heap.size w w' :=
  (compare_any b s c t w).mono fun e w' ⟨he, hw⟩ => ⟨he, hw ▸ Below.more (below1 _ _) _⟩
theorem cm_turn (b s c t : Int) : cm c t b s = - cm b s c t := by
  unfold cm; repeat' split
  all_goals omega
/- Which signs there are. -/
theorem pats (b s c t u v : Int) : ∃ r1 r2 : Bool, (b == c) = r1 ∧ (s == t) = r2 ∧
    ((r1 = true ∧ r2 = true ∧ cm b s c t = 0 ∧ ((cm c t u v = 1) ∨ (cm c t u v = -1 ∧ cm b s u v = -1) ∨ (cm c t u v = 0 ∧ cm b s u v = 0))) ∨
    (¬ (r1 = true ∧ r2 = true) ∧ ((cm b s c t = 1) ∨ (cm b s c t = -1 ∧ ((cm c t u v = 1) ∨ (cm c t u v = -1 ∧ cm b s u v = -1) ∨ (cm c t u v = 0 ∧ cm b s u v = -1)))))) := by
  refine ⟨_, _, rfl, rfl, ?_⟩
  unfold cm
  by_cases h1 : b = c
  · by_cases h2 : s = t
    · left; subst h1 h2; refine ⟨by simp, by simp, by simp, ?_⟩
      repeat' split
      all_goals omega
    · right; refine ⟨by simp [h2], ?_⟩
      subst h1
      repeat' split
      all_goals omega
  · right; refine ⟨by simp [h1], ?_⟩
    repeat' split
    all_goals omega
theorem givs (b s c t u v : Int) : (gv b s c t = false) ∨ (gv b s c t = true ∧ gv c t u v = false ∧ cm b s c t ≤ 0) ∨ (gv b s c t = true ∧ gv c t u v = true ∧ gv b s u v = true ∧ cm b s c t ≤ 0) := by
  cases h1 : gv b s c t
  · exact Or.inl rfl
  · have q : cm b s c t ≤ 0 := by
      simp [gv] at h1; unfold cm; repeat' split
      all_goals omega
    cases h2 : gv c t u v
    · exact Or.inr (Or.inl ⟨rfl, rfl, q⟩)
    · refine Or.inr (Or.inr ⟨rfl, rfl, ?_, q⟩)
      simp [gv] at h1 h2 ⊢
      obtain ⟨a1, a2, a3, a4⟩ := h1
      obtain ⟨b1, b2, b3, b4⟩ := h2
      exact ⟨a1, b2, by omega, by omega⟩

set_option maxHeartbeats 20000000 in
theorem core (b s c t u v : Int) (w : World) (r1 r2 : Bool) (q1 : (b == c) = r1) (q2 : (s == t) = r2) (x y z : Int) (ex : cm b s c t = x) (ey : cm c t u v = y) (ez : cm b s u v = z)
    (hp : (r1 = true ∧ r2 = true ∧ x = 0 ∧ ((y = 1) ∨ (y = -1 ∧ z = -1) ∨ (y = 0 ∧ z = 0))) ∨ (¬ (r1 = true ∧ r2 = true) ∧ ((x = 1) ∨ (x = -1 ∧ ((y = 1) ∨ (y = -1 ∧ z = -1) ∨ (y = 0 ∧ z = -1)))))) :
    Calls Try.prog 5 #[.agg #[.int .i64 b, .int .i64 s], .agg #[.int .i64 c, .int .i64 t], .agg #[.int .i64 u, .int .i64 v]] w fun e w' => e = .returned (.bool true) ∧ Below w.heap.size w w' := by
  have e4 : cm c t b s = -x := by rw [cm_turn, ex]
  have hg := givs b s c t u v
  rw [ex] at hg
  have K0 : Kp w [(w.heap.size + 2, .int .i64 u, .int .i64 v), (w.heap.size + 1, .int .i64 c, .int .i64 t), (w.heap.size, .int .i64 b, .int .i64 s)] (((w.alloc (.cells #[.int .i64 b, .int .i64 s] 23)).alloc (.cells #[.int .i64 c, .int .i64 t] 23)).alloc (.cells #[.int .i64 u, .int .i64 v] 23)) := (((Kp.start w).box _ _ _ _ rfl).box _ _ _ _ (by simp)).box _ _ _ _ (by simp)
  have hps : (r1 = true ∧ r2 = true ∧ x = 0 ∧ y = 1) ∨ (r1 = true ∧ r2 = true ∧ x = 0 ∧ y = -1 ∧ z = -1) ∨ (r1 = true ∧ r2 = true ∧ x = 0 ∧ y = 0 ∧ z = 0) ∨
      (r1 = false ∧ x = 1) ∨ (r1 = false ∧ x = -1 ∧ y = 1) ∨ (r1 = false ∧ x = -1 ∧ y = -1 ∧ z = -1) ∨ (r1 = false ∧ x = -1 ∧ y = 0 ∧ z = -1) ∨
      (r1 = true ∧ r2 = false ∧ x = 1) ∨ (r1 = true ∧ r2 = false ∧ x = -1 ∧ y = 1) ∨ (r1 = true ∧ r2 = false ∧ x = -1 ∧ y = -1 ∧ z = -1) ∨ (r1 = true ∧ r2 = false ∧ x = -1 ∧ y = 0 ∧ z = -1) := by
    cases r1 <;> cases r2 <;> simp at hp ⊢ <;> omega
  clear hp
  rcases hps with ⟨rfl, rfl, rfl, rfl⟩ | ⟨rfl, rfl, rfl, rfl, rfl⟩ | ⟨rfl, rfl, rfl, rfl, rfl⟩ | ⟨rfl, rfl⟩ | ⟨rfl, rfl, rfl⟩ | ⟨rfl, rfl, rfl, rfl⟩ | ⟨rfl, rfl, rfl, rfl⟩ | ⟨rfl, rfl, rfl⟩ | ⟨rfl, rfl, rfl, rfl⟩ | ⟨rfl, rfl, rfl, rfl, rfl⟩ | ⟨rfl, rfl, rfl, rfl, rfl⟩
  all_goals
    go_enter Try.func5, Try.ntmps5
    go_wp2_with fail
    refine (lives_any _).mono ?_
    rintro e w1 ⟨rfl, hb⟩
    have K1 := K0.call hb
    clear hb K0
    obtain ⟨-, a0, a1, a2, a3, a4, a5⟩ := kp3 K1
    go_wp2_with fail
    go_region_held3 (fun w' => Kp w [(w.heap.size + 2, .int .i64 u, .int .i64 v), (w.heap.size + 1, .int .i64 c, .int .i64 t), (w.heap.size, .int .i64 b, .int .i64 s)] w' ∧ w'.cell? ⟨w.heap.size + 2, 0, none⟩ = some (.int .i64 u) ∧ w'.cell? ⟨w.heap.size + 2, 1, none⟩ = some (.int .i64 v) ∧ w'.cell? ⟨w.heap.size + 1, 0, none⟩ = some (.int .i64 c) ∧ w'.cell? ⟨w.heap.size + 1, 1, none⟩ = some (.int .i64 t) ∧ w'.cell? ⟨w.heap.size, 0, none⟩ = some (.int .i64 b) ∧ w'.cell? ⟨w.heap.size, 1, none⟩ = some (.int .i64 s)) (first | exact kp3 K1.drew | (refine kp3 ?_; exact Kp.call' (by assumption) hb)) ((go_at_call 16; refine (compare_below _ _ _ _ _).mono ?_; rintro e w' ⟨rfl, hb⟩))
    go_wp2_with fail
    refine (compare_below _ _ _ _ _).mono ?_
    rintro e w5 ⟨rfl, hb5⟩
    have K5 := Kp.call' (by assumption) hb5
    clear hb hb5 K1 a0 a1 a2 a3 a4 a5
    obtain ⟨-, a0, a1, a2, a3, a4, a5⟩ := kp3 K5
    go_wp2_with fail
    refine (gives_any _ _ _ _ _).mono ?_
    rintro e w6 ⟨rfl, hb6⟩
    have K6 := K5.call hb6
    clear hb6 K5 a0 a1 a2 a3 a4 a5
    obtain ⟨-, a0, a1, a2, a3, a4, a5⟩ := kp3 K6
    rcases hg with e1 | ⟨e1, e2, e3⟩ | ⟨e1, e2, e3, e4⟩
    · rw [e1]
      go_wp2
      go_ret
      exact ⟨rfl, K6.1⟩
    · rw [e1]
      go_wp2_with fail
      refine (gives_any _ _ _ _ _).mono ?_
      rintro e w7 ⟨rfl, hb7⟩
      have K7 := K6.call hb7
      clear hb7 K6 a0 a1 a2 a3 a4 a5
      rw [e2]
      go_wp2
      go_ret
      exact ⟨rfl, K7.1⟩
    · first
        | (exfalso; omega)
        | (rw [e1]
           go_wp2_with fail
           refine (gives_any _ _ _ _ _).mono ?_
           rintro e w7 ⟨rfl, hb7⟩
           have K7 := K6.call hb7
           clear hb7 K6 a0 a1 a2 a3 a4 a5
           obtain ⟨-, a0, a1, a2, a3, a4, a5⟩ := kp3 K7
           rw [e2]
           go_wp2_with fail
           refine (gives_any _ _ _ _ _).mono ?_
           rintro e w8 ⟨rfl, hb8⟩
           have K8 := K7.call hb8
           clear hb8 K7 a0 a1 a2 a3 a4 a5
           rw [e3]
           go_wp2
           go_ret
           exact ⟨rfl, K8.1⟩)
theorem walk (b s c t u v : Int) (w0 : (Lit.int .i64 b).wf = true) (w1 : (Lit.int .i64 s).wf = true) (w2 : (Lit.int .i64 c).wf = true) (w3 : (Lit.int .i64 t).wf = true) (w4 : (Lit.int .i64 u).wf = true) (w5 : (Lit.int .i64 v).wf = true) (w : World) :
    Calls Try.prog 5 #[.agg #[.int .i64 b, .int .i64 s], .agg #[.int .i64 c, .int .i64 t], .agg #[.int .i64 u, .int .i64 v]] w fun e w' => e = .returned (.bool true) ∧ Below w.heap.size w w' := by
  obtain ⟨r1, r2, q1, q2, hp⟩ := pats b s c t u v
  exact core b s c t u v w r1 r2 q1 q2 _ _ _ rfl rfl rfl hp

theorem own : ownKnob Try.prog.godebug = none := by kernel_rfl
theorem laidOut : laidOutB Try.prog = true := by kernel_rfl
set_option maxRecDepth 100000 in
theorem lifted (os : Os) (started : os.Started) (H : Type) (enc : TypeId × Value → H) :
    ReturnsInHanded {} Try.checked os 5 .any (Rows.keyOrderSpec.pre6 enc Try.prog Try.f5 Rows.keyOrderRow.domain false) (Rows.keyOrderSpec.post enc Try.prog Try.f5 false true false false) := by
  refine returnsInHanded_of_change (C := Try.checked) own started (by kernel_rfl) Try.func5
    (ChangeSpec.witness6 (enc := enc) (C := Try.checked) false ⟨#[], #[.agg #[.int .i64 0, .int .i64 0], .agg #[.int .i64 0, .int .i64 0], .agg #[.int .i64 0, .int .i64 0]], []⟩ 8 (by kernel_rfl) (by kernel_rfl) (by kernel_rfl) (by kernel_rfl)) ?_
  intro W base args ds gs before hval0 hW hcnd _
  have hval : ∀ (j : Nat) t v, Try.f5.params[j]? = some t → args[j]? = some v → Value.okWide Try.prog W .any base t v := hval0
  have hW' := hW
  obtain ⟨p, q, hA0, hV, rfl, hfz, hnd⟩ := hW
  have hA : DataW.TrodAll enc Try.prog W 0 (fun _ => true) true Try.f5.params.toList args.toList ds p := hA0
  rw [Try.params5] at hA hval
  obtain ⟨v0, vs0, d0, ds0, p0, q0, hargs, rfl, rfl, h0, r0⟩ := trodAll_cons hA
  obtain ⟨v1, vs1, d1, ds1, p1, q1, rfl, rfl, rfl, h1, r1⟩ := trodAll_cons r0
  obtain ⟨v2, vs2, d2, ds2, p2, q2, rfl, rfl, rfl, h2, r2⟩ := trodAll_cons r1
  obtain ⟨rfl, rfl, rfl⟩ := trodAll_nil r2
  obtain rfl : args = #[v0, v1, v2] := by cases args; simp_all
  obtain ⟨rfl, rfl⟩ := trodVars_none hV
  have k0 := h0
  have lt0 : ∀ x ∈ p0, x.block < W.heap.size := by obtain ⟨m, hm⟩ := k0; exact DataW.trod_lt m _ _ _ hm
  obtain ⟨a0_0, a0_1, rfl, w0_0, w0_1⟩ := open_pair Try.underlying23 (by kernel_rfl) (by kernel_rfl) rfl rfl Try.underlying3 (hval 0 23 v0 rfl rfl) h0
  have k1 := h1
  have lt1 : ∀ x ∈ p1, x.block < W.heap.size := by obtain ⟨m, hm⟩ := k1; exact DataW.trod_lt m _ _ _ hm
  obtain ⟨a1_0, a1_1, rfl, w1_0, w1_1⟩ := open_pair Try.underlying23 (by kernel_rfl) (by kernel_rfl) rfl rfl Try.underlying3 (hval 1 23 v1 rfl rfl) h1
  have k2 := h2
  have lt2 : ∀ x ∈ p2, x.block < W.heap.size := by obtain ⟨m, hm⟩ := k2; exact DataW.trod_lt m _ _ _ hm
  obtain ⟨a2_0, a2_1, rfl, w2_0, w2_1⟩ := open_pair Try.underlying23 (by kernel_rfl) (by kernel_rfl) rfl rfl Try.underlying3 (hval 2 23 v2 rfl rfl) h2
  clear hA0 hval0
  refine (walk a0_0 a0_1 a1_0 a1_1 a2_0 a2_1 w0_0 w0_1 w1_0 w1_1 w2_0 w2_1 W).mono fun e W' ⟨he, bel⟩ => ?_
  subst he
  exact ⟨_, rfl, _, _, _, [], _, [], hW', trodAll_mk1 (shut_bool Try.underlying4 _), (trodAll_cons_mk (Below.trod laidOut (by kernel_rfl) (of_decide_eq_true (by kernel_rfl)) k0 bel lt0) (trodAll_cons_mk (Below.trod laidOut (by kernel_rfl) (of_decide_eq_true (by kernel_rfl)) k1 bel lt1) (trodAll_cons_mk (Below.trod laidOut (by kernel_rfl) (of_decide_eq_true (by kernel_rfl)) k2 bel lt2) trodAll_mk0))), rfl, bel.frame _, fun h => by cases h⟩
theorem over : Rows.keyOrderRow.holds Try.pinned (OpenSpec.ofChange Rows.keyOrderSpec) :=
  OpenClaim.holds_of_wide 5 Try.f5 rfl rfl rfl rfl rfl rfl rfl ⟨rfl, rfl, rfl, rfl, rfl⟩ rfl rfl rfl rfl rfl (by kernel_rfl) Try.func5 (by kernel_rfl)
    (of_decide_eq_true (by kernel_rfl)) (by unfold Func.isWrapper; first | (rw [if_pos (by decide +kernel)]; kernel_rfl) | (rw [if_neg (by decide +kernel)]; exact ⟨rfl, rfl⟩))
    (fun os started H enc _ => lifted os started H enc)
end Go.Proofs.Ytdbnaoddnelebaa.keyOrder
namespace Go.Proofs.Ytdbnaoddnelebaa
theorem keyOrder_holds : Rows.KeyOrderSaid := keyOrder.over
#print axioms keyOrder_holds
end Go.Proofs.Ytdbnaoddnelebaa
