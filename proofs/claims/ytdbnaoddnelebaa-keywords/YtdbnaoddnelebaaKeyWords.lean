/- For every two keys: Pack answers with OK just for good ones; packed keys and boxes are unpacked again; the words are ordered as the keys; a box's word is its keys' words. No conditions. -/
import Derived.Test.YtdbnaoddnelebaaRows
import Derived.Test.YtdbnaoddnelebaaKeyE
import Derived.Test.YtdbnaoddnelebaaKeyF
import Derived.Test.YtdbnaoddnelebaaKeyQ
import Derived.Test.YtdbnaoddnelebaaOpenKey
namespace Go.Proofs.Ytdbnaoddnelebaa.keyWords
open Go.ChangeShapes Go.WideShapes Go.ChangeAt Go.RowKit
set_option linter.unusedVariables false

theorem pack_good (b s : Int) (h : Gd b s) (w : World) : Calls Try.prog 18 #[.agg #[.int .i64 b, .int .i64 s]] w fun r w' => r = .returned (.tuple #[.int .u32 (b * 256 + s), .int .i64 0]) ∧ Below w.heap.size w w' :=
  (pack_yes b s h w).mono fun e w' ⟨he, hw⟩ => ⟨he, hw ▸ Below.more (below1 _ _) _⟩
theorem pack_bad (b s : Int) (h : ¬ Gd b s) (w : World) : Calls Try.prog 18 #[.agg #[.int .i64 b, .int .i64 s]] w fun r w' => r = .returned (.tuple #[.int .u32 0, .int .i64 3]) ∧ Below w.heap.size w w' :=
  (pack_no b s h w).mono fun e w' ⟨he, hw⟩ => ⟨he, hw ▸ Below.more (below1 _ _) _⟩
theorem good_below (b s : Int) (w : World) : Calls Try.prog 10 #[.agg #[.int .i64 b, .int .i64 s]] w fun r w' => r = .returned (.bool (gd b s)) ∧ Below w.heap.size w w' :=
  (good_any b s w).mono fun e w' ⟨he, hw⟩ => ⟨he, hw ▸ below1 _ _⟩
theorem compare_below (b s c t : Int) (w : World) :
    Calls Try.prog 16 #[.agg #[.int .i64 b, .int .i64 s], .agg #[.int .i64 c, .int .i64 t]] w fun e w' => e = .returned (.int .i64 (cm b s c t)) ∧ Below w.heap.size w w' :=
  (compare_any b s c t w).mono fun e w' ⟨he, hw⟩ => ⟨he, hw ▸ Below.more (below1 _ _) _⟩
theorem unpack_back (b s : Int) (h : Gd b s) (w : World) : Calls Try.prog 20 #[.int .u32 (b * 256 + s)] w fun r w' => r = .returned (.tuple #[.agg #[.int .i64 b, .int .i64 s], .int .i64 0]) ∧ Below w.heap.size w w' := by
  obtain ⟨h1, h2, h3, h4⟩ := id h
  have e1 : (b * 256 + s) / 256 = b := by omega
  have e2 : (b * 256 + s) % 256 = s := by omega
  have := unpack_yes (b * 256 + s) (by omega) (by omega) (by rw [e1, e2]; exact h) w
  rw [e1, e2] at this
  exact this.mono fun e w' ⟨he, hw⟩ => ⟨he, hw ▸ Below.more (Below.more (below1 _ _) _) _⟩
theorem unpackBox_back (a b c d : Int) (h : Gd a b) (k : Gd c d) (w : World) : Calls Try.prog 24 #[.int .u64 ((a * 256 + b) * 4294967296 + (c * 256 + d))] w fun r w' => r = .returned (.tuple #[.agg #[.int .i64 a, .int .i64 b, .int .i64 c, .int .i64 d], .int .i64 0]) ∧ Below w.heap.size w w' := by
  obtain ⟨h1, h2, h3, h4⟩ := id h
  obtain ⟨k1, k2, k3, k4⟩ := id k
  have e1 : ((a * 256 + b) * 4294967296 + (c * 256 + d)) / 4294967296 / 256 = a := by omega
  have e2 : ((a * 256 + b) * 4294967296 + (c * 256 + d)) / 4294967296 % 256 = b := by omega
  have e3 : ((a * 256 + b) * 4294967296 + (c * 256 + d)) % 4294967296 / 256 = c := by omega
  have e4 : ((a * 256 + b) * 4294967296 + (c * 256 + d)) % 4294967296 % 256 = d := by omega
  have := unpackBox_yes ((a * 256 + b) * 4294967296 + (c * 256 + d)) (by omega) (by omega) (by rw [e1, e2]; exact h) (by rw [e3, e4]; exact k) w
  rwa [e1, e2, e3, e4] at this
theorem ordered (b s c t : Int) (h : Gd b s) (k : Gd c t) : (b * 256 + s < c * 256 + t ∧ cm b s c t < 0) ∨ (¬ b * 256 + s < c * 256 + t ∧ ¬ cm b s c t < 0) := by
  obtain ⟨h1, h2, h3, h4⟩ := h
  obtain ⟨k1, k2, k3, k4⟩ := k
  unfold cm
  repeat' split
  all_goals omega

set_option maxHeartbeats 2000000 in
theorem bad (b s c t : Int) (h : ¬ (Gd b s ∧ Gd c t)) (w : World) :
    Calls Try.prog 8 #[.agg #[.int .i64 b, .int .i64 s], .agg #[.int .i64 c, .int .i64 t]] w fun e w' => e = .returned (.bool true) ∧ Below w.heap.size w w' := by
  obtain ⟨p, e1, g1, hP, hG1, hc1⟩ : ∃ (p e1 : Int) (g1 : Bool), (∀ w, Calls Try.prog 18 #[.agg #[.int .i64 b, .int .i64 s]] w fun r w' => r = .returned (.tuple #[.int .u32 p, .int .i64 e1]) ∧ Below w.heap.size w w') ∧ (∀ w, Calls Try.prog 10 #[.agg #[.int .i64 b, .int .i64 s]] w fun r w' => r = .returned (.bool g1) ∧ Below w.heap.size w w') ∧ ((e1 = 0 ∧ g1 = true ∧ Gd b s) ∨ (e1 = 3 ∧ g1 = false)) := by
    by_cases k : Gd b s
    · exact ⟨_, _, _, pack_good b s k, good_below b s, Or.inl ⟨rfl, gd_yes k, k⟩⟩
    · exact ⟨_, _, _, pack_bad b s k, good_below b s, Or.inr ⟨rfl, gd_no k⟩⟩
  obtain ⟨q, e2, g2, hQ, hG2, hc2⟩ : ∃ (p e1 : Int) (g1 : Bool), (∀ w, Calls Try.prog 18 #[.agg #[.int .i64 c, .int .i64 t]] w fun r w' => r = .returned (.tuple #[.int .u32 p, .int .i64 e1]) ∧ Below w.heap.size w w') ∧ (∀ w, Calls Try.prog 10 #[.agg #[.int .i64 c, .int .i64 t]] w fun r w' => r = .returned (.bool g1) ∧ Below w.heap.size w w') ∧ ((e1 = 0 ∧ g1 = true ∧ Gd c t) ∨ (e1 = 3 ∧ g1 = false)) := by
    by_cases k : Gd c t
    · exact ⟨_, _, _, pack_good c t k, good_below c t, Or.inl ⟨rfl, gd_yes k, k⟩⟩
    · exact ⟨_, _, _, pack_bad c t k, good_below c t, Or.inr ⟨rfl, gd_no k⟩⟩
  have hcs : (e1 = 3 ∧ g1 = false ∧ e2 = 3 ∧ g2 = false) ∨ (e1 = 3 ∧ g1 = false ∧ e2 = 0 ∧ g2 = true) ∨ (e1 = 0 ∧ g1 = true ∧ e2 = 3 ∧ g2 = false) := by
    rcases hc1 with ⟨x1, x2, x3⟩ | ⟨x1, x2⟩ <;> rcases hc2 with ⟨y1, y2, y3⟩ | ⟨y1, y2⟩
    · exact absurd ⟨x3, y3⟩ h
    · exact Or.inr (Or.inr ⟨x1, x2, y1, y2⟩)
    · exact Or.inr (Or.inl ⟨x1, x2, y1, y2⟩)
    · exact Or.inl ⟨x1, x2, y1, y2⟩
  clear hc1 hc2 h
  rcases hcs with ⟨rfl, rfl, rfl, rfl⟩ | ⟨rfl, rfl, rfl, rfl⟩ | ⟨rfl, rfl, rfl, rfl⟩
  all_goals
    go_enter Try.func8, Try.ntmps8
    go_wp2_with fail
    refine (lives_any _).mono ?_
    rintro e w1 ⟨rfl, hb⟩
    have K1 := Kq.call (((Kq.start w).box2 _ _ _ _ rfl).box2 (w.heap.size + 1) _ _ _ (by simp)) hb
    clear hb
    have c0 := K1.get 2 rfl
    have c1 := K1.get 3 rfl
    go_wp2_with fail
    refine (hP _).mono ?_
    rintro e w2 ⟨rfl, hb⟩
    have K2 := K1.call hb
    clear hb K1 c0 c1
    have c0 := K2.get 0 rfl
    have c1 := K2.get 1 rfl
    go_wp2_with fail
    refine (hQ _).mono ?_
    rintro e w3 ⟨rfl, hb⟩
    have K3 := K2.call hb
    clear hb K2 c0 c1
    have c0 := K3.get 2 rfl
    have c1 := K3.get 3 rfl
    go_wp2_with fail
    refine (hG1 _).mono ?_
    rintro e w4 ⟨rfl, hb⟩
    have K4 := K3.call hb
    clear hb K3 c0 c1
    have c0 := K4.get 0 rfl
    have c1 := K4.get 1 rfl
    go_wp2_with fail
    refine (hG2 _).mono ?_
    rintro e w5 ⟨rfl, hb⟩
    have K5 := K4.call hb
    clear hb K4 c0 c1
    go_wp2
    go_ret
    exact ⟨rfl, K5.below⟩

set_option maxHeartbeats 2000000 in
theorem both (b s c t : Int) (h : Gd b s) (k : Gd c t) (w : World) :
    Calls Try.prog 8 #[.agg #[.int .i64 b, .int .i64 s], .agg #[.int .i64 c, .int .i64 t]] w fun e w' => e = .returned (.bool true) ∧ Below w.heap.size w w' := by
  have hP := pack_good b s h
  have hQ := pack_good c t k
  have hG1 := good_below b s
  have hG2 := good_below c t
  rw [gd_yes h] at hG1
  rw [gd_yes k] at hG2
  have hU := unpack_back b s h
  have hC := compare_below b s c t
  have hS := seal_yes b s c t h k
  have hB := packBox_yes b s c t h k
  have hV := unpackBox_back b s c t h k
  have hor := ordered b s c t h k
  obtain ⟨h1, h2, h3, h4⟩ := h
  obtain ⟨k1, k2, k3, k4⟩ := k
  obtain ⟨m, hm⟩ : ∃ m, m = cm b s c t := ⟨_, rfl⟩
  obtain ⟨x, hx⟩ : ∃ x, x = b * 256 + s := ⟨_, rfl⟩
  obtain ⟨y, hy⟩ : ∃ y, y = c * 256 + t := ⟨_, rfl⟩
  rw [← hm] at hC hor
  rw [← hx] at hP hU hor hB hV
  rw [← hy] at hQ hor hB hV
  obtain ⟨z, hz⟩ : ∃ z, z = x * 4294967296 + y := ⟨_, rfl⟩
  rw [← hz] at hB hV
  have hx0 : 0 ≤ x ∧ x < 4294967296 := by omega
  have hy0 : 0 ≤ y ∧ y < 4294967296 := by omega
  have hz0 : 0 ≤ z ∧ z < 18446744073709551616 := by omega
  have hz1 : z / 4294967296 = x := by omega
  have hz2 : IntKind.u32.wrap z = y := by rw [IntKind.wrap_u32' z]; omega
  clear h1 h2 h3 h4 k1 k2 k3 k4 hx hy hz hm
  obtain ⟨r, o1, o2⟩ : ∃ r, decide (x < y) = r ∧ decide (m < 0) = r := by
    rcases hor with ⟨o1, o2⟩ | ⟨o1, o2⟩
    · exact ⟨true, by simpa using o1, by simpa using o2⟩
    · exact ⟨false, by simpa using o1, by simpa using o2⟩
  clear hor
  cases r
  all_goals
    go_enter Try.func8, Try.ntmps8
    go_wp2_with fail
    refine (lives_any _).mono ?_
    rintro e w1 ⟨rfl, hb⟩
    have K1 := Kq.call (((Kq.start w).box2 _ _ _ _ rfl).box2 (w.heap.size + 1) _ _ _ (by simp)) hb
    clear hb
    have c0 := K1.get 2 rfl
    have c1 := K1.get 3 rfl
    go_wp2_with fail
    refine (hP _).mono ?_
    rintro e w2 ⟨rfl, hb⟩
    have K2 := K1.call hb
    clear hb K1 c0 c1
    have c0 := K2.get 0 rfl
    have c1 := K2.get 1 rfl
    go_wp2_with fail
    refine (hQ _).mono ?_
    rintro e w3 ⟨rfl, hb⟩
    have K3 := K2.call hb
    clear hb K2 c0 c1
    have c0 := K3.get 2 rfl
    have c1 := K3.get 3 rfl
    go_wp2_with fail
    refine (hG1 _).mono ?_
    rintro e w4 ⟨rfl, hb⟩
    have K4 := K3.call hb
    clear hb K3 c0 c1
    have c0 := K4.get 0 rfl
    have c1 := K4.get 1 rfl
    go_wp2_with fail
    refine (hG2 _).mono ?_
    rintro e w5 ⟨rfl, hb⟩
    have K5 := K4.call hb
    clear hb K4 c0 c1
    go_wp2_with fail
    refine (hU _).mono ?_
    rintro e w6 ⟨rfl, hb⟩
    have K6 := K5.call hb
    clear hb K5
    have d0 := K6.geta 0 rfl
    have d1 := K6.geta 1 rfl
    have d2 := K6.geta 2 rfl
    have d3 := K6.geta 3 rfl
    go_wp2_with fail
    refine (hC _).mono ?_
    rintro e w7 ⟨rfl, hb⟩
    have K7 := Kq.call (K6.alloc _) hb
    clear hb K6 d0 d1 d2 d3
    have d0 := K7.get 0 rfl
    have d1 := K7.get 1 rfl
    have d2 := K7.get 2 rfl
    have d3 := K7.get 3 rfl
    go_wp2_with fail
    refine (hS _).mono ?_
    rintro e w8 ⟨rfl, hb⟩
    have K8 := K7.call hb
    clear hb K7 d0 d1 d2 d3
    go_wp2_with fail
    refine (hB _).mono ?_
    rintro e w9 ⟨rfl, hb⟩
    have K9 := Kq.call (K8.box4 _ _ _ _ _ _ rfl) hb
    clear hb K8
    go_wp2_with fail
    refine (hV _).mono ?_
    rintro e wa ⟨rfl, hb⟩
    have Ka := K9.call hb
    clear hb K9
    have d0 := Ka.geta 0 rfl
    have d1 := Ka.geta 1 rfl
    have d2 := Ka.geta 2 rfl
    have d3 := Ka.geta 3 rfl
    go_wp2
    go_ret
    exact ⟨rfl, Below.more Ka.below _⟩

theorem walk (b s c t : Int) (w0 : (Lit.int .i64 b).wf = true) (w1 : (Lit.int .i64 s).wf = true) (w2 : (Lit.int .i64 c).wf = true) (w3 : (Lit.int .i64 t).wf = true) (w : World) :
    Calls Try.prog 8 #[.agg #[.int .i64 b, .int .i64 s], .agg #[.int .i64 c, .int .i64 t]] w fun e w' => e = .returned (.bool true) ∧ Below w.heap.size w w' := by
  by_cases h : Gd b s ∧ Gd c t
  · exact both b s c t h.1 h.2 w
  · exact bad b s c t h w

theorem own : ownKnob Try.prog.godebug = none := by kernel_rfl
theorem laidOut : laidOutB Try.prog = true := by kernel_rfl
set_option maxRecDepth 100000 in
theorem lifted (os : Os) (started : os.Started) (H : Type) (enc : TypeId × Value → H) :
    ReturnsInHanded {} Try.checked os 8 .any (Rows.keyWordsSpec.pre6 enc Try.prog Try.f8 Rows.keyWordsRow.domain false) (Rows.keyWordsSpec.post enc Try.prog Try.f8 false true false false) := by
  refine returnsInHanded_of_change (C := Try.checked) own started (by kernel_rfl) Try.func8
    (ChangeSpec.witness6 (enc := enc) (C := Try.checked) false ⟨#[], #[.agg #[.int .i64 0, .int .i64 0], .agg #[.int .i64 0, .int .i64 0]], []⟩ 8 (by kernel_rfl) (by kernel_rfl) (by kernel_rfl) (by kernel_rfl)) ?_
  intro W base args ds gs before hval0 hW hcnd _
  have hval : ∀ (j : Nat) t v, Try.f8.params[j]? = some t → args[j]? = some v → Value.okWide Try.prog W .any base t v := hval0
  have hW' := hW
  obtain ⟨p, q, hA0, hV, rfl, hfz, hnd⟩ := hW
  have hA : DataW.TrodAll enc Try.prog W 0 (fun _ => true) true Try.f8.params.toList args.toList ds p := hA0
  rw [Try.params8] at hA hval
  obtain ⟨v0, vs0, d0, ds0, p0, q0, hargs, rfl, rfl, h0, r0⟩ := trodAll_cons hA
  obtain ⟨v1, vs1, d1, ds1, p1, q1, rfl, rfl, rfl, h1, r1⟩ := trodAll_cons r0
  obtain ⟨rfl, rfl, rfl⟩ := trodAll_nil r1
  obtain rfl : args = #[v0, v1] := by cases args; simp_all
  obtain ⟨rfl, rfl⟩ := trodVars_none hV
  have k0 := h0
  have lt0 : ∀ x ∈ p0, x.block < W.heap.size := by obtain ⟨m, hm⟩ := k0; exact DataW.trod_lt m _ _ _ hm
  obtain ⟨a0_0, a0_1, rfl, w0_0, w0_1⟩ := open_pair Try.underlying23 (by kernel_rfl) (by kernel_rfl) rfl rfl Try.underlying3 (hval 0 23 v0 rfl rfl) h0
  have k1 := h1
  have lt1 : ∀ x ∈ p1, x.block < W.heap.size := by obtain ⟨m, hm⟩ := k1; exact DataW.trod_lt m _ _ _ hm
  obtain ⟨a1_0, a1_1, rfl, w1_0, w1_1⟩ := open_pair Try.underlying23 (by kernel_rfl) (by kernel_rfl) rfl rfl Try.underlying3 (hval 1 23 v1 rfl rfl) h1
  clear hA0 hval0
  refine (walk a0_0 a0_1 a1_0 a1_1 w0_0 w0_1 w1_0 w1_1 W).mono fun e W' ⟨he, bel⟩ => ?_
  subst he
  exact ⟨_, rfl, _, _, _, [], _, [], hW', trodAll_mk1 (shut_bool Try.underlying4 _), (trodAll_cons_mk (Below.trod laidOut (by kernel_rfl) (of_decide_eq_true (by kernel_rfl)) k0 bel lt0) (trodAll_cons_mk (Below.trod laidOut (by kernel_rfl) (of_decide_eq_true (by kernel_rfl)) k1 bel lt1) trodAll_mk0)), rfl, bel.frame _, fun h => by cases h⟩
theorem over : Rows.keyWordsRow.holds Try.pinned (OpenSpec.ofChange Rows.keyWordsSpec) :=
  OpenClaim.holds_of_wide 8 Try.f8 rfl rfl rfl rfl rfl rfl rfl ⟨rfl, rfl, rfl, rfl, rfl⟩ rfl rfl rfl rfl rfl (by kernel_rfl) Try.func8 (by kernel_rfl)
    (of_decide_eq_true (by kernel_rfl)) (by unfold Func.isWrapper; first | (rw [if_pos (by decide +kernel)]; kernel_rfl) | (rw [if_neg (by decide +kernel)]; exact ⟨rfl, rfl⟩))
    (fun os started H enc _ => lifted os started H enc)
end Go.Proofs.Ytdbnaoddnelebaa.keyWords
namespace Go.Proofs.Ytdbnaoddnelebaa
theorem keyWords_holds : Rows.KeyWordsSaid := keyWords.over
#print axioms keyWords_holds
end Go.Proofs.Ytdbnaoddnelebaa
