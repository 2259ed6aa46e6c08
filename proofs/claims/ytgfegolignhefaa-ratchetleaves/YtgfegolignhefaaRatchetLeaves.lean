/- For every entry and every epoch: LeafAt of package ratchet answers what the document says, and the next epoch's key is given by this one's and doesn't give it: RatchetLeaves, with no condition. -/
import Derived.Test.YtgfegolignhefaaRows
import Derived.Test.YtgfegolignhefaaOpenRt
import Derived.Test.YtgfegolignhefaaOpenBits
import Derived.Test.YtgfegolignhefaaRtH
import Derived.Test.YtgfegolignhefaaKeyC
namespace Go.Proofs.Ytgfegolignhefaa.ratchetLeaves
open Go.ChangeShapes Go.WideShapes Go.ChangeAt Go.RowKit
set_option linter.unusedVariables false
set_option linter.unusedSimpArgs false

theorem lfE_zero {b s p : Int} (h : lfE b s p = 0) : 1 ≤ b ∧ b < 32768 ∧ 1 ≤ s ∧ s ≤ 200 ∧ s ≤ p ∧ p ≤ s + 255 := by
  unfold lfE at h
  by_cases h0 : b = 0
  · rw [if_pos h0] at h; omega
  · rw [if_neg h0] at h
    cases hR : lfR b s with
    | false => rw [hR] at h; simp at h
    | true =>
      rw [hR, if_pos rfl] at h
      simp [lfR] at hR
      by_cases h1 : p < s
      · rw [if_pos h1] at h; omega
      · rw [if_neg h1] at h
        by_cases h2 : s + 255 < p
        · rw [if_pos h2] at h; omega
        · omega
theorem lfE_next {b s p : Int} (h : lfE b s p = 0) (hp : p < 200) : lfE b s (p + 1) = 0 := by
  obtain ⟨h1, h2, h3, h4, h5, h6⟩ := lfE_zero h
  exact lfE_ok (by omega) (lfR_ok h1 h2 h3 h4) (by omega) (by omega)
theorem gv_one {b x y : Int} (h1 : 1 ≤ b) (h2 : b ≤ 65535) (h3 : 0 ≤ x) (h4 : y ≤ 255) (h5 : x ≤ y) : gv b x b y = true := by
  unfold gv
  rw [gd_yes ⟨h1, h2, h3, by omega⟩, gd_yes ⟨h1, h2, by omega, h4⟩]
  simp [h5]
theorem gv_two {b x y : Int} (h5 : y < x) : gv b x b y = false := by
  unfold gv
  rw [decide_eq_false (by omega), Bool.and_false, Bool.and_false, Bool.and_false]
set_option maxRecDepth 100000 in
set_option maxHeartbeats 1000000 in
theorem walk (who b s p : Int) (w0 : (Lit.int .i64 who).wf = true) (w1 : (Lit.int .i64 b).wf = true) (w2 : (Lit.int .i64 s).wf = true) (w3 : (Lit.int .i64 p).wf = true) (w : World) :
    Calls Try.prog 4 #[.agg #[.int .i64 who, .int .i64 b, .int .i64 s], .int .i64 p] w fun e w' => e = .returned (.bool true) ∧ Below w.heap.size w w' := by
  have hp := bounds_i64 w3
  have h1 := leafAt_any who b s p (by omega)
  have h2 := rLeafAt_any who b s p (by omega)
  clear w0 w1 w2 w3
  unfold LeafA at h1 h2
  have hnx : lfE b s p = 0 → p < 200 → ∀ W, Calls Try.prog 14 #[.agg #[.int .i64 who, .int .i64 b, .int .i64 s], .int .i64 (p + 1)] W fun e w' => e = .returned (.tuple #[.agg #[.int .i64 b, .int .i64 (p + 1 - s)], .int .i64 0]) ∧ Below W.heap.size W w' := fun h hp W => by
    have h3 := leafAt_any who b s (p + 1) (by omega) W
    rw [← LeafA.yes (lfE_next h hp)] at h3
    exact h3
  have hB0 := below1 w (.cells #[.int .i64 who, .int .i64 b, .int .i64 s] 34)
  have hn := heap_alloc_last w (.cells #[.int .i64 who, .int .i64 b, .int .i64 s] 34)
  go_enter Try.func4, Try.ntmps4
  go_upto_region 1 with (fail)
  generalize w.alloc (.cells #[.int .i64 who, .int .i64 b, .int .i64 s] 34) = wa at *
  go_wp2_with fail
  refine (lives_any _).mono ?_
  rintro e wb ⟨rfl, hbb⟩
  have hnb := (hbb.block w.heap.size (Array.getElem?_eq_some_iff.1 hn).1).trans hn
  have hB1 := hB0.trans (hbb.mono hB0.size)
  clear hn hB0 hbb
  have c0 := cell_of_row wb w.heap.size 0 _ _ _ hnb
  have c1 := cell_of_row wb w.heap.size 1 _ _ _ hnb
  have c2 := cell_of_row wb w.heap.size 2 _ _ _ hnb
  simp at c0 c1 c2
  go_wp2_with fail
  refine (h1 _).mono ?_
  rintro e wc ⟨rfl, hbc⟩
  clear c0 c1 c2
  obtain ⟨X, hX⟩ : ∃ X, lfB b s p = X := ⟨_, rfl⟩
  obtain ⟨Y, hY⟩ : ∃ Y, lfS b s p = Y := ⟨_, rfl⟩
  obtain ⟨E, hEE⟩ : ∃ E, lfE b s p = E := ⟨_, rfl⟩
  simp only [hX, hY, hEE] at h2
  rw [hX, hY, hEE]
  rw [hEE] at hnx
  have HX : Hid (lfB b s p = X) := hX
  have HY : Hid (lfS b s p = Y) := hY
  have HE : Hid (lfE b s p = E) := hEE
  clear hX hY hEE
  have hB2 : Below wb.heap.size wb (wc.alloc (.cells #[.int .i64 X, .int .i64 Y] 23)) := Below.more hbc _
  have hnc := (hB2.block w.heap.size (Array.getElem?_eq_some_iff.1 hnb).1).trans hnb
  have hx := heap_alloc_last wc (.cells #[.int .i64 X, .int .i64 Y] 23)
  have hB3 := hB1.trans (hB2.mono hB1.size)
  clear hB1 hB2 hbc hnb
  go_upto_region 4 with (fail)
  generalize wc.alloc (.cells #[.int .i64 X, .int .i64 Y] 23) = wd at *
  generalize wc.heap.size = Bx at *
  have c0 := cell_of_row wd w.heap.size 0 _ _ _ hnc
  have c1 := cell_of_row wd w.heap.size 1 _ _ _ hnc
  have c2 := cell_of_row wd w.heap.size 2 _ _ _ hnc
  simp at c0 c1 c2
  go_wp2_with fail
  refine (h2 _).mono ?_
  rintro e we ⟨rfl, hbe⟩
  clear c0 c1 c2 h1 h2
  have hB4 : Below wd.heap.size wd (we.alloc (.cells #[.int .i64 X, .int .i64 Y] 23)) := Below.more hbe _
  have hne := (hB4.block w.heap.size (Array.getElem?_eq_some_iff.1 hnc).1).trans hnc
  have hx2 := (hB4.block Bx (Array.getElem?_eq_some_iff.1 hx).1).trans hx
  have hy := heap_alloc_last we (.cells #[.int .i64 X, .int .i64 Y] 23)
  have hB5 := hB3.trans (hB4.mono hB3.size)
  clear hB3 hB4 hbe hnc hx
  go_upto_region 5 with (fail)
  generalize we.alloc (.cells #[.int .i64 X, .int .i64 Y] 23) = wf at *
  generalize we.heap.size = By at *
  have c0 := cell_of_row wf w.heap.size 0 _ _ _ hne
  have c1 := cell_of_row wf w.heap.size 1 _ _ _ hne
  have c2 := cell_of_row wf w.heap.size 2 _ _ _ hne
  have d0 := cell_of_row wf Bx 0 _ _ _ hx2
  have d1 := cell_of_row wf Bx 1 _ _ _ hx2
  have e0 := cell_of_row wf By 0 _ _ _ hy
  have e1 := cell_of_row wf By 1 _ _ _ hy
  simp at c0 c1 c2 d0 d1 e0 e1
  clear hne hy
  by_cases hE0 : E = 0
  · by_cases hp2 : p < 200
    · obtain ⟨z1, z2, z3, z4, z5, z6⟩ := lfE_zero (HE.out.trans hE0)
      have h3 := hnx hE0 hp2
      have hX1 : X = b := by rw [← HX.out]; unfold lfB; rw [HE.out, if_pos hE0]
      have hY1 : Y = p - s := by rw [← HY.out]; unfold lfS; rw [HE.out, if_pos hE0]
      have HG1 : Hid (gv b (p - s) b (p + 1 - s) = true) := gv_one z1 (by omega) (by omega) (by omega) (by omega)
      have HG2 : Hid (gv b (p + 1 - s) b (p - s) = false) := gv_two (by omega)
      have hpw : IntKind.i64.wrap (p + 1) = p + 1 := i64_fit _ (by omega) (by omega)
      subst hE0
      have hg1 := rGives_any b (p - s) b (p + 1 - s)
      have hg2 := rGives_any b (p + 1 - s) b (p - s)
      rw [HG1.out] at hg1
      rw [HG2.out] at hg2
      subst hX1 hY1
      clear hnx HG1 HG2 z1 z2 z3 z4 z5 z6 HX HY HE
      obtain ⟨Y, hYY⟩ : ∃ Y, p - s = Y := ⟨_, rfl⟩
      obtain ⟨Z, hZZ⟩ : ∃ Z, p + 1 - s = Z := ⟨_, rfl⟩
      simp only [hYY, hZZ] at *
      clear hYY hZZ
      go_wp2_with fail
      refine (h3 _).mono ?_
      rintro e wg ⟨rfl, hbg⟩
      have hB6 : Below wf.heap.size wf (wg.alloc (.cells #[.int .i64 X, .int .i64 Z] 23)) := Below.more hbg _
      have hx3 := (hB6.block Bx (Array.getElem?_eq_some_iff.1 hx2).1).trans hx2
      have hz := heap_alloc_last wg (.cells #[.int .i64 X, .int .i64 Z] 23)
      have hB7 := hB5.trans (hB6.mono hB5.size)
      clear hB5 hB6 hbg hx2 h3 c0 c1 c2 d0 d1 e0 e1
      go_upto_region 8 with (fail)
      generalize wg.alloc (.cells #[.int .i64 X, .int .i64 Z] 23) = wh at *
      generalize wg.heap.size = Bz at *
      have d0 := cell_of_row wh Bx 0 _ _ _ hx3
      have d1 := cell_of_row wh Bx 1 _ _ _ hx3
      have e0 := cell_of_row wh Bz 0 _ _ _ hz
      have e1 := cell_of_row wh Bz 1 _ _ _ hz
      simp at d0 d1 e0 e1
      go_wp2_with fail
      refine (hg1 _).mono ?_
      rintro e wi ⟨rfl, hbi⟩
      have d0 := cell_later hbi d0
      have d1 := cell_later hbi d1
      have e0 := cell_later hbi e0
      have e1 := cell_later hbi e1
      have hB8 := hB7.trans (hbi.mono hB7.size)
      go_wp2_with fail
      refine (hg2 _).mono ?_
      rintro e wj ⟨rfl, hbj⟩
      go_wp2_with fail
      go_ret
      exact ⟨rfl, hB8.trans (hbj.mono hB8.size)⟩
    · subst hE0
      go_wp2_with fail
      go_ret
      exact ⟨ret_bool (by simp), hB5⟩
  · have hE1 : (E == 0) = false := by simp [hE0]
    go_wp2_with fail
    go_ret
    exact ⟨ret_bool (by simp), hB5⟩
theorem own : ownKnob Try.prog.godebug = none := by kernel_rfl
theorem laidOut : laidOutB Try.prog = true := by kernel_rfl
set_option maxRecDepth 100000 in
theorem lifted (os : Os) (started : os.Started) (H : Type) (enc : TypeId × Value → H) :
    ReturnsInHanded {} Try.checked os 4 .any (Rows.ratchetLeavesSpec.pre6 enc Try.prog Try.f4 Rows.ratchetLeavesRow.domain false) (Rows.ratchetLeavesSpec.post enc Try.prog Try.f4 false true false false) := by
  refine returnsInHanded_of_change (C := Try.checked) own started (by kernel_rfl) Try.func4
    (ChangeSpec.witness6 (enc := enc) (C := Try.checked) false ⟨#[], #[.agg #[.int .i64 0, .int .i64 0, .int .i64 0], .int .i64 0], []⟩ 8 (by kernel_rfl) (by kernel_rfl) (by kernel_rfl) (by kernel_rfl)) ?_
  intro W base args ds gs before hval0 hW hcnd _
  have hval : ∀ (j : Nat) t v, Try.f4.params[j]? = some t → args[j]? = some v → Value.okWide Try.prog W .any base t v := hval0
  have hW' := hW
  obtain ⟨p, q, hA0, hV, rfl, hfz, hnd⟩ := hW
  have hA : DataW.TrodAll enc Try.prog W 0 (fun _ => true) true Try.f4.params.toList args.toList ds p := hA0
  rw [Try.params4] at hA hval
  obtain ⟨v0, vs0, d0, ds0, p0, q0, hargs, rfl, rfl, h0, r0⟩ := trodAll_cons hA
  obtain ⟨v1, vs1, d1, ds1, p1, q1, rfl, rfl, rfl, h1, r1⟩ := trodAll_cons r0
  obtain ⟨rfl, rfl, rfl⟩ := trodAll_nil r1
  obtain rfl : args = #[v0, v1] := by cases args; simp_all
  obtain ⟨rfl, rfl⟩ := trodVars_none hV
  have k0 := h0
  have lt0 : ∀ x ∈ p0, x.block < W.heap.size := by obtain ⟨m, hm⟩ := k0; exact DataW.trod_lt m _ _ _ hm
  obtain ⟨a0_0, a0_1, a0_2, rfl, w0_0, w0_1, w0_2⟩ := open_triple Try.underlying34 (by kernel_rfl) (by kernel_rfl) rfl rfl rfl Try.underlying3 (hval 0 34 v0 rfl rfl) h0
  obtain ⟨a1, rfl, rfl, rfl, w1⟩ := open_int Try.underlying3 (hval 1 3 v1 rfl rfl) h1
  clear hA0 hval0
  refine (walk a0_0 a0_1 a0_2 a1 w0_0 w0_1 w0_2 w1 W).mono fun e W' ⟨he, bel⟩ => ?_
  subst he
  exact ⟨_, rfl, _, _, _, [], _, [], hW', trodAll_mk1 (shut_bool Try.underlying4 _), (trodAll_cons_mk (Below.trod laidOut (by kernel_rfl) (of_decide_eq_true (by kernel_rfl)) k0 bel lt0) (trodAll_cons_mk (shut_int Try.underlying3 w1) trodAll_mk0)), rfl, bel.frame _, fun h => by cases h⟩
theorem over : Rows.ratchetLeavesRow.holds Try.pinned (OpenSpec.ofChange Rows.ratchetLeavesSpec) :=
  OpenClaim.holds_of_wide 4 Try.f4 rfl rfl rfl rfl rfl rfl rfl ⟨rfl, rfl, rfl, rfl, rfl⟩ rfl rfl rfl rfl rfl (by kernel_rfl) Try.func4 (by kernel_rfl)
    (of_decide_eq_true (by kernel_rfl)) (by unfold Func.isWrapper; first | (rw [if_pos (by decide +kernel)]; kernel_rfl) | (rw [if_neg (by decide +kernel)]; exact ⟨rfl, rfl⟩))
    (fun os started H enc _ => lifted os started H enc)
end Go.Proofs.Ytgfegolignhefaa.ratchetLeaves
namespace Go.Proofs.Ytgfegolignhefaa
theorem ratchetLeaves_holds : Rows.RatchetLeavesSaid := ratchetLeaves.over
#print axioms ratchetLeaves_holds
end Go.Proofs.Ytgfegolignhefaa
