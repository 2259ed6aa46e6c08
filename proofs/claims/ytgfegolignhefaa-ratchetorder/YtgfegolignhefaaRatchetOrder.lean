/- For every keys, every mask and every number: the fresh names that Turn of package ratchet gives, from the greatest node down, are those from the number on, each once: RatchetOrder, with no condition. -/
import Derived.Test.YtgfegolignhefaaRows
import Derived.Test.YtgfegolignhefaaOpenRt
namespace Go.Proofs.Ytgfegolignhefaa.ratchetOrder
open Go.ChangeShapes Go.WideShapes Go.ChangeAt Go.RowKit
set_option linter.unusedVariables false
set_option linter.unusedSimpArgs false

set_option maxRecDepth 100000 in
set_option maxHeartbeats 1000000 in
theorem walk (f : Nat → Ky) (a1 : Int) (n : Int) (wf : ∀ i, i < 21 → KyWf (f i)) (w1 : (Lit.int .u32 a1).wf = true) (w2 : (Lit.int .i64 n).wf = true) (w : World) :
    Calls Try.prog 7 #[.agg (kcs f), .int .u32 a1, .int .i64 n] w fun e w' => e = .returned (.bool true) ∧ Below w.heap.size w w' := by
  obtain ⟨r, rfl, hr⟩ : ∃ r : Nat, a1 = (r : Int) ∧ r < 4294967296 := u32_nat w1
  clear wf w1 w2
  have hK := KsAt.new w f
  have hB := alloc_ks w f
  have ht1 := turn_any f r hr n
  unfold TurnA at ht1
  go_enter Try.func7, Try.ntmps7
  go_upto_region 1 with (fail)
  generalize w.alloc (.cells (kcs f) 25) = wa at *
  obtain ⟨cf, hcf⟩ : ∃ cf, kcs f = cf := ⟨_, rfl⟩
  rw [hcf]
  have HCF : Hid (kcs f = cf) := hcf
  clear hcf
  go_wp2_with fail
  refine (lives_any _).mono ?_
  rintro e w3 ⟨rfl, hb3⟩
  have hK3 := hK.later hb3
  have hB3 := hB.trans (hb3.mono hB.size)
  clear hK hB hb3
  go_upto_region 3 with (fail)
  refine wp_region_lit ?_
  refine ldK hK3 rfl _ rfl rfl ?_
  go_wp2_with fail
  refine (ht1 _).mono ?_
  rintro e w6 ⟨rfl, hb6⟩
  have hB6 := hB3.trans (hb6.mono hB3.size)
  have hz6 := new_zeroK w6
  clear ht1 hb6 hK3 hB3
  obtain ⟨g, hg⟩ : ∃ g, trA f r n = g := ⟨_, rfl⟩
  rw [hg]
  have HG : Hid (trA f r n = g) := hg
  clear hg
  obtain ⟨m, hm⟩ : ∃ m, trN f r n = m := ⟨_, rfl⟩
  rw [hm]
  have HM : Hid (trN f r n = m) := hm
  clear hm
  go_upto_region 4 with (refine stK (g := g) hz6 rfl _ _ rfl rfl rfl ?_)
  rw [alloc_zeroK, World.setRow_alloc_new]
  have hG7 := KsAt.new w6 g
  have hB7 := hB6.trans ((alloc_ks w6 g).mono hB6.size)
  clear hz6 hB6
  generalize w6.alloc (.cells (kcs g) 25) = w7 at *
  generalize w6.heap.size = B7 at *
  obtain ⟨cg, hcg⟩ : ∃ cg, kcs g = cg := ⟨_, rfl⟩
  rw [hcg]
  clear hcg
  rw [HCF.out]
  clear HCF
  by_cases hE0 : trE f r n = 0
  · rw [hE0]
    have HG2 : Hid (trK f r n = g) := by have h := HG.out; unfold trA at h; rw [if_pos hE0] at h; exact h
    have HM2 : Hid (n + ((cu r 21 : Nat) : Int) = m) := by have h := HM.out; unfold trN at h; rw [if_pos hE0] at h; exact h
    obtain ⟨_, _, hfk, _⟩ := trE_good hE0
    have HE0 : Hid (trE f r n = 0) := hE0
    clear hE0 HG HM
    go_wp2_with fail
    go_loopw [10, 11] (fun x i wx => ∃ j : Nat, j ≤ 21 ∧ i = .int .i64 (20 - (j : Int)) ∧ x = .int .i64 (n + ((cd r j : Nat) : Int)) ∧ wx = w7) (fun _ i _ => (intOf i + 1).toNat)
    case atStart => exact ⟨0, by omega, rfl, by simp [cd], rfl⟩
    case round =>
      obtain ⟨j, hj, rfl, rfl, rfl⟩ := hrel
      by_cases hj8 : j < 21
      · obtain ⟨v, hv⟩ : ∃ v : Nat, 20 - j = v := ⟨_, rfl⟩
        have hvi : (20 : Int) - (j : Int) = (v : Int) := by omega
        rw [hvi]
        have v0 : (0 : Int) ≤ (v : Int) := by omega
        have v1 : (v : Int) < 21 := by omega
        have vw : IntKind.u64.wrap (v : Int) = (v : Int) := by rw [IntKind.wrap_u64]; omega
        obtain ⟨y, hy⟩ : ∃ y : Int, n + ((cd r j : Nat) : Int) = y := ⟨_, rfl⟩
        rw [hy]
        have HY : Hid (n + ((cd r j : Nat) : Int) = y) := hy
        have HV : Hid (20 - j = v) := hv
        clear hy hv hvi
        have hand := and1 r v hr
        have HI : Hid ((20 : Int) - ((j + 1 : Nat) : Int) = (v : Int) - 1) := by have := HV.out; unfold Hid; omega
        have HVJ : Hid (20 - v = j) := by have := HV.out; unfold Hid; omega
        have hcdl := cd_le r j
        have hcul := cu_le r 21
        have HCD : Hid (cd r (j + 1) = cd r j + b1 r v) := by have := HV.out; rw [← this]; exact rfl
        cases hb : r.testBit v with
        | true =>
          rw [hb] at hand
          obtain ⟨fk1, fk2, _⟩ := frk_at hfk (by omega : v < 21) hb
          have HY1 : Hid (y + 1 = n + ((cd r (j + 1) : Nat) : Int)) := by have h1 := HY.out; have h2 := HCD.out; unfold b1 at h2; rw [hb] at h2; simp at h2; unfold Hid; omega
          have hyw : IntKind.i64.wrap (y + 1) = y + 1 := i64_fit _ (by have := HY.out; omega) (by have := HY.out; omega)
          obtain ⟨c0, c1⟩ := hG7.cells v (by omega)
          have hgv : g v = ⟨y, 0⟩ := by rw [← HG2.out, trK_new hb, HVJ.out, HY.out]
          rw [hgv] at c0 c1
          dsimp only at c0 c1
          clear fk1 fk2 hgv
          go_wp2_with fail
          go_roundw
          case rel => exact ⟨j + 1, by omega, by rw [HI.out], by rw [← HY1.out], by first | rfl | trivial⟩
          case measure => simp [intOf]
        | false =>
          rw [hb] at hand
          have HY1 : Hid (y = n + ((cd r (j + 1) : Nat) : Int)) := by have h1 := HY.out; have h2 := HCD.out; unfold b1 at h2; rw [hb] at h2; simp at h2; unfold Hid; omega
          go_wp2_with fail
          go_roundw
          case rel => exact ⟨j + 1, by omega, by rw [HI.out], by rw [← HY1.out], by first | rfl | trivial⟩
          case measure => simp [intOf]
      · obtain rfl : j = 21 := by omega
        rw [cd_all r, HM2.out]
        go_wp2_with fail
        go_ret
        exact ⟨ret_bool (by simp), hB7⟩
  · have hE1 : (trE f r n == 0) = false := by simp [hE0]
    obtain ⟨E, hE⟩ : ∃ E, trE f r n = E := ⟨_, rfl⟩
    rw [hE] at hE0 hE1 ⊢
    clear hE HG HM
    go_wp2_with fail
    go_ret
    exact ⟨rfl, hB7⟩
theorem own : ownKnob Try.prog.godebug = none := by kernel_rfl
theorem laidOut : laidOutB Try.prog = true := by kernel_rfl
set_option maxRecDepth 100000 in
theorem lifted (os : Os) (started : os.Started) (H : Type) (enc : TypeId × Value → H) :
    ReturnsInHanded {} Try.checked os 7 .any (Rows.ratchetOrderSpec.pre6 enc Try.prog Try.f7 Rows.ratchetOrderRow.domain false) (Rows.ratchetOrderSpec.post enc Try.prog Try.f7 false true false false) := by
  refine returnsInHanded_of_change (C := Try.checked) own started (by kernel_rfl) Try.func7
    (ChangeSpec.witness6 (enc := enc) (C := Try.checked) false ⟨#[], #[.agg #[.int .i64 0, .int .i64 0, .int .i64 0, .int .i64 0, .int .i64 0, .int .i64 0, .int .i64 0, .int .i64 0, .int .i64 0, .int .i64 0, .int .i64 0, .int .i64 0, .int .i64 0, .int .i64 0, .int .i64 0, .int .i64 0, .int .i64 0, .int .i64 0, .int .i64 0, .int .i64 0, .int .i64 0, .int .i64 0, .int .i64 0, .int .i64 0, .int .i64 0, .int .i64 0, .int .i64 0, .int .i64 0, .int .i64 0, .int .i64 0, .int .i64 0, .int .i64 0, .int .i64 0, .int .i64 0, .int .i64 0, .int .i64 0, .int .i64 0, .int .i64 0, .int .i64 0, .int .i64 0, .int .i64 0, .int .i64 0], .int .u32 0, .int .i64 0], []⟩ 8 (by kernel_rfl) (by kernel_rfl) (by kernel_rfl) (by kernel_rfl)) ?_
  intro W base args ds gs before hval0 hW hcnd _
  have hval : ∀ (j : Nat) t v, Try.f7.params[j]? = some t → args[j]? = some v → Value.okWide Try.prog W .any base t v := hval0
  have hW' := hW
  obtain ⟨p, q, hA0, hV, rfl, hfz, hnd⟩ := hW
  have hA : DataW.TrodAll enc Try.prog W 0 (fun _ => true) true Try.f7.params.toList args.toList ds p := hA0
  rw [Try.params7] at hA hval
  obtain ⟨v0, vs0, d0, ds0, p0, q0, hargs, rfl, rfl, h0, r0⟩ := trodAll_cons hA
  obtain ⟨v1, vs1, d1, ds1, p1, q1, rfl, rfl, rfl, h1, r1⟩ := trodAll_cons r0
  obtain ⟨v2, vs2, d2, ds2, p2, q2, rfl, rfl, rfl, h2, r2⟩ := trodAll_cons r1
  obtain ⟨rfl, rfl, rfl⟩ := trodAll_nil r2
  obtain rfl : args = #[v0, v1, v2] := by cases args; simp_all
  obtain ⟨rfl, rfl⟩ := trodVars_none hV
  have k0 := h0
  have lt0 : ∀ x ∈ p0, x.block < W.heap.size := by obtain ⟨m, hm⟩ := k0; exact DataW.trod_lt m _ _ _ hm
  obtain ⟨f0, rfl, wf0⟩ := open_ks (hval 0 25 v0 rfl rfl) h0
  obtain ⟨a1, rfl, rfl, rfl, w1⟩ := open_int Try.underlying26 (hval 1 26 v1 rfl rfl) h1
  obtain ⟨a2, rfl, rfl, rfl, w2⟩ := open_int Try.underlying3 (hval 2 3 v2 rfl rfl) h2
  clear hA0 hval0
  refine (walk f0 a1 a2 wf0 w1 w2 W).mono fun e W' ⟨he, bel⟩ => ?_
  subst he
  exact ⟨_, rfl, _, _, _, [], _, [], hW', trodAll_mk1 (shut_bool Try.underlying4 _), (trodAll_cons_mk (Below.trod laidOut (by kernel_rfl) (of_decide_eq_true (by kernel_rfl)) k0 bel lt0) (trodAll_cons_mk (shut_int Try.underlying26 w1) (trodAll_cons_mk (shut_int Try.underlying3 w2) trodAll_mk0))), rfl, bel.frame _, fun h => by cases h⟩
theorem over : Rows.ratchetOrderRow.holds Try.pinned (OpenSpec.ofChange Rows.ratchetOrderSpec) :=
  OpenClaim.holds_of_wide 7 Try.f7 rfl rfl rfl rfl rfl rfl rfl ⟨rfl, rfl, rfl, rfl, rfl⟩ rfl rfl rfl rfl rfl (by kernel_rfl) Try.func7 (by kernel_rfl)
    (of_decide_eq_true (by kernel_rfl)) (by unfold Func.isWrapper; first | (rw [if_pos (by decide +kernel)]; kernel_rfl) | (rw [if_neg (by decide +kernel)]; exact ⟨rfl, rfl⟩))
    (fun os started H enc _ => lifted os started H enc)
end Go.Proofs.Ytgfegolignhefaa.ratchetOrder
namespace Go.Proofs.Ytgfegolignhefaa
theorem ratchetOrder_holds : Rows.RatchetOrderSaid := ratchetOrder.over
#print axioms ratchetOrder_holds
end Go.Proofs.Ytgfegolignhefaa
