/- For every tree: one that isn't right is refused by both; in a right one no two nodes that have a key have keys of one name, and each name is below Fresh, each step not above Epoch: TreeNames, with no condition. -/
import Derived.Test.YtpkfpckljpffgaaRows
import Derived.Test.YtpkfpckljpffgaaOpenTr
import Derived.Test.YtpkfpckljpffgaaTrMp
import Derived.Carry
namespace Go.Proofs.Ytpkfpckljpffgaa.treeNames
open Go.ChangeShapes Go.WideShapes Go.ChangeAt Go.RowKit
open Rt (Ky zK KyAt)
set_option linter.unusedVariables false
set_option linter.unusedSimpArgs false

set_option maxRecDepth 100000 in
set_option maxHeartbeats 4000000 in
theorem walk (t : Tr) (w : World) : Calls Try.prog 8 #[.agg (tcs t)] w fun e w' => e = .returned (.bool true) ∧ Below w.heap.size w w' := by
  have hT := TrAt.new w t
  have hB := alloc_tr w t
  have h1 := check_any t
  have h2 := rCheck_any t
  have h3 := fun v => keyOf_any t v
  obtain ⟨ct, hct⟩ : ∃ c, tcs t = c := ⟨_, rfl⟩
  simp only [hct] at h1 h2 h3
  have HT : Hid (tcs t = ct) := hct
  clear hct
  go_enter Try.func8, Try.ntmps8
  go_upto_region 1 with (fail)
  generalize w.alloc (.cells (tcs t) 31) = wa at *
  rw [HT.out]
  obtain ⟨B, hBB⟩ : ∃ B, w.heap.size = B := ⟨_, rfl⟩
  rw [hBB] at hT ⊢
  clear hBB
  go_wp2_with fail
  refine (lives_any _).mono ?_
  rintro r wb ⟨rfl, hbb⟩
  have hTb := hT.later hbb
  have hBb := hB.trans (hbb.mono hB.size)
  clear hT hB hbb
  go_wp2_with (refine rdT hTb HT.out _ rfl rfl rfl ?_)
  refine (h1 _).mono ?_
  rintro r wc ⟨rfl, hbc⟩
  have hTc := hTb.later hbc
  have hBc := hBb.trans (hbc.mono hBb.size)
  clear hTb hBb hbc h1
  cases hck : tck t with
  | false =>
    rw [tckE_ff hck] at h2 ⊢
    go_wp2_with (refine rdT hTc HT.out _ rfl rfl rfl ?_)
    refine (h2 _).mono ?_
    rintro r wd ⟨rfl, hbd⟩
    go_wp2_with fail
    go_ret
    exact ⟨rfl, hBc.trans (hbd.mono hBc.size)⟩
  | true =>
    rw [tckE_tt hck]
    have hb0 := below_alloc wc (.map #[] 0)
    have HS : Hid (SN w (wc.alloc (.map #[] 0)) B wc.heap.size 0 t []) := ⟨hTc.later hb0, Mi.new wc, hBc.trans (hb0.mono hBc.size), hBc.size⟩
    clear hb0 hTc hBc h2
    have hmm := @run_makeMap Try.prog
    go_upto_region 6 with (fail)
    clear hmm
    generalize wc.alloc (.map #[] 0) = wd at *
    generalize wc.heap.size = b at *
    go_wp2_with fail
    go_loopw [4] (fun i wx => ∃ (k n : Nat) (l : List Int), k ≤ 85 ∧ n ≤ k ∧ i = .int .i64 (k : Int) ∧ SN w wx B b n t l ∧ ∀ z ∈ l, ∃ j, j < k ∧ koE t (j : Int) = 0 ∧ (koK t (j : Int)).bas = z) (fun i _ => 85 - (intOf i).toNat)
    case atStart => exact ⟨0, 0, [], by omega, by omega, rfl, HS.out, fun z hz => by simp at hz⟩
    case round =>
      obtain ⟨k, n, l, hk, hn, rfl, hSk, hl⟩ := hrel
      clear HS
      have HLL : Hid (∀ z ∈ l, ∃ j, j < k ∧ koE t (j : Int) = 0 ∧ (koK t (j : Int)).bas = z) := hl
      clear hl
      by_cases hk8 : k < 85
      · have k8 : (k : Int) < 85 := by omega
        have hTk := hSk.tr
        have h4 := h3 (k : Int)
        unfold KeyA at h4
        obtain ⟨e, he⟩ : ∃ e, koK t (k : Int) = e := ⟨_, rfl⟩
        obtain ⟨L, hL⟩ : ∃ L, koE t (k : Int) = L := ⟨_, rfl⟩
        rw [he, hL] at h4
        have HE : Hid (koK t (k : Int) = e) := he
        have HL : Hid (koE t (k : Int) = L) := hL
        clear he hL
        go_wp2_with (refine rdT hTk HT.out _ rfl rfl rfl ?_)
        refine (h4 _).mono ?_
        rintro r we ⟨rfl, hbe⟩
        have hSf := (hSk.later hbe).later (Rt.alloc_ky we e)
        have hkf := KyAt.new we e
        clear h4 hTk hSk hbe
        go_upto_region 10 with (fail)
        generalize we.alloc (.cells #[.int .i64 e.bas, .int .i64 e.stp] 23) = wf at *
        generalize we.heap.size = A at *
        by_cases hL0 : L = 0
        · subst hL0
          have hfit := kn_fit hck hk8 HL.out
          rw [HE.out] at hfit
          have hz : (Lit.int .i64 e.bas).wf = true := WalkArith.wf_i64 (by have := (tck_right hck).f1; omega)
          have hm0 : mrk l e.bas = 0 := by
            unfold mrk
            rw [if_neg]
            intro hc
            obtain ⟨j, hj, hj0, hjb⟩ := HLL.out _ hc
            exact kn_ne hck hj hk8 hj0 HL.out (by rw [hjb, HE.out])
          have hm1 : mrk (l ++ [e.bas]) e.bas = 1 := by simp [mrk]
          have HM0 : Hid (mrk l e.bas = 0) := hm0
          have HM1 : Hid (mrk (l ++ [e.bas]) e.bas = 1) := hm1
          have q1 : decide (t.fr ≤ e.bas) = false := decide_eq_false (by omega)
          have q2 : decide (t.ep < e.stp) = false := decide_eq_false (by omega)
          clear hm0 hm1 hfit
          obtain ⟨a0, a1⟩ := hkf.cells
          go_upto_region 12 with (first
            | (refine rd_guard (v := .int .i64 0) (by rfl) (Mi.exec hSf.mi hz HM0.out rfl rfl rfl) ?_)
            | (refine Mi.upd hSf.mi (by omega) hz rfl _ _ _ rfl rfl rfl rfl ?_; intro w5 hm5 hg5))
          have hS5 := hSf.mark hm5 hg5
          have hk5 : KyAt w5 A e := grown_row hSf.mi hg5 hkf
          clear hSf hkf hm5 hg5 a0 a1
          obtain ⟨a0, a1⟩ := hk5.cells
          obtain ⟨t0, t1⟩ := hS5.tr.cells
          have HS5 : Hid (SN w w5 B b (n + 1) t (l ++ [e.bas])) := hS5
          have hm6 := hS5.mi
          clear hS5 hk5
          go_wp2_with (refine rd_guard (v := .int .i64 1) (by rfl) (Mi.exec hm6 hz HM1.out rfl rfl rfl) ?_)
          go_roundw
          case rel =>
            refine ⟨k + 1, n + 1, l ++ [e.bas], by omega, by omega, by go_num, HS5.out, fun z hz => ?_⟩
            rw [List.mem_append] at hz
            rcases hz with hz | hz
            · obtain ⟨j, hj, x⟩ := HLL.out z hz
              exact ⟨j, by omega, x⟩
            · have : z = e.bas := by simpa using hz
              exact ⟨k, by omega, HL.out, by rw [HE.out, this]⟩
          case measure => simp [intOf]; omega
        · have q1 : (L == 0) = false := by simp [hL0]
          have q2 : (L != 0) = true := by simp [hL0]
          have HSf : Hid (SN w wf B b n t l) := hSf
          clear hSf hkf hL0
          go_wp2_with fail
          go_roundw
          case rel =>
            refine ⟨k + 1, n, l, by omega, by omega, by go_num, HSf.out, fun z hz => ?_⟩
            obtain ⟨j, hj, x⟩ := HLL.out z hz
            exact ⟨j, by omega, x⟩
          case measure => simp [intOf]; omega
      · obtain rfl : k = 85 := by omega
        go_wp2_with fail
        go_ret
        exact ⟨rfl, hSk.bel⟩
theorem own : ownKnob Try.prog.godebug = none := by kernel_rfl
theorem laidOut : laidOutB Try.prog = true := by kernel_rfl
set_option maxRecDepth 100000 in
theorem lifted (os : Os) (started : os.Started) (H : Type) (enc : TypeId × Value → H) :
    ReturnsInHanded {} Try.checked os 8 .any (Rows.treeNamesSpec.pre6 enc Try.prog Try.f8 Rows.treeNamesRow.domain false) (Rows.treeNamesSpec.post enc Try.prog Try.f8 false true false false) := by
  refine returnsInHanded_of_change (C := Try.checked) own started (by kernel_rfl) Try.func8
    (ChangeSpec.witness6 (enc := enc) (C := Try.checked) false ⟨#[], #[.agg (List.replicate 236 (Value.int .i64 0)).toArray], []⟩ 8 (by kernel_rfl) (by kernel_rfl) (by kernel_rfl) (by kernel_rfl)) ?_
  intro W base args ds gs before hval0 hW hcnd _
  have hval : ∀ (j : Nat) t v, Try.f8.params[j]? = some t → args[j]? = some v → Value.okWide Try.prog W .any base t v := hval0
  have hW' := hW
  obtain ⟨p, q, hA0, hV, rfl, hfz, hnd⟩ := hW
  have hA : DataW.TrodAll enc Try.prog W 0 (fun _ => true) true Try.f8.params.toList args.toList ds p := hA0
  rw [Try.params8] at hA hval
  obtain ⟨v0, vs0, d0, ds0, p0, q0, hargs, rfl, rfl, h0, r0⟩ := trodAll_cons hA
  obtain ⟨rfl, rfl, rfl⟩ := trodAll_nil r0
  obtain rfl : args = #[v0] := by cases args; simp_all
  obtain ⟨rfl, rfl⟩ := trodVars_none hV
  have k0 := h0
  have lt0 : ∀ x ∈ p0, x.block < W.heap.size := by obtain ⟨m, hm⟩ := k0; exact DataW.trod_lt m _ _ _ hm
  obtain ⟨f0, rfl⟩ := open_tr (hval 0 31 v0 rfl rfl) h0
  clear hA0 hval0
  refine (walk f0 W).mono fun e W' ⟨he, bel⟩ => ?_
  subst he
  exact ⟨_, rfl, _, _, _, [], _, [], hW', trodAll_mk1 (shut_bool Try.underlying4 _), (trodAll_cons_mk (Below.trod laidOut (by kernel_rfl) (of_decide_eq_true (by kernel_rfl)) k0 bel lt0) trodAll_mk0), rfl, bel.frame _, fun h => by cases h⟩
theorem over : Rows.treeNamesRow.holds Try.pinned (OpenSpec.ofChange Rows.treeNamesSpec) :=
  OpenClaim.holds_of_wide 8 Try.f8 rfl rfl rfl rfl rfl rfl rfl ⟨rfl, rfl, rfl, rfl, rfl⟩ rfl rfl rfl rfl rfl (by kernel_rfl) Try.func8 (by kernel_rfl)
    (of_decide_eq_true (by kernel_rfl)) (by unfold Func.isWrapper; first | (rw [if_pos (by decide +kernel)]; kernel_rfl) | (rw [if_neg (by decide +kernel)]; exact ⟨rfl, rfl⟩))
    (fun os started H enc _ => lifted os started H enc)
end Go.Proofs.Ytpkfpckljpffgaa.treeNames
namespace Go.Proofs.Ytpkfpckljpffgaa
theorem treeNames_holds : Rows.TreeNamesSaid := treeNames.over
#print axioms treeNames_holds
end Go.Proofs.Ytpkfpckljpffgaa
