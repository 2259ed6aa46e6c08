/- For every number, every piece and every text: the program's Parts, Block and Unblock answer as the document's; a block that is taken is its piece's. No conditions. -/
import Derived.Test.YtoohoapbcdekgaaRows
import Derived.Test.YtoohoapbcdekgaaFrL
import Derived.Test.YtoohoapbcdekgaaFrF
import Derived.Test.YtoohoapbcdekgaaOpenFr
import Derived.OpenShut
import Derived.SizedLaws
import Derived.ChangeMaps5
namespace Go.Proofs.Ytoohoapbcdekgaa.frameBlocks
open Go.ChangeShapes Go.WideShapes Go.ChangeAt Go.RowKit Go.Maps
set_option linter.unusedVariables false
set_option linter.unusedSimpArgs false

set_option maxHeartbeats 2000000 in
set_option maxRecDepth 100000 in
theorem walk (a0 a1_0 a1_1 a1_2 : Int) (s1 s2 : ByteArray) (w0 : (Lit.int .i64 a0).wf = true) (w1_0 : (Lit.int .i64 a1_0).wf = true) (w1_1 : (Lit.int .i64 a1_1).wf = true) (w1_2 : (Lit.int .i64 a1_2).wf = true) (hz1 : s1.size ≤ 9223372036854775807) (hl2 : s2.size ≤ 140737488351232) (w : World) :
    Calls Try.prog 3 #[.int .i64 a0, .agg #[.int .i64 a1_0, .int .i64 a1_1, .int .i64 a1_2, .string s1], .string s2] w fun e w' => e = .returned (.bool true) ∧ Below w.heap.size w w' := by
  have b0 := bounds_i64 w0
  clear w1_0 w1_1 w1_2 hz1 hl2
  by_cases hU : Ub s2
  · have hU1 := fun W => unblock_yes s2 W hU
    have hU2 := fun W => rUnblock_yes s2 W hU
    have hB3 := fun W => block_any (rq s2) (bt s2 2 : Nat) (bt s2 3 : Nat) (rdd s2) W
    rw [ub_rt hU] at hB3
    simp only [if_true, hU.same] at hB3
    obtain ⟨q, hq⟩ : ∃ q, rq s2 = q := ⟨_, rfl⟩
    obtain ⟨p, hp⟩ : ∃ p, bt s2 2 = p := ⟨_, rfl⟩
    obtain ⟨k, hk⟩ : ∃ k, bt s2 3 = k := ⟨_, rfl⟩
    obtain ⟨D, hD⟩ : ∃ D, rdd s2 = D := ⟨_, rfl⟩
    simp only [hq, hp, hk, hD] at hU1 hU2 hB3
    clear hq hp hk hD hU
    have hP1 := fun W => parts_any a0 (by omega) (by omega) W
    have hP2 := fun W => rParts_any a0 W
    have hB1 := fun W => block_any a1_0 a1_1 a1_2 s1 W
    have hB2 := fun W => rBlock_any a1_0 a1_1 a1_2 s1 W
    obtain ⟨X, hX⟩ : ∃ X, (if rt a1_0 a1_1 a1_2 s1.size = true then bl a1_0 a1_1 a1_2 s1 else ⟨#[]⟩) = X := ⟨_, rfl⟩
    obtain ⟨E, hE⟩ : ∃ E : Int, (if rt a1_0 a1_1 a1_2 s1.size = true then (0 : Int) else 7) = E := ⟨_, rfl⟩
    obtain ⟨n, hn⟩ : ∃ n, pt a0 = n := ⟨_, rfl⟩
    simp only [hX, hE] at hB1 hB2
    simp only [hn] at hP1 hP2
    clear hX hE hn w0
    go_enter Try.func3, Try.ntmps3
    go_wp2_with fail
    refine (lives_any _).mono ?_
    rintro e w1 ⟨rfl, hb1⟩
    have HB1 : Hid (Below w.heap.size w w1) := Below.then (below1 _ _) hb1
    have c0 : w1.cell? ⟨w.heap.size, 0, none⟩ = some (.int .i64 a1_0) := cell_later hb1 (by simp [go_sem])
    have c1 : w1.cell? ⟨w.heap.size, 1, none⟩ = some (.int .i64 a1_1) := cell_later hb1 (by simp [go_sem])
    have c2 : w1.cell? ⟨w.heap.size, 2, none⟩ = some (.int .i64 a1_2) := cell_later hb1 (by simp [go_sem])
    have c3 : w1.cell? ⟨w.heap.size, 3, none⟩ = some (.string s1) := cell_later hb1 (by simp [go_sem])
    clear hb1
    go_wp2_with fail
    refine (hP1 _).mono ?_
    rintro e w2 ⟨rfl, rfl⟩
    go_wp2_with fail
    refine (hP2 _).mono ?_
    rintro e w3 ⟨rfl, rfl⟩
    clear hP1 hP2
    go_wp2_with fail
    refine (hB1 _).mono ?_
    rintro e w4 ⟨rfl, hb4⟩
    have HB4 : Hid (Below w.heap.size w w4) := Below.then HB1.out hb4
    have d0 := cell_later hb4 c0
    have d1 := cell_later hb4 c1
    have d2 := cell_later hb4 c2
    have d3 := cell_later hb4 c3
    clear hb4 c0 c1 c2 c3
    go_wp2_with fail
    refine (hB2 _).mono ?_
    rintro e w5 ⟨rfl, hb5⟩
    have HB5 : Hid (Below w.heap.size w w5) := Below.then HB4.out hb5
    clear hb5 d0 d1 d2 d3 hB1 hB2
    go_wp2_with fail
    refine (hU1 _).mono ?_
    rintro e w6 ⟨rfl, hb6⟩
    have HB6 : Hid (Below w.heap.size w w6) := Below.then HB5.out hb6
    clear hb6
    go_wp2_with fail
    refine (hU2 _).mono ?_
    rintro e w7 ⟨rfl, hb7⟩
    have HB7 : Hid (Below w.heap.size w w7) := Below.then (Below.more HB6.out _) hb7
    have x0 : w7.cell? ⟨w6.heap.size, 0, none⟩ = some (.int .i64 q) := cell_later hb7 (by simp [go_sem])
    have x1 : w7.cell? ⟨w6.heap.size, 1, none⟩ = some (.int .i64 (p : Int)) := cell_later hb7 (by simp [go_sem])
    have x2 : w7.cell? ⟨w6.heap.size, 2, none⟩ = some (.int .i64 (k : Int)) := cell_later hb7 (by simp [go_sem])
    have x3 : w7.cell? ⟨w6.heap.size, 3, none⟩ = some (.string D) := cell_later hb7 (by simp [go_sem])
    have l7 : w6.heap.size < w7.heap.size := World.block_lt_of_cell? w7 _ x0
    clear hb7 hU1 hU2
    go_wp2_with fail
    refine (hB3 _).mono ?_
    rintro e w8 ⟨rfl, hb8⟩
    have HB8 : Hid (Below w.heap.size w w8) := Below.then (Below.more HB7.out _) hb8
    clear hb8 x0 x1 x2 x3
    go_wp2_with fail
    go_ret
    exact ⟨rfl, HB8.out⟩
  · have hU1 := fun W => unblock_no s2 W hU
    have hU2 := fun W => rUnblock_no s2 W hU
    clear hU
    have hP1 := fun W => parts_any a0 (by omega) (by omega) W
    have hP2 := fun W => rParts_any a0 W
    have hB1 := fun W => block_any a1_0 a1_1 a1_2 s1 W
    have hB2 := fun W => rBlock_any a1_0 a1_1 a1_2 s1 W
    obtain ⟨X, hX⟩ : ∃ X, (if rt a1_0 a1_1 a1_2 s1.size = true then bl a1_0 a1_1 a1_2 s1 else ⟨#[]⟩) = X := ⟨_, rfl⟩
    obtain ⟨E, hE⟩ : ∃ E : Int, (if rt a1_0 a1_1 a1_2 s1.size = true then (0 : Int) else 7) = E := ⟨_, rfl⟩
    obtain ⟨n, hn⟩ : ∃ n, pt a0 = n := ⟨_, rfl⟩
    simp only [hX, hE] at hB1 hB2
    simp only [hn] at hP1 hP2
    clear hX hE hn w0
    go_enter Try.func3, Try.ntmps3
    go_wp2_with fail
    refine (lives_any _).mono ?_
    rintro e w1 ⟨rfl, hb1⟩
    have HB1 : Hid (Below w.heap.size w w1) := Below.then (below1 _ _) hb1
    have c0 : w1.cell? ⟨w.heap.size, 0, none⟩ = some (.int .i64 a1_0) := cell_later hb1 (by simp [go_sem])
    have c1 : w1.cell? ⟨w.heap.size, 1, none⟩ = some (.int .i64 a1_1) := cell_later hb1 (by simp [go_sem])
    have c2 : w1.cell? ⟨w.heap.size, 2, none⟩ = some (.int .i64 a1_2) := cell_later hb1 (by simp [go_sem])
    have c3 : w1.cell? ⟨w.heap.size, 3, none⟩ = some (.string s1) := cell_later hb1 (by simp [go_sem])
    clear hb1
    go_wp2_with fail
    refine (hP1 _).mono ?_
    rintro e w2 ⟨rfl, rfl⟩
    go_wp2_with fail
    refine (hP2 _).mono ?_
    rintro e w3 ⟨rfl, rfl⟩
    clear hP1 hP2
    go_wp2_with fail
    refine (hB1 _).mono ?_
    rintro e w4 ⟨rfl, hb4⟩
    have HB4 : Hid (Below w.heap.size w w4) := Below.then HB1.out hb4
    have d0 := cell_later hb4 c0
    have d1 := cell_later hb4 c1
    have d2 := cell_later hb4 c2
    have d3 := cell_later hb4 c3
    clear hb4 c0 c1 c2 c3
    go_wp2_with fail
    refine (hB2 _).mono ?_
    rintro e w5 ⟨rfl, hb5⟩
    have HB5 : Hid (Below w.heap.size w w5) := Below.then HB4.out hb5
    clear hb5 d0 d1 d2 d3 hB1 hB2
    go_wp2_with fail
    refine (hU1 _).mono ?_
    rintro e w6 ⟨rfl, hb6⟩
    have HB6 : Hid (Below w.heap.size w w6) := Below.then HB5.out hb6
    clear hb6
    go_wp2_with fail
    refine (hU2 _).mono ?_
    rintro e w7 ⟨rfl, hb7⟩
    have HB7 : Hid (Below w.heap.size w w7) := Below.then (Below.more HB6.out _) hb7
    have x0 : w7.cell? ⟨w6.heap.size, 0, none⟩ = some (.int .i64 0) := cell_later hb7 (by simp [go_sem])
    have x1 : w7.cell? ⟨w6.heap.size, 1, none⟩ = some (.int .i64 0) := cell_later hb7 (by simp [go_sem])
    have x2 : w7.cell? ⟨w6.heap.size, 2, none⟩ = some (.int .i64 0) := cell_later hb7 (by simp [go_sem])
    have x3 : w7.cell? ⟨w6.heap.size, 3, none⟩ = some (.string ⟨#[]⟩) := cell_later hb7 (by simp [go_sem])
    have l7 : w6.heap.size < w7.heap.size := World.block_lt_of_cell? w7 _ x0
    clear hb7 hU1 hU2
    go_wp2_with fail
    go_ret
    exact ⟨rfl, Below.more HB7.out _⟩
theorem own : ownKnob Try.prog.godebug = none := by kernel_rfl
theorem laidOut : laidOutB Try.prog = true := by kernel_rfl
theorem text_reach {s : ByteArray} (h : s.data.toList.length ≤ reachBytes) : s.size ≤ 140737488351232 := by
  have e2 : s.data.toList.length = s.data.size := Array.length_toList
  have e1 : s.size = s.data.size := rfl
  unfold reachBytes at h
  omega
set_option maxRecDepth 100000 in
theorem lifted (os : Os) (started : os.Started) (H : Type) (enc : TypeId × Value → H) :
    ReturnsInHanded {} Try.checked os 3 .any (Rows.frameBlocksSpec.pre6 enc Try.prog Try.f3 Rows.frameBlocksRow.domain false) (Rows.frameBlocksSpec.post enc Try.prog Try.f3 false true false false) := by
  refine returnsInHanded_of_change_sized (C := Try.checked) own started (by kernel_rfl) Try.func3
    (ChangeSpec.witness6 (enc := enc) (C := Try.checked) false ⟨#[], #[.int .i64 0, .agg #[.int .i64 0, .int .i64 0, .int .i64 0, .string ⟨#[]⟩], .string ⟨#[]⟩], []⟩ 8 (by kernel_rfl) (by kernel_rfl) (by kernel_rfl) (by kernel_rfl)) ?_
  intro W base args ds gs before hval0 hW hcnd hsz0 _
  have hsz : (DataW.weightsEach Try.prog (Try.f3.params.toList ++ Rows.frameBlocksSpec.plain.varTypes Try.prog) (ds ++ gs)).all (· ≤ reachBytes) = true := hsz0
  clear hsz0
  have hval : ∀ (j : Nat) t v, Try.f3.params[j]? = some t → args[j]? = some v → Value.okWide Try.prog W .any base t v := hval0
  have hW' := hW
  obtain ⟨p, q, hA0, hV, rfl, hfz, hnd⟩ := hW
  have hA : DataW.TrodAll enc Try.prog W 0 (fun _ => true) true Try.f3.params.toList args.toList ds p := hA0
  rw [Try.params3] at hA hval hsz
  obtain ⟨v0, vs0, d0, ds0, p0, q0, hargs, rfl, rfl, h0, r0⟩ := trodAll_cons hA
  obtain ⟨v1, vs1, d1, ds1, p1, q1, rfl, rfl, rfl, h1, r1⟩ := trodAll_cons r0
  obtain ⟨v2, vs2, d2, ds2, p2, q2, rfl, rfl, rfl, h2, r2⟩ := trodAll_cons r1
  obtain ⟨rfl, rfl, rfl⟩ := trodAll_nil r2
  obtain rfl : args = #[v0, v1, v2] := by cases args; simp_all
  obtain ⟨rfl, rfl⟩ := trodVars_none hV
  obtain ⟨a0, rfl, rfl, rfl, w0⟩ := open_int Try.underlying3 (hval 0 3 v0 rfl rfl) h0
  have k1 := h1
  have lt1 : ∀ x ∈ p1, x.block < W.heap.size := by obtain ⟨m, hm⟩ := k1; exact DataW.trod_lt m _ _ _ hm
  obtain ⟨a1_0, a1_1, a1_2, s1, rfl, w1_0, w1_1, w1_2, hz1⟩ := open_piece (hval 1 23 v1 rfl rfl) h1
  obtain ⟨s2, rfl, rfl, rfl, hs2⟩ := Go.ChangeMaps.open_string Try.underlying9 (hval 2 9 v2 rfl rfl) h2
  have hl2 : s2.size ≤ 140737488351232 := text_reach (sized_string hsz (j := 2) (t := 9) rfl rfl)
  clear hA0 hval0
  refine (walk a0 a1_0 a1_1 a1_2 s1 s2 w0 w1_0 w1_1 w1_2 hz1 hl2 W).mono fun e W' ⟨he, bel⟩ => ?_
  subst he
  exact ⟨_, rfl, _, _, _, [], _, [], hW', trodAll_mk1 (shut_bool Try.underlying4 _), (trodAll_cons_mk (shut_int Try.underlying3 w0) (trodAll_cons_mk (Below.trod laidOut (by kernel_rfl) (of_decide_eq_true (by kernel_rfl)) k1 bel lt1) (trodAll_cons_mk (Go.ChangeMaps.shut_string Try.underlying9 hs2) trodAll_mk0))), rfl, bel.frame _, fun h => by cases h⟩
theorem over : Rows.frameBlocksRow.holds Try.pinned (OpenSpec.ofChange Rows.frameBlocksSpec) :=
  OpenClaim.holds_of_wide 3 Try.f3 rfl rfl rfl rfl rfl rfl rfl ⟨rfl, rfl, rfl, rfl, rfl⟩ rfl rfl rfl rfl rfl (by kernel_rfl) Try.func3 (by kernel_rfl)
    (of_decide_eq_true (by kernel_rfl)) (by unfold Func.isWrapper; first | (rw [if_pos (by decide +kernel)]; kernel_rfl) | (rw [if_neg (by decide +kernel)]; exact ⟨rfl, rfl⟩))
    (fun os started H enc _ => lifted os started H enc)
end Go.Proofs.Ytoohoapbcdekgaa.frameBlocks
namespace Go.Proofs.Ytoohoapbcdekgaa
theorem frameBlocks_holds : Rows.FrameBlocksSaid := frameBlocks.over
#print axioms frameBlocks_holds
end Go.Proofs.Ytoohoapbcdekgaa
