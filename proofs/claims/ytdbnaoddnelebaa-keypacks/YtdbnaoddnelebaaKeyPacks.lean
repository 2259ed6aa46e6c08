/- For every box and every word: Pack, Unpack, PackBox and UnpackBox of package key answer what the document's own reckoning answers. No conditions. -/
import Derived.Test.YtdbnaoddnelebaaRows
import Derived.Test.YtdbnaoddnelebaaKeyE
import Derived.Test.YtdbnaoddnelebaaKeyQ
import Derived.Test.YtdbnaoddnelebaaOpenKey
namespace Go.Proofs.Ytdbnaoddnelebaa.keyPacks
open Go.ChangeShapes Go.WideShapes Go.ChangeAt Go.RowKit
set_option linter.unusedVariables false

theorem packs_same (b s : Int) : ∃ (p e : Int),
    (∀ w, Calls Try.prog 18 #[.agg #[.int .i64 b, .int .i64 s]] w fun r w' => r = .returned (.tuple #[.int .u32 p, .int .i64 e]) ∧ Below w.heap.size w w') ∧
    (∀ w, Calls Try.prog 19 #[.agg #[.int .i64 b, .int .i64 s]] w fun r w' => r = .returned (.tuple #[.int .u32 p, .int .i64 e]) ∧ Below w.heap.size w w') := by
  by_cases h : Gd b s
  · exact ⟨_, _, fun w => (pack_yes b s h w).mono fun e w' ⟨he, hw⟩ => ⟨he, hw ▸ Below.more (below1 _ _) _⟩, fun w => (rPack_yes b s h w).mono fun e w' ⟨he, hw⟩ => ⟨he, hw ▸ Below.more (below1 _ _) _⟩⟩
  · exact ⟨_, _, fun w => (pack_no b s h w).mono fun e w' ⟨he, hw⟩ => ⟨he, hw ▸ Below.more (below1 _ _) _⟩, fun w => (rPack_no b s h w).mono fun e w' ⟨he, hw⟩ => ⟨he, hw ▸ Below.more (below1 _ _) _⟩⟩
theorem unpacks_same (v : Int) (h0 : 0 ≤ v) (h1 : v < 4294967296) : ∃ (x y e : Int),
    (∀ w, Calls Try.prog 20 #[.int .u32 v] w fun r w' => r = .returned (.tuple #[.agg #[.int .i64 x, .int .i64 y], .int .i64 e]) ∧ Below w.heap.size w w') ∧
    (∀ w, Calls Try.prog 21 #[.int .u32 v] w fun r w' => r = .returned (.tuple #[.agg #[.int .i64 x, .int .i64 y], .int .i64 e]) ∧ Below w.heap.size w w') := by
  by_cases h : Gd (v / 256) (v % 256)
  · exact ⟨_, _, _, fun w => (unpack_yes v h0 h1 h w).mono fun e w' ⟨he, hw⟩ => ⟨he, hw ▸ Below.more (Below.more (below1 _ _) _) _⟩, fun w => (rUnpack_yes v h0 h1 h w).mono fun e w' ⟨he, hw⟩ => ⟨he, hw ▸ Below.more (Below.more (below1 _ _) _) _⟩⟩
  · exact ⟨_, _, _, fun w => (unpack_no v h0 h1 h w).mono fun e w' ⟨he, hw⟩ => ⟨he, hw ▸ Below.more (Below.more (below1 _ _) _) _⟩, fun w => (rUnpack_no v h0 h1 h w).mono fun e w' ⟨he, hw⟩ => ⟨he, hw ▸ Below.more (Below.more (below1 _ _) _) _⟩⟩
theorem packBoxes_same (a b c d : Int) : ∃ (p e : Int),
    (∀ w, Calls Try.prog 22 #[.agg #[.int .i64 a, .int .i64 b, .int .i64 c, .int .i64 d]] w fun r w' => r = .returned (.tuple #[.int .u64 p, .int .i64 e]) ∧ Below w.heap.size w w') ∧
    (∀ w, Calls Try.prog 23 #[.agg #[.int .i64 a, .int .i64 b, .int .i64 c, .int .i64 d]] w fun r w' => r = .returned (.tuple #[.int .u64 p, .int .i64 e]) ∧ Below w.heap.size w w') := by
  by_cases h : Gd a b
  · by_cases k : Gd c d
    · exact ⟨_, _, packBox_yes a b c d h k, rPackBox_yes a b c d h k⟩
    · exact ⟨_, _, packBox_low a b c d h k, rPackBox_low a b c d h k⟩
  · exact ⟨_, _, packBox_up a b c d h, rPackBox_up a b c d h⟩
theorem unpackBoxes_same (v : Int) (h0 : 0 ≤ v) (h1 : v < 18446744073709551616) : ∃ (x y z u e : Int),
    (∀ w, Calls Try.prog 24 #[.int .u64 v] w fun r w' => r = .returned (.tuple #[.agg #[.int .i64 x, .int .i64 y, .int .i64 z, .int .i64 u], .int .i64 e]) ∧ Below w.heap.size w w') ∧
    (∀ w, Calls Try.prog 25 #[.int .u64 v] w fun r w' => r = .returned (.tuple #[.agg #[.int .i64 x, .int .i64 y, .int .i64 z, .int .i64 u], .int .i64 e]) ∧ Below w.heap.size w w') := by
  by_cases h : Gd (v / 4294967296 / 256) (v / 4294967296 % 256)
  · by_cases k : Gd (v % 4294967296 / 256) (v % 4294967296 % 256)
    · exact ⟨_, _, _, _, _, unpackBox_yes v h0 h1 h k, rUnpackBox_yes v h0 h1 h k⟩
    · exact ⟨_, _, _, _, _, unpackBox_low v h0 h1 h k, rUnpackBox_low v h0 h1 h k⟩
  · by_cases k : Gd (v % 4294967296 / 256) (v % 4294967296 % 256)
    · exact ⟨_, _, _, _, _, unpackBox_up v h0 h1 h, rUnpackBox_up1 v h0 h1 h k⟩
    · exact ⟨_, _, _, _, _, unpackBox_up v h0 h1 h, rUnpackBox_up2 v h0 h1 h k⟩

set_option maxHeartbeats 2000000 in
theorem walk (a b c d v : Int) (w0 : (Lit.int .i64 a).wf = true) (w1 : (Lit.int .i64 b).wf = true) (w2 : (Lit.int .i64 c).wf = true) (w3 : (Lit.int .i64 d).wf = true) (w4 : (Lit.int .u64 v).wf = true) (w : World) :
    Calls Try.prog 7 #[.agg #[.int .i64 a, .int .i64 b, .int .i64 c, .int .i64 d], .int .u64 v] w fun e w' => e = .returned (.bool true) ∧ Below w.heap.size w w' := by
  have hv := bounds_u64 w4
  obtain ⟨hv0, hv1⟩ : 0 ≤ v ∧ v < 18446744073709551616 := by omega
  clear w0 w1 w2 w3 w4 hv
  obtain ⟨p, e1, hP, hP'⟩ := packs_same a b
  obtain ⟨q, e2, hQ, hQ'⟩ := packBoxes_same a b c d
  obtain ⟨x, y, e3, hU, hU'⟩ := unpacks_same (v % 4294967296) (by omega) (by omega)
  obtain ⟨x1, x2, x3, x4, e4, hB, hB'⟩ := unpackBoxes_same v hv0 hv1
  clear hv0 hv1
  have hw : IntKind.u32.wrap v = v % 4294967296 := IntKind.wrap_u32' v
  go_enter Try.func7, Try.ntmps7
  go_wp2_with fail
  refine (lives_any _).mono ?_
  rintro e w1 ⟨rfl, hb⟩
  have K1 := Kq.call ((Kq.start w).box4 _ _ _ _ _ _ rfl) hb
  clear hb
  have c0 := K1.get 0 rfl
  have c1 := K1.get 1 rfl
  go_wp2_with fail
  refine (hP _).mono ?_
  rintro e w2 ⟨rfl, hb⟩
  have K2 := K1.call hb
  clear hb c0 c1 K1
  have c0 := K2.get 0 rfl
  have c1 := K2.get 1 rfl
  go_wp2_with fail
  refine (hP' _).mono ?_
  rintro e w3 ⟨rfl, hb⟩
  have K3 := K2.call hb
  clear hb c0 c1 K2 hP hP'
  go_wp2_with fail
  refine (hU _).mono ?_
  rintro e w4 ⟨rfl, hb⟩
  have K4 := K3.call hb
  clear hb K3
  go_wp2_with fail
  refine (hU' _).mono ?_
  rintro e w5 ⟨rfl, hb⟩
  have K5 := Kq.call (K4.box2 _ _ _ _ rfl) hb
  clear hb K4 hU hU'
  have d0 := K5.geta 0 rfl
  have d1 := K5.geta 1 rfl
  have c0 := K5.geta 2 rfl
  have c1 := K5.geta 3 rfl
  have c2 := K5.geta 4 rfl
  have c3 := K5.geta 5 rfl
  go_wp2_with fail
  refine (hQ _).mono ?_
  rintro e w6 ⟨rfl, hb⟩
  have K6 := Kq.call (K5.alloc _) hb
  clear hb K5 c0 c1 c2 c3 d0 d1
  have c0 := K6.get 2 rfl
  have c1 := K6.get 3 rfl
  have c2 := K6.get 4 rfl
  have c3 := K6.get 5 rfl
  go_wp2_with fail
  refine (hQ' _).mono ?_
  rintro e w7 ⟨rfl, hb⟩
  have K7 := K6.call hb
  clear hb K6 c0 c1 c2 c3 hQ hQ'
  go_wp2_with fail
  refine (hB _).mono ?_
  rintro e w8 ⟨rfl, hb⟩
  have K8 := K7.call hb
  clear hb K7
  go_wp2_with fail
  refine (hB' _).mono ?_
  rintro e w9 ⟨rfl, hb⟩
  have K9 := Kq.call (K8.box4 _ _ _ _ _ _ rfl) hb
  clear hb K8 hB hB'
  have c0 := K9.geta 0 rfl
  have c1 := K9.geta 1 rfl
  have c2 := K9.geta 2 rfl
  have c3 := K9.geta 3 rfl
  go_wp2
  go_ret
  exact ⟨rfl, Below.more K9.below _⟩

theorem own : ownKnob Try.prog.godebug = none := by kernel_rfl
theorem laidOut : laidOutB Try.prog = true := by kernel_rfl
set_option maxRecDepth 100000 in
theorem lifted (os : Os) (started : os.Started) (H : Type) (enc : TypeId × Value → H) :
    ReturnsInHanded {} Try.checked os 7 .any (Rows.keyPacksSpec.pre6 enc Try.prog Try.f7 Rows.keyPacksRow.domain false) (Rows.keyPacksSpec.post enc Try.prog Try.f7 false true false false) := by
  refine returnsInHanded_of_change (C := Try.checked) own started (by kernel_rfl) Try.func7
    (ChangeSpec.witness6 (enc := enc) (C := Try.checked) false ⟨#[], #[.agg #[.int .i64 0, .int .i64 0, .int .i64 0, .int .i64 0], .int .u64 0], []⟩ 8 (by kernel_rfl) (by kernel_rfl) (by kernel_rfl) (by kernel_rfl)) ?_
  intro W base args ds gs before hval0 hW hcnd _
  have hval : ∀ (j : Nat) t v, Try.f7.params[j]? = some t → args[j]? = some v → Value.okWide Try.prog W .any base t v := hval0
  have hW' := hW
  obtain ⟨p, q, hA0, hV, rfl, hfz, hnd⟩ := hW
  have hA : DataW.TrodAll enc Try.prog W 0 (fun _ => true) true Try.f7.params.toList args.toList ds p := hA0
  rw [Try.params7] at hA hval
  obtain ⟨v0, vs0, d0, ds0, p0, q0, hargs, rfl, rfl, h0, r0⟩ := trodAll_cons hA
  obtain ⟨v1, vs1, d1, ds1, p1, q1, rfl, rfl, rfl, h1, r1⟩ := trodAll_cons r0
  obtain ⟨rfl, rfl, rfl⟩ := trodAll_nil r1
  obtain rfl : args = #[v0, v1] := by cases args; simp_all
  obtain ⟨rfl, rfl⟩ := trodVars_none hV
  have k0 := h0
  have lt0 : ∀ x ∈ p0, x.block < W.heap.size := by obtain ⟨m, hm⟩ := k0; exact DataW.trod_lt m _ _ _ hm
  obtain ⟨a0_0, a0_1, a0_2, a0_3, rfl, w0_0, w0_1, w0_2, w0_3⟩ := open_quad Try.underlying36 (by kernel_rfl) rfl rfl rfl rfl Try.underlying23 (by kernel_rfl) (by kernel_rfl) rfl rfl Try.underlying3 (hval 0 36 v0 rfl rfl) h0
  obtain ⟨a1, rfl, rfl, rfl, w1⟩ := open_int Try.underlying37 (hval 1 37 v1 rfl rfl) h1
  clear hA0 hval0
  refine (walk a0_0 a0_1 a0_2 a0_3 a1 w0_0 w0_1 w0_2 w0_3 w1 W).mono fun e W' ⟨he, bel⟩ => ?_
  subst he
  exact ⟨_, rfl, _, _, _, [], _, [], hW', trodAll_mk1 (shut_bool Try.underlying4 _), (trodAll_cons_mk (Below.trod laidOut (by kernel_rfl) (of_decide_eq_true (by kernel_rfl)) k0 bel lt0) (trodAll_cons_mk (shut_int Try.underlying37 w1) trodAll_mk0)), rfl, bel.frame _, fun h => by cases h⟩
theorem over : Rows.keyPacksRow.holds Try.pinned (OpenSpec.ofChange Rows.keyPacksSpec) :=
  OpenClaim.holds_of_wide 7 Try.f7 rfl rfl rfl rfl rfl rfl rfl ⟨rfl, rfl, rfl, rfl, rfl⟩ rfl rfl rfl rfl rfl (by kernel_rfl) Try.func7 (by kernel_rfl)
    (of_decide_eq_true (by kernel_rfl)) (by unfold Func.isWrapper; first | (rw [if_pos (by decide +kernel)]; kernel_rfl) | (rw [if_neg (by decide +kernel)]; exact ⟨rfl, rfl⟩))
    (fun os started H enc _ => lifted os started H enc)
end Go.Proofs.Ytdbnaoddnelebaa.keyPacks
namespace Go.Proofs.Ytdbnaoddnelebaa
theorem keyPacks_holds : Rows.KeyPacksSaid := keyPacks.over
#print axioms keyPacks_holds
end Go.Proofs.Ytdbnaoddnelebaa
