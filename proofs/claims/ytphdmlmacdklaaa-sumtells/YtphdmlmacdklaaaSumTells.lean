/- For every text, every place and all four bytes: the text with these put over it from that place on has another sum just if it is another text. No conditions. -/
import Derived.Test.YtphdmlmacdklaaaRows
import Derived.Test.YtphdmlmacdklaaaSumE
import Derived.Test.YtphdmlmacdklaaaOpenArr4
import Derived.OpenShut
import Derived.SizedLaws
import Derived.ChangeMaps5
import Derived.Deep.QuietTactic
import Derived.BigQuiet
import Derived.LoopTactic
import Derived.WalkSmall
namespace Go.Proofs.Ytphdmlmacdklaaa.sumTells
open Go.ChangeShapes Go.WideShapes Go.ChangeAt Go.RowKit Go.Maps
set_option linter.unusedVariables false

theorem below1 (w : World) (o : Obj) : Below w.heap.size w (w.alloc o) := (Below.refl _ _).alloc (Nat.le_refl _) _
theorem mod_of (n m : Int) (hm0 : 0 < m) (hm1 : m ≤ 140737488351232) : ∃ v : Nat, wrap64 ((IntKind.u64.wrap n).tmod m) = (v : Int) ∧ (v : Int) < m := by
  have h0 : 0 ≤ IntKind.u64.wrap n := by simp only [IntKind.wrap_u64]; omega
  have h1 : 0 ≤ IntKind.u64.wrap n % m := Int.emod_nonneg _ (by omega)
  have h2 : IntKind.u64.wrap n % m < m := Int.emod_lt_of_pos _ hm0
  refine ⟨(IntKind.u64.wrap n % m).toNat, ?_, by omega⟩
  rw [Int.tmod_eq_emod_of_nonneg h0]
  have h3 : wrap64 (IntKind.u64.wrap n % m) = IntKind.u64.wrap n % m := by unfold wrap64; omega
  rw [h3]; omega
/- The text behind k of the stores. -/
def lay (T B : List UInt8) (F k : Nat) : List UInt8 := T.take F ++ B.take k ++ T.drop (F + k)
theorem lay_zero (T B : List UInt8) (F : Nat) : lay T B F 0 = T := by simp [lay]
theorem lay_length (T B : List UInt8) (F k : Nat) (hk : k ≤ B.length) (hF : F + k ≤ T.length) : (lay T B F k).length = T.length := by
  simp [lay]; omega
theorem lay_succ (T B : List UInt8) (F k : Nat) (b : UInt8) (hb : B[k]? = some b) (hF : F + k < T.length) : lay T B F (k + 1) = (lay T B F k).set (F + k) b := by
  obtain ⟨hk, hb2⟩ := List.getElem?_eq_some_iff.1 hb
  have e1 : (T.take F ++ B.take k).length = F + k := by simp; omega
  unfold lay
  rw [List.set_append_right _ _ (by omega), e1, Nat.sub_self]
  have e2 : T.drop (F + k) = T[F + k] :: T.drop (F + k + 1) := List.drop_eq_getElem_cons hF
  rw [e2, List.take_succ_eq_append_getElem hk, hb2]
  simp [Nat.add_assoc]
theorem lay_tells (T B : List UInt8) (F k : Nat) (hk : k ≤ B.length) (h4 : k ≤ 4) (hF : F + k ≤ T.length) (h : ext 0 (lay T B F k) = ext 0 T) : lay T B F k = T := by
  have e : T = T.take F ++ (T.drop F).take k ++ T.drop (F + k) := by
    rw [List.append_assoc]
    have : T.drop (F + k) = (T.drop F).drop k := by rw [List.drop_drop]
    rw [this, List.take_append_drop, List.take_append_drop]
  have h2 : ext 0 (T.take F ++ B.take k ++ T.drop (F + k)) = ext 0 (T.take F ++ (T.drop F).take k ++ T.drop (F + k)) := by rw [← e]; exact h
  have h3 := ext_tells _ _ _ _ (by simp; omega) (by simp; omega) h2
  show T.take F ++ B.take k ++ T.drop (F + k) = T
  rw [h3, ← e]
theorem tells_bool (T : ByteArray) (L : List UInt8) (h : ext 0 L = ext 0 T.data.toList → L = T.data.toList) : (((ext 0 L : Nat) : Int) == ((ext 0 T.data.toList : Nat) : Int)) = (L == T.toList) := by
  rw [ByteArray.toList_eq, Bool.eq_iff_iff]
  simp only [beq_iff_eq]
  constructor
  · intro e
    rw [h (by omega)]
  · intro e
    rw [e]
set_option maxHeartbeats 2000000 in
set_option maxRecDepth 100000 in
theorem walk (s : ByteArray) (a1 : Int) (z0 z1 z2 z3 : Int) (hl : s.size ≤ 140737488351232) (w1 : (Lit.int .i64 a1).wf = true) (y0 : (Lit.int .u8 z0).wf = true) (y1 : (Lit.int .u8 z1).wf = true) (y2 : (Lit.int .u8 z2).wf = true) (y3 : (Lit.int .u8 z3).wf = true) (w : World) :
    Calls Try.prog 6 #[.string s, .int .i64 a1, .agg #[.int .u8 z0, .int .u8 z1, .int .u8 z2, .int .u8 z3]] w fun e w' => e = .returned (.bool true) ∧ Below w.heap.size w w' := by
  have g0 := bounds_u8 y0
  have g1 := bounds_u8 y1
  have g2 := bounds_u8 y2
  have g3 := bounds_u8 y3
  clear w1 y0 y1 y2 y3
  have ofu : ∀ z : Int, 0 ≤ z ∧ z ≤ 255 → ∃ b : UInt8, z = (b.toNat : Int) := fun z h => ⟨UInt8.ofNat z.toNat, by simp [UInt8.toNat_ofNat']; omega⟩
  obtain ⟨b0, rfl⟩ := ofu z0 g0
  obtain ⟨b1, rfl⟩ := ofu z1 g1
  obtain ⟨b2, rfl⟩ := ofu z2 g2
  obtain ⟨b3, rfl⟩ := ofu z3 g3
  clear g0 g1 g2 g3 ofu
  obtain ⟨N, hN⟩ : ∃ N, s.size = N := ⟨_, rfl⟩
  have HN : Hid (s.data.toList.length = N) := by unfold Hid; rw [Array.length_toList, ← hN]; rfl
  have hcv0 := fun W => run_bytes_of_string (P := Try.prog) W 9 32 5 s Try.underlying9 Try.underlying32 Try.underlying5
  by_cases h0 : N = 0
  · have hs0 : s = ⟨#[]⟩ := by
      apply ByteArray.ext
      have : s.data.size = 0 := by rw [← h0, ← hN]; rfl
      exact Array.eq_empty_of_size_eq_zero this
    subst hs0
    have hA := fun W => sum_any ⟨#[]⟩ W (by decide)
    clear HN hN hl h0
    go_enter Try.func6, Try.ntmps6
    go_wp2_with fail
    refine (lives_any _).mono ?_
    rintro e w1 ⟨rfl, hb1⟩
    have HB1 : Hid (Below w.heap.size w w1) := (below1 _ _).trans (hb1.mono (by simp))
    clear hb1
    go_wp2_with fail
    refine wp_loop_rounds 1 ?_
    rw [rounds_succ]; go_wp2_with fail
    have hz : ∀ W g cap, (convert 32 9 (.slice (some ⟨g, 0, none⟩) 0 cap)).run Try.prog W = .ok (.string ⟨#[]⟩) W := fun W g cap => Bs.conv (l := []) ⟨fun j b hj => by simp at hj, fun j hj => by simp at hj⟩ rfl
    clear hcv0
    have HBW : Hid (Below w.heap.size w (w1.alloc (.cells (bytesRow ⟨#[]⟩ (grownCap w1 0 0 5)) 5 ((bytesRow ⟨#[]⟩ (grownCap w1 0 0 5)).size, (bytesRow ⟨#[]⟩ (grownCap w1 0 0 5)).size + 1))).drew) := Below.drew (HB1.out.alloc HB1.out.size _)
    generalize (w1.alloc (.cells (bytesRow ⟨#[]⟩ (grownCap w1 0 0 5)) 5 ((bytesRow ⟨#[]⟩ (grownCap w1 0 0 5)).size, (bytesRow ⟨#[]⟩ (grownCap w1 0 0 5)).size + 1))).drew = wc at HBW ⊢
    go_quiet ((go_at_call 9; exact Calls.quiet_of_same (hA _)))
    clear hz hA
    go_wp2_with fail
    go_ret
    exact ⟨ret_bool (by simp), below_drewN HBW.out _⟩
  · have n0 : (0 : Int) < (N : Int) := by omega
    obtain ⟨F, hF, hFN⟩ := mod_of a1 (N : Int) n0 (by omega)
    rw [hN] at hcv0
    go_enter Try.func6, Try.ntmps6
    go_wp2_with fail
    refine (lives_any _).mono ?_
    rintro e w1 ⟨rfl, hb1⟩
    go_wp2_with fail
    rw [hF]
    have hFN' : F < N := by omega
    have hN47 : N ≤ 140737488351232 := by omega
    have HL : Hid (s.size = N) := hN
    have s1 : w.heap.size < w1.heap.size := by have := hb1.size; simp at this; omega
    have cb : ∀ (k : Nat) (b : UInt8), [b0, b1, b2, b3][k]? = some b → w1.cell? ⟨w.heap.size, k, none⟩ = some (.int .u8 (b.toNat : Int)) := by
      intro k b hk
      rw [hb1.cell (p := ⟨w.heap.size, k, none⟩) (by simp)]
      match k, hk with
      | 0, hk => simp at hk; subst hk; simp [go_sem]
      | 1, hk => simp at hk; subst hk; simp [go_sem]
      | 2, hk => simp at hk; subst hk; simp [go_sem]
      | 3, hk => simp at hk; subst hk; simp [go_sem]
    have HCB : Hid (∀ (k : Nat) (b : UInt8), [b0, b1, b2, b3][k]? = some b → w1.cell? ⟨w.heap.size, k, none⟩ = some (.int .u8 (b.toNat : Int))) := cb
    have HB1 : Hid (Below w.heap.size w w1) := (below1 _ _).trans (hb1.mono (by simp))
    obtain ⟨C, hC⟩ : ∃ C, grownCap w1 N 0 5 = C := ⟨_, rfl⟩
    rw [hC]
    clear hcv0 hF hb1 cb hC hN
    go_loopw [9] (fun i wr => ∃ k : Nat, k ≤ 4 ∧ F + k ≤ N ∧ i = .int .i64 (k : Int) ∧ Bs wr w1.heap.size (lay s.data.toList [b0, b1, b2, b3] F k) ∧ Below w1.heap.size w1 wr) (fun i _ => 4 - (intOf i).toNat)
    case atStart => exact ⟨0, by omega, by omega, rfl, by rw [lay_zero]; exact bs_conv w1 s _ C, Below.drew ((Below.refl _ _).alloc (Nat.le_refl _) _)⟩
    case round =>
      obtain ⟨k, hk4, hkN, rfl, hbs, hb⟩ := hrel
      have HBS : Hid (Bs wr w1.heap.size (lay s.data.toList [b0, b1, b2, b3] F k)) := hbs
      have HB : Hid (Below w1.heap.size w1 wr) := hb
      have hlen := lay_length s.data.toList [b0, b1, b2, b3] F k (by simpa using hk4) (by rw [HN.out]; exact hkN)
      rw [HN.out] at hlen
      by_cases hlt : k < 4 ∧ F + k < N
      · obtain ⟨l4, lN⟩ := hlt
        have i1 : (k : Int) < 4 := by omega
        have i2 : (k : Int) < (N : Int) - (F : Int) := by omega
        obtain ⟨b, hbk⟩ : ∃ b, [b0, b1, b2, b3][k]? = some b := ⟨_, List.getElem?_eq_getElem (by simpa using l4)⟩
        have ck : wr.cell? ⟨w.heap.size, k, none⟩ = some (.int .u8 (b.toNat : Int)) := (hb.cell (p := ⟨w.heap.size, k, none⟩) s1).trans (HCB.out k b hbk)
        have HS : Hid (Bs (wr.setCell ⟨w1.heap.size, F + k, none⟩ (.int .u8 (b.toNat : Int))) w1.heap.size (lay s.data.toList [b0, b1, b2, b3] F (k + 1))) := by
          unfold Hid
          rw [lay_succ _ _ _ _ b hbk (by rw [HN.out]; exact lN)]
          exact hbs.store _ _ (by rw [hlen]; exact lN)
        obtain ⟨u, hu⟩ : ∃ u, wr.cell? ⟨w1.heap.size, F + k, none⟩ = some (.int .u8 u) := ⟨_, hbs.cell _ _ (List.getElem?_eq_getElem (by rw [hlen]; exact lN))⟩
        have fz := hbs.free (F + k) (by rw [hlen]; exact lN)
        clear hbs hb hbk hlen
        go_wp2_with fail
        go_roundw
        case rel => exact ⟨k + 1, by omega, by omega, by go_num, HS.out, HB.out.setCell (Nat.le_refl _) _⟩
        case measure => simp [intOf]; omega
      · have HT : Hid (ext 0 (lay s.data.toList [b0, b1, b2, b3] F k) = ext 0 s.data.toList → lay s.data.toList [b0, b1, b2, b3] F k = s.data.toList) := lay_tells _ _ _ _ (by simpa using hk4) hk4 (by rw [HN.out]; exact hkN)
        have hcv : ∀ m, (convert 32 9 (.slice (some ⟨w1.heap.size, 0, none⟩) N C)).run Try.prog (wr.drewN m) = .ok (.string ⟨(lay s.data.toList [b0, b1, b2, b3] F k).toArray⟩) (wr.drewN m) := fun m => Bs.conv (w := wr.drewN m) (show Bs (wr.drewN m) _ _ from ⟨hbs.cell, hbs.free⟩) hlen
        obtain ⟨L, hL⟩ : ∃ L, lay s.data.toList [b0, b1, b2, b3] F k = L := ⟨_, rfl⟩
        rw [hL] at HT hlen
        simp only [hL] at hcv
        have hXs : (⟨L.toArray⟩ : ByteArray).size ≤ 281474976710656 := by
          have e : (⟨L.toArray⟩ : ByteArray).size = L.length := by simp [ByteArray.size]
          rw [e, hlen]; omega
        have hA : ∀ W, Calls Try.prog 9 #[.string ⟨L.toArray⟩] W fun e w' => e = .returned (.int .u32 ((ext 0 L : Nat) : Int)) ∧ w' = W := by
          intro W; have := sum_any ⟨L.toArray⟩ W hXs; simpa using this
        have hB := fun W => sum_any s W (by rw [HL.out]; omega)
        have htb := tells_bool s L HT.out
        have HTB : Hid _ := htb
        clear hbs hb hL HBS hXs htb
        by_cases l4 : k < 4
        · have i1 : (k : Int) < 4 := by omega
          have i2 : decide ((k : Int) < (N : Int) - (F : Int)) = false := by simp; omega
          clear hlt
          go_wp2_with fail
          go_quiet (first
            | (go_at_call 9; exact Calls.quiet_of_same (hA _))
            | (go_at_call 9; exact Calls.quiet_of_same (hB _)))
          clear hcv hA hB
          go_wp2_with fail
          go_ret
          exact ⟨ret_bool (by rw [HTB.out]; simp), below_drewN (HB1.out.trans (HB.out.mono HB1.out.size)) _⟩
        · have i1 : decide ((k : Int) < 4) = false := by simp; omega
          clear hlt
          go_wp2_with fail
          go_quiet (first
            | (go_at_call 9; exact Calls.quiet_of_same (hA _))
            | (go_at_call 9; exact Calls.quiet_of_same (hB _)))
          clear hcv hA hB
          go_wp2_with fail
          go_ret
          exact ⟨ret_bool (by rw [HTB.out]; simp), below_drewN (HB1.out.trans (HB.out.mono HB1.out.size)) _⟩
theorem own : ownKnob Try.prog.godebug = none := by kernel_rfl
theorem laidOut : laidOutB Try.prog = true := by kernel_rfl
theorem text_reach {s : ByteArray} (h : s.data.toList.length ≤ reachBytes) : s.size ≤ 140737488351232 := by
  have e2 : s.data.toList.length = s.data.size := Array.length_toList
  have e1 : s.size = s.data.size := rfl
  unfold reachBytes at h
  omega
set_option maxRecDepth 100000 in
theorem lifted (os : Os) (started : os.Started) (H : Type) (enc : TypeId × Value → H) :
    ReturnsInHanded {} Try.checked os 6 .any (Rows.sumTellsSpec.pre6 enc Try.prog Try.f6 Rows.sumTellsRow.domain false) (Rows.sumTellsSpec.post enc Try.prog Try.f6 false true false false) := by
  refine returnsInHanded_of_change_sized (C := Try.checked) own started (by kernel_rfl) Try.func6
    (ChangeSpec.witness6 (enc := enc) (C := Try.checked) false ⟨#[], #[.string ⟨#[]⟩, .int .i64 0, .agg #[.int .u8 0, .int .u8 0, .int .u8 0, .int .u8 0]], []⟩ 8 (by kernel_rfl) (by kernel_rfl) (by kernel_rfl) (by kernel_rfl)) ?_
  intro W base args ds gs before hval0 hW hcnd hsz0 _
  have hsz : (DataW.weightsEach Try.prog (Try.f6.params.toList ++ Rows.sumTellsSpec.plain.varTypes Try.prog) (ds ++ gs)).all (· ≤ reachBytes) = true := hsz0
  clear hsz0
  have hval : ∀ (j : Nat) t v, Try.f6.params[j]? = some t → args[j]? = some v → Value.okWide Try.prog W .any base t v := hval0
  have hW' := hW
  obtain ⟨p, q, hA0, hV, rfl, hfz, hnd⟩ := hW
  have hA : DataW.TrodAll enc Try.prog W 0 (fun _ => true) true Try.f6.params.toList args.toList ds p := hA0
  rw [Try.params6] at hA hval hsz
  obtain ⟨v0, vs0, d0, ds0, p0, q0, hargs, rfl, rfl, h0, r0⟩ := trodAll_cons hA
  obtain ⟨v1, vs1, d1, ds1, p1, q1, rfl, rfl, rfl, h1, r1⟩ := trodAll_cons r0
  obtain ⟨v2, vs2, d2, ds2, p2, q2, rfl, rfl, rfl, h2, r2⟩ := trodAll_cons r1
  obtain ⟨rfl, rfl, rfl⟩ := trodAll_nil r2
  obtain rfl : args = #[v0, v1, v2] := by cases args; simp_all
  obtain ⟨rfl, rfl⟩ := trodVars_none hV
  obtain ⟨s0, rfl, rfl, rfl, hs0⟩ := Go.ChangeMaps.open_string Try.underlying9 (hval 0 9 v0 rfl rfl) h0
  have hl0 : s0.size ≤ 140737488351232 := text_reach (sized_string hsz (j := 0) (t := 9) rfl rfl)
  obtain ⟨a1, rfl, rfl, rfl, w1⟩ := open_int Try.underlying3 (hval 1 3 v1 rfl rfl) h1
  have k2 := h2
  have lt2 : ∀ x ∈ p2, x.block < W.heap.size := by obtain ⟨m, hm⟩ := k2; exact DataW.trod_lt m _ _ _ hm
  obtain ⟨a2_0, a2_1, a2_2, a2_3, rfl, w2_0, w2_1, w2_2, w2_3⟩ := open_arr4 Try.underlying34 Try.underlying5 (by kernel_rfl) (by kernel_rfl) (hval 2 34 v2 rfl rfl) h2
  clear hA0 hval0
  refine (walk s0 a1 a2_0 a2_1 a2_2 a2_3 hl0 w1 w2_0 w2_1 w2_2 w2_3 W).mono fun e W' ⟨he, bel⟩ => ?_
  subst he
  exact ⟨_, rfl, _, _, _, [], _, [], hW', trodAll_mk1 (shut_bool Try.underlying4 _), (trodAll_cons_mk (Go.ChangeMaps.shut_string Try.underlying9 hs0) (trodAll_cons_mk (shut_int Try.underlying3 w1) (trodAll_cons_mk (Below.trod laidOut (by kernel_rfl) (of_decide_eq_true (by kernel_rfl)) k2 bel lt2) trodAll_mk0))), rfl, bel.frame _, fun h => by cases h⟩
theorem over : Rows.sumTellsRow.holds Try.pinned (OpenSpec.ofChange Rows.sumTellsSpec) :=
  OpenClaim.holds_of_wide 6 Try.f6 rfl rfl rfl rfl rfl rfl rfl ⟨rfl, rfl, rfl, rfl, rfl⟩ rfl rfl rfl rfl rfl (by kernel_rfl) Try.func6 (by kernel_rfl)
    (of_decide_eq_true (by kernel_rfl)) (by unfold Func.isWrapper; first | (rw [if_pos (by decide +kernel)]; kernel_rfl) | (rw [if_neg (by decide +kernel)]; exact ⟨rfl, rfl⟩))
    (fun os started H enc _ => lifted os started H enc)
end Go.Proofs.Ytphdmlmacdklaaa.sumTells
namespace Go.Proofs.Ytphdmlmacdklaaa
theorem sumTells_holds : Rows.SumTellsSaid := sumTells.over
#print axioms sumTells_holds
end Go.Proofs.Ytphdmlmacdklaaa
