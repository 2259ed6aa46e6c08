/- Contracts: Boxes, of the program and of the document. -/
import Derived.Test.YtdkfifnhmfbagaaGreatWiJ7
namespace Go.Proofs.YtdkfifnhmfbagaaGreat.Wi
open Go.RowKit Go.Maps
open Bt (Kept tb bys tx)
set_option linter.unusedVariables false
set_option linter.unusedSimpArgs false

def bxs (m : Msg) : List ((Int × Int) × (Int × Int)) := if m.kd = 1 then m.rk.2.2.2.map (·.2) else if m.kd = 3 then [m.rp.2.2.1, m.rp.2.2.2.1, m.rp.2.2.2.2] else []
theorem infoBox : (Tryz.prog.info? 31).map (fun i => (i.zero, i.size, i.bytes)) = some (some (.agg #[.int .i64 0, .int .i64 0, .int .i64 0, .int .i64 0]), 4, 32) := by kernel_rfl
theorem path_cells {w : World} {A : Nat} {m : Msg} {x y z : Value} (h : MgAt w A m x y z) : ∀ j u, (bxl m.rp.2.2.1 ++ (bxl m.rp.2.2.2.1 ++ bxl m.rp.2.2.2.2))[j]? = some u → w.cell? ((⟨A, 10, none⟩ : Addr).add j) = some u := by
  intro j u hu
  have hadd : (⟨A, 10, none⟩ : Addr).add j = ⟨A, 10 + j, none⟩ := by
    unfold Addr.add
    simp
  have hj : j < 12 := by
    have := (List.getElem?_eq_some_iff.1 hu).1
    exact this
  rw [hadd]
  refine h.cell (10 + j) u ?_
  obtain ⟨kd, rk, rq, ⟨⟨a, b⟩, c, b0, b1, b2⟩, sd⟩ := m
  show (([.int .i64 kd, .int .i64 rk.1, x, y, z, .int .i64 rq.1, .int .i64 rq.2, .int .i64 a, .int .i64 b, .int .i64 c] : List Value) ++ ((bxl b0 ++ (bxl b1 ++ bxl b2)) ++ sdl sd))[10 + j]? = some u
  rw [List.getElem?_append_right (by simp), List.getElem?_append_left (by show _ < 12; simp; exact hj)]
  simpa using hu
def BxP (w w' : World) (m : Msg) (e : Ending) : Prop := ∃ a c, e = .returned (.slice a (bxs m).length c) ∧ w'.ownsRow w.heap.size 31 4 (.slice a (bxs m).length c) (bxs m).length ((bxs m).flatMap bxl) ∧ Below w.heap.size w w'
theorem bxs_nx {I : List ((Int × Int) × ((Int × Int) × (Int × Int)))} {k : Nat} (h : k < I.length) : ((I.take (k + 1)).map (·.2)).flatMap bxl = ((I.take k).map (·.2)).flatMap bxl ++ bxl I[k].2 := by
  rw [List.take_succ_eq_append_getElem h, List.map_append, List.flatMap_append]
  simp only [List.map_cons, List.map_nil, List.flatMap_cons, List.flatMap_nil, List.append_nil]
namespace Rb
theorem below_grown {n : Nat} {w W W' : World} {g : Option Nat} (hb : Below n w W) (hg : W.grownBy W' g) (hn : n ≤ W.heap.size) (h : ∀ j, g = some j → n ≤ j) : Below n w W' :=
  ⟨hg.os.trans hb.os, hg.tape.trans hb.tape, hg.output.trans hb.output, Nat.le_trans hb.size hg.size, fun k hk => (hg.block k (by have := hb.size; omega) (fun e => by have := h k e.symm; omega)).trans (hb.block k hk)⟩
end Rb
set_option maxRecDepth 100000 in
set_option maxHeartbeats 2000000 in
theorem boxes_1 (m : Msg) (aL aJ aI : Option Addr) (cL cJ cI : Nat) (w : World) (hr : MR w m aL aJ aI) (hn : m.rk.2.2.2.length ≤ 1048576) (hk : m.kd = 1) : Calls Tryz.prog 14 #[.agg (mgv m aL aJ aI cL cJ cI).toArray] w fun e w' => BxP w w' m e := by
  obtain ⟨ib, hbi, hbz, hbs, hbb⟩ := info_of infoBox
  unfold mgv
  have hM : MgAt (w.alloc (.cells (mgl m (.slice aL m.rk.2.1.length cL) (.slice aJ m.rk.2.2.1.length cJ) (.slice aI m.rk.2.2.2.length cI)).toArray 38)) w.heap.size m (.slice aL m.rk.2.1.length cL) (.slice aJ m.rk.2.2.1.length cJ) (.slice aI m.rk.2.2.2.length cI) := heap_alloc_last w _
  have c4 := hM.cell 4 _ rfl
  have ck := hM.kind
  rw [hk] at ck
  have HB0 : Hid (Below w.heap.size w (w.alloc (.cells (mgl m (.slice aL m.rk.2.1.length cL) (.slice aJ m.rk.2.2.1.length cJ) (.slice aI m.rk.2.2.2.length cI)).toArray 38))) := below_alloc _ _
  have HE : Hid (bxs m = m.rk.2.2.2.map (·.2)) := by unfold Hid bxs; rw [if_pos hk]
  have HRI : Hid (RdV itl 6 w aI m.rk.2.2.2) := hr.i
  have HM0 : Hid (MgAt (w.alloc (.cells (mgl m (.slice aL m.rk.2.1.length cL) (.slice aJ m.rk.2.2.1.length cJ) (.slice aI m.rk.2.2.2.length cI)).toArray 38)) w.heap.size m (.slice aL m.rk.2.1.length cL) (.slice aJ m.rk.2.2.1.length cJ) (.slice aI m.rk.2.2.2.length cI)) := hM
  have HK : Hid (m.kd = 1) := hk
  clear hM hr hk
  go_enter Tryz.func14, Tryz.ntmps14
  go_upto_region 1 with (fail)
  generalize w.alloc (.cells (mgl m (.slice aL m.rk.2.1.length cL) (.slice aJ m.rk.2.2.1.length cJ) (.slice aI m.rk.2.2.2.length cI)).toArray 38) = w1 at *
  obtain ⟨A, hAe⟩ : ∃ A, w.heap.size = A := ⟨_, rfl⟩
  rw [hAe] at c4 ck HM0 ⊢
  have HA : Hid (w.heap.size = A) := hAe
  clear hAe
  obtain ⟨I, hI⟩ : ∃ I, m.rk.2.2.2 = I := ⟨_, rfl⟩
  rw [hI] at hn HE HRI c4
  obtain ⟨n, hnn⟩ : ∃ n, I.length = n := ⟨_, rfl⟩
  have HN : Hid (I.length = n) := hnn
  rw [hnn] at hn c4
  clear hI hnn
  go_wp2_with fail
  clear c4 ck
  go_loopw [3, 14] (fun x i wr => ∃ k : Nat, k ≤ n ∧ i = .int .i64 (k : Int) ∧ wr.ownsRow w1.heap.size 31 4 x k (((I.take k).map (·.2)).flatMap bxl) ∧ Below w1.heap.size w1 wr) (fun _ i _ => n - (intOf i).toNat)
  case atStart => exact ⟨0, by omega, rfl, World.ownsRow_nil _ _ _ _, Below.refl _ _⟩
  case round =>
    obtain ⟨k, hk, rfl, hrow, hb⟩ := hrel
    obtain ⟨ax, cx, rfl⟩ := owns_slice hrow
    have HROW : Hid (wr.ownsRow w1.heap.size 31 4 (.slice ax k cx) k (((I.take k).map (·.2)).flatMap bxl)) := hrow
    have HB : Hid (Below w1.heap.size w1 wr) := hb
    clear hrow hb
    by_cases hkn : k < n
    · have hkl : k < I.length := by rw [HN.out]; exact hkn
      obtain ⟨b, o, he, hr⟩ := HRI.out k hkl
      subst he
      have hr := ra_later hr (Below.join HB0.out HB.out)
      unfold itl at hr
      have i1 : (0 : Int) ≤ (k : Int) := by omega
      have i2 : (k : Int) < (n : Int) := by omega
      have HNX : Hid (((I.take (k + 1)).map (·.2)).flatMap bxl = ((I.take k).map (·.2)).flatMap bxl ++ bxl I[k].2) := bxs_nx hkl
      generalize I[k] = p at *
      obtain ⟨⟨pv, pf⟩, ⟨⟨pa, pb⟩, ⟨pc, pd⟩⟩⟩ := p
      dsimp only [bxl] at *
      obtain ⟨xs, hxs⟩ : ∃ x, ((I.take k).map (·.2)).flatMap bxl = x := ⟨_, rfl⟩
      rw [hxs] at HROW HNX
      clear hkl hxs
      go_upto_region 7 with (refine ldM hr Tryz.underlying53 rfl szItem _ rfl rfl rfl ?_)
      have hE := heap_alloc_last wr (.cells #[.int .i64 pv, .int .i64 pf, .int .i64 pa, .int .i64 pb, .int .i64 pc, .int .i64 pd] 53)
      have hB1 := below_alloc wr (.cells #[.int .i64 pv, .int .i64 pf, .int .i64 pa, .int .i64 pb, .int .i64 pc, .int .i64 pd] 53)
      have HR1 : Hid _ := owns_later HROW.out hB1
      have HB1 : Hid (Below w1.heap.size w1 (wr.alloc (.cells #[.int .i64 pv, .int .i64 pf, .int .i64 pa, .int .i64 pb, .int .i64 pc, .int .i64 pd] 53))) := Below.join HB.out hB1
      clear hB1 hr HB HROW
      generalize wr.alloc (.cells #[.int .i64 pv, .int .i64 pf, .int .i64 pa, .int .i64 pb, .int .i64 pc, .int .i64 pd] 53) = w5 at *
      generalize wr.heap.size = E at *
      obtain ⟨z0, z1, z2, z3, z4, z5⟩ := c6 hE
      clear hE z0 z1
      have hrow : w5.ownsRow w1.heap.size 31 4 (.slice ax k cx) k xs := HR1.out
      have hb5 : w1.heap.size ≤ w5.heap.size := HB1.out.size
      go_upto_region 8 with (at_builtin; (refine wpList_append_own _ rfl _ _ 49 rfl w1.heap.size 31 ib (.agg #[.int .i64 0, .int .i64 0, .int .i64 0, .int .i64 0]) 4 32 Tryz.underlying49 hbi hbz hbs hbb rfl (by decide) (.slice ax k cx) k xs rfl (hrow.alloc _) ⟨w5.heap.size, 0, none⟩ 1 1 [.int .i64 pa, .int .i64 pb, .int .i64 pc, .int .i64 pd] rfl rfl (cell_row_new _ #[.int .i64 pa, .int .i64 pb, .int .i64 pc, .int .i64 pd] _) (by simp [Value.oneCell']) (by unfold maxLen; omega) (by omega) (by simp; omega) ?_); intro v2 w6 hown2 hg2 _; have HO : Hid (w6.ownsRow w1.heap.size 31 4 v2 (k + 1) (xs ++ [.int .i64 pa, .int .i64 pb, .int .i64 pc, .int .i64 pd])) := hown2; have HG : Hid ((w5.alloc (.cells #[.int .i64 pa, .int .i64 pb, .int .i64 pc, .int .i64 pd] 31)).grownBy w6 (Value.slice ax k cx).ownBlock) := hg2; clear hown2 hg2)
      have HB6 : Hid (Below w1.heap.size w1 w6) := by
        have h6 := Below.plus HB1.out (.cells #[.int .i64 pa, .int .i64 pb, .int .i64 pc, .int .i64 pd] 31)
        exact Rb.below_grown h6 HG.out h6.size (fun j hj => (hrow.lt j hj).1)
      clear HG HB1 HR1 z2 z3 z4 z5 hrow hb5
      go_wp2_with fail
      go_roundw
      case rel =>
        refine ⟨k + 1, by omega, by go_num, ?_, HB6.out⟩
        rw [HNX.out]
        exact HO.out
      case measure => simp [intOf]; omega
    · have hkn' : decide ((k : Int) < (n : Int)) = false := by simp; omega
      obtain rfl : k = n := by omega
      rw [List.take_of_length_le (by rw [HN.out]; omega)] at HROW
      have HF : Hid (BxP w wr m (.returned (.slice ax k cx))) := by
        have el : (bxs m).length = k := by rw [HE.out, List.length_map, HN.out]
        refine ⟨ax, cx, by rw [el], ?_, Below.join HB0.out HB.out⟩
        rw [el, HE.out]
        exact owns_wide HROW.out HB0.out.size
      have ck : wr.cell? ⟨A, 0, none⟩ = some (.int .i64 1) := by
        have h := (HM0.out.later HB.out).kind
        rw [HK.out] at h
        exact h
      clear HROW HB
      clear ck
      go_wp2_with fail
      go_ret
      exact HF.out
set_option maxRecDepth 100000 in
set_option maxHeartbeats 2000000 in
theorem rBoxes_1 (m : Msg) (aL aJ aI : Option Addr) (cL cJ cI : Nat) (w : World) (hr : MR w m aL aJ aI) (hn : m.rk.2.2.2.length ≤ 1048576) (hk : m.kd = 1) : Calls Tryz.prog 15 #[.agg (mgv m aL aJ aI cL cJ cI).toArray] w fun e w' => BxP w w' m e := by
  obtain ⟨ib, hbi, hbz, hbs, hbb⟩ := info_of infoBox
  unfold mgv
  have hM : MgAt (w.alloc (.cells (mgl m (.slice aL m.rk.2.1.length cL) (.slice aJ m.rk.2.2.1.length cJ) (.slice aI m.rk.2.2.2.length cI)).toArray 38)) w.heap.size m (.slice aL m.rk.2.1.length cL) (.slice aJ m.rk.2.2.1.length cJ) (.slice aI m.rk.2.2.2.length cI) := heap_alloc_last w _
  have c4 := hM.cell 4 _ rfl
  have ck := hM.kind
  rw [hk] at ck
  have HB0 : Hid (Below w.heap.size w (w.alloc (.cells (mgl m (.slice aL m.rk.2.1.length cL) (.slice aJ m.rk.2.2.1.length cJ) (.slice aI m.rk.2.2.2.length cI)).toArray 38))) := below_alloc _ _
  have HE : Hid (bxs m = m.rk.2.2.2.map (·.2)) := by unfold Hid bxs; rw [if_pos hk]
  have HRI : Hid (RdV itl 6 w aI m.rk.2.2.2) := hr.i
  have HM0 : Hid (MgAt (w.alloc (.cells (mgl m (.slice aL m.rk.2.1.length cL) (.slice aJ m.rk.2.2.1.length cJ) (.slice aI m.rk.2.2.2.length cI)).toArray 38)) w.heap.size m (.slice aL m.rk.2.1.length cL) (.slice aJ m.rk.2.2.1.length cJ) (.slice aI m.rk.2.2.2.length cI)) := hM
  have HK : Hid (m.kd = 1) := hk
  clear hM hr hk
  go_enter Tryz.func15, Tryz.ntmps15
  go_upto_region 1 with (fail)
  generalize w.alloc (.cells (mgl m (.slice aL m.rk.2.1.length cL) (.slice aJ m.rk.2.2.1.length cJ) (.slice aI m.rk.2.2.2.length cI)).toArray 38) = w1 at *
  obtain ⟨A, hAe⟩ : ∃ A, w.heap.size = A := ⟨_, rfl⟩
  rw [hAe] at c4 ck HM0 ⊢
  have HA : Hid (w.heap.size = A) := hAe
  clear hAe
  obtain ⟨I, hI⟩ : ∃ I, m.rk.2.2.2 = I := ⟨_, rfl⟩
  rw [hI] at hn HE HRI c4
  obtain ⟨n, hnn⟩ : ∃ n, I.length = n := ⟨_, rfl⟩
  have HN : Hid (I.length = n) := hnn
  rw [hnn] at hn c4
  clear hI hnn
  go_wp2_with fail
  clear c4 ck
  go_loopw [3, 13] (fun x i wr => ∃ k : Nat, k ≤ n ∧ i = .int .i64 (k : Int) ∧ wr.ownsRow w1.heap.size 31 4 x k (((I.take k).map (·.2)).flatMap bxl) ∧ Below w1.heap.size w1 wr) (fun _ i _ => n - (intOf i).toNat)
  case atStart => exact ⟨0, by omega, rfl, World.ownsRow_nil _ _ _ _, Below.refl _ _⟩
  case round =>
    obtain ⟨k, hk, rfl, hrow, hb⟩ := hrel
    obtain ⟨ax, cx, rfl⟩ := owns_slice hrow
    have HROW : Hid (wr.ownsRow w1.heap.size 31 4 (.slice ax k cx) k (((I.take k).map (·.2)).flatMap bxl)) := hrow
    have HB : Hid (Below w1.heap.size w1 wr) := hb
    clear hrow hb
    by_cases hkn : k < n
    · have hkl : k < I.length := by rw [HN.out]; exact hkn
      obtain ⟨b, o, he, hr⟩ := HRI.out k hkl
      subst he
      have hr := ra_later hr (Below.join HB0.out HB.out)
      unfold itl at hr
      have i1 : (0 : Int) ≤ (k : Int) := by omega
      have i2 : (k : Int) < (n : Int) := by omega
      have HNX : Hid (((I.take (k + 1)).map (·.2)).flatMap bxl = ((I.take k).map (·.2)).flatMap bxl ++ bxl I[k].2) := bxs_nx hkl
      generalize I[k] = p at *
      obtain ⟨⟨pv, pf⟩, ⟨⟨pa, pb⟩, ⟨pc, pd⟩⟩⟩ := p
      dsimp only [bxl] at *
      obtain ⟨xs, hxs⟩ : ∃ x, ((I.take k).map (·.2)).flatMap bxl = x := ⟨_, rfl⟩
      rw [hxs] at HROW HNX
      clear hkl hxs
      go_upto_region 6 with (refine ldM hr Tryz.underlying53 rfl szItem _ rfl rfl rfl ?_)
      have hE := heap_alloc_last wr (.cells #[.int .i64 pv, .int .i64 pf, .int .i64 pa, .int .i64 pb, .int .i64 pc, .int .i64 pd] 53)
      have hB1 := below_alloc wr (.cells #[.int .i64 pv, .int .i64 pf, .int .i64 pa, .int .i64 pb, .int .i64 pc, .int .i64 pd] 53)
      have HR1 : Hid _ := owns_later HROW.out hB1
      have HB1 : Hid (Below w1.heap.size w1 (wr.alloc (.cells #[.int .i64 pv, .int .i64 pf, .int .i64 pa, .int .i64 pb, .int .i64 pc, .int .i64 pd] 53))) := Below.join HB.out hB1
      clear hB1 hr HB HROW
      generalize wr.alloc (.cells #[.int .i64 pv, .int .i64 pf, .int .i64 pa, .int .i64 pb, .int .i64 pc, .int .i64 pd] 53) = w5 at *
      generalize wr.heap.size = E at *
      obtain ⟨z0, z1, z2, z3, z4, z5⟩ := c6 hE
      clear hE z0 z1
      have hrow : w5.ownsRow w1.heap.size 31 4 (.slice ax k cx) k xs := HR1.out
      have hb5 : w1.heap.size ≤ w5.heap.size := HB1.out.size
      go_upto_region 7 with (at_builtin; (refine wpList_append_own _ rfl _ _ 49 rfl w1.heap.size 31 ib (.agg #[.int .i64 0, .int .i64 0, .int .i64 0, .int .i64 0]) 4 32 Tryz.underlying49 hbi hbz hbs hbb rfl (by decide) (.slice ax k cx) k xs rfl (hrow.alloc _) ⟨w5.heap.size, 0, none⟩ 1 1 [.int .i64 pa, .int .i64 pb, .int .i64 pc, .int .i64 pd] rfl rfl (cell_row_new _ #[.int .i64 pa, .int .i64 pb, .int .i64 pc, .int .i64 pd] _) (by simp [Value.oneCell']) (by unfold maxLen; omega) (by omega) (by simp; omega) ?_); intro v2 w6 hown2 hg2 _; have HO : Hid (w6.ownsRow w1.heap.size 31 4 v2 (k + 1) (xs ++ [.int .i64 pa, .int .i64 pb, .int .i64 pc, .int .i64 pd])) := hown2; have HG : Hid ((w5.alloc (.cells #[.int .i64 pa, .int .i64 pb, .int .i64 pc, .int .i64 pd] 31)).grownBy w6 (Value.slice ax k cx).ownBlock) := hg2; clear hown2 hg2)
      have HB6 : Hid (Below w1.heap.size w1 w6) := by
        have h6 := Below.plus HB1.out (.cells #[.int .i64 pa, .int .i64 pb, .int .i64 pc, .int .i64 pd] 31)
        exact Rb.below_grown h6 HG.out h6.size (fun j hj => (hrow.lt j hj).1)
      clear HG HB1 HR1 z2 z3 z4 z5 hrow hb5
      go_wp2_with fail
      go_roundw
      case rel =>
        refine ⟨k + 1, by omega, by go_num, ?_, HB6.out⟩
        rw [HNX.out]
        exact HO.out
      case measure => simp [intOf]; omega
    · have hkn' : decide ((k : Int) < (n : Int)) = false := by simp; omega
      obtain rfl : k = n := by omega
      rw [List.take_of_length_le (by rw [HN.out]; omega)] at HROW
      have HF : Hid (BxP w wr m (.returned (.slice ax k cx))) := by
        have el : (bxs m).length = k := by rw [HE.out, List.length_map, HN.out]
        refine ⟨ax, cx, by rw [el], ?_, Below.join HB0.out HB.out⟩
        rw [el, HE.out]
        exact owns_wide HROW.out HB0.out.size
      have ck : wr.cell? ⟨A, 0, none⟩ = some (.int .i64 1) := by
        have h := (HM0.out.later HB.out).kind
        rw [HK.out] at h
        exact h
      clear HROW HB
      go_wp2_with fail
      go_ret
      exact HF.out
set_option maxRecDepth 100000 in
set_option maxHeartbeats 2000000 in
theorem boxes_3 (m : Msg) (aL aJ aI : Option Addr) (cL cJ cI : Nat) (w : World) (hk : m.kd = 3) : Calls Tryz.prog 14 #[.agg (mgv m aL aJ aI cL cJ cI).toArray] w fun e w' => BxP w w' m e := by
  obtain ⟨ib, hbi, hbz, hbs, hbb⟩ := info_of infoBox
  unfold mgv
  have hM : MgAt (w.alloc (.cells (mgl m (.slice aL m.rk.2.1.length cL) (.slice aJ m.rk.2.2.1.length cJ) (.slice aI m.rk.2.2.2.length cI)).toArray 38)) w.heap.size m (.slice aL m.rk.2.1.length cL) (.slice aJ m.rk.2.2.1.length cJ) (.slice aI m.rk.2.2.2.length cI) := heap_alloc_last w _
  have ck := hM.kind
  rw [hk] at ck
  have HB0 : Hid (Below w.heap.size w (w.alloc (.cells (mgl m (.slice aL m.rk.2.1.length cL) (.slice aJ m.rk.2.2.1.length cJ) (.slice aI m.rk.2.2.2.length cI)).toArray 38))) := below_alloc _ _
  have HE : Hid (bxs m = [m.rp.2.2.1, m.rp.2.2.2.1, m.rp.2.2.2.2]) := by unfold Hid bxs; rw [if_neg (by omega), if_pos hk]
  have HP : Hid (∀ j u, (bxl m.rp.2.2.1 ++ (bxl m.rp.2.2.2.1 ++ bxl m.rp.2.2.2.2))[j]? = some u → (w.alloc (.cells (mgl m (.slice aL m.rk.2.1.length cL) (.slice aJ m.rk.2.2.1.length cJ) (.slice aI m.rk.2.2.2.length cI)).toArray 38)).cell? ((⟨w.heap.size, 10, none⟩ : Addr).add j) = some u) := path_cells hM
  have HC1 : Hid (∀ u ∈ bxl m.rp.2.2.1 ++ (bxl m.rp.2.2.2.1 ++ bxl m.rp.2.2.2.2), u.oneCell' = true) := by
    intro u hu
    simp only [bxl, List.mem_append, List.mem_cons, List.not_mem_nil, or_false] at hu
    rcases hu with (rfl | rfl | rfl | rfl) | (rfl | rfl | rfl | rfl) | (rfl | rfl | rfl | rfl) <;> rfl
  clear hM hk
  go_enter Tryz.func14, Tryz.ntmps14
  go_upto_region 1 with (fail)
  generalize w.alloc (.cells (mgl m (.slice aL m.rk.2.1.length cL) (.slice aJ m.rk.2.2.1.length cJ) (.slice aI m.rk.2.2.2.length cI)).toArray 38) = w1 at *
  have hw1 : w.heap.size ≤ w1.heap.size := HB0.out.size
  obtain ⟨A, hAe⟩ : ∃ A, w.heap.size = A := ⟨_, rfl⟩
  rw [hAe] at ck HP hw1 ⊢
  have HA : Hid (w.heap.size = A) := hAe
  clear hAe
  obtain ⟨ps, hps⟩ : ∃ x, bxl m.rp.2.2.1 ++ (bxl m.rp.2.2.2.1 ++ bxl m.rp.2.2.2.2) = x := ⟨_, rfl⟩
  have HPS : Hid ((bxs m).flatMap bxl = ps ∧ ps.length = 12 ∧ (bxs m).length = 3) := by
    unfold Hid
    rw [HE.out, ← hps]
    exact ⟨by simp, rfl, rfl⟩
  rw [hps] at HP HC1
  clear hps
  go_wp2_with (at_builtin; (refine wpList_append_own _ rfl _ _ 49 rfl A 31 ib (.agg #[.int .i64 0, .int .i64 0, .int .i64 0, .int .i64 0]) 4 32 Tryz.underlying49 hbi hbz hbs hbb rfl (by decide) (.slice none 0 0) 0 [] rfl (World.ownsRow_nil _ _ _ _) ⟨A, 10, none⟩ 3 3 ps rfl HPS.out.2.1 HP.out HC1.out (by unfold maxLen; omega) (by omega) hw1 ?_); intro v2 w6 hown2 hg2 _; have HO : Hid (w6.ownsRow A 31 4 v2 (0 + 3) ([] ++ ps)) := hown2; have HG : Hid (w1.grownBy w6 (Value.slice none 0 0).ownBlock) := hg2; clear hown2 hg2)
  go_ret
  obtain ⟨a2, c2, e2⟩ := owns_slice HO.out
  have h := HO.out
  rw [e2, List.nil_append, Nat.zero_add] at h
  refine ⟨a2, c2, by rw [e2, HPS.out.2.2]; rfl, ?_, Rb.below_grown HB0.out HG.out HB0.out.size (fun j hj => by cases hj)⟩
  rw [HPS.out.2.2, HPS.out.1, HA.out]
  exact h
set_option maxRecDepth 100000 in
set_option maxHeartbeats 2000000 in
theorem boxes_0 (m : Msg) (aL aJ aI : Option Addr) (cL cJ cI : Nat) (w : World) (hk : m.kd ≠ 1) (hk3 : m.kd ≠ 3) : Calls Tryz.prog 14 #[.agg (mgv m aL aJ aI cL cJ cI).toArray] w fun e w' => BxP w w' m e := by
  unfold mgv
  have hM : MgAt (w.alloc (.cells (mgl m (.slice aL m.rk.2.1.length cL) (.slice aJ m.rk.2.2.1.length cJ) (.slice aI m.rk.2.2.2.length cI)).toArray 38)) w.heap.size m (.slice aL m.rk.2.1.length cL) (.slice aJ m.rk.2.2.1.length cJ) (.slice aI m.rk.2.2.2.length cI) := heap_alloc_last w _
  have ck := hM.kind
  have HB0 : Hid (Below w.heap.size w (w.alloc (.cells (mgl m (.slice aL m.rk.2.1.length cL) (.slice aJ m.rk.2.2.1.length cJ) (.slice aI m.rk.2.2.2.length cI)).toArray 38))) := below_alloc _ _
  have HE : Hid (bxs m = []) := by unfold Hid bxs; rw [if_neg hk, if_neg hk3]
  have d1 : (m.kd == 1) = false := by simpa using hk
  have d3 : (m.kd == 3) = false := by simpa using hk3
  clear hM
  go_enter Tryz.func14, Tryz.ntmps14
  go_upto_region 1 with (fail)
  generalize w.alloc (.cells (mgl m (.slice aL m.rk.2.1.length cL) (.slice aJ m.rk.2.2.1.length cJ) (.slice aI m.rk.2.2.2.length cI)).toArray 38) = w1 at *
  obtain ⟨A, hAe⟩ : ∃ A, w.heap.size = A := ⟨_, rfl⟩
  rw [hAe] at ck ⊢
  clear hAe
  generalize m.kd = kd at *
  go_wp2_with fail
  go_ret
  refine ⟨none, 0, by rw [HE.out]; rfl, ?_, HB0.out⟩
  rw [HE.out]
  exact World.ownsRow_nil _ _ _ _
theorem boxes_any {w : World} {m : Msg} {ct : List Value} (h : MV w m ct) (hn : m.rk.2.2.2.length ≤ 1048576) : Calls Tryz.prog 14 #[.agg ct.toArray] w fun e w' => BxP w w' m e := by
  obtain ⟨aL, aJ, aI, cL, cJ, cI, rfl, hr⟩ := h
  by_cases h1 : m.kd = 1
  · exact boxes_1 m aL aJ aI cL cJ cI w hr hn h1
  · by_cases h3 : m.kd = 3
    · exact boxes_3 m aL aJ aI cL cJ cI w h3
    · exact boxes_0 m aL aJ aI cL cJ cI w h1 h3
set_option maxRecDepth 100000 in
set_option maxHeartbeats 2000000 in
theorem rBoxes_3 (m : Msg) (aL aJ aI : Option Addr) (cL cJ cI : Nat) (w : World) (hk : m.kd = 3) : Calls Tryz.prog 15 #[.agg (mgv m aL aJ aI cL cJ cI).toArray] w fun e w' => BxP w w' m e := by
  obtain ⟨ib, hbi, hbz, hbs, hbb⟩ := info_of infoBox
  unfold mgv
  have hM : MgAt (w.alloc (.cells (mgl m (.slice aL m.rk.2.1.length cL) (.slice aJ m.rk.2.2.1.length cJ) (.slice aI m.rk.2.2.2.length cI)).toArray 38)) w.heap.size m (.slice aL m.rk.2.1.length cL) (.slice aJ m.rk.2.2.1.length cJ) (.slice aI m.rk.2.2.2.length cI) := heap_alloc_last w _
  have ck := hM.kind
  rw [hk] at ck
  have HB0 : Hid (Below w.heap.size w (w.alloc (.cells (mgl m (.slice aL m.rk.2.1.length cL) (.slice aJ m.rk.2.2.1.length cJ) (.slice aI m.rk.2.2.2.length cI)).toArray 38))) := below_alloc _ _
  have HE : Hid (bxs m = [m.rp.2.2.1, m.rp.2.2.2.1, m.rp.2.2.2.2]) := by unfold Hid bxs; rw [if_neg (by omega), if_pos hk]
  have HP : Hid (∀ j u, (bxl m.rp.2.2.1 ++ (bxl m.rp.2.2.2.1 ++ bxl m.rp.2.2.2.2))[j]? = some u → (w.alloc (.cells (mgl m (.slice aL m.rk.2.1.length cL) (.slice aJ m.rk.2.2.1.length cJ) (.slice aI m.rk.2.2.2.length cI)).toArray 38)).cell? ((⟨w.heap.size, 10, none⟩ : Addr).add j) = some u) := path_cells hM
  have HC1 : Hid (∀ u ∈ bxl m.rp.2.2.1 ++ (bxl m.rp.2.2.2.1 ++ bxl m.rp.2.2.2.2), u.oneCell' = true) := by
    intro u hu
    simp only [bxl, List.mem_append, List.mem_cons, List.not_mem_nil, or_false] at hu
    rcases hu with (rfl | rfl | rfl | rfl) | (rfl | rfl | rfl | rfl) | (rfl | rfl | rfl | rfl) <;> rfl
  clear hM hk
  go_enter Tryz.func15, Tryz.ntmps15
  go_upto_region 1 with (fail)
  generalize w.alloc (.cells (mgl m (.slice aL m.rk.2.1.length cL) (.slice aJ m.rk.2.2.1.length cJ) (.slice aI m.rk.2.2.2.length cI)).toArray 38) = w1 at *
  have hw1 : w.heap.size ≤ w1.heap.size := HB0.out.size
  obtain ⟨A, hAe⟩ : ∃ A, w.heap.size = A := ⟨_, rfl⟩
  rw [hAe] at ck HP hw1 ⊢
  have HA : Hid (w.heap.size = A) := hAe
  clear hAe
  obtain ⟨ps, hps⟩ : ∃ x, bxl m.rp.2.2.1 ++ (bxl m.rp.2.2.2.1 ++ bxl m.rp.2.2.2.2) = x := ⟨_, rfl⟩
  have HPS : Hid ((bxs m).flatMap bxl = ps ∧ ps.length = 12 ∧ (bxs m).length = 3) := by
    unfold Hid
    rw [HE.out, ← hps]
    exact ⟨by simp, rfl, rfl⟩
  rw [hps] at HP HC1
  clear hps
  go_wp2_with (at_builtin; (refine wpList_append_own _ rfl _ _ 49 rfl A 31 ib (.agg #[.int .i64 0, .int .i64 0, .int .i64 0, .int .i64 0]) 4 32 Tryz.underlying49 hbi hbz hbs hbb rfl (by decide) (.slice none 0 0) 0 [] rfl (World.ownsRow_nil _ _ _ _) ⟨A, 10, none⟩ 3 3 ps rfl HPS.out.2.1 HP.out HC1.out (by unfold maxLen; omega) (by omega) hw1 ?_); intro v2 w6 hown2 hg2 _; have HO : Hid (w6.ownsRow A 31 4 v2 (0 + 3) ([] ++ ps)) := hown2; have HG : Hid (w1.grownBy w6 (Value.slice none 0 0).ownBlock) := hg2; clear hown2 hg2)
  go_ret
  obtain ⟨a2, c2, e2⟩ := owns_slice HO.out
  have h := HO.out
  rw [e2, List.nil_append, Nat.zero_add] at h
  refine ⟨a2, c2, by rw [e2, HPS.out.2.2]; rfl, ?_, Rb.below_grown HB0.out HG.out HB0.out.size (fun j hj => by cases hj)⟩
  rw [HPS.out.2.2, HPS.out.1, HA.out]
  exact h
set_option maxRecDepth 100000 in
set_option maxHeartbeats 2000000 in
theorem rBoxes_0 (m : Msg) (aL aJ aI : Option Addr) (cL cJ cI : Nat) (w : World) (hk : m.kd ≠ 1) (hk3 : m.kd ≠ 3) : Calls Tryz.prog 15 #[.agg (mgv m aL aJ aI cL cJ cI).toArray] w fun e w' => BxP w w' m e := by
  unfold mgv
  have hM : MgAt (w.alloc (.cells (mgl m (.slice aL m.rk.2.1.length cL) (.slice aJ m.rk.2.2.1.length cJ) (.slice aI m.rk.2.2.2.length cI)).toArray 38)) w.heap.size m (.slice aL m.rk.2.1.length cL) (.slice aJ m.rk.2.2.1.length cJ) (.slice aI m.rk.2.2.2.length cI) := heap_alloc_last w _
  have ck := hM.kind
  have HB0 : Hid (Below w.heap.size w (w.alloc (.cells (mgl m (.slice aL m.rk.2.1.length cL) (.slice aJ m.rk.2.2.1.length cJ) (.slice aI m.rk.2.2.2.length cI)).toArray 38))) := below_alloc _ _
  have HE : Hid (bxs m = []) := by unfold Hid bxs; rw [if_neg hk, if_neg hk3]
  have d1 : (m.kd == 1) = false := by simpa using hk
  have d3 : (m.kd == 3) = false := by simpa using hk3
  clear hM
  go_enter Tryz.func15, Tryz.ntmps15
  go_upto_region 1 with (fail)
  generalize w.alloc (.cells (mgl m (.slice aL m.rk.2.1.length cL) (.slice aJ m.rk.2.2.1.length cJ) (.slice aI m.rk.2.2.2.length cI)).toArray 38) = w1 at *
  obtain ⟨A, hAe⟩ : ∃ A, w.heap.size = A := ⟨_, rfl⟩
  rw [hAe] at ck ⊢
  clear hAe
  generalize m.kd = kd at *
  go_wp2_with fail
  go_ret
  refine ⟨none, 0, by rw [HE.out]; rfl, ?_, HB0.out⟩
  rw [HE.out]
  exact World.ownsRow_nil _ _ _ _
theorem rBoxes_any {w : World} {m : Msg} {ct : List Value} (h : MV w m ct) (hn : m.rk.2.2.2.length ≤ 1048576) : Calls Tryz.prog 15 #[.agg ct.toArray] w fun e w' => BxP w w' m e := by
  obtain ⟨aL, aJ, aI, cL, cJ, cI, rfl, hr⟩ := h
  by_cases h1 : m.kd = 1
  · exact rBoxes_1 m aL aJ aI cL cJ cI w hr hn h1
  · by_cases h3 : m.kd = 3
    · exact rBoxes_3 m aL aJ aI cL cJ cI w h3
    · exact rBoxes_0 m aL aJ aI cL cJ cI w h1 h3
end Go.Proofs.YtdkfifnhmfbagaaGreat.Wi
