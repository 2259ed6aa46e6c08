/- Contract: the law's kept: the room behind the lists is as it was. -/
import Derived.Test.YtdkfifnhmfbagaaGreatWiLt
import Derived.BigQuiet
namespace Go.Proofs.YtdkfifnhmfbagaaGreat.Wi
open Go.RowKit Go.Maps
open Bt (Kept tb bys tx)
set_option linter.unusedVariables false
set_option linter.unusedSimpArgs false

theorem own_cell {w : World} {b g N k c : Nat} {T : TypeId} {xs : List Value} {v : Value} {j : Nat} (h : w.ownsRow b T k (.slice (some ⟨g, 0, none⟩) N c) N xs) (hj : xs[j]? = some v) : w.cell? ⟨g, j, none⟩ = some v := by
  rcases h.2 with ⟨e, h0⟩ | ⟨g', cap', cur, e, h3, h4, h5, h6, h7, h8⟩
  · cases e
  · cases e
    have hl : xs.length = N * k := h.1
    have hlt : j < N * k := by have := (List.getElem?_eq_some_iff.1 hj).1; omega
    rw [cell_of_row w g j _ _ _ h4, ← hj, ← h8, List.getElem?_take_of_lt hlt]
    simp
theorem own_last {w : World} {b g n k c : Nat} {T : TypeId} {xs ys : List Value} {v : Value} (h : w.ownsRow b T k (.slice (some ⟨g, 0, none⟩) (n + 1) c) (n + 1) (xs ++ ys)) (hl : xs.length = n * k) (hy : ys[0]? = some v) : w.cell? ⟨g, n * k, none⟩ = some v := by
  refine own_cell h ?_
  rw [List.getElem?_append_right (by omega), hl, Nat.sub_self]
  exact hy
set_option maxRecDepth 100000 in
set_option maxHeartbeats 2000000 in
theorem kept_any {n : Nat} {w : World} {m : Msg} {ct : List Value} (h : LN n w m ct) (hn : m.rk.2.1.length ≤ 1048576 ∧ m.rk.2.2.1.length ≤ 1048576 ∧ m.rk.2.2.2.length ≤ 1048576) : Calls Tryz.prog 17 #[.agg ct.toArray] w fun e w' => e = .returned (.bool true) ∧ Below w.heap.size w w' := by
  obtain ⟨gL, cL, gJ, cJ, gI, cI, rfl, oL, oJ, oI, ⟨b1, b2, b3⟩, _⟩ := h
  have k1 := own_last oL (by rw [flat_ln stl 2 (fun _ => rfl)]) rfl
  have k2 := own_last oJ (by rw [flat_ln stl 2 (fun _ => rfl)]) rfl
  have k3 := own_last oI (by rw [flat_ln itl 6 (fun _ => rfl)]) rfl
  clear oL oJ oI
  obtain ⟨nL, hnL⟩ : ∃ n, m.rk.2.1.length = n := ⟨_, rfl⟩
  obtain ⟨nJ, hnJ⟩ : ∃ n, m.rk.2.2.1.length = n := ⟨_, rfl⟩
  obtain ⟨nI, hnI⟩ : ∃ n, m.rk.2.2.2.length = n := ⟨_, rfl⟩
  rw [hnL, hnJ, hnI] at hn
  rw [hnL] at b1 k1
  rw [hnJ] at b2 k2
  rw [hnI] at b3 k3
  rw [hnL, hnJ, hnI]
  clear hnL hnJ hnI
  obtain ⟨l1, l2, l3⟩ := hn
  have hM : MgAt (w.alloc (.cells (mgl m (.slice (some ⟨gL, 0, none⟩) nL cL) (.slice (some ⟨gJ, 0, none⟩) nJ cJ) (.slice (some ⟨gI, 0, none⟩) nI cI)).toArray 38)) w.heap.size m (.slice (some ⟨gL, 0, none⟩) nL cL) (.slice (some ⟨gJ, 0, none⟩) nJ cJ) (.slice (some ⟨gI, 0, none⟩) nI cI) := heap_alloc_last w _
  have HB0 : Hid (Below w.heap.size w (w.alloc (.cells (mgl m (.slice (some ⟨gL, 0, none⟩) nL cL) (.slice (some ⟨gJ, 0, none⟩) nJ cJ) (.slice (some ⟨gI, 0, none⟩) nI cI)).toArray 38))) := below_alloc _ _
  have k1 := cell_later HB0.out k1
  have k2 := cell_later HB0.out k2
  have k3 := cell_later HB0.out k3
  have z2 := hM.cell 2 _ rfl
  have z3 := hM.cell 3 _ rfl
  have z4 := hM.cell 4 _ rfl
  clear hM
  have w1 : IntKind.i64.wrap ((nL : Int) + 1) = ((nL + 1 : Nat) : Int) := by simp [IntKind.wrap, IntKind.bits, IntKind.signed]; omega
  have w2 : IntKind.i64.wrap ((nJ : Int) + 1) = ((nJ + 1 : Nat) : Int) := by simp [IntKind.wrap, IntKind.bits, IntKind.signed]; omega
  have w3 : IntKind.i64.wrap ((nI : Int) + 1) = ((nI + 1 : Nat) : Int) := by simp [IntKind.wrap, IntKind.bits, IntKind.signed]; omega
  have d1 : ((nL + 1 : Nat) : Int) ≤ (cL : Int) := by omega
  have d2 : ((nJ + 1 : Nat) : Int) ≤ (cJ : Int) := by omega
  have d3 : ((nI + 1 : Nat) : Int) ≤ (cI : Int) := by omega
  have p1 : (nL : Int) < ((nL + 1 : Nat) : Int) := by omega
  have p2 : (nJ : Int) < ((nJ + 1 : Nat) : Int) := by omega
  have p3 : (nI : Int) < ((nI + 1 : Nat) : Int) := by omega
  have q1 : (0 : Int) ≤ (nL : Int) := by omega
  have q2 : (0 : Int) ≤ (nJ : Int) := by omega
  have q3 : (0 : Int) ≤ (nI : Int) := by omega
  go_enter Tryz.func17, Tryz.ntmps17
  go_upto_region 1 with (fail)
  generalize w.alloc (.cells (mgl m (.slice (some ⟨gL, 0, none⟩) nL cL) (.slice (some ⟨gJ, 0, none⟩) nJ cJ) (.slice (some ⟨gI, 0, none⟩) nI cI)).toArray 38) = x1 at *
  obtain ⟨A, hAe⟩ : ∃ A, w.heap.size = A := ⟨_, rfl⟩
  rw [hAe] at z2 z3 z4 ⊢
  clear hAe
  go_quiet (fail)
  have HB1 : Hid (Below w.heap.size w (x1.drewN nq)) := below_drewN HB0.out nq
  have k1 : (x1.drewN nq).cell? ⟨gL, nL * 2, none⟩ = some (.int .i64 (-7)) := k1
  have k2 : (x1.drewN nq).cell? ⟨gJ, nJ * 2, none⟩ = some (.int .i64 (-8)) := k2
  have k3 : (x1.drewN nq).cell? ⟨gI, nI * 6, none⟩ = some (.int .i64 (-9)) := k3
  have y2 : (x1.drewN nq).cell? ⟨A, 2, none⟩ = some (.slice (some ⟨gL, 0, none⟩) nL cL) := z2
  have y3 : (x1.drewN nq).cell? ⟨A, 3, none⟩ = some (.slice (some ⟨gJ, 0, none⟩) nJ cJ) := z3
  have y4 : (x1.drewN nq).cell? ⟨A, 4, none⟩ = some (.slice (some ⟨gI, 0, none⟩) nI cI) := z4
  clear z2 z3 z4
  generalize x1.drewN nq = x2 at *
  go_wp2_with fail
  go_ret
  exact ⟨rfl, HB1.out⟩
end Go.Proofs.YtdkfifnhmfbagaaGreat.Wi
