/- Contracts: the document's Same; Cost; what a step answers, in boxes. -/
import Derived.Test.YtedbnamekfgmhabDoorPlJ
namespace Go.Proofs.YtedbnamekfgmhabDoor
open Go.RowKit Go.Maps Go.Great
open Rt (Ky zK kcs)
open Rs (En zE rcs tkn RdI RdS ps evl Tb)
set_option linter.unusedVariables false
set_option linter.unusedSimpArgs false

theorem RkAt.later {w w' : World} {B : Nat} {cs : Array Value} (h : RkAt w B cs) (hb : Below w.heap.size w w') : RkAt w' B cs := (hb.block B (Array.getElem?_eq_some_iff.1 h).1).trans h
set_option maxRecDepth 100000 in
set_option maxHeartbeats 1000000 in
theorem same_any (p : Int) (a1 a2 a3 b1 b2 b3 : Option Addr) (c1 c2 c3 d1 d2 d3 : Nat) (ll lj : List (Int × Int)) (li : List It) (w : World) (l1 : ll.length ≤ 4096) (l2 : lj.length ≤ 4096) (l3 : li.length ≤ 4096)
    (r1 : RdS w a1 ll) (r2 : RdS w a2 lj) (r3 : RdT w a3 li) (s1 : RdS w b1 ll) (s2 : RdS w b2 lj) (s3 : RdT w b3 li) :
    Calls Tryd.prog 18 #[.agg #[.int .i64 p, .slice a1 ll.length c1, .slice a2 lj.length c2, .slice a3 li.length c3], .agg #[.int .i64 p, .slice b1 ll.length d1, .slice b2 lj.length d2, .slice b3 li.length d3] ] w fun e w' => e = .returned (.bool true) ∧ Below w.heap.size w w' := by
  have h1 : RkAt ((w.alloc (.cells #[.int .i64 p, .slice a1 ll.length c1, .slice a2 lj.length c2, .slice a3 li.length c3] 39)).alloc (.cells #[.int .i64 p, .slice b1 ll.length d1, .slice b2 lj.length d2, .slice b3 li.length d3] 39)) w.heap.size #[.int .i64 p, .slice a1 ll.length c1, .slice a2 lj.length c2, .slice a3 li.length c3] :=
    RkAt.later (heap_alloc_last w _) (below_alloc _ _)
  have h2 : RkAt ((w.alloc (.cells #[.int .i64 p, .slice a1 ll.length c1, .slice a2 lj.length c2, .slice a3 li.length c3] 39)).alloc (.cells #[.int .i64 p, .slice b1 ll.length d1, .slice b2 lj.length d2, .slice b3 li.length d3] 39)) (w.heap.size + 1) #[.int .i64 p, .slice b1 ll.length d1, .slice b2 lj.length d2, .slice b3 li.length d3] := by
    have h := heap_alloc_last (w.alloc (.cells #[.int .i64 p, .slice a1 ll.length c1, .slice a2 lj.length c2, .slice a3 li.length c3] 39)) (.cells #[.int .i64 p, .slice b1 ll.length d1, .slice b2 lj.length d2, .slice b3 li.length d3] 39)
    rw [World.size_alloc] at h
    exact h
  have hB1 : Below w.heap.size w ((w.alloc (.cells #[.int .i64 p, .slice a1 ll.length c1, .slice a2 lj.length c2, .slice a3 li.length c3] 39)).alloc (.cells #[.int .i64 p, .slice b1 ll.length d1, .slice b2 lj.length d2, .slice b3 li.length d3] 39)) := ((Below.refl _ w).alloc (Nat.le_refl _) _).alloc (by simp) _
  go_enter Tryd.func18, Tryd.ntmps18
  go_upto_region 1 with (fail)
  generalize (w.alloc (.cells #[.int .i64 p, .slice a1 ll.length c1, .slice a2 lj.length c2, .slice a3 li.length c3] 39)).alloc (.cells #[.int .i64 p, .slice b1 ll.length d1, .slice b2 lj.length d2, .slice b3 li.length d3] 39) = w1 at *
  obtain ⟨D, hD⟩ : ∃ D, w.heap.size + 1 = D := ⟨_, rfl⟩
  rw [hD] at h2 ⊢
  obtain ⟨C, hC⟩ : ∃ D, w.heap.size = D := ⟨_, rfl⟩
  rw [hC] at h1
  rw [hC]
  clear hD hC
  obtain ⟨x0, x1, x2, x3⟩ := h1.cells
  obtain ⟨y0, y1, y2, y3⟩ := h2.cells
  have m1 := Rs.sameS_any a1 b1 c1 d1 ll w1 (by omega) (r1.later hB1) (s1.later hB1)
  go_wp2_with fail
  refine m1.mono ?_
  rintro r w2 ⟨rfl, hb2⟩
  have h3 := h1.later hb2
  have h4 := h2.later hb2
  have hB2 := hB1.trans (hb2.mono hB1.size)
  clear m1 h1 h2 x0 x1 x2 x3 y0 y1 y2 y3 hb2 hB1
  obtain ⟨x0, x1, x2, x3⟩ := h3.cells
  obtain ⟨y0, y1, y2, y3⟩ := h4.cells
  have m1 := Rs.sameS_any a2 b2 c2 d2 lj w2 (by omega) (r2.later hB2) (s2.later hB2)
  go_wp2_with fail
  refine m1.mono ?_
  rintro r w3 ⟨rfl, hb3⟩
  have h5 := h3.later hb3
  have h6 := h4.later hb3
  have hB3 := hB2.trans (hb3.mono hB2.size)
  clear m1 h3 h4 x0 x1 x2 x3 y0 y1 y2 y3 hb3 hB2
  obtain ⟨x0, x1, x2, x3⟩ := h5.cells
  obtain ⟨y0, y1, y2, y3⟩ := h6.cells
  have m1 := sameI_any a3 b3 c3 d3 li w3 l3 (r3.later hB3) (s3.later hB3)
  go_wp2_with fail
  refine m1.mono ?_
  rintro r w4 ⟨rfl, hb4⟩
  have hB4 := hB3.trans (hb4.mono hB3.size)
  clear m1 h5 h6 x0 x1 x2 x3 y0 y1 y2 y3 hb4 hB3
  go_wp2_with fail
  go_ret
  exact ⟨rfl, hB4⟩
/- Lengths of what a step answers. -/
theorem pnL_len (t : Tr) (L J : List Int) : (pnL t L J).length ≤ 64 := by
  unfold pnL
  split
  · rename_i h; rw [Rs.evl_length]; exact (plE_stp h).fit.lenL
  · simp
theorem jns_len (t : Tr) (L J : List Int) : (jns t L J).length = J.length := by unfold jns; rw [Rs.adl_length]
theorem pnJ_len (t : Tr) (L J : List Int) : (pnJ t L J).length ≤ 64 := by
  unfold pnJ
  split
  · rename_i h; rw [jns_len]; exact (plE_stp h).fit.lenJ
  · simp
theorem pnI_len (t : Tr) (L J : List Int) : (pnI t L J).length ≤ 12 * ((pnL t L J).length + (pnJ t L J).length) := by
  unfold pnI pnL pnJ
  split
  · exact its_len _ _ _
  · simp
theorem pnI_short (t : Tr) (L J : List Int) : (pnI t L J).length ≤ 4096 := by
  have h1 := pnI_len t L J
  have h2 := pnL_len t L J
  have h3 := pnJ_len t L J
  omega
end Go.Proofs.YtedbnamekfgmhabDoor
