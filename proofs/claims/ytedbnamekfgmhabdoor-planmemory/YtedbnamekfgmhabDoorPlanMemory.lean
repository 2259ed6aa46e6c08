/- For every tree and every batch: plan.Next leaves the batch's lists as they are, and its message's lists are new memory: PlanMemory, in its first form (the listed variable as the program's text lays it), and the card. -/
import Derived.Test.YtedbnamekfgmhabDoorCards
import Derived.Test.YtedbnamekfgmhabDoorTie
import Derived.Test.YtedbnamekfgmhabDoorPlV
import Derived.Test.YtedbnamekfgmhabDoorPlO
import Derived.Test.YtedbnamekfgmhabDoorRsK
import Derived.Test.YtedbnamekfgmhabDoorOpenTr
import Derived.WalkKit
import Derived.ProofKit
import Derived.OpenShut
import Derived.Deep.RegionHeld3
import Derived.Deep.DeepHandedRow
import Derived.Deep.DeepWitnessRowRef
import Derived.SizedLaws
namespace Go.Proofs.YtedbnamekfgmhabDoor.planMemory
open Go.ChangeShapes Go.WideShapes Go.ChangeAt Go.RowKit Go.Maps Go.Shelf
open Rt (Ky KyAt)
open Rs
set_option linter.unusedVariables false
set_option linter.unusedSimpArgs false

theorem vs_of {W : World} (hL : laidMetH Tryd.prog Rows.planMemoryRow.laid W) : Tb W := tb_of (show laidMet Tryd.prog Rows.planMemoryRow.laid W from hL)
def trD {H : Type} : DataW H := .agg [.lit (.int .i64 0), .lit (.int .i64 0), .agg (List.replicate 21 (.agg [.lit (.int .i64 0), .lit (.int .i64 0)])), roD]
theorem rds_blk {W : World} {b : Nat} {a : Option Addr} {c : Nat} {l : List (Int × Int)} (h : W.ownsRow b 48 2 (.slice a l.length c) l.length (ps l)) : ∀ g, a = some ⟨g, 0, none⟩ → b ≤ g ∧ Slot W g 48 0 := fun g e => by
  rcases h.2 with ⟨h0, _⟩ | ⟨g', cap, cur, e3, h3, h4, _⟩
  · simp at h0; rw [e] at h0; simp at h0
  · rw [e] at e3
    simp at e3
    obtain ⟨rfl, _⟩ := e3
    exact ⟨h3, cur, h4, Nat.zero_le _⟩
theorem rdt_blk {W : World} {b : Nat} {a : Option Addr} {c : Nat} {l : List It} (h : W.ownsRow b 61 6 (.slice a l.length c) l.length (isl l)) : ∀ g, a = some ⟨g, 0, none⟩ → b ≤ g ∧ Slot W g 61 0 := fun g e => by
  rcases h.2 with ⟨h0, _⟩ | ⟨g', cap, cur, e3, h3, h4, _⟩
  · simp at h0; rw [e] at h0; simp at h0
  · rw [e] at e3
    simp at e3
    obtain ⟨rfl, _⟩ := e3
    exact ⟨h3, cur, h4, Nat.zero_le _⟩
theorem cell_six_new (w : World) (x0 x1 x2 x3 x4 x5 : Value) (t : TypeId) : ∀ j u, [x0, x1, x2, x3, x4, x5][j]? = some u → (w.alloc (.cells #[x0, x1, x2, x3, x4, x5] t)).cell? ((⟨w.heap.size, 0, none⟩ : Addr).add j) = some u := cell_row_new w #[x0, x1, x2, x3, x4, x5] t
/- What one call of Next answers, boxed. -/
structure Msg (lo top : Nat) (W : World) (BN : Nat) (p : Int) (a1 a2 a3 : Option Addr) (k1 k2 k3 : Nat) (ll lj : List (Int × Int)) (li : List It) : Prop where
  o1 : W.ownsRow lo 48 2 (.slice a1 ll.length k1) ll.length (ps ll)
  o2 : W.ownsRow lo 48 2 (.slice a2 lj.length k2) lj.length (ps lj)
  o3 : W.ownsRow lo 61 6 (.slice a3 li.length k3) li.length (isl li)
  ap : (Value.slice a1 ll.length k1).ownBlock = none ∨ (Value.slice a1 ll.length k1).ownBlock ≠ (Value.slice a2 lj.length k2).ownBlock
  rk : RkAt W BN #[.int .i64 p, .slice a1 ll.length k1, .slice a2 lj.length k2, .slice a3 li.length k3]
  ge : lo ≤ BN
  lt : BN < top
  n1 : ∀ g, a1 = some ⟨g, 0, none⟩ → lo ≤ g ∧ g < top
  n2 : ∀ g, a2 = some ⟨g, 0, none⟩ → lo ≤ g ∧ g < top
  n3 : ∀ g, a3 = some ⟨g, 0, none⟩ → lo ≤ g ∧ g < top
section
variable {lo top : Nat} {V W W' : World} {BN : Nat} {p : Int} {a1 a2 a3 : Option Addr} {k1 k2 k3 : Nat} {ll lj : List (Int × Int)} {li : List It}
theorem Msg.mk' (h1 : W.ownsRow lo 48 2 (.slice a1 ll.length k1) ll.length (ps ll)) (h2 : W.ownsRow lo 48 2 (.slice a2 lj.length k2) lj.length (ps lj)) (h3 : W.ownsRow lo 61 6 (.slice a3 li.length k3) li.length (isl li)) (h4 : (Value.slice a1 ll.length k1).ownBlock = none ∨ (Value.slice a1 ll.length k1).ownBlock ≠ (Value.slice a2 lj.length k2).ownBlock)
    (h5 : RkAt W BN #[.int .i64 p, .slice a1 ll.length k1, .slice a2 lj.length k2, .slice a3 li.length k3]) (h6 : lo ≤ BN) : Msg lo W.heap.size W BN p a1 a2 a3 k1 k2 k3 ll lj li :=
  ⟨h1, h2, h3, h4, h5, h6, (Array.getElem?_eq_some_iff.1 h5).1, fun g e => ⟨(rds_blk h1 g e).1, (rds_blk h1 g e).2.lt⟩, fun g e => ⟨(rds_blk h2 g e).1, (rds_blk h2 g e).2.lt⟩, fun g e => ⟨(rdt_blk h3 g e).1, (rdt_blk h3 g e).2.lt⟩⟩
theorem Msg.later (h : Msg lo top W BN p a1 a2 a3 k1 k2 k3 ll lj li) (hb : Below W.heap.size W W') : Msg lo top W' BN p a1 a2 a3 k1 k2 k3 ll lj li := ⟨owns_later h.o1 hb, owns_later h.o2 hb, owns_later h.o3 hb, h.ap, h.rk.later hb, h.ge, h.lt, h.n1, h.n2, h.n3⟩
/- A message none of whose blocks may be written stands. -/
theorem Msg.ke {s7 s9 ga gb nA nB : Nat} (h : Msg lo top V BN p a1 a2 a3 k1 k2 k3 ll lj li) (hk : Ke (Wb s7 s9 ga gb) V W) (sa : Slot V ga 3 nA) (sb : Slot V gb 3 nB) (hr : top ≤ s7 ∨ s9 ≤ lo) : RdS W a1 ll ∧ RdS W a2 lj ∧ RdT W a3 li ∧ RkAt W BN #[.int .i64 p, .slice a1 ll.length k1, .slice a2 lj.length k2, .slice a3 li.length k3] := by
  refine ⟨Rs.RdS.ke (rds_of h.o1) hk fun g e => ?_, Rs.RdS.ke (rds_of h.o2) hk fun g e => ?_, RdT.ke (owns_rdT h.o3) hk fun g e => ?_, ?_⟩
  · obtain ⟨g1, g2⟩ := rds_blk h.o1 g e
    have := h.n1 g e
    rintro (h1 | rfl | rfl)
    · omega
    · exact slot_ne g2 sa (by decide) rfl
    · exact slot_ne g2 sb (by decide) rfl
  · obtain ⟨g1, g2⟩ := rds_blk h.o2 g e
    have := h.n2 g e
    rintro (h1 | rfl | rfl)
    · omega
    · exact slot_ne g2 sa (by decide) rfl
    · exact slot_ne g2 sb (by decide) rfl
  · obtain ⟨g1, g2⟩ := rdt_blk h.o3 g e
    have := h.n3 g e
    rintro (h1 | rfl | rfl)
    · omega
    · exact slot_ne g2 sa (by decide) rfl
    · exact slot_ne g2 sb (by decide) rfl
  · refine (hk.block BN (Array.getElem?_eq_some_iff.1 h.rk).1 ?_).trans h.rk
    have g2 : Slot V BN 39 0 := ⟨_, h.rk, Nat.zero_le _⟩
    have g3 := h.lt
    have g4 := h.ge
    rintro (h1 | rfl | rfl)
    · omega
    · exact slot_ne g2 sa (by decide) rfl
    · exact slot_ne g2 sb (by decide) rfl
end
theorem blk1 {a : Option Addr} {n k g : Nat} (h : (Value.slice a n k).ownBlock = some g) (hz : a = none ∨ ∃ b, a = some ⟨b, 0, none⟩) : a = some ⟨g, 0, none⟩ := by
  rcases hz with rfl | ⟨b, rfl⟩
  · simp [Value.ownBlock] at h
  · simp [Value.ownBlock] at h
    rw [h]
theorem own_zero {W : World} {b : Nat} {e : TypeId} {sz : Nat} {a : Option Addr} {n k m : Nat} {xs : List Value} (h : W.ownsRow b e sz (.slice a n k) m xs) : a = none ∨ ∃ g, a = some ⟨g, 0, none⟩ := by
  rcases h.2 with ⟨h0, _⟩ | ⟨g, cap, cur, e3, h3, h4, _⟩
  · simp at h0; exact .inl h0.1
  · simp at e3
    exact .inr ⟨g, e3.1⟩
def Gv (W : World) (B ga gb nL nJ ca cb : Nat) : Prop := BtAt W B (some ⟨ga, 0, none⟩) (some ⟨gb, 0, none⟩) nL nJ ca cb
set_option maxRecDepth 100000 in
set_option maxHeartbeats 8000000 in
theorem walk (t : Tr) (aL aJ : Option Addr) (cL cJ : Nat) (L J : List Int) (w : World) (rL : RdI w aL L) (rJ : RdI w aJ J) (lL : L.length * 8 ≤ 140737488351232) (lJ : J.length * 8 ≤ 140737488351232) (hTb : Tb w) :
    Calls Tryd.prog 5 #[.agg (tcs t), .agg #[.slice aL L.length cL, .slice aJ J.length cJ] ] w fun e w' => e = .returned (.bool true) ∧ Below w.heap.size w w' := by
  have hX := TB.new w t aL aJ L.length J.length cL cJ
  obtain ⟨ct, hct⟩ : ∃ c, tcs t = c := ⟨_, rfl⟩
  have HT : Hid (tcs t = ct) := hct
  clear hct
  obtain ⟨i0, hi, hz0, hz1, hz2⟩ := info_parts infoInt
  go_enter Tryd.func5, Tryd.ntmps5
  go_upto_region 1 with (fail)
  generalize (w.alloc (.cells (tcs t) 31)).alloc (.cells #[.slice aL L.length cL, .slice aJ J.length cJ] 34) = w0 at *
  rw [HT.out]
  obtain ⟨C0, hC⟩ : ∃ C, w.heap.size + 1 = C := ⟨_, rfl⟩
  rw [hC] at hX ⊢
  obtain ⟨B, hB⟩ : ∃ B, w.heap.size = B := ⟨_, rfl⟩
  rw [hB] at hX ⊢
  clear hC hB
  have hl := lives_any w0 (hTb.later hX.bel)
  go_wp2_with fail
  refine hl.mono ?_
  rintro r w2 ⟨rfl, hb1⟩
  have hX2 := hX.later hb1
  clear hl hX hb1
  go_upto_region 3 with (fail)
  have HE0 : Hid ((w2.alloc (.cells #[] 3)).ownsRow w2.heap.size 3 1 (.slice (some ⟨w2.heap.size, 0, none⟩) 0 0) 0 []) :=
    ⟨rfl, Or.inr ⟨w2.heap.size, 0, #[], rfl, Nat.le_refl _, heap_alloc_last w2 _, Nat.le_refl _, Nat.zero_le _, rfl, rfl⟩⟩
  have HA0 : Hid (Below w2.heap.size w2 (w2.alloc (.cells #[] 3))) := below_alloc _ _
  have HS0 : Hid (RdI (w2.alloc (.cells #[] 3)) aL L) := (rL.later hX2.bel).later HA0.out
  obtain ⟨x0, x1⟩ := (hX2.later HA0.out).bt.cells
  go_upto_region 4 with (first
    | (at_builtin; refine append_rd rfl _ _ rfl w2.heap.size (.slice (some ⟨w2.heap.size, 0, none⟩) 0 0) 0 [] rfl HE0.out aL cL L rfl HS0.out (by unfold maxLen; omega) (by omega) (by simp) ?_; intro v2 wA hown2 hgrow2; rw [Nat.zero_add, List.nil_append] at hown2; obtain ⟨a2, cap2, rfl⟩ := row_slice hown2; have HO2 : Hid (wA.ownsRow w2.heap.size 3 1 (.slice a2 L.length cap2) L.length (i64s L)) := hown2; have HG2 : Hid (Below w2.heap.size w2 wA) := below_grown HA0.out (show (w2.alloc (.cells #[] 3)).grownBy wA (some w2.heap.size) from hgrow2) (by simp) (fun j hj => by cases hj; exact Nat.le_refl _); clear hown2 hgrow2)
    | (at_builtin; (refine wpList_append_own (w := _) rfl _ _ 32 rfl w2.heap.size 3 i0 _ 1 8 Tryd.underlying32 hi hz0 hz1 hz2 rfl (by decide) (.slice a2 L.length cap2) L.length (i64s L) rfl (HO2.out.alloc _) ⟨wA.heap.size, 0, none⟩ 1 1 [.int .i64 (-71)] rfl rfl (cell_one_new _ _ _) (by simp [Value.oneCell']) (by unfold maxLen; omega) (by omega) (by have := HG2.out.size; rw [World.size_alloc]; omega) ?_); intro v3 w3 hown3 hgrow3 hq3; obtain ⟨ga, ca, rfl⟩ := ownsRow_succ hown3; have HOA : Hid (w3.ownsRow w2.heap.size 3 1 (.slice (some ⟨ga, 0, none⟩) (L.length + 1) ca) (L.length + 1) (i64s L ++ [.int .i64 (-71)])) := hown3; have HBA : Hid (Below w2.heap.size w2 w3) := HG2.out.trans (row_grown HO2.out HG2.out.size hgrow3); clear hown3 hgrow3))
  clear x0 x1 HE0 HA0 HS0 HO2 HG2
  have hX3 := hX2.later HBA.out
  have HE0 : Hid ((w3.alloc (.cells #[] 3)).ownsRow w3.heap.size 3 1 (.slice (some ⟨w3.heap.size, 0, none⟩) 0 0) 0 []) :=
    ⟨rfl, Or.inr ⟨w3.heap.size, 0, #[], rfl, Nat.le_refl _, heap_alloc_last w3 _, Nat.le_refl _, Nat.zero_le _, rfl, rfl⟩⟩
  have HA0 : Hid (Below w3.heap.size w3 (w3.alloc (.cells #[] 3))) := below_alloc _ _
  have HS0 : Hid (RdI (w3.alloc (.cells #[] 3)) aJ J) := (rJ.later hX3.bel).later HA0.out
  obtain ⟨x0, x1⟩ := (hX3.later HA0.out).bt.cells
  go_upto_region 5 with (first
    | (at_builtin; refine append_rd rfl _ _ rfl w3.heap.size (.slice (some ⟨w3.heap.size, 0, none⟩) 0 0) 0 [] rfl HE0.out aJ cJ J rfl HS0.out (by unfold maxLen; omega) (by omega) (by simp) ?_; intro v2 wA hown2 hgrow2; rw [Nat.zero_add, List.nil_append] at hown2; obtain ⟨a2, cap2, rfl⟩ := row_slice hown2; have HO2 : Hid (wA.ownsRow w3.heap.size 3 1 (.slice a2 J.length cap2) J.length (i64s J)) := hown2; have HG2 : Hid (Below w3.heap.size w3 wA) := below_grown HA0.out (show (w3.alloc (.cells #[] 3)).grownBy wA (some w3.heap.size) from hgrow2) (by simp) (fun j hj => by cases hj; exact Nat.le_refl _); clear hown2 hgrow2)
    | (at_builtin; (refine wpList_append_own (w := _) rfl _ _ 32 rfl w3.heap.size 3 i0 _ 1 8 Tryd.underlying32 hi hz0 hz1 hz2 rfl (by decide) (.slice a2 J.length cap2) J.length (i64s J) rfl (HO2.out.alloc _) ⟨wA.heap.size, 0, none⟩ 1 1 [.int .i64 (-72)] rfl rfl (cell_one_new _ _ _) (by simp [Value.oneCell']) (by unfold maxLen; omega) (by omega) (by have := HG2.out.size; rw [World.size_alloc]; omega) ?_); intro v3 w4 hown3 hgrow3 hq3; obtain ⟨gb, cb, rfl⟩ := ownsRow_succ hown3; have HOB : Hid (w4.ownsRow w3.heap.size 3 1 (.slice (some ⟨gb, 0, none⟩) (J.length + 1) cb) (J.length + 1) (i64s J ++ [.int .i64 (-72)])) := hown3; have HBA4 : Hid (Below w3.heap.size w3 w4) := HG2.out.trans (row_grown HO2.out HG2.out.size hgrow3); clear hown3 hgrow3))
  clear x0 x1 HE0 HA0 HS0 HO2 HG2
  have hX4 := hX3.later HBA4.out
  have HOA4 : Hid (w4.ownsRow w2.heap.size 3 1 (.slice (some ⟨ga, 0, none⟩) (L.length + 1) ca) (L.length + 1) (i64s L ++ [.int .i64 (-71)])) := owns_later HOA.out HBA4.out
  have k1 : L.length ≤ ca := by have := (row_cap HOA.out).1; omega
  have k2 : (L.length : Int) ≤ (ca : Int) := by omega
  have k3 : J.length ≤ cb := by have := (row_cap HOB.out).1; omega
  have k4 : (J.length : Int) ≤ (cb : Int) := by omega
  have HWA : Hid (w.heap.size ≤ ga) := Nat.le_trans hX2.bel.size (row_cap HOA.out).2.1
  have HWB : Hid (w.heap.size ≤ gb) := Nat.le_trans hX3.bel.size (row_cap HOB.out).2.1
  clear HOA hX2 hX3 HBA4
  have hDr : ∀ o, Below w4.heap.size w4 (w4.alloc o).drew := fun o => (below_alloc w4 o).trans ((drew_below (w4.alloc o)).mono (by simp))
  have hS0 := hX4.later (drew_below w4)
  refine wp_region_held_drew (S := fun W => TB w W B C0 t aL aJ L.length J.length cL cJ) (by kernel_rfl) hS0 (fun hH0 => ?_)
  refine wpAnyH_take (i := 0) (oi := { dst := some 36, op := Op.move (Operand.tmp 5), type := _, pos := _, after := _, guard := none }) (v := .slice (some ⟨ga, 0, none⟩) (L.length + 1) ca) rfl (by kernel_rfl) (by kernel_rfl) (by kernel_rfl) (fun _ _ _ h => h) (Or.inl ⟨by rfl, fun w hSw => by (try dsimp only at hSw); go_simp⟩) (by assumption) ?_
  simp only [Act.put, List.setIfInBounds_toArray, List.set_cons_zero, List.set_cons_succ]
  refine wpAnyH_take (i := 1) (oi := { dst := some 37, op := Op.fieldAddr 34 (Operand.tmp 3) 0, type := _, pos := _, after := _, guard := none }) (v := .pointer (some ⟨C0, 0, none⟩)) rfl (by kernel_rfl) (by kernel_rfl) (by kernel_rfl) (fun _ _ _ h => h) (Or.inl ⟨by rfl, fun w hSw => by (try dsimp only at hSw); go_simp⟩) (by assumption) ?_
  simp only [Act.put, List.setIfInBounds_toArray, List.set_cons_zero, List.set_cons_succ]
  refine wpAnyH_take (i := 2) (oi := { dst := some 38, op := Op.load 32 (Operand.tmp 37), type := _, pos := _, after := _, guard := none }) (v := .slice aL L.length cL) rfl (by kernel_rfl) (by kernel_rfl) (by kernel_rfl) (fun _ _ _ h => h) (Or.inl ⟨by rfl, fun w hSw => by obtain ⟨x0, x1⟩ := (TB.bt hSw).cells; clear hSw; go_simp⟩) (by assumption) ?_
  simp only [Act.put, List.setIfInBounds_toArray, List.set_cons_zero, List.set_cons_succ]
  refine wpAnyH_take (i := 3) (oi := { dst := some 39, op := Op.call { callee := Callee.builtin Builtin.len, args := #[(Operand.tmp 38)], argTypes := #[32] }, type := _, pos := _, after := _, guard := none }) (v := .int .i64 (L.length : Int)) rfl (by kernel_rfl) (by kernel_rfl) (by kernel_rfl) (fun _ _ _ h => h) (Or.inl ⟨by rfl, fun w hSw => by (try dsimp only at hSw); go_simp⟩) (by assumption) ?_
  simp only [Act.put, List.setIfInBounds_toArray, List.set_cons_zero, List.set_cons_succ]
  refine wpAnyH_take (i := 4) (oi := { dst := some 40, op := Op.slice 32 (Operand.tmp 36) none (some (Operand.tmp 39)) none, type := _, pos := _, after := _, guard := none }) (v := .slice (some ⟨ga, 0, none⟩) L.length ca) rfl (by kernel_rfl) (by kernel_rfl) (by kernel_rfl) (fun _ _ _ h => h) (Or.inl ⟨by rfl, fun w hSw => by (try dsimp only at hSw); go_simp⟩) (by assumption) ?_
  simp only [Act.put, List.setIfInBounds_toArray, List.set_cons_zero, List.set_cons_succ]
  refine wpAnyH_take (i := 5) (oi := { dst := some 41, op := Op.move (Operand.tmp 6), type := _, pos := _, after := _, guard := none }) (v := .slice (some ⟨gb, 0, none⟩) (J.length + 1) cb) rfl (by kernel_rfl) (by kernel_rfl) (by kernel_rfl) (fun _ _ _ h => h) (Or.inl ⟨by rfl, fun w hSw => by (try dsimp only at hSw); go_simp⟩) (by assumption) ?_
  simp only [Act.put, List.setIfInBounds_toArray, List.set_cons_zero, List.set_cons_succ]
  refine wpAnyH_take (i := 6) (oi := { dst := some 42, op := Op.fieldAddr 34 (Operand.tmp 3) 1, type := _, pos := _, after := _, guard := none }) (v := .pointer (some ⟨C0, 1, none⟩)) rfl (by kernel_rfl) (by kernel_rfl) (by kernel_rfl) (fun _ _ _ h => h) (Or.inl ⟨by rfl, fun w hSw => by (try dsimp only at hSw); go_simp⟩) (by assumption) ?_
  simp only [Act.put, List.setIfInBounds_toArray, List.set_cons_zero, List.set_cons_succ]
  refine wpAnyH_take (i := 7) (oi := { dst := some 43, op := Op.load 32 (Operand.tmp 42), type := _, pos := _, after := _, guard := none }) (v := .slice aJ J.length cJ) rfl (by kernel_rfl) (by kernel_rfl) (by kernel_rfl) (fun _ _ _ h => h) (Or.inl ⟨by rfl, fun w hSw => by obtain ⟨x0, x1⟩ := (TB.bt hSw).cells; clear hSw; go_simp⟩) (by assumption) ?_
  simp only [Act.put, List.setIfInBounds_toArray, List.set_cons_zero, List.set_cons_succ]
  refine wpAnyH_take (i := 8) (oi := { dst := some 44, op := Op.call { callee := Callee.builtin Builtin.len, args := #[(Operand.tmp 43)], argTypes := #[32] }, type := _, pos := _, after := _, guard := none }) (v := .int .i64 (J.length : Int)) rfl (by kernel_rfl) (by kernel_rfl) (by kernel_rfl) (fun _ _ _ h => h) (Or.inl ⟨by rfl, fun w hSw => by (try dsimp only at hSw); go_simp⟩) (by assumption) ?_
  simp only [Act.put, List.setIfInBounds_toArray, List.set_cons_zero, List.set_cons_succ]
  refine wpAnyH_take (i := 9) (oi := { dst := some 45, op := Op.slice 32 (Operand.tmp 41) none (some (Operand.tmp 44)) none, type := _, pos := _, after := _, guard := none }) (v := .slice (some ⟨gb, 0, none⟩) J.length cb) rfl (by kernel_rfl) (by kernel_rfl) (by kernel_rfl) (fun _ _ _ h => h) (Or.inl ⟨by rfl, fun w hSw => by (try dsimp only at hSw); go_simp⟩) (by assumption) ?_
  simp only [Act.put, List.setIfInBounds_toArray, List.set_cons_zero, List.set_cons_succ]
  refine wpAnyH_take (i := 10) (oi := { dst := some 46, op := Op.build 34 #[(0, (Operand.tmp 40)), (1, (Operand.tmp 45))], type := _, pos := _, after := _, guard := none }) (v := .agg #[.slice (some ⟨ga, 0, none⟩) L.length ca, .slice (some ⟨gb, 0, none⟩) J.length cb]) rfl (by kernel_rfl) (by kernel_rfl) (by kernel_rfl) (fun _ _ _ h => h) (Or.inl ⟨by rfl, fun w hSw => by (try dsimp only at hSw); go_simp⟩) (by assumption) ?_
  simp only [Act.put, List.setIfInBounds_toArray, List.set_cons_zero, List.set_cons_succ]
  refine wpAnyH_ready (rs := [11]) (by kernel_rfl) (by simp) ?_
  refine AllReadyH.cons rfl (fun K hK => ?_) AllReadyH.nil
  go_simp
  refine hK.out _ _ (hH0.later (below_alloc _ _)) (fun hH1 => ?_)
  clear hK K
  try simp only [Act.put, List.setIfInBounds_toArray, List.set_cons_zero, List.set_cons_succ]
  refine wpAnyH_ready (rs := [12]) (by kernel_rfl) (by simp) ?_
  refine AllReadyH.cons rfl (fun K hK => ?_) AllReadyH.nil
  go_simp
  refine hK.out _ _ (hX4.later (hDr _)) (fun hH2 => ?_)
  clear hK K
  try simp only [Act.put, List.setIfInBounds_toArray, List.set_cons_zero, List.set_cons_succ]
  refine wpAnyH_done (by kernel_rfl) ?_ _
  have hb5 := hDr (.cells #[.slice (some ⟨ga, 0, none⟩) L.length ca, .slice (some ⟨gb, 0, none⟩) J.length cb] 34)
  have hG5 : Gv ((w4.alloc (.cells #[.slice (some ⟨ga, 0, none⟩) L.length ca, .slice (some ⟨gb, 0, none⟩) J.length cb] 34)).drew) w4.heap.size ga gb L.length J.length ca cb := heap_alloc_last w4 _
  have hX5 := hX4.later hb5
  have HOA5 := owns_later HOA4.out hb5
  have HOB5 := owns_later HOB.out hb5
  generalize (w4.alloc (.cells #[.slice (some ⟨ga, 0, none⟩) L.length ca, .slice (some ⟨gb, 0, none⟩) J.length cb] 34)).drew = w5 at *
  generalize w4.heap.size = Bg at *
  generalize w2.heap.size = sA at *
  generalize w3.heap.size = sB at *
  have HA5 : Hid (w5.ownsRow sA 3 1 (.slice (some ⟨ga, 0, none⟩) (L.length + 1) ca) (L.length + 1) (i64s L ++ [.int .i64 (-71)])) := HOA5
  have HB5 : Hid (w5.ownsRow sB 3 1 (.slice (some ⟨gb, 0, none⟩) (J.length + 1) cb) (J.length + 1) (i64s J ++ [.int .i64 (-72)])) := HOB5
  have HX5W : Hid (w.heap.size ≤ w5.heap.size) := hX5.bel.size
  have HBGL : Hid (Bg < w5.heap.size) := (Array.getElem?_eq_some_iff.1 hG5).1
  have HX5 : Hid (TB w w5 B C0 t aL aJ L.length J.length cL cJ) := hX5
  have HG5 : Hid (Gv w5 Bg ga gb L.length J.length ca cb) := hG5
  clear hDr hb5 hX4 HOA4 HOB HOA5 HOB5 hH0 hH1 hH2 hS0 hX5 hG5 k1 k2 k3 k4
  have HLN : Hid ((pnL t L J).length ≤ 64 ∧ (pnJ t L J).length ≤ 64 ∧ (pnI t L J).length ≤ 4096) := ⟨pnL_len t L J, pnJ_len t L J, pnI_short t L J⟩
  obtain ⟨n, hn⟩ : ∃ n, pnT t L J = n := ⟨_, rfl⟩
  obtain ⟨ll, hll⟩ : ∃ l, pnL t L J = l := ⟨_, rfl⟩
  obtain ⟨lj, hlj⟩ : ∃ l, pnJ t L J = l := ⟨_, rfl⟩
  obtain ⟨li, hli⟩ : ∃ l, pnI t L J = l := ⟨_, rfl⟩
  obtain ⟨E, hE⟩ : ∃ e, plE t L J = e := ⟨_, rfl⟩
  obtain ⟨p, hp⟩ : ∃ e, pnP t L J = e := ⟨_, rfl⟩
  obtain ⟨cn, hcn⟩ : ∃ c, tcs n = c := ⟨_, rfl⟩
  have HC : Hid (tcs n = cn) := hcn
  rw [hll, hlj, hli] at HLN
  have HEQ : Hid (pnT t L J = n ∧ pnL t L J = ll ∧ pnJ t L J = lj ∧ pnI t L J = li ∧ plE t L J = E ∧ pnP t L J = p) := ⟨hn, hll, hlj, hli, hE, hp⟩
  clear hn hll hlj hli hE hp hcn
  have h1 := rNext_any t aL aJ cL cJ L J w5 (by omega) (by omega) (rL.later HX5.out.bel) (rJ.later HX5.out.bel)
  rw [HT.out] at h1
  have hT1 := HX5.out.tr
  obtain ⟨d0, d1⟩ := HX5.out.bt.cells
  go_wp2_with (refine rdT hT1 HT.out _ rfl rfl rfl ?_)
  refine h1.mono ?_
  rintro r u6 ⟨⟨vl, vj, vi, rfl, hNP⟩, hb2⟩
  obtain ⟨hl1, hl2, hl3, hl4⟩ := hNP
  rw [HEQ.out.2.1] at hl1
  rw [HEQ.out.2.2.1] at hl2
  rw [HEQ.out.2.2.2.1] at hl3
  rw [HEQ.out.1, HEQ.out.2.2.2.2.1, HEQ.out.2.2.2.2.2, HC.out]
  obtain ⟨p61, q61, rfl⟩ := owns_slice hl1
  obtain ⟨p62, q62, rfl⟩ := owns_slice hl2
  obtain ⟨p63, q63, rfl⟩ := owns_slice hl3
  obtain ⟨t1, t2, w6, hW, tT, tR, tB⟩ := two_boxes u6 n cn #[.int .i64 p, .slice p61 ll.length q61, .slice p62 lj.length q62, .slice p63 li.length q63] HC.out
  have hbb := hb2.trans (tB.mono hb2.size)
  have HM6 : Hid (Msg w5.heap.size w6.heap.size w6 (u6.heap.size + 1) p p61 p62 p63 q61 q62 q63 ll lj li) := Msg.mk' (owns_later hl1 tB) (owns_later hl2 tB) (owns_later hl3 tB) hl4 tR (by have := hb2.size; omega)
  have HBB6 : Hid (Below w5.heap.size w5 w6) := hbb
  have HX6 : Hid (TB w w6 B C0 t aL aJ L.length J.length cL cJ) := HX5.out.later hbb
  have HG6 : Hid (Gv w6 Bg ga gb L.length J.length ca cb) := BtAt.later HG5.out hbb
  have HA6 : Hid (w6.ownsRow sA 3 1 (.slice (some ⟨ga, 0, none⟩) (L.length + 1) ca) (L.length + 1) (i64s L ++ [.int .i64 (-71)])) := owns_later HA5.out hbb
  have HB6 : Hid (w6.ownsRow sB 3 1 (.slice (some ⟨gb, 0, none⟩) (J.length + 1) cb) (J.length + 1) (i64s J ++ [.int .i64 (-72)])) := owns_later HB5.out hbb
  clear h1 hT1 d0 d1 hb2 hl1 hl2 hl3 hl4 hbb tB
  go_upto_region 7 with (first | (refine stTc t1 HC.out rfl _ _ rfl rfl rfl ?_) | (refine stRw infoRk (cs := rkz) rkz_size t2 _ rfl (rk_one _ _ _ _ _ _ _ _ _ _) rfl _ _ rfl rfl rfl ?_))
  clear t1 t2 hW tT tR
  obtain ⟨N6, hN6⟩ : ∃ N, u6.heap.size + 1 = N := ⟨_, rfl⟩
  rw [hN6] at HM6 ⊢
  clear hN6
  have h1 := next_any t (some ⟨ga, 0, none⟩) (some ⟨gb, 0, none⟩) ca cb L J w6 (hTb.later HX6.out.bel) (by omega) (by omega) (rdi_of_row HA6.out) (rdi_of_row HB6.out)
  rw [HT.out] at h1
  have hT1 := HX6.out.tr
  obtain ⟨d0, d1⟩ := BtAt.cells HG6.out
  go_wp2_with (refine rdT hT1 HT.out _ rfl rfl rfl ?_)
  refine h1.mono ?_
  rintro r u7 ⟨⟨vl, vj, vi, rfl, hNP⟩, hb2⟩
  obtain ⟨hl1, hl2, hl3, hl4⟩ := hNP
  rw [HEQ.out.2.1] at hl1
  rw [HEQ.out.2.2.1] at hl2
  rw [HEQ.out.2.2.2.1] at hl3
  rw [HEQ.out.1, HEQ.out.2.2.2.2.1, HEQ.out.2.2.2.2.2, HC.out]
  obtain ⟨p71, q71, rfl⟩ := owns_slice hl1
  obtain ⟨p72, q72, rfl⟩ := owns_slice hl2
  obtain ⟨p73, q73, rfl⟩ := owns_slice hl3
  obtain ⟨t1, t2, w7, hW, tT, tR, tB⟩ := two_boxes u7 n cn #[.int .i64 p, .slice p71 ll.length q71, .slice p72 lj.length q72, .slice p73 li.length q73] HC.out
  have hbb := hb2.trans (tB.mono hb2.size)
  have HM7 : Hid (Msg w6.heap.size w7.heap.size w7 (u7.heap.size + 1) p p71 p72 p73 q71 q72 q73 ll lj li) := Msg.mk' (owns_later hl1 tB) (owns_later hl2 tB) (owns_later hl3 tB) hl4 tR (by have := hb2.size; omega)
  have HBB7 : Hid (Below w6.heap.size w6 w7) := hbb
  have HX7 : Hid (TB w w7 B C0 t aL aJ L.length J.length cL cJ) := HX6.out.later hbb
  have HG7 : Hid (Gv w7 Bg ga gb L.length J.length ca cb) := BtAt.later HG6.out hbb
  have HA7 : Hid (w7.ownsRow sA 3 1 (.slice (some ⟨ga, 0, none⟩) (L.length + 1) ca) (L.length + 1) (i64s L ++ [.int .i64 (-71)])) := owns_later HA6.out hbb
  have HB7 : Hid (w7.ownsRow sB 3 1 (.slice (some ⟨gb, 0, none⟩) (J.length + 1) cb) (J.length + 1) (i64s J ++ [.int .i64 (-72)])) := owns_later HB6.out hbb
  clear h1 hT1 d0 d1 hb2 hl1 hl2 hl3 hl4 hbb tB
  go_upto_region 8 with (first | (refine stTc t1 HC.out rfl _ _ rfl rfl rfl ?_) | (refine stRw infoRk (cs := rkz) rkz_size t2 _ rfl (rk_one _ _ _ _ _ _ _ _ _ _) rfl _ _ rfl rfl rfl ?_))
  clear t1 t2 hW tT tR
  obtain ⟨N7, hN7⟩ : ∃ N, u7.heap.size + 1 = N := ⟨_, rfl⟩
  rw [hN7] at HM7 ⊢
  clear hN7
  have h1 := next_any t (some ⟨ga, 0, none⟩) (some ⟨gb, 0, none⟩) ca cb L J w7 (hTb.later HX7.out.bel) (by omega) (by omega) (rdi_of_row HA7.out) (rdi_of_row HB7.out)
  rw [HT.out] at h1
  have hT1 := HX7.out.tr
  obtain ⟨d0, d1⟩ := BtAt.cells HG7.out
  go_wp2_with (refine rdT hT1 HT.out _ rfl rfl rfl ?_)
  refine h1.mono ?_
  rintro r u8 ⟨⟨vl, vj, vi, rfl, hNP⟩, hb2⟩
  obtain ⟨hl1, hl2, hl3, hl4⟩ := hNP
  rw [HEQ.out.2.1] at hl1
  rw [HEQ.out.2.2.1] at hl2
  rw [HEQ.out.2.2.2.1] at hl3
  rw [HEQ.out.1, HEQ.out.2.2.2.2.1, HEQ.out.2.2.2.2.2, HC.out]
  obtain ⟨p81, q81, rfl⟩ := owns_slice hl1
  obtain ⟨p82, q82, rfl⟩ := owns_slice hl2
  obtain ⟨p83, q83, rfl⟩ := owns_slice hl3
  obtain ⟨t1, t2, w8, hW, tT, tR, tB⟩ := two_boxes u8 n cn #[.int .i64 p, .slice p81 ll.length q81, .slice p82 lj.length q82, .slice p83 li.length q83] HC.out
  have hbb := hb2.trans (tB.mono hb2.size)
  have HM8 : Hid (Msg w7.heap.size w8.heap.size w8 (u8.heap.size + 1) p p81 p82 p83 q81 q82 q83 ll lj li) := Msg.mk' (owns_later hl1 tB) (owns_later hl2 tB) (owns_later hl3 tB) hl4 tR (by have := hb2.size; omega)
  have HBB8 : Hid (Below w7.heap.size w7 w8) := hbb
  have HX8 : Hid (TB w w8 B C0 t aL aJ L.length J.length cL cJ) := HX7.out.later hbb
  have HG8 : Hid (Gv w8 Bg ga gb L.length J.length ca cb) := BtAt.later HG7.out hbb
  have HA8 : Hid (w8.ownsRow sA 3 1 (.slice (some ⟨ga, 0, none⟩) (L.length + 1) ca) (L.length + 1) (i64s L ++ [.int .i64 (-71)])) := owns_later HA7.out hbb
  have HB8 : Hid (w8.ownsRow sB 3 1 (.slice (some ⟨gb, 0, none⟩) (J.length + 1) cb) (J.length + 1) (i64s J ++ [.int .i64 (-72)])) := owns_later HB7.out hbb
  clear h1 hT1 d0 d1 hb2 hl1 hl2 hl3 hl4 hbb tB
  go_upto_region 9 with (first | (refine stTc t1 HC.out rfl _ _ rfl rfl rfl ?_) | (refine stRw infoRk (cs := rkz) rkz_size t2 _ rfl (rk_one _ _ _ _ _ _ _ _ _ _) rfl _ _ rfl rfl rfl ?_))
  clear t1 t2 hW tT tR
  obtain ⟨N8, hN8⟩ : ∃ N, u8.heap.size + 1 = N := ⟨_, rfl⟩
  rw [hN8] at HM8 ⊢
  clear hN8
  clear HA5 HB5 HG5 HX5 HA6 HB6 HG6 HX6 HA7 HB7 HG7 HX7
  obtain ⟨x0, x1⟩ := HX8.out.bt.cells
  obtain ⟨y0, y1⟩ := BtAt.cells HG8.out
  have hs1 := Rs.same_any (some ⟨ga, 0, none⟩) aL ca cL L w8 (by omega) (rdi_of_row HA8.out) (rL.later HX8.out.bel)
  go_wp2_with fail
  refine hs1.mono ?_
  rintro e w12 ⟨rfl, hb12⟩
  clear x0 x1 y0 y1 hs1
  obtain ⟨x0, x1⟩ := (HX8.out.later hb12).bt.cells
  obtain ⟨y0, y1⟩ := BtAt.cells (BtAt.later HG8.out hb12)
  have hs2 := Rs.same_any (some ⟨gb, 0, none⟩) aJ cb cJ J w12 (by omega) (rdi_of_row (owns_later HB8.out hb12)) ((rJ.later HX8.out.bel).later hb12)
  go_wp2_with fail
  refine hs2.mono ?_
  rintro e w13 ⟨rfl, hb13⟩
  clear x0 x1 y0 y1 hs2
  have hb14 := hb12.trans (hb13.mono hb12.size)
  have hcA : w13.cell? ⟨ga, L.length, none⟩ = some (.int .i64 (-71)) := by
    have h1 := (owns_later HA8.out hb14).cellAt L.length (by omega)
    rw [List.getElem?_append_right (by simp), i64s_length, Nat.sub_self] at h1
    exact h1
  have hcB : w13.cell? ⟨gb, J.length, none⟩ = some (.int .i64 (-72)) := by
    have h1 := (owns_later HB8.out hb14).cellAt J.length (by omega)
    rw [List.getElem?_append_right (by simp), i64s_length, Nat.sub_self] at h1
    exact h1
  have i1 : (0 : Int) ≤ (L.length : Int) := by omega
  have i2 : (L.length : Int) < ((L.length + 1 : Nat) : Int) := by omega
  have i3 : (0 : Int) ≤ (J.length : Int) := by omega
  have i4 : (J.length : Int) < ((J.length + 1 : Nat) : Int) := by omega
  go_upto_region 11 with (fail)
  clear hcA hcB i1 i2 i3 i4 hb12 hb13
  have hSA : Slot w13 ga 3 (L.length + 1) := Slot.of_row (owns_later HA8.out hb14)
  have hSB : Slot w13 gb 3 (J.length + 1) := Slot.of_row (owns_later HB8.out hb14)
  have hG13 : Gv w13 Bg ga gb L.length J.length ca cb := BtAt.later HG8.out hb14
  have hB13 : Below w.heap.size w w13 := (HX8.out.later hb14).bel
  obtain ⟨s7, hs7⟩ : ∃ s, w6.heap.size = s := ⟨_, rfl⟩
  obtain ⟨s9, hs9⟩ : ∃ s, w7.heap.size = s := ⟨_, rfl⟩
  have HM6V : Hid (Msg w5.heap.size s7 w13 N6 p p61 p62 p63 q61 q62 q63 ll lj li) := hs7 ▸ ((HM6.out.later HBB7.out).later HBB8.out).later hb14
  have HM7V : Hid (Msg s7 s9 w13 N7 p p71 p72 p73 q71 q72 q73 ll lj li) := hs7 ▸ hs9 ▸ (HM7.out.later HBB8.out).later hb14
  have HM8V : Hid (Msg s9 w8.heap.size w13 N8 p p81 p82 p83 q81 q82 q83 ll lj li) := hs9 ▸ HM8.out.later hb14
  have HPC : Hid (PC w w13 s7 s9 N7 ga gb) := by
    have z0 := HX5W.out
    have z1 := HBB6.out.size
    have z2 := HBB8.out.size
    have z3 := hb14.size
    exact ⟨by omega, HWA.out, HWB.out, HM7V.out.ge, HM7V.out.lt, by omega⟩
  have HK6 : Hid (∀ W, Ke (Wb s7 s9 ga gb) w13 W → RdS W p61 ll ∧ RdS W p62 lj ∧ RdT W p63 li ∧ RkAt W N6 #[.int .i64 p, .slice p61 ll.length q61, .slice p62 lj.length q62, .slice p63 li.length q63]) := fun W hk => HM6V.out.ke hk hSA hSB (.inl (Nat.le_refl _))
  have HK8 : Hid (∀ W, Ke (Wb s7 s9 ga gb) w13 W → RdS W p81 ll ∧ RdS W p82 lj ∧ RdT W p83 li ∧ RkAt W N8 #[.int .i64 p, .slice p81 ll.length q81, .slice p82 lj.length q82, .slice p83 li.length q83]) := fun W hk => HM8V.out.ke hk hSA hSB (.inr (Nat.le_refl _))
  have HGV : Hid (∀ W, Ke (Wb s7 s9 ga gb) w13 W → Gv W Bg ga gb L.length J.length ca cb) := fun W hk => by
    refine (hk.block Bg (Array.getElem?_eq_some_iff.1 hG13).1 ?_).trans hG13
    have g2 : Slot w13 Bg 34 0 := ⟨_, hG13, Nat.zero_le _⟩
    have g3 := HBGL.out
    have g4 := HBB6.out.size
    rintro (h1 | rfl | rfl)
    · omega
    · exact slot_ne g2 hSA (by decide) rfl
    · exact slot_ne g2 hSB (by decide) rfl
  have HR0 : Hid (PM w w13 w13 s7 s9 N7 ga gb (L.length + 1) (J.length + 1) p (.slice p71 ll.length q71) (.slice p72 lj.length q72) (.slice p73 li.length q73) ll.length lj.length li.length) := ⟨Ke.refl _ _, hB13, hSA, hSB, HM7V.out.rk, ⟨_, HM7V.out.o1⟩, ⟨_, HM7V.out.o2⟩, ⟨_, HM7V.out.o3⟩, HM7V.out.ap⟩
  have HP1 : Hid (∀ g, (Value.slice p71 ll.length q71).ownBlock = some g → s7 ≤ g ∧ g < s9) := fun g e => HM7V.out.n1 g (blk1 e (own_zero HM7V.out.o1))
  have HP2 : Hid (∀ g, (Value.slice p72 lj.length q72).ownBlock = some g → s7 ≤ g ∧ g < s9) := fun g e => HM7V.out.n2 g (blk1 e (own_zero HM7V.out.o2))
  have HP3 : Hid (∀ g, (Value.slice p73 li.length q73).ownBlock = some g → s7 ≤ g ∧ g < s9) := fun g e => HM7V.out.n3 g (blk1 e (own_zero HM7V.out.o3))
  clear hSA hSB hG13 hB13 HM6 HM7 HM8 HM6V HM7V HM8V HBB6 HBB7 HBB8 hb14 hs7 hs9 HX8 HG8 HA8 HB8 HX5W HBGL HWA HWB
  obtain ⟨nl, hnl⟩ : ∃ x, ll.length = x := ⟨_, rfl⟩
  obtain ⟨nj, hnj⟩ : ∃ x, lj.length = x := ⟨_, rfl⟩
  obtain ⟨ni, hni⟩ : ∃ x, li.length = x := ⟨_, rfl⟩
  have HNL : Hid (ll.length = nl) := hnl
  have HNJ : Hid (lj.length = nj) := hnj
  have HNI : Hid (li.length = ni) := hni
  rw [hnl] at HR0 HP1 HLN ⊢
  rw [hnj] at HR0 HP2 HLN ⊢
  rw [hni] at HR0 HP3 HLN ⊢
  have hn64 : nl ≤ 64 := HLN.out.1
  have hn65 : nj ≤ 64 := HLN.out.2.1
  have hn66 : ni ≤ 4096 := HLN.out.2.2
  clear hnl hnj hni HLN
  obtain ⟨j0, hj0, hq0, hq1, hq2⟩ := infoSeat_parts
  obtain ⟨m0, hm0, hr0, hr1, hr2⟩ := infoItem_parts
  obtain ⟨y0, y1, y2⟩ := HR0.out.cells
  go_wp2_with fail
  clear y0 y1 y2
  go_loopw [113] (fun i wx => ∃ k : Nat, k ≤ ni ∧ i = .int .i64 (k : Int) ∧ PM w w13 wx s7 s9 N7 ga gb (L.length + 1) (J.length + 1) p (.slice p71 nl q71) (.slice p72 nj q72) (.slice p73 ni q73) nl nj ni) (fun i _ => ni - (intOf i).toNat)
  case atStart => exact ⟨0, by omega, rfl, HR0.out⟩
  case round =>
    obtain ⟨k, hk, rfl, hpa⟩ := hrel
    have HR : Hid (PM w w13 wr s7 s9 N7 ga gb (L.length + 1) (J.length + 1) p (.slice p71 nl q71) (.slice p72 nj q72) (.slice p73 ni q73) nl nj ni) := hpa
    clear hpa HR0
    by_cases hkN : k < ni
    · obtain ⟨xs, hrow⟩ := HR.out.oi
      obtain ⟨gl, hal, hcl⟩ := own_cells6 hrow hkN
      obtain ⟨⟨u0, c0⟩, f0⟩ := hcl 0 (by omega)
      obtain ⟨⟨u1, c1⟩, f1⟩ := hcl 1 (by omega)
      obtain ⟨⟨u2, c2⟩, f2⟩ := hcl 2 (by omega)
      obtain ⟨⟨u3, c3⟩, f3⟩ := hcl 3 (by omega)
      obtain ⟨⟨u4, c4⟩, f4⟩ := hcl 4 (by omega)
      obtain ⟨⟨u5, c5⟩, f5⟩ := hcl 5 (by omega)
      rw [Nat.add_zero] at c0 f0
      clear hcl
      have hPg : Wb s7 s9 ga gb gl := .inl (HP3.out gl (by rw [hal]; simp [Value.ownBlock]))
      have hwg : w.heap.size ≤ gl := Nat.le_trans HPC.out.ws (HP3.out gl (by rw [hal]; simp [Value.ownBlock])).1
      have hBg : N7 ≠ gl := fun e => own_ne hrow (bm_slot HR.out) (by decide) (by rw [hal, e]; simp [Value.ownBlock])
      have H2 : Hid (PM w w13 ((((((wr.setCell ⟨gl, k * 6, none⟩ (.int .i64 (-1))).setCell ⟨gl, k * 6 + 1, none⟩ (.int .i64 0)).setCell ⟨gl, k * 6 + 2, none⟩ (.int .i64 0)).setCell ⟨gl, k * 6 + 3, none⟩ (.int .i64 0)).setCell ⟨gl, k * 6 + 4, none⟩ (.int .i64 0)).setCell ⟨gl, k * 6 + 5, none⟩ (.int .i64 0)) s7 s9 N7 ga gb (L.length + 1) (J.length + 1) p (.slice p71 nl q71) (.slice p72 nj q72) (.slice p73 ni q73) nl nj ni) := HR.out.set6 hPg hwg hBg (k * 6) (k * 6 + 1) (k * 6 + 2) (k * 6 + 3) (k * 6 + 4) (k * 6 + 5) (.int .i64 (-1)) (.int .i64 0) (.int .i64 0) (.int .i64 0) (.int .i64 0) (.int .i64 0)
      obtain ⟨y0, y1, y2⟩ := HR.out.cells
      have i1 : (0 : Int) ≤ (k : Int) := by omega
      have i2 : (k : Int) < (ni : Int) := by omega
      clear hPg hwg hBg HR hrow
      have HAL : Hid (p73 = some ⟨gl, 0, none⟩) := hal
      rw [hal] at y2
      clear hal
      go_wp2_with fail
      go_roundw
      case rel => exact ⟨k + 1, by omega, by go_num, H2.out⟩
      case measure => simp [intOf]; omega
    · obtain rfl : ni = k := by omega
      have hdI : decide ((ni : Int) < (ni : Int)) = false := by simp
      obtain ⟨WI, hWL⟩ : ∃ W1, wr = W1 := ⟨_, rfl⟩
      rw [hWL] at HR ⊢
      have HRI : Hid (PM w w13 WI s7 s9 N7 ga gb (L.length + 1) (J.length + 1) p (.slice p71 nl q71) (.slice p72 nj q72) (.slice p73 ni q73) nl nj ni) := HR.out
      clear HR hWL
      obtain ⟨y0, y1, y2⟩ := HRI.out.cells
      go_wp2_with fail
      clear y0 y1 y2
      go_loopw [125] (fun i wx => ∃ k : Nat, k ≤ nl ∧ i = .int .i64 (k : Int) ∧ PM w w13 wx s7 s9 N7 ga gb (L.length + 1) (J.length + 1) p (.slice p71 nl q71) (.slice p72 nj q72) (.slice p73 ni q73) nl nj ni) (fun i _ => nl - (intOf i).toNat)
      case atStart => exact ⟨0, by omega, rfl, HRI.out⟩
      case round =>
        obtain ⟨k, hk, rfl, hpa⟩ := hrel
        have HR : Hid (PM w w13 wr s7 s9 N7 ga gb (L.length + 1) (J.length + 1) p (.slice p71 nl q71) (.slice p72 nj q72) (.slice p73 ni q73) nl nj ni) := hpa
        clear hpa HRI
        by_cases hkN : k < nl
        · obtain ⟨xs, hrow⟩ := HR.out.ol
          obtain ⟨gl, u0, u1, hal, c0, c1, f0, f1⟩ := own_cells hrow hkN
          have hPg : Wb s7 s9 ga gb gl := .inl (HP1.out gl (by rw [hal]; simp [Value.ownBlock]))
          have hwg : w.heap.size ≤ gl := Nat.le_trans HPC.out.ws (HP1.out gl (by rw [hal]; simp [Value.ownBlock])).1
          have hBg : N7 ≠ gl := fun e => own_ne hrow (bm_slot HR.out) (by decide) (by rw [hal, e]; simp [Value.ownBlock])
          have H2 : Hid (PM w w13 ((wr.setCell ⟨gl, k * 2, none⟩ (.int .i64 (-2))).setCell ⟨gl, k * 2 + 1, none⟩ (.int .i64 0)) s7 s9 N7 ga gb (L.length + 1) (J.length + 1) p (.slice p71 nl q71) (.slice p72 nj q72) (.slice p73 ni q73) nl nj ni) := HR.out.set2 hPg hwg hBg (k * 2) (k * 2 + 1) (.int .i64 (-2)) (.int .i64 0)
          obtain ⟨y0, y1, y2⟩ := HR.out.cells
          have i1 : (0 : Int) ≤ (k : Int) := by omega
          have i2 : (k : Int) < (nl : Int) := by omega
          clear hPg hwg hBg HR hrow
          have HAL : Hid (p71 = some ⟨gl, 0, none⟩) := hal
          rw [hal] at y0
          clear hal
          go_wp2_with fail
          go_roundw
          case rel => exact ⟨k + 1, by omega, by go_num, H2.out⟩
          case measure => simp [intOf]; omega
        · obtain rfl : nl = k := by omega
          have hdL : decide ((nl : Int) < (nl : Int)) = false := by simp
          obtain ⟨WL, hWL⟩ : ∃ W1, wr = W1 := ⟨_, rfl⟩
          rw [hWL] at HR ⊢
          have HRL : Hid (PM w w13 WL s7 s9 N7 ga gb (L.length + 1) (J.length + 1) p (.slice p71 nl q71) (.slice p72 nj q72) (.slice p73 ni q73) nl nj ni) := HR.out
          clear HR hWL
          obtain ⟨y0, y1, y2⟩ := HRL.out.cells
          go_wp2_with fail
          clear y0 y1 y2
          go_loopw [137] (fun i wx => ∃ k : Nat, k ≤ nj ∧ i = .int .i64 (k : Int) ∧ PM w w13 wx s7 s9 N7 ga gb (L.length + 1) (J.length + 1) p (.slice p71 nl q71) (.slice p72 nj q72) (.slice p73 ni q73) nl nj ni) (fun i _ => nj - (intOf i).toNat)
          case atStart => exact ⟨0, by omega, rfl, HRL.out⟩
          case round =>
            obtain ⟨k, hk, rfl, hpa⟩ := hrel
            have HR : Hid (PM w w13 wr s7 s9 N7 ga gb (L.length + 1) (J.length + 1) p (.slice p71 nl q71) (.slice p72 nj q72) (.slice p73 ni q73) nl nj ni) := hpa
            clear hpa HRL
            by_cases hkN : k < nj
            · obtain ⟨xs, hrow⟩ := HR.out.oj
              obtain ⟨gl, u0, u1, hal, c0, c1, f0, f1⟩ := own_cells hrow hkN
              have hPg : Wb s7 s9 ga gb gl := .inl (HP2.out gl (by rw [hal]; simp [Value.ownBlock]))
              have hwg : w.heap.size ≤ gl := Nat.le_trans HPC.out.ws (HP2.out gl (by rw [hal]; simp [Value.ownBlock])).1
              have hBg : N7 ≠ gl := fun e => own_ne hrow (bm_slot HR.out) (by decide) (by rw [hal, e]; simp [Value.ownBlock])
              have H2 : Hid (PM w w13 ((wr.setCell ⟨gl, k * 2, none⟩ (.int .i64 (-3))).setCell ⟨gl, k * 2 + 1, none⟩ (.int .i64 0)) s7 s9 N7 ga gb (L.length + 1) (J.length + 1) p (.slice p71 nl q71) (.slice p72 nj q72) (.slice p73 ni q73) nl nj ni) := HR.out.set2 hPg hwg hBg (k * 2) (k * 2 + 1) (.int .i64 (-3)) (.int .i64 0)
              obtain ⟨y0, y1, y2⟩ := HR.out.cells
              have i1 : (0 : Int) ≤ (k : Int) := by omega
              have i2 : (k : Int) < (nj : Int) := by omega
              clear hPg hwg hBg HR hrow
              have HAL : Hid (p72 = some ⟨gl, 0, none⟩) := hal
              rw [hal] at y1
              clear hal
              go_wp2_with fail
              go_roundw
              case rel => exact ⟨k + 1, by omega, by go_num, H2.out⟩
              case measure => simp [intOf]; omega
            · obtain rfl : nj = k := by omega
              have hdJ : decide ((nj : Int) < (nj : Int)) = false := by simp
              obtain ⟨WJ, hWL⟩ : ∃ W1, wr = W1 := ⟨_, rfl⟩
              rw [hWL] at HR ⊢
              have HRJ : Hid (PM w w13 WJ s7 s9 N7 ga gb (L.length + 1) (J.length + 1) p (.slice p71 nl q71) (.slice p72 nj q72) (.slice p73 ni q73) nl nj ni) := HR.out
              clear HR hWL
              obtain ⟨xs, hrow⟩ := HRJ.out.oi
              obtain ⟨y0, y1, y2⟩ := HRJ.out.cells
              have hs7 : s7 ≤ WJ.heap.size := Nat.le_trans (Nat.le_trans (Nat.le_of_lt (Nat.lt_of_le_of_lt HPC.out.b7 HPC.out.b9)) HPC.out.v9) HRJ.out.ke.size
              go_upto_region 27 with (at_builtin; (refine wpList_append_own_at _ rfl _ _ 37 rfl s7 61 m0 (.agg #[.int .i64 0, .int .i64 0, .int .i64 0, .int .i64 0, .int .i64 0, .int .i64 0]) 6 48 Tryd.underlying37 hm0 hr0 hr1 hr2 rfl (by decide) (.slice p73 ni q73) ni xs rfl (hrow.alloc _) ⟨WJ.heap.size, 0, none⟩ 1 1 [.int .i64 (-4), .int .i64 0, .int .i64 0, .int .i64 0, .int .i64 0, .int .i64 0] rfl rfl (cell_six_new _ _ _ _ _ _ _ _) (by simp [Value.oneCell']) (by unfold maxLen; omega) (by omega) (by simp; omega) ?_); intro v3 u3 hown hgr _ hat; obtain ⟨av, cv, rfl⟩ := owns_slice hown; have hb3 := (grown_lt hgr HRJ.out.lt (own_ne hrow (bm_slot HRJ.out) (by decide))).trans HRJ.out.bm; have hc3 := cell_of_row u3 N7 3 _ _ _ hb3; have hf3 := Rs.row_frozen hb3 3)
              have HRA : Hid (PM w w13 (u3.setCell ⟨N7, 3, none⟩ (.slice av (ni + 1) cv)) s7 s9 N7 ga gb (L.length + 1) (J.length + 1) p (.slice p71 nl q71) (.slice p72 nj q72) (.slice av (ni + 1) cv) nl nj (ni + 1)) := HRJ.out.appI HPC.out hrow hown hgr (fun g e => (HP3.out g e).2)
              clear hown hgr hat hb3 hc3 hf3 y0 y1 y2 hrow hs7 HRJ
              generalize u3.setCell ⟨N7, 3, none⟩ (.slice av (ni + 1) cv) = WA at *
              obtain ⟨vi9, hvi9⟩ : ∃ v, Value.slice av (ni + 1) cv = v := ⟨_, rfl⟩
              rw [hvi9] at HRA
              clear hvi9
              obtain ⟨xs, hrow⟩ := HRA.out.ol
              obtain ⟨y0, y1, y2⟩ := HRA.out.cells
              have hs7 : s7 ≤ WA.heap.size := Nat.le_trans (Nat.le_trans (Nat.le_of_lt (Nat.lt_of_le_of_lt HPC.out.b7 HPC.out.b9)) HPC.out.v9) HRA.out.ke.size
              go_upto_region 28 with (at_builtin; (refine wpList_append_own_at _ rfl _ _ 36 rfl s7 48 j0 (.agg #[.int .i64 0, .int .i64 0]) 2 16 Tryd.underlying36 hj0 hq0 hq1 hq2 rfl (by decide) (.slice p71 nl q71) nl xs rfl (hrow.alloc _) ⟨WA.heap.size, 0, none⟩ 1 1 [.int .i64 (-5), .int .i64 0] rfl rfl (cell_two_new _ _ _ _) (by simp [Value.oneCell']) (by unfold maxLen; omega) (by omega) (by simp; omega) ?_); intro v3 u3 hown hgr _ hat; obtain ⟨av, cv, rfl⟩ := owns_slice hown; have hb3 := (grown_lt hgr HRA.out.lt (own_ne hrow (bm_slot HRA.out) (by decide))).trans HRA.out.bm; have hc3 := cell_of_row u3 N7 1 _ _ _ hb3; have hf3 := Rs.row_frozen hb3 1)
              have HRB : Hid (PM w w13 (u3.setCell ⟨N7, 1, none⟩ (.slice av (nl + 1) cv)) s7 s9 N7 ga gb (L.length + 1) (J.length + 1) p (.slice av (nl + 1) cv) (.slice p72 nj q72) vi9 (nl + 1) nj (ni + 1)) := HRA.out.appL HPC.out hrow hown hgr hat (fun g e => (HP1.out g e).2)
              clear hown hgr hat hb3 hc3 hf3 y0 y1 y2 hrow hs7 HRA
              generalize u3.setCell ⟨N7, 1, none⟩ (.slice av (nl + 1) cv) = WB at *
              obtain ⟨vl9, hvl9⟩ : ∃ v, Value.slice av (nl + 1) cv = v := ⟨_, rfl⟩
              rw [hvl9] at HRB
              clear hvl9
              obtain ⟨xs, hrow⟩ := HRB.out.oj
              obtain ⟨y0, y1, y2⟩ := HRB.out.cells
              have hs7 : s7 ≤ WB.heap.size := Nat.le_trans (Nat.le_trans (Nat.le_of_lt (Nat.lt_of_le_of_lt HPC.out.b7 HPC.out.b9)) HPC.out.v9) HRB.out.ke.size
              go_upto_region 29 with (at_builtin; (refine wpList_append_own_at _ rfl _ _ 36 rfl s7 48 j0 (.agg #[.int .i64 0, .int .i64 0]) 2 16 Tryd.underlying36 hj0 hq0 hq1 hq2 rfl (by decide) (.slice p72 nj q72) nj xs rfl (hrow.alloc _) ⟨WB.heap.size, 0, none⟩ 1 1 [.int .i64 (-6), .int .i64 0] rfl rfl (cell_two_new _ _ _ _) (by simp [Value.oneCell']) (by unfold maxLen; omega) (by omega) (by simp; omega) ?_); intro v3 u3 hown hgr _ hat; obtain ⟨av, cv, rfl⟩ := owns_slice hown; have hb3 := (grown_lt hgr HRB.out.lt (own_ne hrow (bm_slot HRB.out) (by decide))).trans HRB.out.bm; have hc3 := cell_of_row u3 N7 2 _ _ _ hb3; have hf3 := Rs.row_frozen hb3 2)
              have HRC : Hid (∃ gj c, Value.slice av (nj + 1) cv = .slice (some ⟨gj, 0, none⟩) (nj + 1) c ∧ PE w w13 (u3.setCell ⟨N7, 2, none⟩ (.slice av (nj + 1) cv)) s7 s9 N7 ga gb (L.length + 1) (J.length + 1) #[.int .i64 p, vl9, .slice av (nj + 1) cv, vi9] gj (nj * 2) (.int .i64 (-6))) := HRB.out.appJ HPC.out hrow hown hgr (fun g e => (HP2.out g e).2)
              clear hown hgr hat hb3 hc3 hf3 y0 y1 y2 hrow hs7 HRB
              generalize u3.setCell ⟨N7, 2, none⟩ (.slice av (nj + 1) cv) = WC at *
              obtain ⟨gj, cgj, hgj, hpe⟩ := HRC.out
              obtain ⟨rfl, rfl⟩ : av = some ⟨gj, 0, none⟩ ∧ cv = cgj := by simpa using hgj
              have HPE : Hid (PE w w13 WC s7 s9 N7 ga gb (L.length + 1) (J.length + 1) #[.int .i64 p, vl9, .slice (some ⟨gj, 0, none⟩) (nj + 1) cv, vi9] gj (nj * 2) (.int .i64 (-6))) := hpe
              clear hpe hgj HRC
              obtain ⟨y0, y1⟩ := BtAt.cells (HGV.out _ HPE.out.ke)
              go_wp2_with fail
              clear y0 y1
              go_loopw [167] (fun i wx => ∃ k : Nat, k ≤ L.length ∧ i = .int .i64 (k : Int) ∧ PE w w13 wx s7 s9 N7 ga gb (L.length + 1) (J.length + 1) #[.int .i64 p, vl9, .slice (some ⟨gj, 0, none⟩) (nj + 1) cv, vi9] gj (nj * 2) (.int .i64 (-6))) (fun i _ => L.length - (intOf i).toNat)
              case atStart => exact ⟨0, by omega, rfl, HPE.out⟩
              case round =>
                obtain ⟨k, hk, rfl, hpa⟩ := hrel
                have HR : Hid (PE w w13 wr s7 s9 N7 ga gb (L.length + 1) (J.length + 1) #[.int .i64 p, vl9, .slice (some ⟨gj, 0, none⟩) (nj + 1) cv, vi9] gj (nj * 2) (.int .i64 (-6))) := hpa
                clear hpa HPE
                by_cases hkN : k < L.length
                · obtain ⟨⟨u0, c0⟩, f0⟩ := HR.out.sa.cell (j := k) (by omega)
                  obtain ⟨y0, y1⟩ := BtAt.cells (HGV.out _ HR.out.ke)
                  have H2 : Hid (PE w w13 (wr.setCell ⟨ga, k, none⟩ (.int .i64 (-8))) s7 s9 N7 ga gb (L.length + 1) (J.length + 1) #[.int .i64 p, vl9, .slice (some ⟨gj, 0, none⟩) (nj + 1) cv, vi9] gj (nj * 2) (.int .i64 (-6))) := HR.out.setI HR.out.sa (.inr (.inl rfl)) HPC.out.wa k (.int .i64 (-8))
                  have i1 : (0 : Int) ≤ (k : Int) := by omega
                  have i2 : (k : Int) < (L.length : Int) := by omega
                  clear HR
                  go_wp2_with fail
                  go_roundw
                  case rel => exact ⟨k + 1, by omega, by go_num, H2.out⟩
                  case measure => simp [intOf]; omega
                · obtain rfl : L.length = k := by omega
                  have hdY : decide ((L.length : Int) < (L.length : Int)) = false := by simp
                  obtain ⟨WY, hWL⟩ : ∃ W1, wr = W1 := ⟨_, rfl⟩
                  rw [hWL] at HR ⊢
                  have HRY : Hid (PE w w13 WY s7 s9 N7 ga gb (L.length + 1) (J.length + 1) #[.int .i64 p, vl9, .slice (some ⟨gj, 0, none⟩) (nj + 1) cv, vi9] gj (nj * 2) (.int .i64 (-6))) := HR.out
                  clear HR hWL
                  obtain ⟨y0, y1⟩ := BtAt.cells (HGV.out _ HRY.out.ke)
                  go_wp2_with fail
                  clear y0 y1
                  go_loopw [178] (fun i wx => ∃ k : Nat, k ≤ J.length ∧ i = .int .i64 (k : Int) ∧ PE w w13 wx s7 s9 N7 ga gb (L.length + 1) (J.length + 1) #[.int .i64 p, vl9, .slice (some ⟨gj, 0, none⟩) (nj + 1) cv, vi9] gj (nj * 2) (.int .i64 (-6))) (fun i _ => J.length - (intOf i).toNat)
                  case atStart => exact ⟨0, by omega, rfl, HRY.out⟩
                  case round =>
                    obtain ⟨k, hk, rfl, hpa⟩ := hrel
                    have HR : Hid (PE w w13 wr s7 s9 N7 ga gb (L.length + 1) (J.length + 1) #[.int .i64 p, vl9, .slice (some ⟨gj, 0, none⟩) (nj + 1) cv, vi9] gj (nj * 2) (.int .i64 (-6))) := hpa
                    clear hpa HRY
                    by_cases hkN : k < J.length
                    · obtain ⟨⟨u0, c0⟩, f0⟩ := HR.out.sb.cell (j := k) (by omega)
                      obtain ⟨y0, y1⟩ := BtAt.cells (HGV.out _ HR.out.ke)
                      have H2 : Hid (PE w w13 (wr.setCell ⟨gb, k, none⟩ (.int .i64 (-9))) s7 s9 N7 ga gb (L.length + 1) (J.length + 1) #[.int .i64 p, vl9, .slice (some ⟨gj, 0, none⟩) (nj + 1) cv, vi9] gj (nj * 2) (.int .i64 (-6))) := HR.out.setI HR.out.sb (.inr (.inr rfl)) HPC.out.wb k (.int .i64 (-9))
                      have i1 : (0 : Int) ≤ (k : Int) := by omega
                      have i2 : (k : Int) < (J.length : Int) := by omega
                      clear HR
                      go_wp2_with fail
                      go_roundw
                      case rel => exact ⟨k + 1, by omega, by go_num, H2.out⟩
                      case measure => simp [intOf]; omega
                    · obtain rfl : J.length = k := by omega
                      have hdZ : decide ((J.length : Int) < (J.length : Int)) = false := by simp
                      obtain ⟨WZ, hWL⟩ : ∃ W1, wr = W1 := ⟨_, rfl⟩
                      rw [hWL] at HR ⊢
                      have HRZ : Hid (PE w w13 WZ s7 s9 N7 ga gb (L.length + 1) (J.length + 1) #[.int .i64 p, vl9, .slice (some ⟨gj, 0, none⟩) (nj + 1) cv, vi9] gj (nj * 2) (.int .i64 (-6))) := HR.out
                      clear HR hWL
                      obtain ⟨e1, e2, e3, e4⟩ := HK8.out _ HRZ.out.ke
                      obtain ⟨f1, f2, f3, f4⟩ := HK6.out _ HRZ.out.ke
                      have hsm := same_any p p81 p82 p83 p61 p62 p63 q81 q82 q83 q61 q62 q63 ll lj li WZ (by rw [HNL.out]; omega) (by rw [HNJ.out]; omega) (by rw [HNI.out]; omega) e1 e2 e3 f1 f2 f3
                      rw [HNL.out, HNJ.out, HNI.out] at hsm e4 f4
                      obtain ⟨x0, x1, x2, x3⟩ := e4.cells
                      obtain ⟨y0, y1, y2, y3⟩ := f4.cells
                      clear e1 e2 e3 e4 f1 f2 f3 f4
                      go_wp2_with fail
                      refine hsm.mono ?_
                      rintro r u9 ⟨rfl, hb9⟩
                      clear hsm x0 x1 x2 x3 y0 y1 y2 y3
                      have z1 := Rs.cell_later hb9 (cell_of_row WZ N7 2 _ _ _ HRZ.out.bm)
                      have z2 := Rs.cell_later hb9 HRZ.out.la
                      have hB9 := HRZ.out.bel.trans (hb9.mono HRZ.out.bel.size)
                      have i3 : (0 : Int) ≤ (nj : Int) := by omega
                      have i4 : (nj : Int) < ((nj + 1 : Nat) : Int) := by omega
                      clear HRZ hb9
                      go_wp2_with fail
                      go_ret
                      exact ⟨rfl, hB9⟩
theorem own : ownKnob Tryd.prog.godebug = none := by kernel_rfl
theorem laidOut : laidOutB Tryd.prog = true := by kernel_rfl
set_option maxRecDepth 20000 in
theorem contract (H : Type) (enc : TypeId × Value → H) (W : World) (base : Nat) (args : Array Value) (ds gs : List (DataW H)) (before : List MemPlace)
    (hval : ∀ (j : Nat) t v, Tryd.f5.params[j]? = some t → args[j]? = some v → Value.okWide Tryd.prog W .any base t v)
    (hW : DataW.Whole enc Tryd.prog Tryd.f5.params.toList Rows.planMemorySpec.vars false W args.toList ds gs before)
    (hsz : (DataW.weightsEach Tryd.prog (Tryd.f5.params.toList ++ Rows.planMemorySpec.plain.varTypes Tryd.prog) (ds ++ gs)).all (· ≤ reachBytes) = true)
    (hL : laidMetH Tryd.prog Rows.planMemoryRow.laid W) :
    Calls Tryd.prog 5 args W fun e W' => ∃ v, e = .returned v ∧ Rows.planMemorySpec.post enc Tryd.prog Tryd.f5 false true false false W args v W' := by
  have hv := vs_of hL
  have hW' := hW
  obtain ⟨p, q, hA0, hV, rfl, hfz, hnd⟩ := hW
  have hA : DataW.TrodAll enc Tryd.prog W 0 (fun _ => true) true Tryd.f5.params.toList args.toList ds p := hA0
  rw [Tryd.params5] at hA hval hsz
  obtain ⟨v0, vs0, d0, ds0, p0, q0, hargs, rfl, rfl, h0, r0⟩ := trodAll_cons hA
  obtain ⟨v1, vs1, d1, ds1, p1, q1, rfl, rfl, rfl, h1, r1⟩ := trodAll_cons r0
  obtain ⟨rfl, rfl, rfl⟩ := trodAll_nil r1
  obtain rfl : args = #[v0, v1] := by cases args; simp_all
  obtain ⟨rfl, rfl⟩ := trodVars_none hV
  have k0 := h0
  have lt0 : ∀ x ∈ p0, x.block < W.heap.size := by obtain ⟨m, hm⟩ := k0; exact DataW.trod_lt m _ _ _ hm
  obtain ⟨f0, rfl⟩ := open_tr (hval 0 31 v0 rfl rfl) h0
  have k1 := h1
  have lt1 : ∀ x ∈ p1, x.block < W.heap.size := by obtain ⟨m, hm⟩ := k1; exact DataW.trod_lt m _ _ _ hm
  obtain ⟨aL1, aJ1, cL1, cJ1, L1, J1, rfl, rL1, rJ1, lL1, lJ1⟩ := open_bt (fun parts e => sized_agg hsz (j := 1) (t := 34) rfl (by rw [← e]; rfl) Tryd.underlying34) (hval 1 34 v1 rfl rfl) h1
  clear hA0
  refine (walk f0 aL1 aJ1 cL1 cJ1 L1 J1 W rL1 rJ1 lL1 lJ1 hv).mono fun e W' ⟨he, bel⟩ => ?_
  subst he
  exact ⟨_, rfl, _, _, _, [], _, [], hW', trodAll_mk1 (shut_bool Tryd.underlying4 _), (trodAll_cons_mk (Below.trod laidOut (by kernel_rfl) (of_decide_eq_true (by kernel_rfl)) k0 bel lt0) (trodAll_cons_mk (Below.trod laidOut (by kernel_rfl) (of_decide_eq_true (by kernel_rfl)) k1 bel lt1) trodAll_mk0)), rfl, bel.frame _, fun h => by cases h⟩
set_option maxRecDepth 100000 in
theorem laid_met (os : Os) : laidMet Tryd.prog Rows.planMemoryRow.laid ((laidWorld os).forCall (fun _ _ => 0) ⟨#[], #[.agg (tcs (tz 0)), .agg #[.slice none 0 0, .slice none 0 0]], []⟩).memory :=
  laidMet_of_run' 8 (by kernel_rfl) (by kernel_rfl)
set_option maxRecDepth 100000 in
theorem reads (os : Os) {H : Type} (enc : TypeId × Value → H) : ∃ places, DataW.whole enc Tryd.prog ((laidWorld os).forCall (fun _ _ => 0) ⟨#[], #[.agg (tcs (tz 0)), .agg #[.slice none 0 0, .slice none 0 0]], []⟩).memory Tryd.f5.params.toList Rows.planMemorySpec.vars false (#[.agg (tcs (tz 0)), .agg #[.slice none 0 0, .slice none 0 0]] : Array Value).toList 8 = some ([trD, .agg [.nil, .nil]], [], places) :=
  ⟨[], by kernel_rfl⟩
set_option maxRecDepth 100000 in
theorem lifted (os : Os) (started : os.Started) (H : Type) (enc : TypeId × Value → H) (F : Stop.Interp) :
    ReturnsInHanded {} Tryd.checked os 5 .any ((OpenSpec.ofChange Rows.planMemorySpec).preRow enc Tryd.prog Tryd.f5 Rows.planMemoryRow.domain false Rows.planMemoryRow.laid) (((OpenSpec.ofChange Rows.planMemorySpec).at F).post enc Tryd.prog Tryd.f5 false true false false) := by
  obtain ⟨places, hx⟩ := reads os enc
  refine returnsInHanded_of_row (C := Tryd.checked) (s := (OpenSpec.ofChange Rows.planMemorySpec)) own started (by kernel_rfl) Tryd.func5
    (witness_row_at (enc := enc) (C := Tryd.checked) false (laidWorld os) #[.agg (tcs (tz 0)), .agg #[.slice none 0 0, .slice none 0 0]] rfl (by kernel_rfl) (by kernel_rfl) (by kernel_rfl)
      (OpenSpec.preRow_of_cond 8 hx (by kernel_rfl) (fun k hk => by cases hk) (by kernel_rfl) (laid_met os))) ?_
  intro W base args ds gs before hval hW hc1 hc2 hsz hL hsh _
  exact contract H enc W base args ds gs before hval hW hsz hL
theorem said : Rows.PlanMemorySaid :=
  OpenClaim.holds_of_cond 5 Tryd.f5 rfl rfl rfl rfl rfl rfl rfl ⟨rfl, rfl, rfl, rfl, rfl⟩ rfl rfl rfl rfl rfl (by kernel_rfl) Tryd.func5 (by kernel_rfl)
    (of_decide_eq_true (by kernel_rfl)) (by unfold Func.isWrapper; first | (rw [if_pos (by decide +kernel)]; kernel_rfl) | (rw [if_neg (by decide +kernel)]; exact ⟨rfl, rfl⟩))
    (fun os started H enc _ F => by rw [OpenClaim.pre_eq_preRow]; exact lifted os started H enc F)
theorem plain (f : FuncId) (fn : Func) (hf : Tryd.pinned.checked.prog.funcNamed "coterie/coterielaw12.PlanMemory" = some f) (hfn : Tryd.pinned.checked.prog.funcs[f]? = some fn) :
    false = Tryd.pinned.checked.prog.looks [] ∧ ∀ (j : Nat) t, fn.params[j]? = some t → Tryd.pinned.checked.prog.wantsStandIn t = false := by
  obtain rfl : f = 5 := Option.some.inj ((show Tryd.prog.funcNamed "coterie/coterielaw12.PlanMemory" = some 5 by kernel_rfl).symm.trans hf) |>.symm
  obtain rfl : fn = Tryd.f5 := (Option.some.inj (Tryd.func5.symm.trans hfn)).symm
  refine ⟨by kernel_rfl, fun j t ht => ?_⟩
  rw [Tryd.params5] at ht
  have h31 : Tryd.prog.wantsStandIn 31 = false := by kernel_rfl
  have h34 : Tryd.prog.wantsStandIn 34 = false := by kernel_rfl
  have hm := Array.mem_of_getElem? ht
  simp at hm
  rcases hm with rfl | rfl
  · exact h31
  · exact h34
end Go.Proofs.YtedbnamekfgmhabDoor.planMemory
namespace Go.Proofs.YtedbnamekfgmhabDoor
theorem planMemory_holds : Rows.PlanMemoryCardSaid :=
  Claim7.holds_tied_plain_at .later [] _ _ _ _ planMemory.said (fun _ h => by cases h) (by kernel_rfl) (fun _ h => by cases h) planMemory_row_tie rfl ⟨rfl, rfl⟩ (by kernel_rfl) rfl planMemory.plain (by kernel_rfl)
#print axioms planMemory_holds
end Go.Proofs.YtedbnamekfgmhabDoor
