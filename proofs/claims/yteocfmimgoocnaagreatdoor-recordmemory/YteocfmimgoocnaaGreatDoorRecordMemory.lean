/- For every tree and every batch: Of of package record leaves the batch's lists as they are, and what Of and Read answer is new memory: RecordMemory, in its first form (the listed variable as the program's text lays it), and the card. -/
import Derived.Test.YteocfmimgoocnaaGreatDoorCards
import Derived.Test.YteocfmimgoocnaaGreatDoorTie
import Derived.Test.YteocfmimgoocnaaGreatDoorRcV
import Derived.Test.YteocfmimgoocnaaGreatDoorRcJ3
import Derived.Test.YteocfmimgoocnaaGreatDoorRsK
import Derived.Test.YteocfmimgoocnaaGreatDoorOpenTr
import Derived.WalkKit
import Derived.ProofKit
import Derived.OpenShut
import Derived.Deep.RegionHeld3
import Derived.Deep.DeepHandedRow
import Derived.Deep.DeepWitnessRowRef
import Derived.SizedLaws
namespace Go.Proofs.YteocfmimgoocnaaGreatDoor.recordMemory
open Go.ChangeShapes Go.WideShapes Go.ChangeAt Go.RowKit Go.Maps Go.Shelf
open Rs hiding infoSeat_parts RdS owns_rd
open Rc
set_option linter.unusedVariables false
set_option linter.unusedSimpArgs false

theorem vs_of {W : World} (hL : laidMetH Tryz.prog Rows.recordMemoryRow.laid W) : Tb W := tb_of (show laidMet Tryz.prog Rows.recordMemoryRow.laid W from hL)
def trD {H : Type} : DataW H := .agg [.lit (.int .i64 0), .lit (.int .i64 0), .agg (List.replicate 21 (.agg [.lit (.int .i64 0), .lit (.int .i64 0)])), roD]
theorem ok_nil : okR (Bt.tb (Bt.bys (Bt.tx []))) = false := by decide
/- What is written is read again. -/
theorem wr_q (e f : Int) (L : List Int) (J : List (Int × Int)) : rdE (Bt.tb (Bt.bys (wrS e f L J))) = wrE e f L J ∧ (wrE e f L J = 0 → qEp (Bt.tb (Bt.bys (wrS e f L J))) = e ∧ qFr (Bt.tb (Bt.bys (wrS e f L J))) = f ∧ qLv (Bt.tb (Bt.bys (wrS e f L J))) = L ∧ qJn (Bt.tb (Bt.bys (wrS e f L J))) = J) ∧ ((qLv (Bt.tb (Bt.bys (wrS e f L J)))).length ≤ L.length ∧ (qJn (Bt.tb (Bt.bys (wrS e f L J)))).length ≤ J.length) ∧ (wrS e f L J).size < 1125899906842624 := by
  cases hr : rgt e f L J with
  | true =>
    obtain ⟨o, a, b, c, d⟩ := wr_rd hr
    have hsz := wr_size hr
    rw [bits_flds] at hsz
    have hR := rgt_iff.1 hr
    have h1 := hR.l1
    have h2 := hR.j1
    unfold rdE qEp qFr qLv qJn wrE
    rw [o, hr, a, b, c, d]
    exact ⟨rfl, fun _ => ⟨rfl, rfl, rfl, rfl⟩, ⟨Nat.le_refl _, Nat.le_refl _⟩, by omega⟩
  | false =>
    have hs : wrS e f L J = Bt.tx [] := by unfold wrS; rw [hr]; rfl
    rw [hs]
    unfold rdE qEp qFr qLv qJn wrE
    rw [ok_nil, hr]
    refine ⟨rfl, fun h => ?_, ⟨Nat.zero_le _, Nat.zero_le _⟩, ?_⟩
    · simp at h
    · decide
def Gv (W : World) (B ga gb nL nJ ca cb : Nat) : Prop := BtAt W B (some ⟨ga, 0, none⟩) (some ⟨gb, 0, none⟩) nL nJ ca cb
set_option maxRecDepth 100000 in
set_option maxHeartbeats 8000000 in
theorem walk (t : Tr) (aL aJ : Option Addr) (cL cJ : Nat) (L J : List Int) (w : World) (rL : RdI w aL L) (rJ : RdI w aJ J) (lL : L.length * 8 ≤ 140737488351232) (lJ : J.length * 8 ≤ 140737488351232) (hTb : Tb w) :
    Calls Tryz.prog 6 #[.agg (tcs t), .agg #[.slice aL L.length cL, .slice aJ J.length cJ] ] w fun e w' => e = .returned (.bool true) ∧ Below w.heap.size w w' := by
  have hX := TB.new w t aL aJ L.length J.length cL cJ
  have hl := lives_any _ (hTb.later hX.bel)
  have HO1 : Hid (∀ W a b k m, Below w.heap.size w W → RdI W a L → RdI W b J → Calls Tryz.prog 8 #[.agg (tcs t), .agg #[.slice a L.length k, .slice b J.length m] ] W fun r w' => OfA W w' t L J r ∧ Below W.heap.size W w') := fun W a b k m hW ha hb => of_any t a b k m L J W (hTb.later hW) (by omega) (by omega) ha hb
  have HO2 : Hid (∀ W, Below w.heap.size w W → Calls Tryz.prog 9 #[.agg (tcs t), .agg #[.slice aL L.length cL, .slice aJ J.length cJ] ] W fun r w' => ROfA W w' t aL L J r ∧ Below W.heap.size W w') := fun W hW => Rc.rOf_any t aL aJ cL cJ L J W (by omega) (by omega) (rL.later hW) (rJ.later hW)
  have HWL : Hid (∀ w' a4, (a4 = aL ∨ a4 = none) → RdI w' a4 (oLv t L J) → ∀ W, Below w.heap.size w W → RdI W a4 (oLv t L J)) := fun w' a4 h r => wantL h r rL
  have HWT : Hid (∀ W a b k m, RdI W a (oLv t L J) → RdP W b (pnJ t L J) → Calls Tryz.prog 16 #[.agg #[.int .i64 (pnT t L J).ep, .int .i64 (pnT t L J).fr, .slice a (oLv t L J).length k, .slice b (pnJ t L J).length m] ] W fun r w' => r = .returned (.tuple #[.string (wrS (pnT t L J).ep (pnT t L J).fr (oLv t L J) (pnJ t L J)), .int .i64 (wrE (pnT t L J).ep (pnT t L J).fr (oLv t L J) (pnJ t L J))]) ∧ Below W.heap.size W w') := fun W a b k m ha hb => write_any _ _ a b k m _ _ W ha hb
  have HQ : Hid _ := wr_q (pnT t L J).ep (pnT t L J).fr (oLv t L J) (pnJ t L J)
  have HRD : Hid (∀ W, Calls Tryz.prog 17 #[.string (wrS (pnT t L J).ep (pnT t L J).fr (oLv t L J) (pnJ t L J))] W fun r w' => RdRec W w' (Bt.tb (Bt.bys (wrS (pnT t L J).ep (pnT t L J).fr (oLv t L J) (pnJ t L J)))) r) := fun W => read_any _ W HQ.out.2.2.2
  have HLEN : Hid ((oLv t L J).length * 8 ≤ 140737488351232 ∧ (pnJ t L J).length ≤ 64) := ⟨by unfold oLv; split <;> (first | (simp; done) | omega), pnJ_len t L J⟩
  unfold OfA recA at HO1
  unfold ROfA at HO2
  unfold RdRec at HRD
  have HRP : Hid (∀ {X Y : World} {vL vJ : Value}, RecP X Y t L J vL vJ → Y.ownsRow X.heap.size 3 1 vL (oLv t L J).length (i64s (oLv t L J)) ∧ Y.ownsRow X.heap.size 62 2 vJ (pnJ t L J).length (ps (pnJ t L J))) := fun h => ⟨h.lv, h.jn⟩
  have hQ := HQ.out
  clear HQ
  obtain ⟨ct, hct⟩ : ∃ c, tcs t = c := ⟨_, rfl⟩
  have HT : Hid (tcs t = ct) := hct
  rw [hct] at HO1 HO2
  obtain ⟨E2, hE2⟩ : ∃ e, wrE (pnT t L J).ep (pnT t L J).fr (oLv t L J) (pnJ t L J) = e := ⟨_, rfl⟩
  obtain ⟨s, hs⟩ : ∃ s, wrS (pnT t L J).ep (pnT t L J).fr (oLv t L J) (pnJ t L J) = s := ⟨_, rfl⟩
  simp only [hs, hE2] at HWT HRD hQ
  obtain ⟨T, hT⟩ : ∃ T, Bt.tb (Bt.bys s) = T := ⟨_, rfl⟩
  simp only [hT] at HRD hQ
  simp only [hQ.1] at HRD
  obtain ⟨x3, hx3⟩ : ∃ e, qEp T = e := ⟨_, rfl⟩
  obtain ⟨y3, hy3⟩ : ∃ e, qFr T = e := ⟨_, rfl⟩
  obtain ⟨l3, hl3⟩ : ∃ e, qLv T = e := ⟨_, rfl⟩
  obtain ⟨j3, hj3⟩ : ∃ e, qJn T = e := ⟨_, rfl⟩
  simp only [hx3, hy3, hl3, hj3] at HRD hQ
  obtain ⟨x, hx⟩ : ∃ e, (pnT t L J).ep = e := ⟨_, rfl⟩
  obtain ⟨y, hy⟩ : ∃ e, (pnT t L J).fr = e := ⟨_, rfl⟩
  obtain ⟨E, hE⟩ : ∃ e, plE t L J = e := ⟨_, rfl⟩
  obtain ⟨lj, hlj⟩ : ∃ l, pnJ t L J = l := ⟨_, rfl⟩
  obtain ⟨lo, hlo⟩ : ∃ l, oLv t L J = l := ⟨_, rfl⟩
  simp only [hx, hy, hE, hlj, hlo] at HO1 HO2 HWL HWT HRD HRP hQ
  rw [hlo, hlj] at HLEN
  have HQ : Hid ((E2 = 0 → x3 = x ∧ y3 = y ∧ l3 = lo ∧ j3 = lj) ∧ l3.length ≤ lo.length ∧ j3.length ≤ lj.length) := ⟨hQ.2.1, hQ.2.2.1⟩
  clear hct hE2 hs hT hx3 hy3 hl3 hj3 hx hy hE hlj hlo hQ hTb
  obtain ⟨i0, hi, hz0, hz1, hz2⟩ := info_parts infoInt
  go_enter Tryz.func6, Tryz.ntmps6
  go_upto_region 1 with (fail)
  generalize (w.alloc (.cells (tcs t) 31)).alloc (.cells #[.slice aL L.length cL, .slice aJ J.length cJ] 34) = w0 at *
  rw [HT.out]
  obtain ⟨C0, hC⟩ : ∃ C, w.heap.size + 1 = C := ⟨_, rfl⟩
  obtain ⟨B, hB⟩ : ∃ B, w.heap.size = B := ⟨_, rfl⟩
  rw [hC, hB] at hX
  rw [hC, hB]
  clear hC hB
  go_wp2_with fail
  refine hl.mono ?_
  rintro r w2 ⟨rfl, hb1⟩
  have hX2 := hX.later hb1
  clear hl hX hb1
  go_upto_region 3 with (fail)
  have HE0 : Hid ((w2.alloc (.cells #[] 3)).ownsRow w2.heap.size 3 1 (.slice (some ⟨w2.heap.size, 0, none⟩) 0 0) 0 []) :=
    ⟨rfl, Or.inr ⟨w2.heap.size, 0, #[], rfl, Nat.le_refl _, heap_alloc_last w2 _, Nat.le_refl _, Nat.zero_le _, rfl, rfl⟩⟩
  have HA0 : Hid (Below w2.heap.size w2 (w2.alloc (.cells #[] 3))) := below_alloc _ _
  have HS0 : Hid (RdI (w2.alloc (.cells #[] 3)) aL L) := (rL.later hX2.bel).later HA0.out
  obtain ⟨x0, x1⟩ := (hX2.later HA0.out).bt.cells
  go_upto_region 4 with (first
    | (at_builtin; refine append_rd rfl _ _ rfl w2.heap.size (.slice (some ⟨w2.heap.size, 0, none⟩) 0 0) 0 [] rfl HE0.out aL cL L rfl HS0.out (by unfold maxLen; omega) (by omega) (by simp) ?_; intro v2 wA hown2 hgrow2; rw [Nat.zero_add, List.nil_append] at hown2; obtain ⟨a2, cap2, rfl⟩ := row_slice hown2; have HO2 : Hid (wA.ownsRow w2.heap.size 3 1 (.slice a2 L.length cap2) L.length (i64s L)) := hown2; have HG2 : Hid (Below w2.heap.size w2 wA) := below_grown HA0.out (show (w2.alloc (.cells #[] 3)).grownBy wA (some w2.heap.size) from hgrow2) (by simp) (fun j hj => by cases hj; exact Nat.le_refl _); clear hown2 hgrow2)
    | (at_builtin; (refine wpList_append_own (w := _) rfl _ _ 32 rfl w2.heap.size 3 i0 _ 1 8 Tryz.underlying32 hi hz0 hz1 hz2 rfl (by decide) (.slice a2 L.length cap2) L.length (i64s L) rfl (HO2.out.alloc _) ⟨wA.heap.size, 0, none⟩ 1 1 [.int .i64 (-71)] rfl rfl (cell_one_new _ _ _) (by simp [Value.oneCell']) (by unfold maxLen; omega) (by omega) (by have := HG2.out.size; rw [World.size_alloc]; omega) ?_); intro v3 w3 hown3 hgrow3 hq3; obtain ⟨ga, ca, rfl⟩ := ownsRow_succ hown3; have HOA : Hid (w3.ownsRow w2.heap.size 3 1 (.slice (some ⟨ga, 0, none⟩) (L.length + 1) ca) (L.length + 1) (i64s L ++ [.int .i64 (-71)])) := hown3; have HBA : Hid (Below w2.heap.size w2 w3) := HG2.out.trans (row_grown HO2.out HG2.out.size hgrow3); clear hown3 hgrow3))
  clear x0 x1 HE0 HA0 HS0 HO2 HG2
  have hX3 := hX2.later HBA.out
  have HE0 : Hid ((w3.alloc (.cells #[] 3)).ownsRow w3.heap.size 3 1 (.slice (some ⟨w3.heap.size, 0, none⟩) 0 0) 0 []) :=
    ⟨rfl, Or.inr ⟨w3.heap.size, 0, #[], rfl, Nat.le_refl _, heap_alloc_last w3 _, Nat.le_refl _, Nat.zero_le _, rfl, rfl⟩⟩
  have HA0 : Hid (Below w3.heap.size w3 (w3.alloc (.cells #[] 3))) := below_alloc _ _
  have HS0 : Hid (RdI (w3.alloc (.cells #[] 3)) aJ J) := (rJ.later hX3.bel).later HA0.out
  obtain ⟨x0, x1⟩ := (hX3.later HA0.out).bt.cells
  go_upto_region 5 with (first
    | (at_builtin; refine append_rd rfl _ _ rfl w3.heap.size (.slice (some ⟨w3.heap.size, 0, none⟩) 0 0) 0 [] rfl HE0.out aJ cJ J rfl HS0.out (by unfold maxLen; omega) (by omega) (by simp) ?_; intro v2 wA hown2 hgrow2; rw [Nat.zero_add, List.nil_append] at hown2; obtain ⟨a2, cap2, rfl⟩ := row_slice hown2; have HO2 : Hid (wA.ownsRow w3.heap.size 3 1 (.slice a2 J.length cap2) J.length (i64s J)) := hown2; have HG2 : Hid (Below w3.heap.size w3 wA) := below_grown HA0.out (show (w3.alloc (.cells #[] 3)).grownBy wA (some w3.heap.size) from hgrow2) (by simp) (fun j hj => by cases hj; exact Nat.le_refl _); clear hown2 hgrow2)
    | (at_builtin; (refine wpList_append_own (w := _) rfl _ _ 32 rfl w3.heap.size 3 i0 _ 1 8 Tryz.underlying32 hi hz0 hz1 hz2 rfl (by decide) (.slice a2 J.length cap2) J.length (i64s J) rfl (HO2.out.alloc _) ⟨wA.heap.size, 0, none⟩ 1 1 [.int .i64 (-72)] rfl rfl (cell_one_new _ _ _) (by simp [Value.oneCell']) (by unfold maxLen; omega) (by omega) (by have := HG2.out.size; rw [World.size_alloc]; omega) ?_); intro v3 w4 hown3 hgrow3 hq3; obtain ⟨gb, cb, rfl⟩ := ownsRow_succ hown3; have HOB : Hid (w4.ownsRow w3.heap.size 3 1 (.slice (some ⟨gb, 0, none⟩) (J.length + 1) cb) (J.length + 1) (i64s J ++ [.int .i64 (-72)])) := hown3; have HBA4 : Hid (Below w3.heap.size w3 w4) := HG2.out.trans (row_grown HO2.out HG2.out.size hgrow3); clear hown3 hgrow3))
  clear x0 x1 HE0 HA0 HS0 HO2 HG2
  have hX4 := hX3.later HBA4.out
  have HOA4 : Hid (w4.ownsRow w2.heap.size 3 1 (.slice (some ⟨ga, 0, none⟩) (L.length + 1) ca) (L.length + 1) (i64s L ++ [.int .i64 (-71)])) := owns_later HOA.out HBA4.out
  have k1 : L.length ≤ ca := by have := (row_cap HOA.out).1; omega
  have k2 : (L.length : Int) ≤ (ca : Int) := by omega
  have k3 : J.length ≤ cb := by have := (row_cap HOB.out).1; omega
  have k4 : (J.length : Int) ≤ (cb : Int) := by omega
  have HWA : Hid (w.heap.size ≤ ga) := Nat.le_trans hX2.bel.size (row_cap HOA.out).2.1
  have HWB : Hid (w.heap.size ≤ gb) := Nat.le_trans hX3.bel.size (row_cap HOB.out).2.1
  clear HOA hX2 hX3 HBA4
  have hDr : ∀ o, Below w4.heap.size w4 (w4.alloc o).drew := fun o => (below_alloc w4 o).trans ((drew_below (w4.alloc o)).mono (by simp))
  have hS0 := hX4.later (drew_below w4)
  refine wp_region_held_drew (S := fun W => TB w W B C0 t aL aJ L.length J.length cL cJ) (by kernel_rfl) hS0 (fun hH0 => ?_)
  refine wpAnyH_take (i := 0) (oi := { dst := some 38, op := Op.move (Operand.tmp 5), type := _, pos := _, after := _, guard := none }) (v := .slice (some ⟨ga, 0, none⟩) (L.length + 1) ca) rfl (by kernel_rfl) (by kernel_rfl) (by kernel_rfl) (fun _ _ _ h => h) (Or.inl ⟨by rfl, fun w hSw => by (try dsimp only at hSw); go_simp⟩) (by assumption) ?_
  simp only [Act.put, List.setIfInBounds_toArray, List.set_cons_zero, List.set_cons_succ]
  refine wpAnyH_take (i := 1) (oi := { dst := some 39, op := Op.fieldAddr 34 (Operand.tmp 3) 0, type := _, pos := _, after := _, guard := none }) (v := .pointer (some ⟨C0, 0, none⟩)) rfl (by kernel_rfl) (by kernel_rfl) (by kernel_rfl) (fun _ _ _ h => h) (Or.inl ⟨by rfl, fun w hSw => by (try dsimp only at hSw); go_simp⟩) (by assumption) ?_
  simp only [Act.put, List.setIfInBounds_toArray, List.set_cons_zero, List.set_cons_succ]
  refine wpAnyH_take (i := 2) (oi := { dst := some 40, op := Op.load 32 (Operand.tmp 39), type := _, pos := _, after := _, guard := none }) (v := .slice aL L.length cL) rfl (by kernel_rfl) (by kernel_rfl) (by kernel_rfl) (fun _ _ _ h => h) (Or.inl ⟨by rfl, fun w hSw => by obtain ⟨x0, x1⟩ := (TB.bt hSw).cells; clear hSw; go_simp⟩) (by assumption) ?_
  simp only [Act.put, List.setIfInBounds_toArray, List.set_cons_zero, List.set_cons_succ]
  refine wpAnyH_take (i := 3) (oi := { dst := some 41, op := Op.call { callee := Callee.builtin Builtin.len, args := #[(Operand.tmp 40)], argTypes := #[32] }, type := _, pos := _, after := _, guard := none }) (v := .int .i64 (L.length : Int)) rfl (by kernel_rfl) (by kernel_rfl) (by kernel_rfl) (fun _ _ _ h => h) (Or.inl ⟨by rfl, fun w hSw => by (try dsimp only at hSw); go_simp⟩) (by assumption) ?_
  simp only [Act.put, List.setIfInBounds_toArray, List.set_cons_zero, List.set_cons_succ]
  refine wpAnyH_take (i := 4) (oi := { dst := some 42, op := Op.slice 32 (Operand.tmp 38) none (some (Operand.tmp 41)) none, type := _, pos := _, after := _, guard := none }) (v := .slice (some ⟨ga, 0, none⟩) L.length ca) rfl (by kernel_rfl) (by kernel_rfl) (by kernel_rfl) (fun _ _ _ h => h) (Or.inl ⟨by rfl, fun w hSw => by (try dsimp only at hSw); go_simp⟩) (by assumption) ?_
  simp only [Act.put, List.setIfInBounds_toArray, List.set_cons_zero, List.set_cons_succ]
  refine wpAnyH_take (i := 5) (oi := { dst := some 43, op := Op.move (Operand.tmp 6), type := _, pos := _, after := _, guard := none }) (v := .slice (some ⟨gb, 0, none⟩) (J.length + 1) cb) rfl (by kernel_rfl) (by kernel_rfl) (by kernel_rfl) (fun _ _ _ h => h) (Or.inl ⟨by rfl, fun w hSw => by (try dsimp only at hSw); go_simp⟩) (by assumption) ?_
  simp only [Act.put, List.setIfInBounds_toArray, List.set_cons_zero, List.set_cons_succ]
  refine wpAnyH_take (i := 6) (oi := { dst := some 44, op := Op.fieldAddr 34 (Operand.tmp 3) 1, type := _, pos := _, after := _, guard := none }) (v := .pointer (some ⟨C0, 1, none⟩)) rfl (by kernel_rfl) (by kernel_rfl) (by kernel_rfl) (fun _ _ _ h => h) (Or.inl ⟨by rfl, fun w hSw => by (try dsimp only at hSw); go_simp⟩) (by assumption) ?_
  simp only [Act.put, List.setIfInBounds_toArray, List.set_cons_zero, List.set_cons_succ]
  refine wpAnyH_take (i := 7) (oi := { dst := some 45, op := Op.load 32 (Operand.tmp 44), type := _, pos := _, after := _, guard := none }) (v := .slice aJ J.length cJ) rfl (by kernel_rfl) (by kernel_rfl) (by kernel_rfl) (fun _ _ _ h => h) (Or.inl ⟨by rfl, fun w hSw => by obtain ⟨x0, x1⟩ := (TB.bt hSw).cells; clear hSw; go_simp⟩) (by assumption) ?_
  simp only [Act.put, List.setIfInBounds_toArray, List.set_cons_zero, List.set_cons_succ]
  refine wpAnyH_take (i := 8) (oi := { dst := some 46, op := Op.call { callee := Callee.builtin Builtin.len, args := #[(Operand.tmp 45)], argTypes := #[32] }, type := _, pos := _, after := _, guard := none }) (v := .int .i64 (J.length : Int)) rfl (by kernel_rfl) (by kernel_rfl) (by kernel_rfl) (fun _ _ _ h => h) (Or.inl ⟨by rfl, fun w hSw => by (try dsimp only at hSw); go_simp⟩) (by assumption) ?_
  simp only [Act.put, List.setIfInBounds_toArray, List.set_cons_zero, List.set_cons_succ]
  refine wpAnyH_take (i := 9) (oi := { dst := some 47, op := Op.slice 32 (Operand.tmp 43) none (some (Operand.tmp 46)) none, type := _, pos := _, after := _, guard := none }) (v := .slice (some ⟨gb, 0, none⟩) J.length cb) rfl (by kernel_rfl) (by kernel_rfl) (by kernel_rfl) (fun _ _ _ h => h) (Or.inl ⟨by rfl, fun w hSw => by (try dsimp only at hSw); go_simp⟩) (by assumption) ?_
  simp only [Act.put, List.setIfInBounds_toArray, List.set_cons_zero, List.set_cons_succ]
  refine wpAnyH_take (i := 10) (oi := { dst := some 48, op := Op.build 34 #[(0, (Operand.tmp 42)), (1, (Operand.tmp 47))], type := _, pos := _, after := _, guard := none }) (v := .agg #[.slice (some ⟨ga, 0, none⟩) L.length ca, .slice (some ⟨gb, 0, none⟩) J.length cb]) rfl (by kernel_rfl) (by kernel_rfl) (by kernel_rfl) (fun _ _ _ h => h) (Or.inl ⟨by rfl, fun w hSw => by (try dsimp only at hSw); go_simp⟩) (by assumption) ?_
  simp only [Act.put, List.setIfInBounds_toArray, List.set_cons_zero, List.set_cons_succ]
  refine wpAnyH_ready (rs := [11]) (by kernel_rfl) (by simp) ?_
  refine AllReadyH.cons rfl (fun K hK => ?_) AllReadyH.nil
  go_simp
  refine hK.out _ _ (hH0.later (below_alloc _ _)) (fun hH1 => ?_)
  clear hK K
  try simp only [Act.put, List.setIfInBounds_toArray, List.set_cons_zero, List.set_cons_succ]
  refine wpAnyH_ready (rs := [12]) (by kernel_rfl) (by simp) ?_
  refine AllReadyH.cons rfl (fun K hK => ?_) AllReadyH.nil
  go_simp
  refine hK.out _ _ (hX4.later (hDr _)) (fun hH2 => ?_)
  clear hK K
  try simp only [Act.put, List.setIfInBounds_toArray, List.set_cons_zero, List.set_cons_succ]
  refine wpAnyH_done (by kernel_rfl) ?_ _
  have hb5 := hDr (.cells #[.slice (some ⟨ga, 0, none⟩) L.length ca, .slice (some ⟨gb, 0, none⟩) J.length cb] 34)
  have hG5 : Gv ((w4.alloc (.cells #[.slice (some ⟨ga, 0, none⟩) L.length ca, .slice (some ⟨gb, 0, none⟩) J.length cb] 34)).drew) w4.heap.size ga gb L.length J.length ca cb := heap_alloc_last w4 _
  have hX5 := hX4.later hb5
  have HOA5 := owns_later HOA4.out hb5
  have HOB5 := owns_later HOB.out hb5
  generalize (w4.alloc (.cells #[.slice (some ⟨ga, 0, none⟩) L.length ca, .slice (some ⟨gb, 0, none⟩) J.length cb] 34)).drew = w5 at *
  generalize w4.heap.size = Bg at *
  generalize w2.heap.size = sA at *
  generalize w3.heap.size = sB at *
  have HA5 : Hid (w5.ownsRow sA 3 1 (.slice (some ⟨ga, 0, none⟩) (L.length + 1) ca) (L.length + 1) (i64s L ++ [.int .i64 (-71)])) := HOA5
  have HB5 : Hid (w5.ownsRow sB 3 1 (.slice (some ⟨gb, 0, none⟩) (J.length + 1) cb) (J.length + 1) (i64s J ++ [.int .i64 (-72)])) := HOB5
  have HX5W : Hid (w.heap.size ≤ w5.heap.size) := hX5.bel.size
  have HBGL : Hid (Bg < w5.heap.size) := (Array.getElem?_eq_some_iff.1 hG5).1
  have HX5 : Hid (TB w w5 B C0 t aL aJ L.length J.length cL cJ) := hX5
  have HG5 : Hid (Gv w5 Bg ga gb L.length J.length ca cb) := hG5
  clear hDr hb5 hX4 HOA4 HOB HOA5 HOB5 hH0 hH1 hH2 hS0 hX5 hG5 k1 k2 k3 k4
  have HGA : Hid (ga < w5.heap.size) := (row_cap HA5.out).2.2
  have h1 := HO2.out w5 HX5.out.bel
  have hT1 := HX5.out.tr
  obtain ⟨d0, d1⟩ := HX5.out.bt.cells
  go_wp2_with (refine rdT hT1 HT.out _ rfl rfl rfl ?_)
  refine h1.mono ?_
  rintro r u6 ⟨⟨p61, q61, v6, rfl, hor, rl6, g2⟩, hb2⟩
  obtain ⟨p62, q62, rfl⟩ := owns_slice g2
  have HWR : Hid (∀ W, Below w.heap.size w W → RdI W p61 lo) := HWL.out _ _ hor rl6
  have hbR := below_alloc u6 (.cells #[.int .i64 x, .int .i64 y, .slice p61 lo.length q61, .slice p62 lj.length q62] 38)
  have hR := RcAt.new u6 #[.int .i64 x, .int .i64 y, .slice p61 lo.length q61, .slice p62 lj.length q62]
  have hbb := hb2.trans (hbR.mono hb2.size)
  have HM6 := Mw.mk' (owns_later g2 hbR) hR hb2.size
  clear h1 hT1 d0 d1 hb2 g2 hbR hR hor rl6
  go_upto_region 7 with (fail)
  generalize u6.alloc (.cells #[.int .i64 x, .int .i64 y, .slice p61 lo.length q61, .slice p62 lj.length q62] 38) = w6 at *
  generalize u6.heap.size = N6 at *
  have HBB6 : Hid (Below w5.heap.size w5 w6) := hbb
  have HX6 : Hid (TB w w6 B C0 t aL aJ L.length J.length cL cJ) := HX5.out.later hbb
  have HG6 : Hid (Gv w6 Bg ga gb L.length J.length ca cb) := BtAt.later HG5.out hbb
  have HA6 : Hid (w6.ownsRow sA 3 1 (.slice (some ⟨ga, 0, none⟩) (L.length + 1) ca) (L.length + 1) (i64s L ++ [.int .i64 (-71)])) := owns_later HA5.out hbb
  have HB6 : Hid (w6.ownsRow sB 3 1 (.slice (some ⟨gb, 0, none⟩) (J.length + 1) cb) (J.length + 1) (i64s J ++ [.int .i64 (-72)])) := owns_later HB5.out hbb
  have HM6 : Hid (Mw w5.heap.size w6.heap.size w6 N6 x y p61 p62 q61 q62 lo lj) := HM6
  clear hbb
  have h1 := HO1.out w6 (some ⟨ga, 0, none⟩) (some ⟨gb, 0, none⟩) ca cb HX6.out.bel (rdi_of_row HA6.out) (rdi_of_row HB6.out)
  have hT1 := HX6.out.tr
  obtain ⟨d0, d1⟩ := BtAt.cells HG6.out
  go_wp2_with (refine rdT hT1 HT.out _ rfl rfl rfl ?_)
  refine h1.mono ?_
  rintro r u7 ⟨⟨vL, vJ, rfl, hRP⟩, hb2⟩
  obtain ⟨g1, g2⟩ := HRP.out hRP
  obtain ⟨p71, q71, rfl⟩ := owns_slice g1
  obtain ⟨p72, q72, rfl⟩ := owns_slice g2
  have hbR := below_alloc u7 (.cells #[.int .i64 x, .int .i64 y, .slice p71 lo.length q71, .slice p72 lj.length q72] 38)
  have hR := RcAt.new u7 #[.int .i64 x, .int .i64 y, .slice p71 lo.length q71, .slice p72 lj.length q72]
  have hbb := hb2.trans (hbR.mono hb2.size)
  have HM7 := Ms.mk' (owns_later g1 hbR) (owns_later g2 hbR) hR hb2.size
  clear h1 hT1 d0 d1 hb2 g2 hbR hR hRP g1
  go_upto_region 8 with (fail)
  generalize u7.alloc (.cells #[.int .i64 x, .int .i64 y, .slice p71 lo.length q71, .slice p72 lj.length q72] 38) = w7 at *
  generalize u7.heap.size = N7 at *
  have HBB7 : Hid (Below w6.heap.size w6 w7) := hbb
  have HX7 : Hid (TB w w7 B C0 t aL aJ L.length J.length cL cJ) := HX6.out.later hbb
  have HG7 : Hid (Gv w7 Bg ga gb L.length J.length ca cb) := BtAt.later HG6.out hbb
  have HA7 : Hid (w7.ownsRow sA 3 1 (.slice (some ⟨ga, 0, none⟩) (L.length + 1) ca) (L.length + 1) (i64s L ++ [.int .i64 (-71)])) := owns_later HA6.out hbb
  have HB7 : Hid (w7.ownsRow sB 3 1 (.slice (some ⟨gb, 0, none⟩) (J.length + 1) cb) (J.length + 1) (i64s J ++ [.int .i64 (-72)])) := owns_later HB6.out hbb
  have HM7 : Hid (Ms w6.heap.size w7.heap.size w7 N7 x y p71 p72 q71 q72 lo lj) := HM7
  clear hbb
  have h1 := HO1.out w7 (some ⟨ga, 0, none⟩) (some ⟨gb, 0, none⟩) ca cb HX7.out.bel (rdi_of_row HA7.out) (rdi_of_row HB7.out)
  have hT1 := HX7.out.tr
  obtain ⟨d0, d1⟩ := BtAt.cells HG7.out
  go_wp2_with (refine rdT hT1 HT.out _ rfl rfl rfl ?_)
  refine h1.mono ?_
  rintro r u8 ⟨⟨vL, vJ, rfl, hRP⟩, hb2⟩
  obtain ⟨g1, g2⟩ := HRP.out hRP
  obtain ⟨p81, q81, rfl⟩ := owns_slice g1
  obtain ⟨p82, q82, rfl⟩ := owns_slice g2
  have hbR := below_alloc u8 (.cells #[.int .i64 x, .int .i64 y, .slice p81 lo.length q81, .slice p82 lj.length q82] 38)
  have hR := RcAt.new u8 #[.int .i64 x, .int .i64 y, .slice p81 lo.length q81, .slice p82 lj.length q82]
  have hbb := hb2.trans (hbR.mono hb2.size)
  have HM8 := Ms.mk' (owns_later g1 hbR) (owns_later g2 hbR) hR hb2.size
  clear h1 hT1 d0 d1 hb2 g2 hbR hR hRP g1
  go_upto_region 9 with (fail)
  generalize u8.alloc (.cells #[.int .i64 x, .int .i64 y, .slice p81 lo.length q81, .slice p82 lj.length q82] 38) = w8 at *
  generalize u8.heap.size = N8 at *
  have HBB8 : Hid (Below w7.heap.size w7 w8) := hbb
  have HX8 : Hid (TB w w8 B C0 t aL aJ L.length J.length cL cJ) := HX7.out.later hbb
  have HG8 : Hid (Gv w8 Bg ga gb L.length J.length ca cb) := BtAt.later HG7.out hbb
  have HA8 : Hid (w8.ownsRow sA 3 1 (.slice (some ⟨ga, 0, none⟩) (L.length + 1) ca) (L.length + 1) (i64s L ++ [.int .i64 (-71)])) := owns_later HA7.out hbb
  have HB8 : Hid (w8.ownsRow sB 3 1 (.slice (some ⟨gb, 0, none⟩) (J.length + 1) cb) (J.length + 1) (i64s J ++ [.int .i64 (-72)])) := owns_later HB7.out hbb
  have HM8 : Hid (Ms w7.heap.size w8.heap.size w8 N8 x y p81 p82 q81 q82 lo lj) := HM8
  clear hbb
  clear HA5 HB5 HG5 HX5 HA6 HB6 HG6 HX6 HA7 HB7 HG7 HX7 HO1 HO2 HRP HWL
  obtain ⟨x0, x1⟩ := HX8.out.bt.cells
  obtain ⟨y0, y1⟩ := BtAt.cells HG8.out
  have hs1 := smI_any (some ⟨ga, 0, none⟩) aL ca cL L L w8 (by omega) (by omega) (rdi_of_row HA8.out) (rL.later HX8.out.bel)
  rw [decide_eq_true (rfl : L = L)] at hs1
  go_wp2_with fail
  refine hs1.mono ?_
  rintro e w12 ⟨rfl, hb12⟩
  clear x0 x1 y0 y1 hs1
  obtain ⟨x0, x1⟩ := (HX8.out.later hb12).bt.cells
  obtain ⟨y0, y1⟩ := BtAt.cells (BtAt.later HG8.out hb12)
  have hs2 := smI_any (some ⟨gb, 0, none⟩) aJ cb cJ J J w12 (by omega) (by omega) (rdi_of_row (owns_later HB8.out hb12)) ((rJ.later HX8.out.bel).later hb12)
  rw [decide_eq_true (rfl : J = J)] at hs2
  go_wp2_with fail
  refine hs2.mono ?_
  rintro e w13 ⟨rfl, hb13⟩
  clear x0 x1 y0 y1 hs2
  have hb14 := hb12.trans (hb13.mono hb12.size)
  have hcA : w13.cell? ⟨ga, L.length, none⟩ = some (.int .i64 (-71)) := by
    have h1 := (owns_later HA8.out hb14).cellAt L.length (by omega)
    rw [List.getElem?_append_right (by simp), i64s_length, Nat.sub_self] at h1
    exact h1
  have hcB : w13.cell? ⟨gb, J.length, none⟩ = some (.int .i64 (-72)) := by
    have h1 := (owns_later HB8.out hb14).cellAt J.length (by omega)
    rw [List.getElem?_append_right (by simp), i64s_length, Nat.sub_self] at h1
    exact h1
  have i1 : (0 : Int) ≤ (L.length : Int) := by omega
  have i2 : (L.length : Int) < ((L.length + 1 : Nat) : Int) := by omega
  have i3 : (0 : Int) ≤ (J.length : Int) := by omega
  have i4 : (J.length : Int) < ((J.length + 1 : Nat) : Int) := by omega
  go_upto_region 11 with (fail)
  clear hcA hcB i1 i2 i3 i4 hb12 hb13
  have HB13 : Hid (Below w.heap.size w w13) := (HX8.out.later hb14).bel
  have HSA13 : Hid (Slot w13 ga 3 (L.length + 1)) := Slot.of_row (owns_later HA8.out hb14)
  have HG13 : Hid (Gv w13 Bg ga gb L.length J.length ca cb) := BtAt.later HG8.out hb14
  have HM6b : Hid (Mw w5.heap.size w6.heap.size w13 N6 x y p61 p62 q61 q62 lo lj) := ((HM6.out.later HBB7.out).later HBB8.out).later hb14
  have HM7b : Hid (Ms w6.heap.size w7.heap.size w13 N7 x y p71 p72 q71 q72 lo lj) := (HM7.out.later HBB8.out).later hb14
  have HM8b : Hid (Ms w7.heap.size w8.heap.size w13 N8 x y p81 p82 q81 q82 lo lj) := HM8.out.later hb14
  have HSZ : Hid (w5.heap.size ≤ w6.heap.size ∧ w6.heap.size ≤ w7.heap.size ∧ w7.heap.size ≤ w8.heap.size ∧ w8.heap.size ≤ w13.heap.size) := ⟨HBB6.out.size, HBB7.out.size, HBB8.out.size, hb14.size⟩
  clear HM6 HM7 HM8 HBB6 HBB7 HBB8 hb14 HX8 HG8 HA8 HB8 rL rJ
  generalize w5.heap.size = s6 at *
  generalize w6.heap.size = s7 at *
  generalize w7.heap.size = s9 at *
  generalize w8.heap.size = s10 at *
  have h1 := HWT.out w13 p61 p62 q61 q62 (HWR.out _ HB13.out) (rdP_of HM6b.out.o2)
  obtain ⟨c0, c1, c2, c3⟩ := HM6b.out.rc.cells
  go_wp2_with fail
  refine h1.mono ?_
  rintro r w14 ⟨rfl, hb14⟩
  clear h1 c0 c1 c2 c3 HWT
  go_upto_region 12 with (fail)
  have h1 := HRD.out w14
  go_wp2_with fail
  refine h1.mono ?_
  rintro r u15 ⟨vL, vJ, rfl, g1, g2, hb2⟩
  obtain ⟨p151, q151, rfl⟩ := owns_slice g1
  obtain ⟨p152, q152, rfl⟩ := owns_slice g2
  have hbR := below_alloc u15 (.cells #[.int .i64 x3, .int .i64 y3, .slice p151 l3.length q151, .slice p152 j3.length q152] 38)
  have hR := RcAt.new u15 #[.int .i64 x3, .int .i64 y3, .slice p151 l3.length q151, .slice p152 j3.length q152]
  have HBB15 := hb2.trans (hbR.mono hb2.size)
  have HM15 := Ms.mk' (owns_later g1 hbR) (owns_later g2 hbR) hR hb2.size
  clear h1 hb2 g1 g2 hbR hR
  go_upto_region 13 with (fail)
  generalize u15.alloc (.cells #[.int .i64 x3, .int .i64 y3, .slice p151 l3.length q151, .slice p152 j3.length q152] 38) = w15 at *
  generalize u15.heap.size = N15 at *
  have HBB15 : Hid (Below w14.heap.size w14 w15) := HBB15
  have HM15 : Hid (Ms w14.heap.size w15.heap.size w15 N15 x3 y3 p151 p152 q151 q152 l3 j3) := HM15
  have h1 := HRD.out w15
  go_wp2_with fail
  refine h1.mono ?_
  rintro r u16 ⟨vL, vJ, rfl, g1, g2, hb2⟩
  obtain ⟨p161, q161, rfl⟩ := owns_slice g1
  obtain ⟨p162, q162, rfl⟩ := owns_slice g2
  have hbR := below_alloc u16 (.cells #[.int .i64 x3, .int .i64 y3, .slice p161 l3.length q161, .slice p162 j3.length q162] 38)
  have hR := RcAt.new u16 #[.int .i64 x3, .int .i64 y3, .slice p161 l3.length q161, .slice p162 j3.length q162]
  have HBB16 := hb2.trans (hbR.mono hb2.size)
  have HM16 := Ms.mk' (owns_later g1 hbR) (owns_later g2 hbR) hR hb2.size
  clear h1 hb2 g1 g2 hbR hR
  go_upto_region 14 with (fail)
  generalize u16.alloc (.cells #[.int .i64 x3, .int .i64 y3, .slice p161 l3.length q161, .slice p162 j3.length q162] 38) = w16 at *
  generalize u16.heap.size = N16 at *
  have HBB16 : Hid (Below w15.heap.size w15 w16) := HBB16
  have HM16 : Hid (Ms w15.heap.size w16.heap.size w16 N16 x3 y3 p161 p162 q161 q162 l3 j3) := HM16
  go_upto_region 16 with (fail)
  have HBV : Hid (Below w13.heap.size w13 w16) := (hb14.trans (HBB15.out.mono hb14.size)).trans (HBB16.out.mono (Nat.le_trans hb14.size HBB15.out.size))
  have HB16 : Hid (Below w.heap.size w w16) := HB13.out.trans (HBV.out.mono HB13.out.size)
  have HSA : Hid (Slot w16 ga 3 (L.length + 1)) := HSA13.out.kept (HBV.out.block _ HSA13.out.lt)
  have HGV0 : Hid (Gv w16 Bg ga gb L.length J.length ca cb) := BtAt.later HG13.out HBV.out
  have HM6V : Hid (Mw s6 s7 w16 N6 x y p61 p62 q61 q62 lo lj) := HM6b.out.later HBV.out
  have HM7V : Hid (Ms s7 s9 w16 N7 x y p71 p72 q71 q72 lo lj) := HM7b.out.later HBV.out
  have HM8V : Hid (Ms s9 s10 w16 N8 x y p81 p82 q81 q82 lo lj) := HM8b.out.later HBV.out
  have HMTV : Hid (Ms w14.heap.size w15.heap.size w16 N15 x3 y3 p151 p152 q151 q152 l3 j3) := HM15.out.later HBB16.out
  have HMC : Hid (MC w w16 ga s7 s9 w14.heap.size w15.heap.size N7 N15) := by
    have z0 := HSZ.out
    have z1 := HGA.out
    have z2 := hb14.size
    have z3 := HBB16.out.size
    exact ⟨HWA.out, by omega, HM7V.out.mw.ge, HM7V.out.mw.lt, by omega, HMTV.out.mw.ge, HMTV.out.mw.lt, z3⟩
  have HK : Hid (s10 ≤ w14.heap.size ∧ ga < s6 ∧ Bg < s6 ∧ s6 ≤ s7 ∧ s7 ≤ s9) := by
    have z0 := HSZ.out
    have z2 := hb14.size
    exact ⟨by omega, HGA.out, HBGL.out, z0.1, z0.2.1⟩
  generalize w14.heap.size = sc at *
  generalize w15.heap.size = sd at *
  have HP1 : Hid (∀ g, (Value.slice p71 lo.length q71).ownBlock = some g → s7 ≤ g ∧ g < s9) := HM7V.out.n1
  have HP2 : Hid (∀ g, (Value.slice p72 lj.length q72).ownBlock = some g → s7 ≤ g ∧ g < s9) := HM7V.out.mw.n2
  have HP3 : Hid (∀ g, (Value.slice p151 l3.length q151).ownBlock = some g → sc ≤ g ∧ g < sd) := HMTV.out.n1
  have HP4 : Hid (∀ g, (Value.slice p152 j3.length q152).ownBlock = some g → sc ≤ g ∧ g < sd) := HMTV.out.mw.n2
  have HK6 : Hid (∀ W, Ke (Wm ga s7 s9 sc sd) w16 W → RdP W p62 lj ∧ RcAt W N6 #[.int .i64 x, .int .i64 y, .slice p61 lo.length q61, .slice p62 lj.length q62]) := fun W hk => by
    have z := HK.out
    have z2 := HMC.out.h1
    exact HM6V.out.ke hk (by omega) (.inl (Nat.le_refl _)) (.inl (by omega))
  have HK8 : Hid (∀ W, Ke (Wm ga s7 s9 sc sd) w16 W → RdI W p81 lo ∧ RdP W p82 lj ∧ RcAt W N8 #[.int .i64 x, .int .i64 y, .slice p81 lo.length q81, .slice p82 lj.length q82]) := fun W hk => by
    have z := HK.out
    exact HM8V.out.ke hk (by omega) (.inr (Nat.le_refl _)) (.inl (by omega))
  have HK16 : Hid (∀ W, Ke (Wm ga s7 s9 sc sd) w16 W → RdI W p161 l3 ∧ RdP W p162 j3 ∧ RcAt W N16 #[.int .i64 x3, .int .i64 y3, .slice p161 l3.length q161, .slice p162 j3.length q162]) := fun W hk => by
    have z := HK.out
    have z2 := HMC.out
    have z3 := z2.h1
    have z4 := z2.b3
    have z5 := z2.c3
    exact HM16.out.ke hk (by omega) (.inr (by omega)) (.inr (Nat.le_refl _))
  have HGV : Hid (∀ W, Ke (Wm ga s7 s9 sc sd) w16 W → Gv W Bg ga gb L.length J.length ca cb) := fun W hk => by
    have z := HK.out
    have z2 := HMC.out.h1
    refine (hk.block Bg (Array.getElem?_eq_some_iff.1 HGV0.out).1 ?_).trans HGV0.out
    rintro (h1 | h1 | h1)
    · exact slot_ne (⟨_, HGV0.out, Nat.zero_le _⟩ : Slot w16 Bg 34 0) HSA.out (by decide) h1
    · omega
    · omega
  have HR0 : Hid (MM w w16 w16 ga (L.length + 1) s7 s9 sc sd N7 N15 x y x3 y3 (.slice p71 lo.length q71) (.slice p72 lj.length q72) (.slice p151 l3.length q151) (.slice p152 j3.length q152) lo.length lj.length l3.length j3.length) := ⟨Ke.refl _ _, HB16.out, HSA.out, HM7V.out.mw.rc, HMTV.out.mw.rc, ⟨_, HM7V.out.o1⟩, ⟨_, HM7V.out.mw.o2⟩, ⟨_, HMTV.out.o1⟩, ⟨_, HMTV.out.mw.o2⟩⟩
  clear HBV HB16 HSA HGV0 HM6V HM7V HM8V HMTV HM6b HM7b HM8b HM15 HM16 HBB15 HBB16 hb14 HSZ HGA HBGL HSA13 HG13 HK HB13 HRD HX5W HWA HWB
  obtain ⟨nl, hnl⟩ : ∃ z, lo.length = z := ⟨_, rfl⟩
  obtain ⟨nj, hnj⟩ : ∃ z, lj.length = z := ⟨_, rfl⟩
  obtain ⟨ml, hml⟩ : ∃ z, l3.length = z := ⟨_, rfl⟩
  obtain ⟨mj, hmj⟩ : ∃ z, j3.length = z := ⟨_, rfl⟩
  have HNN : Hid (lo.length = nl ∧ lj.length = nj ∧ l3.length = ml ∧ j3.length = mj) := ⟨hnl, hnj, hml, hmj⟩
  have hn64 : nl * 8 ≤ 140737488351232 := hnl ▸ HLEN.out.1
  have hn65 : nj ≤ 64 := hnj ▸ HLEN.out.2
  have hn66 : ml ≤ nl := hnl ▸ hml ▸ HQ.out.2.1
  have hn67 : mj ≤ nj := hnj ▸ hmj ▸ HQ.out.2.2
  rw [hnl] at HR0 HP1 ⊢
  rw [hnj] at HR0 HP2 ⊢
  rw [hml] at HR0 HP3 ⊢
  rw [hmj] at HR0 HP4 ⊢
  clear hnl hnj hml hmj HLEN
  obtain ⟨j0, hj0, hq0, hq1, hq2⟩ := Rc.infoSeat_parts
  obtain ⟨y0, y1⟩ := BtAt.cells (HGV.out _ HR0.out.ke)
  go_wp2_with fail
  clear y0 y1
  go_loopw [130] (fun i wx => ∃ k : Nat, k ≤ L.length ∧ i = .int .i64 (k : Int) ∧ MM w w16 wx ga (L.length + 1) s7 s9 sc sd N7 N15 x y x3 y3 (.slice p71 nl q71) (.slice p72 nj q72) (.slice p151 ml q151) (.slice p152 mj q152) nl nj ml mj) (fun i _ => L.length - (intOf i).toNat)
  case atStart => exact ⟨0, by omega, rfl, HR0.out⟩
  case round =>
    obtain ⟨k, hk, rfl, hpa⟩ := hrel
    have HR : Hid (MM w w16 wr ga (L.length + 1) s7 s9 sc sd N7 N15 x y x3 y3 (.slice p71 nl q71) (.slice p72 nj q72) (.slice p151 ml q151) (.slice p152 mj q152) nl nj ml mj) := hpa
    clear hpa HR0
    by_cases hkN : k < L.length
    · obtain ⟨⟨u0, c0⟩, f0⟩ := HR.out.sa.cell (j := k) (by omega)
      obtain ⟨y0, y1⟩ := BtAt.cells (HGV.out _ HR.out.ke)
      have H2 : Hid (MM w w16 (wr.setCell ⟨ga, k, none⟩ (.int .i64 (-5))) ga (L.length + 1) s7 s9 sc sd N7 N15 x y x3 y3 (.slice p71 nl q71) (.slice p72 nj q72) (.slice p151 ml q151) (.slice p152 mj q152) nl nj ml mj) := HR.out.set (.inl rfl) HMC.out.ws (by have q1 := HMC.out.ag; have q2 := HMC.out.b1; omega) (by have q1 := HMC.out.ag; have q2 := HMC.out.b1; have q3 := HMC.out.c1; have q4 := HMC.out.h1; have q5 := HMC.out.b3; omega) k (.int .i64 (-5))
      have i1 : (0 : Int) ≤ (k : Int) := by omega
      have i2 : (k : Int) < (L.length : Int) := by omega
      clear HR
      go_wp2_with fail
      go_roundw
      case rel => exact ⟨k + 1, by omega, by go_num, H2.out⟩
      case measure => simp [intOf]; omega
    · obtain rfl : L.length = k := by omega
      have hdA : decide ((L.length : Int) < (L.length : Int)) = false := by simp
      obtain ⟨WA, hWL⟩ : ∃ W1, wr = W1 := ⟨_, rfl⟩
      rw [hWL] at HR ⊢
      have HRA : Hid (MM w w16 WA ga (L.length + 1) s7 s9 sc sd N7 N15 x y x3 y3 (.slice p71 nl q71) (.slice p72 nj q72) (.slice p151 ml q151) (.slice p152 mj q152) nl nj ml mj) := HR.out
      clear HR hWL
      obtain ⟨y0, y1, y2, y3⟩ := HRA.out.r1.cells
      go_wp2_with fail
      clear y0 y1 y2 y3
      go_loopw [141] (fun i wx => ∃ k : Nat, k ≤ nl ∧ i = .int .i64 (k : Int) ∧ MM w w16 wx ga (L.length + 1) s7 s9 sc sd N7 N15 x y x3 y3 (.slice p71 nl q71) (.slice p72 nj q72) (.slice p151 ml q151) (.slice p152 mj q152) nl nj ml mj) (fun i _ => nl - (intOf i).toNat)
      case atStart => exact ⟨0, by omega, rfl, HRA.out⟩
      case round =>
        obtain ⟨k, hk, rfl, hpa⟩ := hrel
        have HR : Hid (MM w w16 wr ga (L.length + 1) s7 s9 sc sd N7 N15 x y x3 y3 (.slice p71 nl q71) (.slice p72 nj q72) (.slice p151 ml q151) (.slice p152 mj q152) nl nj ml mj) := hpa
        clear hpa HRA
        by_cases hkN : k < nl
        · obtain ⟨xs, hrow⟩ := HR.out.l1
          obtain ⟨gl, u0, hal, c0, f0⟩ := own_cells1 hrow hkN
          have hPg : Wm ga s7 s9 sc sd gl := .inr (.inl (HP1.out gl (by rw [hal]; simp [Value.ownBlock])))
          have hwg : w.heap.size ≤ gl := by
            have q := HP1.out gl (by rw [hal]; simp [Value.ownBlock])
            have q1 := HMC.out.ws
            have q2 := HMC.out.ag
            have q3 := HMC.out.b1
            have q4 := HMC.out.c1
            have q5 := HMC.out.h1
            omega
          have hB1 : N7 ≠ gl := fun e => own_ne hrow HR.out.s1 (by decide) (by rw [hal, e]; simp [Value.ownBlock])
          have hB3 : N15 ≠ gl := fun e => own_ne hrow HR.out.s3 (by decide) (by rw [hal, e]; simp [Value.ownBlock])
          have H2 : Hid (MM w w16 (wr.setCell ⟨gl, k, none⟩ (.int .i64 (-6))) ga (L.length + 1) s7 s9 sc sd N7 N15 x y x3 y3 (.slice p71 nl q71) (.slice p72 nj q72) (.slice p151 ml q151) (.slice p152 mj q152) nl nj ml mj) := HR.out.set hPg hwg hB1 hB3 k (.int .i64 (-6))
          obtain ⟨y0, y1, y2, y3⟩ := HR.out.r1.cells
          clear hPg hwg hB1 hB3 hrow
          have HAL : Hid (p71 = some ⟨gl, 0, none⟩) := hal
          rw [hal] at y2
          clear hal
          have i1 : (0 : Int) ≤ (k : Int) := by omega
          have i2 : (k : Int) < (nl : Int) := by omega
          clear HR
          go_wp2_with fail
          go_roundw
          case rel => exact ⟨k + 1, by omega, by go_num, H2.out⟩
          case measure => simp [intOf]; omega
        · obtain rfl : nl = k := by omega
          have hdB : decide ((nl : Int) < (nl : Int)) = false := by simp
          obtain ⟨WB, hWL⟩ : ∃ W1, wr = W1 := ⟨_, rfl⟩
          rw [hWL] at HR ⊢
          have HRB : Hid (MM w w16 WB ga (L.length + 1) s7 s9 sc sd N7 N15 x y x3 y3 (.slice p71 nl q71) (.slice p72 nj q72) (.slice p151 ml q151) (.slice p152 mj q152) nl nj ml mj) := HR.out
          clear HR hWL
          obtain ⟨y0, y1, y2, y3⟩ := HRB.out.r1.cells
          go_wp2_with fail
          clear y0 y1 y2 y3
          go_loopw [152] (fun i wx => ∃ k : Nat, k ≤ nj ∧ i = .int .i64 (k : Int) ∧ MM w w16 wx ga (L.length + 1) s7 s9 sc sd N7 N15 x y x3 y3 (.slice p71 nl q71) (.slice p72 nj q72) (.slice p151 ml q151) (.slice p152 mj q152) nl nj ml mj) (fun i _ => nj - (intOf i).toNat)
          case atStart => exact ⟨0, by omega, rfl, HRB.out⟩
          case round =>
            obtain ⟨k, hk, rfl, hpa⟩ := hrel
            have HR : Hid (MM w w16 wr ga (L.length + 1) s7 s9 sc sd N7 N15 x y x3 y3 (.slice p71 nl q71) (.slice p72 nj q72) (.slice p151 ml q151) (.slice p152 mj q152) nl nj ml mj) := hpa
            clear hpa HRB
            by_cases hkN : k < nj
            · obtain ⟨xs, hrow⟩ := HR.out.j1
              obtain ⟨gl, u0, u1, hal, c0, c1, f0, f1⟩ := own_cells hrow hkN
              have hPg : Wm ga s7 s9 sc sd gl := .inr (.inl (HP2.out gl (by rw [hal]; simp [Value.ownBlock])))
              have hwg : w.heap.size ≤ gl := by
                have q := HP2.out gl (by rw [hal]; simp [Value.ownBlock])
                have q1 := HMC.out.ws
                have q2 := HMC.out.ag
                have q3 := HMC.out.b1
                have q4 := HMC.out.c1
                have q5 := HMC.out.h1
                omega
              have hB1 : N7 ≠ gl := fun e => own_ne hrow HR.out.s1 (by decide) (by rw [hal, e]; simp [Value.ownBlock])
              have hB3 : N15 ≠ gl := fun e => own_ne hrow HR.out.s3 (by decide) (by rw [hal, e]; simp [Value.ownBlock])
              have H2 : Hid (MM w w16 ((wr.setCell ⟨gl, k * 2, none⟩ (.int .i64 (-7))).setCell ⟨gl, k * 2 + 1, none⟩ (.int .i64 0)) ga (L.length + 1) s7 s9 sc sd N7 N15 x y x3 y3 (.slice p71 nl q71) (.slice p72 nj q72) (.slice p151 ml q151) (.slice p152 mj q152) nl nj ml mj) := HR.out.set2 hPg hwg hB1 hB3 (k * 2) (k * 2 + 1) (.int .i64 (-7)) (.int .i64 0)
              obtain ⟨y0, y1, y2, y3⟩ := HR.out.r1.cells
              clear hPg hwg hB1 hB3 hrow
              have HAL : Hid (p72 = some ⟨gl, 0, none⟩) := hal
              rw [hal] at y3
              clear hal
              have i1 : (0 : Int) ≤ (k : Int) := by omega
              have i2 : (k : Int) < (nj : Int) := by omega
              clear HR
              go_wp2_with fail
              go_roundw
              case rel => exact ⟨k + 1, by omega, by go_num, H2.out⟩
              case measure => simp [intOf]; omega
            · obtain rfl : nj = k := by omega
              have hdC : decide ((nj : Int) < (nj : Int)) = false := by simp
              obtain ⟨WC, hWL⟩ : ∃ W1, wr = W1 := ⟨_, rfl⟩
              rw [hWL] at HR ⊢
              have HRC : Hid (MM w w16 WC ga (L.length + 1) s7 s9 sc sd N7 N15 x y x3 y3 (.slice p71 nl q71) (.slice p72 nj q72) (.slice p151 ml q151) (.slice p152 mj q152) nl nj ml mj) := HR.out
              clear HR hWL
              obtain ⟨y0, y1, y2, y3⟩ := HRC.out.r3.cells
              go_wp2_with fail
              clear y0 y1 y2 y3
              go_loopw [164] (fun i wx => ∃ k : Nat, k ≤ ml ∧ i = .int .i64 (k : Int) ∧ MM w w16 wx ga (L.length + 1) s7 s9 sc sd N7 N15 x y x3 y3 (.slice p71 nl q71) (.slice p72 nj q72) (.slice p151 ml q151) (.slice p152 mj q152) nl nj ml mj) (fun i _ => ml - (intOf i).toNat)
              case atStart => exact ⟨0, by omega, rfl, HRC.out⟩
              case round =>
                obtain ⟨k, hk, rfl, hpa⟩ := hrel
                have HR : Hid (MM w w16 wr ga (L.length + 1) s7 s9 sc sd N7 N15 x y x3 y3 (.slice p71 nl q71) (.slice p72 nj q72) (.slice p151 ml q151) (.slice p152 mj q152) nl nj ml mj) := hpa
                clear hpa HRC
                by_cases hkN : k < ml
                · obtain ⟨xs, hrow⟩ := HR.out.l3
                  obtain ⟨gl, u0, hal, c0, f0⟩ := own_cells1 hrow hkN
                  have hPg : Wm ga s7 s9 sc sd gl := .inr (.inr (HP3.out gl (by rw [hal]; simp [Value.ownBlock])))
                  have hwg : w.heap.size ≤ gl := by
                    have q := HP3.out gl (by rw [hal]; simp [Value.ownBlock])
                    have q1 := HMC.out.ws
                    have q2 := HMC.out.ag
                    have q3 := HMC.out.b1
                    have q4 := HMC.out.c1
                    have q5 := HMC.out.h1
                    omega
                  have hB1 : N7 ≠ gl := fun e => own_ne hrow HR.out.s1 (by decide) (by rw [hal, e]; simp [Value.ownBlock])
                  have hB3 : N15 ≠ gl := fun e => own_ne hrow HR.out.s3 (by decide) (by rw [hal, e]; simp [Value.ownBlock])
                  have H2 : Hid (MM w w16 (wr.setCell ⟨gl, k, none⟩ (.int .i64 (-8))) ga (L.length + 1) s7 s9 sc sd N7 N15 x y x3 y3 (.slice p71 nl q71) (.slice p72 nj q72) (.slice p151 ml q151) (.slice p152 mj q152) nl nj ml mj) := HR.out.set hPg hwg hB1 hB3 k (.int .i64 (-8))
                  obtain ⟨y0, y1, y2, y3⟩ := HR.out.r3.cells
                  clear hPg hwg hB1 hB3 hrow
                  have HAL : Hid (p151 = some ⟨gl, 0, none⟩) := hal
                  rw [hal] at y2
                  clear hal
                  have i1 : (0 : Int) ≤ (k : Int) := by omega
                  have i2 : (k : Int) < (ml : Int) := by omega
                  clear HR
                  go_wp2_with fail
                  go_roundw
                  case rel => exact ⟨k + 1, by omega, by go_num, H2.out⟩
                  case measure => simp [intOf]; omega
                · obtain rfl : ml = k := by omega
                  have hdD : decide ((ml : Int) < (ml : Int)) = false := by simp
                  obtain ⟨WD, hWL⟩ : ∃ W1, wr = W1 := ⟨_, rfl⟩
                  rw [hWL] at HR ⊢
                  have HRD : Hid (MM w w16 WD ga (L.length + 1) s7 s9 sc sd N7 N15 x y x3 y3 (.slice p71 nl q71) (.slice p72 nj q72) (.slice p151 ml q151) (.slice p152 mj q152) nl nj ml mj) := HR.out
                  clear HR hWL
                  obtain ⟨y0, y1, y2, y3⟩ := HRD.out.r3.cells
                  go_wp2_with fail
                  clear y0 y1 y2 y3
                  go_loopw [175] (fun i wx => ∃ k : Nat, k ≤ mj ∧ i = .int .i64 (k : Int) ∧ MM w w16 wx ga (L.length + 1) s7 s9 sc sd N7 N15 x y x3 y3 (.slice p71 nl q71) (.slice p72 nj q72) (.slice p151 ml q151) (.slice p152 mj q152) nl nj ml mj) (fun i _ => mj - (intOf i).toNat)
                  case atStart => exact ⟨0, by omega, rfl, HRD.out⟩
                  case round =>
                    obtain ⟨k, hk, rfl, hpa⟩ := hrel
                    have HR : Hid (MM w w16 wr ga (L.length + 1) s7 s9 sc sd N7 N15 x y x3 y3 (.slice p71 nl q71) (.slice p72 nj q72) (.slice p151 ml q151) (.slice p152 mj q152) nl nj ml mj) := hpa
                    clear hpa HRD
                    by_cases hkN : k < mj
                    · obtain ⟨xs, hrow⟩ := HR.out.j3
                      obtain ⟨gl, u0, u1, hal, c0, c1, f0, f1⟩ := own_cells hrow hkN
                      have hPg : Wm ga s7 s9 sc sd gl := .inr (.inr (HP4.out gl (by rw [hal]; simp [Value.ownBlock])))
                      have hwg : w.heap.size ≤ gl := by
                        have q := HP4.out gl (by rw [hal]; simp [Value.ownBlock])
                        have q1 := HMC.out.ws
                        have q2 := HMC.out.ag
                        have q3 := HMC.out.b1
                        have q4 := HMC.out.c1
                        have q5 := HMC.out.h1
                        omega
                      have hB1 : N7 ≠ gl := fun e => own_ne hrow HR.out.s1 (by decide) (by rw [hal, e]; simp [Value.ownBlock])
                      have hB3 : N15 ≠ gl := fun e => own_ne hrow HR.out.s3 (by decide) (by rw [hal, e]; simp [Value.ownBlock])
                      have H2 : Hid (MM w w16 ((wr.setCell ⟨gl, k * 2, none⟩ (.int .i64 (-9))).setCell ⟨gl, k * 2 + 1, none⟩ (.int .i64 0)) ga (L.length + 1) s7 s9 sc sd N7 N15 x y x3 y3 (.slice p71 nl q71) (.slice p72 nj q72) (.slice p151 ml q151) (.slice p152 mj q152) nl nj ml mj) := HR.out.set2 hPg hwg hB1 hB3 (k * 2) (k * 2 + 1) (.int .i64 (-9)) (.int .i64 0)
                      obtain ⟨y0, y1, y2, y3⟩ := HR.out.r3.cells
                      clear hPg hwg hB1 hB3 hrow
                      have HAL : Hid (p152 = some ⟨gl, 0, none⟩) := hal
                      rw [hal] at y3
                      clear hal
                      have i1 : (0 : Int) ≤ (k : Int) := by omega
                      have i2 : (k : Int) < (mj : Int) := by omega
                      clear HR
                      go_wp2_with fail
                      go_roundw
                      case rel => exact ⟨k + 1, by omega, by go_num, H2.out⟩
                      case measure => simp [intOf]; omega
                    · obtain rfl : mj = k := by omega
                      have hdE : decide ((mj : Int) < (mj : Int)) = false := by simp
                      obtain ⟨WE, hWL⟩ : ∃ W1, wr = W1 := ⟨_, rfl⟩
                      rw [hWL] at HR ⊢
                      have HRE : Hid (MM w w16 WE ga (L.length + 1) s7 s9 sc sd N7 N15 x y x3 y3 (.slice p71 nl q71) (.slice p72 nj q72) (.slice p151 ml q151) (.slice p152 mj q152) nl nj ml mj) := HR.out
                      clear HR hWL
                      obtain ⟨xs, hrow⟩ := HRE.out.l1
                      obtain ⟨y0, y1, y2, y3⟩ := HRE.out.r1.cells
                      have hs7 : s7 ≤ WE.heap.size := by have q1 := HMC.out.c1; have q2 := HMC.out.h1; have q3 := HMC.out.b1; have q4 := HMC.out.b3; have q5 := HMC.out.c3; have q6 := HMC.out.v; have q7 := HRE.out.ke.size; omega
                      go_upto_region 42 with (at_builtin; (refine wpList_append_own_at _ rfl _ _ 32 rfl s7 3 i0 (.int .i64 0) 1 8 Tryz.underlying32 hi hz0 hz1 hz2 rfl (by decide) (.slice p71 nl q71) nl xs rfl (hrow.alloc _) ⟨WE.heap.size, 0, none⟩ 1 1 [.int .i64 (-1)] rfl rfl (cell_one_new _ _ _) (by simp [Value.oneCell']) (by unfold maxLen; omega) (by omega) (by simp; omega) ?_); intro v3 u3 hown hgr _ hat; obtain ⟨av, cv, rfl⟩ := owns_slice hown; have hb3 := rc_grown HRE.out.r1 hrow (by decide) hgr; have hc3 := cell_of_row u3 N7 2 _ _ _ hb3; have hf3 := Rs.row_frozen hb3 2)
                      have h9 := HRE.out.appL1 (v' := .slice av (nl + 1) cv) HMC.out hrow hgr HP1.out
                      clear hown hgr hat hb3 hc3 hf3 y0 y1 y2 y3 hrow hs7 HRE
                      generalize u3.setCell ⟨N7, 2, none⟩ (.slice av (nl + 1) cv) = WF at *
                      obtain ⟨vl9, hvl9⟩ : ∃ v, Value.slice av (nl + 1) cv = v := ⟨_, rfl⟩
                      rw [hvl9] at h9
                      clear hvl9
                      have HZ1 : Hid (MZ w w16 WF ga s7 s9 sc sd N7 N15 #[.int .i64 x, .int .i64 y, vl9, .slice p72 nj q72] #[.int .i64 x3, .int .i64 y3, .slice p151 ml q151, .slice p152 mj q152]) := h9.1
                      have HZ2 : Hid (∃ ys, WF.ownsRow sc 3 1 (.slice p151 ml q151) ml ys) := h9.2.1
                      have HZ3 : Hid (∃ ys, WF.ownsRow s7 62 2 (.slice p72 nj q72) nj ys) := h9.2.2
                      clear h9
                      obtain ⟨xs, hrow⟩ := HZ2.out
                      obtain ⟨y0, y1, y2, y3⟩ := HZ1.out.r3.cells
                      have hs7 : sc ≤ WF.heap.size := by have q1 := HMC.out.c1; have q2 := HMC.out.h1; have q3 := HMC.out.b1; have q4 := HMC.out.b3; have q5 := HMC.out.c3; have q6 := HMC.out.v; have q7 := HZ1.out.ke.size; omega
                      go_upto_region 43 with (at_builtin; (refine wpList_append_own_at _ rfl _ _ 32 rfl sc 3 i0 (.int .i64 0) 1 8 Tryz.underlying32 hi hz0 hz1 hz2 rfl (by decide) (.slice p151 ml q151) ml xs rfl (hrow.alloc _) ⟨WF.heap.size, 0, none⟩ 1 1 [.int .i64 (-2)] rfl rfl (cell_one_new _ _ _) (by simp [Value.oneCell']) (by unfold maxLen; omega) (by omega) (by simp; omega) ?_); intro v3 u3 hown hgr _ hat; obtain ⟨av, cv, rfl⟩ := owns_slice hown; have hb3 := rc_grown HZ1.out.r3 hrow (by decide) hgr; have hc3 := cell_of_row u3 N15 2 _ _ _ hb3; have hf3 := Rs.row_frozen hb3 2)
                      have h9 := HZ1.out.appL3 (v' := .slice av (ml + 1) cv) HZ3.out HMC.out hrow hgr HP3.out
                      clear hown hgr hat hb3 hc3 hf3 y0 y1 y2 y3 hrow hs7 HZ1 HZ2 HZ3
                      generalize u3.setCell ⟨N15, 2, none⟩ (.slice av (ml + 1) cv) = WG at *
                      obtain ⟨vl8, hvl8⟩ : ∃ v, Value.slice av (ml + 1) cv = v := ⟨_, rfl⟩
                      rw [hvl8] at h9
                      clear hvl8
                      have HZ4 : Hid (MZ w w16 WG ga s7 s9 sc sd N7 N15 #[.int .i64 x, .int .i64 y, vl9, .slice p72 nj q72] #[.int .i64 x3, .int .i64 y3, vl8, .slice p152 mj q152]) := h9.1
                      have HZ5 : Hid (∃ ys, WG.ownsRow s7 62 2 (.slice p72 nj q72) nj ys) := h9.2
                      clear h9
                      obtain ⟨xs, hrow⟩ := HZ5.out
                      obtain ⟨y0, y1, y2, y3⟩ := HZ4.out.r1.cells
                      have hs7 : s7 ≤ WG.heap.size := by have q1 := HMC.out.c1; have q2 := HMC.out.h1; have q3 := HMC.out.b1; have q4 := HMC.out.b3; have q5 := HMC.out.c3; have q6 := HMC.out.v; have q7 := HZ4.out.ke.size; omega
                      go_upto_region 44 with (at_builtin; (refine wpList_append_own_at _ rfl _ _ 36 rfl s7 62 j0 (.agg #[.int .i64 0, .int .i64 0]) 2 16 Tryz.underlying36 hj0 hq0 hq1 hq2 rfl (by decide) (.slice p72 nj q72) nj xs rfl (hrow.alloc _) ⟨WG.heap.size, 0, none⟩ 1 1 [.int .i64 (-3), .int .i64 0] rfl rfl (cell_two_new _ _ _ _) (by simp [Value.oneCell']) (by unfold maxLen; omega) (by omega) (by simp; omega) ?_); intro v3 u3 hown hgr _ hat; obtain ⟨av, cv, rfl⟩ := owns_slice hown; have hb3 := rc_grown HZ4.out.r1 hrow (by decide) hgr; have hc3 := cell_of_row u3 N7 3 _ _ _ hb3; have hf3 := Rs.row_frozen hb3 3)
                      have h9 := HZ4.out.appJ1 (v' := .slice av (nj + 1) cv) HMC.out hrow hgr HP2.out
                      clear hown hgr hat hb3 hc3 hf3 y0 y1 y2 y3 hrow hs7 HZ4 HZ5
                      generalize u3.setCell ⟨N7, 3, none⟩ (.slice av (nj + 1) cv) = WH at *
                      have HZ : Hid (MZ w w16 WH ga s7 s9 sc sd N7 N15 #[.int .i64 x, .int .i64 y, vl9, .slice av (nj + 1) cv] #[.int .i64 x3, .int .i64 y3, vl8, .slice p152 mj q152]) := h9
                      clear h9
                      obtain ⟨e1, e2, e3⟩ := HK8.out _ HZ.out.ke
                      obtain ⟨f2, f3⟩ := HK6.out _ HZ.out.ke
                      have hsm := sr2_any x y x y p81 p82 p61 p62 q81 q82 q61 q62 lo lo lj lj WH (by rw [HNN.out.1]; omega) (by rw [HNN.out.1]; omega) (by rw [HNN.out.2.1]; omega) (by rw [HNN.out.2.1]; omega) e1 e2 (HWR.out _ HZ.out.bel) f2
                      rw [sam_refl] at hsm
                      obtain ⟨x0, x1, x2, x3'⟩ := e3.cells
                      obtain ⟨y0, y1, y2, y3'⟩ := f3.cells
                      clear e1 e2 e3 f2 f3
                      by_cases hE2 : E2 = 0
                      · subst hE2
                        go_wp2_with fail
                        refine hsm.mono ?_
                        rintro r u9 ⟨rfl, hb9⟩
                        clear hsm x0 x1 x2 x3' y0 y1 y2 y3'
                        obtain ⟨f2, f3⟩ := HK6.out _ HZ.out.ke
                        obtain ⟨g1, g2, g3⟩ := HK16.out _ HZ.out.ke
                        have hsm := sr2_any x3 y3 x y p161 p162 p61 p62 q161 q162 q61 q62 l3 lo j3 lj u9 (by rw [HNN.out.2.2.1]; omega) (by rw [HNN.out.1]; omega) (by rw [HNN.out.2.2.2]; omega) (by rw [HNN.out.2.1]; omega) (g1.later hb9) (g2.later hb9) (HWR.out _ (HZ.out.bel.trans (hb9.mono HZ.out.bel.size))) (f2.later hb9)
                        rw [show sam x3 y3 l3 j3 x y lo lj = true from sam_iff.2 (HQ.out.1 (by trivial))] at hsm
                        obtain ⟨x0, x1, x2, x3'⟩ := (g3.later hb9).cells
                        obtain ⟨y0, y1, y2, y3'⟩ := (f3.later hb9).cells
                        clear f2 f3 g1 g2 g3
                        go_wp2_with fail
                        refine hsm.mono ?_
                        rintro r u10 ⟨rfl, hb10⟩
                        clear hsm x0 x1 x2 x3' y0 y1 y2 y3'
                        have hbT := hb9.trans (hb10.mono hb9.size)
                        obtain ⟨y0, y1, y2, y3⟩ := (HZ.out.r1.later hbT).cells
                        obtain ⟨x0, x1, x2, x3'⟩ := ((HK8.out _ HZ.out.ke).2.2.later hbT).cells
                        rw [HNN.out.2.1] at x3'
                        have hne := smS_ne av p82 cv q82 (nj + 1) nj u10 (by omega)
                        go_wp2_with fail
                        refine hne.mono ?_
                        rintro r wl ⟨rfl, hbl⟩
                        have hB9 := (HZ.out.bel.trans (hbT.mono HZ.out.bel.size))
                        have hB8 := hB9.trans (hbl.mono hB9.size)
                        clear hne y0 y1 y2 y3 x0 x1 x2 x3'
                        go_wp2_with fail
                        go_ret
                        exact ⟨rfl, hB8⟩
                      · have hd2 : (E2 != 0) = true := by simpa using hE2
                        go_wp2_with fail
                        refine hsm.mono ?_
                        rintro r u9 ⟨rfl, hb9⟩
                        clear hsm x0 x1 x2 x3' y0 y1 y2 y3'
                        obtain ⟨y0, y1, y2, y3⟩ := (HZ.out.r1.later hb9).cells
                        obtain ⟨x0, x1, x2, x3'⟩ := ((HK8.out _ HZ.out.ke).2.2.later hb9).cells
                        rw [HNN.out.2.1] at x3'
                        have hne := smS_ne av p82 cv q82 (nj + 1) nj u9 (by omega)
                        go_wp2_with fail
                        refine hne.mono ?_
                        rintro r wl ⟨rfl, hbl⟩
                        have hB9 := (HZ.out.bel.trans (hb9.mono HZ.out.bel.size))
                        have hB8 := hB9.trans (hbl.mono hB9.size)
                        clear hne y0 y1 y2 y3 x0 x1 x2 x3'
                        go_wp2_with fail
                        go_ret
                        exact ⟨rfl, hB8⟩
theorem own : ownKnob Tryz.prog.godebug = none := by kernel_rfl
theorem laidOut : laidOutB Tryz.prog = true := by kernel_rfl
set_option maxRecDepth 20000 in
theorem contract (H : Type) (enc : TypeId × Value → H) (W : World) (base : Nat) (args : Array Value) (ds gs : List (DataW H)) (before : List MemPlace)
    (hval : ∀ (j : Nat) t v, Tryz.f6.params[j]? = some t → args[j]? = some v → Value.okWide Tryz.prog W .any base t v)
    (hW : DataW.Whole enc Tryz.prog Tryz.f6.params.toList Rows.recordMemorySpec.vars false W args.toList ds gs before)
    (hsz : (DataW.weightsEach Tryz.prog (Tryz.f6.params.toList ++ Rows.recordMemorySpec.plain.varTypes Tryz.prog) (ds ++ gs)).all (· ≤ reachBytes) = true)
    (hL : laidMetH Tryz.prog Rows.recordMemoryRow.laid W) :
    Calls Tryz.prog 6 args W fun e W' => ∃ v, e = .returned v ∧ Rows.recordMemorySpec.post enc Tryz.prog Tryz.f6 false true false false W args v W' := by
  have hv := vs_of hL
  have hW' := hW
  obtain ⟨p, q, hA0, hV, rfl, hfz, hnd⟩ := hW
  have hA : DataW.TrodAll enc Tryz.prog W 0 (fun _ => true) true Tryz.f6.params.toList args.toList ds p := hA0
  rw [Tryz.params6] at hA hval hsz
  obtain ⟨v0, vs0, d0, ds0, p0, q0, hargs, rfl, rfl, h0, r0⟩ := trodAll_cons hA
  obtain ⟨v1, vs1, d1, ds1, p1, q1, rfl, rfl, rfl, h1, r1⟩ := trodAll_cons r0
  obtain ⟨rfl, rfl, rfl⟩ := trodAll_nil r1
  obtain rfl : args = #[v0, v1] := by cases args; simp_all
  obtain ⟨rfl, rfl⟩ := trodVars_none hV
  have k0 := h0
  have lt0 : ∀ x ∈ p0, x.block < W.heap.size := by obtain ⟨m, hm⟩ := k0; exact DataW.trod_lt m _ _ _ hm
  obtain ⟨f0, rfl⟩ := open_tr (hval 0 31 v0 rfl rfl) h0
  have k1 := h1
  have lt1 : ∀ x ∈ p1, x.block < W.heap.size := by obtain ⟨m, hm⟩ := k1; exact DataW.trod_lt m _ _ _ hm
  obtain ⟨aL1, aJ1, cL1, cJ1, L1, J1, rfl, rL1, rJ1, lL1, lJ1⟩ := open_bt (fun parts e => sized_agg hsz (j := 1) (t := 34) rfl (by rw [← e]; rfl) Tryz.underlying34) (hval 1 34 v1 rfl rfl) h1
  clear hA0
  refine (walk f0 aL1 aJ1 cL1 cJ1 L1 J1 W rL1 rJ1 lL1 lJ1 hv).mono fun e W' ⟨he, bel⟩ => ?_
  subst he
  exact ⟨_, rfl, _, _, _, [], _, [], hW', trodAll_mk1 (shut_bool Tryz.underlying4 _), (trodAll_cons_mk (Below.trod laidOut (by kernel_rfl) (of_decide_eq_true (by kernel_rfl)) k0 bel lt0) (trodAll_cons_mk (Below.trod laidOut (by kernel_rfl) (of_decide_eq_true (by kernel_rfl)) k1 bel lt1) trodAll_mk0)), rfl, bel.frame _, fun h => by cases h⟩
set_option maxRecDepth 100000 in
theorem laid_met (os : Os) : laidMet Tryz.prog Rows.recordMemoryRow.laid ((laidWorld os).forCall (fun _ _ => 0) ⟨#[], #[.agg (tcs (tz 0)), .agg #[.slice none 0 0, .slice none 0 0]], []⟩).memory :=
  laidMet_of_run' 8 (by kernel_rfl) (by kernel_rfl)
set_option maxRecDepth 100000 in
theorem reads (os : Os) {H : Type} (enc : TypeId × Value → H) : ∃ places, DataW.whole enc Tryz.prog ((laidWorld os).forCall (fun _ _ => 0) ⟨#[], #[.agg (tcs (tz 0)), .agg #[.slice none 0 0, .slice none 0 0]], []⟩).memory Tryz.f6.params.toList Rows.recordMemorySpec.vars false (#[.agg (tcs (tz 0)), .agg #[.slice none 0 0, .slice none 0 0]] : Array Value).toList 8 = some ([trD, .agg [.nil, .nil]], [], places) :=
  ⟨[], by kernel_rfl⟩
set_option maxRecDepth 100000 in
theorem lifted (os : Os) (started : os.Started) (H : Type) (enc : TypeId × Value → H) (F : Stop.Interp) :
    ReturnsInHanded {} Tryz.checked os 6 .any ((OpenSpec.ofChange Rows.recordMemorySpec).preRow enc Tryz.prog Tryz.f6 Rows.recordMemoryRow.domain false Rows.recordMemoryRow.laid) (((OpenSpec.ofChange Rows.recordMemorySpec).at F).post enc Tryz.prog Tryz.f6 false true false false) := by
  obtain ⟨places, hx⟩ := reads os enc
  refine returnsInHanded_of_row (C := Tryz.checked) (s := (OpenSpec.ofChange Rows.recordMemorySpec)) own started (by kernel_rfl) Tryz.func6
    (witness_row_at (enc := enc) (C := Tryz.checked) false (laidWorld os) #[.agg (tcs (tz 0)), .agg #[.slice none 0 0, .slice none 0 0]] rfl (by kernel_rfl) (by kernel_rfl) (by kernel_rfl)
      (OpenSpec.preRow_of_cond 8 hx (by kernel_rfl) (fun k hk => by cases hk) (by kernel_rfl) (laid_met os))) ?_
  intro W base args ds gs before hval hW hc1 hc2 hsz hL hsh _
  exact contract H enc W base args ds gs before hval hW hsz hL
theorem said : Rows.RecordMemorySaid :=
  OpenClaim.holds_of_cond 6 Tryz.f6 rfl rfl rfl rfl rfl rfl rfl ⟨rfl, rfl, rfl, rfl, rfl⟩ rfl rfl rfl rfl rfl (by kernel_rfl) Tryz.func6 (by kernel_rfl)
    (of_decide_eq_true (by kernel_rfl)) (by unfold Func.isWrapper; first | (rw [if_pos (by decide +kernel)]; kernel_rfl) | (rw [if_neg (by decide +kernel)]; exact ⟨rfl, rfl⟩))
    (fun os started H enc _ F => by rw [OpenClaim.pre_eq_preRow]; exact lifted os started H enc F)
theorem plain (f : FuncId) (fn : Func) (hf : Tryz.pinned.checked.prog.funcNamed "coterie/coterielaw13.RecordMemory" = some f) (hfn : Tryz.pinned.checked.prog.funcs[f]? = some fn) :
    false = Tryz.pinned.checked.prog.looks [] ∧ ∀ (j : Nat) t, fn.params[j]? = some t → Tryz.pinned.checked.prog.wantsStandIn t = false := by
  obtain rfl : f = 6 := Option.some.inj ((show Tryz.prog.funcNamed "coterie/coterielaw13.RecordMemory" = some 6 by kernel_rfl).symm.trans hf) |>.symm
  obtain rfl : fn = Tryz.f6 := (Option.some.inj (Tryz.func6.symm.trans hfn)).symm
  refine ⟨by kernel_rfl, fun j t ht => ?_⟩
  rw [Tryz.params6] at ht
  have h31 : Tryz.prog.wantsStandIn 31 = false := by kernel_rfl
  have h34 : Tryz.prog.wantsStandIn 34 = false := by kernel_rfl
  have hm := Array.mem_of_getElem? ht
  simp at hm
  rcases hm with rfl | rfl
  · exact h31
  · exact h34
end Go.Proofs.YteocfmimgoocnaaGreatDoor.recordMemory
namespace Go.Proofs.YteocfmimgoocnaaGreatDoor
theorem recordMemory_holds : Rows.RecordMemoryCardSaid :=
  Claim7.holds_tied_plain_at .later [] _ _ _ _ recordMemory.said (fun _ h => by cases h) (by kernel_rfl) (fun _ h => by cases h) recordMemory_row_tie rfl ⟨rfl, rfl⟩ (by kernel_rfl) rfl recordMemory.plain (by kernel_rfl)
#print axioms recordMemory_holds
end Go.Proofs.YteocfmimgoocnaaGreatDoor
