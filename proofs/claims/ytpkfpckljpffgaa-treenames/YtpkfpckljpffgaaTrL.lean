/- Contracts: what every statement asks first (lives). -/
import Derived.Test.YtpkfpckljpffgaaTrS
import Derived.Test.YtpkfpckljpffgaaTrF
namespace Go.Proofs.Ytpkfpckljpffgaa
open Go.RowKit
open Rt (Ky zK kcs KsAt KyAt)
open Rs (En zE rcs RoAt EnAt tkn)
set_option linter.unusedVariables false
set_option linter.unusedSimpArgs false

theorem live0 : tck stT = true := by decide +kernel
theorem live1 : KeyA stT 0 = .returned (.tuple #[.agg #[.int .i64 1, .int .i64 0], .int .i64 0]) := by
  have hE : koE stT 0 = 0 := koE_inner live0 (by omega) (by omega)
  exact (KeyA.inner (v := 0) hE (by omega)).symm
theorem eqTr_exec {w : World} {t u : Tr} {ct cu : Array Value} {b : Bool} (hct : tcs t = ct) (hcu : tcs u = cu) (hb : eqT t u = b) {o : Oper} {a : Act} {x y : Operand} (ho : o.op = .binOp .eql 31 x y 31)
    (hx : a.eval x = .agg ct) (hy : a.eval y = .agg cu) : (execOp a.eval o).run Try.prog w = .ok (.value (.bool b)) w := by
  subst hb hct hcu
  have h1 := run_eqGuard_agg (P := Try.prog) w .eql 31 x y (tcs t) (tcs u) Try.eqGuardType31
  have h2 := run_eql_struct (P := Try.prog) w 31 (tcs t) (tcs u)
  rw [run_eqTr] at h2
  simp [execOp, ho, hx, hy, h1, h2, Sem.run_bind, Result.andThen]
structure SL (w W : World) (B K : Nat) (t : Tr) (e : Ky) : Prop where
  tr : TrAt W B t
  ky : KyAt W K e
  bel : Below w.heap.size w W
theorem SL.later {w W W' : World} {B K : Nat} {t : Tr} {e : Ky} (h : SL w W B K t e) (hb : Below W.heap.size W W') : SL w W' B K t e := ⟨h.tr.later hb, h.ky.later hb, h.bel.trans (hb.mono h.bel.size)⟩
set_option maxRecDepth 100000 in
set_option maxHeartbeats 1000000 in
theorem lives_any (w : World) : Calls Try.prog 9 #[] w fun e w' => e = .returned (.bool true) ∧ Below w.heap.size w w' := by
  have h1 := start_any w
  have h2 := group_any stT
  rw [live1] at h2
  have h3 := check_any stT
  rw [tckE_tt live0] at h3
  have h4 := rStart_any
  have HE : Hid (eqT stT stT = true) := eqT_refl stT
  go_enter Try.func9, Try.ntmps9
  go_wp2_with fail
  refine h1.mono ?_
  rintro e w1 ⟨rfl, hb1⟩
  clear h1
  have hz := TrAt.zero w1
  go_upto_region 2 with (refine stTr (u := stT) hz rfl _ _ rfl rfl rfl ?_)
  rw [zero236, World.setRow_alloc_new]
  have hT2 := TrAt.new w1 stT
  have hB2 := hb1.trans ((alloc_tr w1 stT).mono hb1.size)
  clear hz hb1
  generalize w1.alloc (.cells (tcs stT) 31) = w2 at *
  generalize w1.heap.size = B at *
  obtain ⟨ct, hct⟩ : ∃ c, tcs stT = c := ⟨_, rfl⟩
  simp only [hct] at h2 h3 h4
  rw [hct]
  have HT : Hid (tcs stT = ct) := hct
  clear hct
  generalize stT = t at *
  go_wp2_with (refine rdT hT2 HT.out _ rfl rfl rfl ?_)
  refine (h2 _).mono ?_
  rintro e w3 ⟨rfl, hb3⟩
  have hB3 := hB2.trans (hb3.mono hB2.size)
  have hT3 := hT2.later hb3
  clear h2 hb3 hB2 hT2
  go_upto_region 3 with (fail)
  have hS : SL w (w3.alloc (.cells #[.int .i64 1, .int .i64 0] 23)) B w3.heap.size t ⟨1, 0⟩ := ⟨hT3.later (below_alloc _ _), KyAt.new w3 ⟨1, 0⟩, hB3.trans ((below_alloc _ _).mono hB3.size)⟩
  clear hT3 hB3
  generalize w3.alloc (.cells #[.int .i64 1, .int .i64 0] 23) = w4 at *
  generalize w3.heap.size = K at *
  have hS0 : SL w w4.drew B K t ⟨1, 0⟩ := hS.later (drew_below _)
  clear hS
  refine wp_region_held_drew (S := fun W => SL w W B K t ⟨1, 0⟩) (by kernel_rfl) hS0 (fun hHeld => ?_)
  refine wpAnyH_take (i := 0) (oi := { dst := some 10, op := Op.load 31 (Operand.tmp 1), type := _, pos := _, after := _, guard := none }) (v := .agg ct) rfl (by kernel_rfl) (by kernel_rfl) (by kernel_rfl) (fun _ _ _ h => h) (Or.inl ⟨by rfl, fun w hSw => ld_exec (HT.out ▸ hSw.tr.whole) rfl rfl⟩) (by assumption) ?_
  simp only [Act.put, List.setIfInBounds_toArray, List.set_cons_zero, List.set_cons_succ]
  refine wpAnyH_ready (rs := [1]) (by kernel_rfl) (by simp) ?_
  refine AllReadyH.cons rfl (fun K hK => ?_) AllReadyH.nil
  go_simp
  refine (h3 _).mono ?_
  rintro r w5 ⟨rfl, hb5⟩
  go_wp2_with fail
  refine hK.out _ _ (hHeld.later hb5) (fun hHeld2 => ?_)
  clear hHeld hb5
  clear hK K
  try simp only [Act.put, List.setIfInBounds_toArray, List.set_cons_zero, List.set_cons_succ]
  refine wpAnyH_take (i := 2) (oi := { dst := some 12, op := Op.binOp BinOp.eql 33 (Operand.tmp 11) (Operand.const (Value.int IntKind.i64 0)) 33, type := _, pos := _, after := _, guard := none }) (v := .bool true) rfl (by kernel_rfl) (by kernel_rfl) (by kernel_rfl) (fun _ _ _ h => h) (Or.inl ⟨by rfl, fun w hSw => by (try dsimp only at hSw); go_simp⟩) (by assumption) ?_
  simp only [Act.put, List.setIfInBounds_toArray, List.set_cons_zero, List.set_cons_succ]
  refine wpAnyH_take (i := 3) (oi := { dst := some 13, op := Op.move (Operand.tmp 12), type := _, pos := _, after := _, guard := none }) (v := .bool true) rfl (by kernel_rfl) (by kernel_rfl) (by kernel_rfl) (fun _ _ _ h => h) (Or.inl ⟨by rfl, fun w hSw => by (try dsimp only at hSw); go_simp⟩) (by assumption) ?_
  simp only [Act.put, List.setIfInBounds_toArray, List.set_cons_zero, List.set_cons_succ]
  refine wpAnyH_take (i := 4) (oi := { dst := some 14, op := Op.load 31 (Operand.tmp 1), type := _, pos := _, after := _, guard := some (3, true) }) (v := .agg ct) rfl (by kernel_rfl) (by kernel_rfl) (by kernel_rfl) (fun _ _ _ h => h) (Or.inl ⟨by rfl, fun w hSw => ld_exec (HT.out ▸ hSw.tr.whole) rfl rfl⟩) (by assumption) ?_
  simp only [Act.put, List.setIfInBounds_toArray, List.set_cons_zero, List.set_cons_succ]
  refine wpAnyH_ready (rs := [5]) (by kernel_rfl) (by simp) ?_
  refine AllReadyH.cons rfl (fun K hK => ?_) AllReadyH.nil
  go_simp
  refine (h4 _).mono ?_
  rintro r w6 ⟨rfl, hb6⟩
  go_wp2_with fail
  refine hK.out _ _ (hHeld2.later hb6) (fun hHeld3 => ?_)
  clear hHeld2 hb6
  clear hK K
  try simp only [Act.put, List.setIfInBounds_toArray, List.set_cons_zero, List.set_cons_succ]
  refine wpAnyH_take (i := 6) (oi := { dst := some 16, op := Op.binOp BinOp.eql 31 (Operand.tmp 14) (Operand.tmp 15) 31, type := _, pos := _, after := _, guard := some (3, true) }) (v := .bool true) rfl (by kernel_rfl) (by kernel_rfl) (by kernel_rfl) (fun _ _ _ h => h) (Or.inl ⟨by rfl, fun w hSw => eqTr_exec HT.out HT.out HE.out rfl rfl rfl⟩) (by assumption) ?_
  simp only [Act.put, List.setIfInBounds_toArray, List.set_cons_zero, List.set_cons_succ]
  refine wpAnyH_take (i := 7) (oi := { dst := some 17, op := Op.pick (Operand.tmp 13) (Operand.tmp 16) (Operand.const (Value.bool false)), type := _, pos := _, after := _, guard := none }) (v := .bool true) rfl (by kernel_rfl) (by kernel_rfl) (by kernel_rfl) (fun _ _ _ h => h) (Or.inl ⟨by rfl, fun w hSw => by (try dsimp only at hSw); go_simp⟩) (by assumption) ?_
  simp only [Act.put, List.setIfInBounds_toArray, List.set_cons_zero, List.set_cons_succ]
  refine wpAnyH_take (i := 8) (oi := { dst := some 18, op := Op.move (Operand.tmp 17), type := _, pos := _, after := _, guard := none }) (v := .bool true) rfl (by kernel_rfl) (by kernel_rfl) (by kernel_rfl) (fun _ _ _ h => h) (Or.inl ⟨by rfl, fun w hSw => by (try dsimp only at hSw); go_simp⟩) (by assumption) ?_
  simp only [Act.put, List.setIfInBounds_toArray, List.set_cons_zero, List.set_cons_succ]
  refine wpAnyH_take (i := 9) (oi := { dst := some 19, op := Op.move (Operand.tmp 3), type := _, pos := _, after := _, guard := some (8, true) }) (v := .int .i64 0) rfl (by kernel_rfl) (by kernel_rfl) (by kernel_rfl) (fun _ _ _ h => h) (Or.inl ⟨by rfl, fun w hSw => by (try dsimp only at hSw); go_simp⟩) (by assumption) ?_
  simp only [Act.put, List.setIfInBounds_toArray, List.set_cons_zero, List.set_cons_succ]
  refine wpAnyH_take (i := 10) (oi := { dst := some 20, op := Op.binOp BinOp.eql 33 (Operand.tmp 19) (Operand.const (Value.int IntKind.i64 0)) 33, type := _, pos := _, after := _, guard := some (8, true) }) (v := .bool true) rfl (by kernel_rfl) (by kernel_rfl) (by kernel_rfl) (fun _ _ _ h => h) (Or.inl ⟨by rfl, fun w hSw => by (try dsimp only at hSw); go_simp⟩) (by assumption) ?_
  simp only [Act.put, List.setIfInBounds_toArray, List.set_cons_zero, List.set_cons_succ]
  refine wpAnyH_take (i := 11) (oi := { dst := some 21, op := Op.pick (Operand.tmp 18) (Operand.tmp 20) (Operand.const (Value.bool false)), type := _, pos := _, after := _, guard := none }) (v := .bool true) rfl (by kernel_rfl) (by kernel_rfl) (by kernel_rfl) (fun _ _ _ h => h) (Or.inl ⟨by rfl, fun w hSw => by (try dsimp only at hSw); go_simp⟩) (by assumption) ?_
  simp only [Act.put, List.setIfInBounds_toArray, List.set_cons_zero, List.set_cons_succ]
  refine wpAnyH_take (i := 12) (oi := { dst := some 22, op := Op.move (Operand.tmp 21), type := _, pos := _, after := _, guard := none }) (v := .bool true) rfl (by kernel_rfl) (by kernel_rfl) (by kernel_rfl) (fun _ _ _ h => h) (Or.inl ⟨by rfl, fun w hSw => by (try dsimp only at hSw); go_simp⟩) (by assumption) ?_
  simp only [Act.put, List.setIfInBounds_toArray, List.set_cons_zero, List.set_cons_succ]
  refine wpAnyH_take (i := 13) (oi := { dst := some 23, op := Op.load 23 (Operand.tmp 2), type := _, pos := _, after := _, guard := some (12, true) }) (v := .agg #[.int .i64 1, .int .i64 0]) rfl (by kernel_rfl) (by kernel_rfl) (by kernel_rfl) (fun _ _ _ h => h) (Or.inl ⟨by rfl, fun w hSw => by obtain ⟨c0, c1⟩ := hSw.ky.cells; clear hSw; go_simp⟩) (by assumption) ?_
  simp only [Act.put, List.setIfInBounds_toArray, List.set_cons_zero, List.set_cons_succ]
  refine wpAnyH_take (i := 14) (oi := { dst := some 24, op := Op.build 23 #[(0, Operand.const (Value.int IntKind.i64 1))], type := _, pos := _, after := _, guard := some (12, true) }) (v := .agg #[.int .i64 1, .int .i64 0]) rfl (by kernel_rfl) (by kernel_rfl) (by kernel_rfl) (fun _ _ _ h => h) (Or.inl ⟨by rfl, fun w hSw => by (try dsimp only at hSw); go_simp⟩) (by assumption) ?_
  simp only [Act.put, List.setIfInBounds_toArray, List.set_cons_zero, List.set_cons_succ]
  refine wpAnyH_take (i := 15) (oi := { dst := some 25, op := Op.binOp BinOp.eql 23 (Operand.tmp 23) (Operand.tmp 24) 23, type := _, pos := _, after := _, guard := some (12, true) }) (v := .bool true) rfl (by kernel_rfl) (by kernel_rfl) (by kernel_rfl) (fun _ _ _ h => h) (Or.inl ⟨by rfl, fun w hSw => by (try dsimp only at hSw); go_simp⟩) (by assumption) ?_
  simp only [Act.put, List.setIfInBounds_toArray, List.set_cons_zero, List.set_cons_succ]
  refine wpAnyH_take (i := 16) (oi := { dst := some 26, op := Op.pick (Operand.tmp 22) (Operand.tmp 25) (Operand.const (Value.bool false)), type := _, pos := _, after := _, guard := none }) (v := .bool true) rfl (by kernel_rfl) (by kernel_rfl) (by kernel_rfl) (fun _ _ _ h => h) (Or.inl ⟨by rfl, fun w hSw => by (try dsimp only at hSw); go_simp⟩) (by assumption) ?_
  simp only [Act.put, List.setIfInBounds_toArray, List.set_cons_zero, List.set_cons_succ]
  refine wpAnyH_take (i := 17) (oi := { dst := some 0, op := Op.assign (Operand.tmp 26), type := _, pos := _, after := _, guard := none }) (v := .bool true) rfl (by kernel_rfl) (by kernel_rfl) (by kernel_rfl) (fun _ _ _ h => h) (Or.inl ⟨by rfl, fun w hSw => by (try dsimp only at hSw); go_simp⟩) (by assumption) ?_
  simp only [Act.put, List.setIfInBounds_toArray, List.set_cons_zero, List.set_cons_succ]
  refine wpAnyH_done (by kernel_rfl) ?_ _
  go_wp2_with fail
  go_ret
  exact ⟨rfl, hHeld3.bel⟩
end Go.Proofs.Ytpkfpckljpffgaa
