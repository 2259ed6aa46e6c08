/- PmA, PmB, joined. -/
import Derived.Test.YtpimbpfefhkojabGreatDoorPlJ5
import Derived.Test.YtpimbpfefhkojabGreatDoorPlZ
import Derived.Test.YtpimbpfefhkojabGreatDoorPlF
import Derived.Test.YtpimbpfefhkojabGreatDoorPlJ3
import Derived.Test.YtpimbpfefhkojabGreatDoorPlMath3
namespace Go.Proofs.YtpimbpfefhkojabGreatDoor
open Go.RowKit Go.Maps
open Rt (Ky zK KyAt)
open Rs (En zE rcs tkn fnd RdS RdI ps)
set_option linter.unusedVariables false
set_option linter.unusedSimpArgs false

theorem neTr_exec {w : World} {t : Tr} {c : Array Value} (hc : tcs t = c) {o : Oper} {a : Act} {x y : Operand} (ho : o.op = .binOp .neq 47 x y 47) (hx : a.eval x = .agg c) (hy : a.eval y = .agg c) : (execOp a.eval o).run Tryz.prog w = .ok (.value (.bool false)) w := by
  subst hc
  have h1 := run_eqGuard_agg (P := Tryz.prog) w .neq 47 x y (tcs t) (tcs t) Tryz.eqGuardType47
  have h2 := run_neq_struct (P := Tryz.prog) w 47 (tcs t) (tcs t)
  rw [run_eqTr, eqT_refl] at h2
  simp [execOp, ho, hx, hy, h1, h2, Sem.run_bind, Result.andThen]
structure RowOk (ts : List Tr) : Prop where
  ne : 0 < ts.length
  st : ts.getD 0 (tz 0) = stT
  stp : ∀ i, i + 1 < ts.length → ∃ L J, Stp (ts.getD i (tz 0)) L J ∧ ts.getD (i + 1) (tz 0) = nx (ts.getD i (tz 0)) L J
set_option maxRecDepth 100000 in
set_option maxHeartbeats 4000000 in
theorem rRight_any (a : Option Addr) (c : Nat) (ts : List Tr) (w : World) (hl : ts.length ≤ 4096) (hr : RdR w a ts) (hok : RowOk ts) :
    Calls Tryz.prog 14 #[.slice a ts.length c] w fun e w' => e = .returned (.bool true) ∧ Below w.heap.size w w' := by
  obtain ⟨b, eb, -, -⟩ := hr.tree hok.ne hok.st
  have HLD : Hid (∀ i t, i < ts.length → ts.getD i (tz 0) = t → ∀ W, Below w.heap.size w W → (Instr.loadAt 47 (.pointer (some ⟨b, i * 236, none⟩))).run Tryz.prog W = .ok (.agg (tcs t)) W) := fun i t hi ht W hW => by
    obtain ⟨b', e', h2, -⟩ := (hr.later hW).tree hi ht
    rw [eb] at e'
    simp at e'
    subst e'
    exact h2
  have HL0 : Hid (∀ W, Below w.heap.size w W → (Instr.loadAt 47 (.pointer (some ⟨b, 0, none⟩))).run Tryz.prog W = .ok (.agg (tcs stT)) W) := fun W hW => by
    have := HLD.out 0 stT hok.ne hok.st W hW
    rw [Nat.zero_mul] at this
    exact this
  have HOK : Hid (RowOk ts) := hok
  subst eb
  obtain ⟨NT, hNT⟩ : ∃ n, ts.length = n := ⟨_, rfl⟩
  have HNT : Hid (ts.length = NT) := hNT
  have hn1 : 0 < NT := by rw [← hNT]; exact hok.ne
  have hn2 : NT ≤ 4096 := by rw [← hNT]; exact hl
  rw [hNT]
  clear hNT hok hr hl
  have n0 : ((NT : Int) == 0) = false := by simp; omega
  have n1 : (NT == 0) = false := by simp; omega
  have n2 : (0 : Int) < (NT : Int) := by omega
  have n3 : decide (NT = 0) = false := decide_eq_false (by omega)
  obtain ⟨c0, hc0⟩ : ∃ c, tcs stT = c := ⟨_, rfl⟩
  have HC0 : Hid (tcs stT = c0) := hc0
  have hst := rStart_any
  rw [hc0] at HL0
  rw [hc0] at hst
  clear hc0
  go_enter Tryz.func14, Tryz.ntmps14
  go_upto_region 1 with (fail)
  have hS0 : Below w.heap.size w w.drew := drew_below _
  refine wp_region_held_drew (S := fun X => Below w.heap.size w X) (by kernel_rfl) hS0 (fun hHeld => ?_)
  refine wpAnyH_take (i := 0) (oi := { dst := some 8, op := Op.move (Operand.tmp 0), type := _, pos := _, after := _, guard := none }) (v := .slice (some ⟨b, 0, none⟩) NT c) rfl (by kernel_rfl) (by kernel_rfl) (by kernel_rfl) (fun _ _ _ h => h) (Or.inl ⟨by rfl, fun w hSw => by (try dsimp only at hSw); go_simp⟩) (by assumption) ?_
  simp only [Act.put, List.setIfInBounds_toArray, List.set_cons_zero, List.set_cons_succ]
  refine wpAnyH_take (i := 1) (oi := { dst := some 9, op := Op.call { callee := Callee.builtin Builtin.len, args := #[(Operand.tmp 8)], argTypes := #[26] }, type := _, pos := _, after := _, guard := none }) (v := .int .i64 (NT : Int)) rfl (by kernel_rfl) (by kernel_rfl) (by kernel_rfl) (fun _ _ _ h => h) (Or.inl ⟨by rfl, fun w hSw => by (try dsimp only at hSw); go_simp⟩) (by assumption) ?_
  simp only [Act.put, List.setIfInBounds_toArray, List.set_cons_zero, List.set_cons_succ]
  refine wpAnyH_take (i := 2) (oi := { dst := some 10, op := Op.binOp BinOp.eql 3 (Operand.tmp 9) (Operand.const (Value.int IntKind.i64 0)) 3, type := _, pos := _, after := _, guard := none }) (v := .bool false) rfl (by kernel_rfl) (by kernel_rfl) (by kernel_rfl) (fun _ _ _ h => h) (Or.inl ⟨by rfl, fun w hSw => by (try dsimp only at hSw); go_simp⟩) (by assumption) ?_
  simp only [Act.put, List.setIfInBounds_toArray, List.set_cons_zero, List.set_cons_succ]
  refine wpAnyH_take (i := 3) (oi := { dst := some 11, op := Op.move (Operand.tmp 10), type := _, pos := _, after := _, guard := none }) (v := .bool false) rfl (by kernel_rfl) (by kernel_rfl) (by kernel_rfl) (fun _ _ _ h => h) (Or.inl ⟨by rfl, fun w hSw => by (try dsimp only at hSw); go_simp⟩) (by assumption) ?_
  simp only [Act.put, List.setIfInBounds_toArray, List.set_cons_zero, List.set_cons_succ]
  refine wpAnyH_take (i := 4) (oi := { dst := some 12, op := Op.move (Operand.tmp 0), type := _, pos := _, after := _, guard := some (3, false) }) (v := .slice (some ⟨b, 0, none⟩) NT c) rfl (by kernel_rfl) (by kernel_rfl) (by kernel_rfl) (fun _ _ _ h => h) (Or.inl ⟨by rfl, fun w hSw => by (try dsimp only at hSw); go_simp⟩) (by assumption) ?_
  simp only [Act.put, List.setIfInBounds_toArray, List.set_cons_zero, List.set_cons_succ]
  refine wpAnyH_take (i := 5) (oi := { dst := some 13, op := Op.indexAddr 26 (Operand.tmp 12) (Operand.const (Value.int IntKind.i64 0)), type := _, pos := _, after := _, guard := some (3, false) }) (v := .pointer (some ⟨b, 0, none⟩)) rfl (by kernel_rfl) (by kernel_rfl) (by kernel_rfl) (fun _ _ _ h => h) (Or.inl ⟨by rfl, fun w hSw => by (try dsimp only at hSw); go_simp⟩) (by assumption) ?_
  simp only [Act.put, List.setIfInBounds_toArray, List.set_cons_zero, List.set_cons_succ]
  refine wpAnyH_take (i := 6) (oi := { dst := some 14, op := Op.load 47 (Operand.tmp 13), type := _, pos := _, after := _, guard := some (3, false) }) (v := .agg c0) rfl (by kernel_rfl) (by kernel_rfl) (by kernel_rfl) (fun _ _ _ h => h) (Or.inl ⟨by rfl, fun w hSw => ld_exec (HL0.out _ hSw) rfl rfl⟩) (by assumption) ?_
  simp only [Act.put, List.setIfInBounds_toArray, List.set_cons_zero, List.set_cons_succ]
  refine wpAnyH_ready (rs := [7]) (by kernel_rfl) (by simp) ?_
  refine AllReadyH.cons rfl (fun K hK => ?_) AllReadyH.nil
  go_simp
  refine (hst _).mono ?_
  rintro r w7 ⟨rfl, hb7⟩
  go_wp2_with fail
  refine hK.out _ _ (hHeld.trans (hb7.mono hHeld.size)) (fun hHeld2 => ?_)
  clear hHeld hb7
  clear hK K
  try simp only [Act.put, List.setIfInBounds_toArray, List.set_cons_zero, List.set_cons_succ]
  refine wpAnyH_take (i := 8) (oi := { dst := some 16, op := Op.binOp BinOp.neq 47 (Operand.tmp 14) (Operand.tmp 15) 47, type := _, pos := _, after := _, guard := some (3, false) }) (v := .bool false) rfl (by kernel_rfl) (by kernel_rfl) (by kernel_rfl) (fun _ _ _ h => h) (Or.inl ⟨by rfl, fun w hSw => neTr_exec HC0.out rfl rfl rfl⟩) (by assumption) ?_
  simp only [Act.put, List.setIfInBounds_toArray, List.set_cons_zero, List.set_cons_succ]
  refine wpAnyH_take (i := 9) (oi := { dst := some 17, op := Op.pick (Operand.tmp 11) (Operand.const (Value.bool true)) (Operand.tmp 16), type := _, pos := _, after := _, guard := none }) (v := .bool false) rfl (by kernel_rfl) (by kernel_rfl) (by kernel_rfl) (fun _ _ _ h => h) (Or.inl ⟨by rfl, fun w hSw => by (try dsimp only at hSw); go_simp⟩) (by assumption) ?_
  simp only [Act.put, List.setIfInBounds_toArray, List.set_cons_zero, List.set_cons_succ]
  refine wpAnyH_done (by kernel_rfl) ?_ _
  have HB0 : Hid (Below w.heap.size w w7) := hHeld2
  clear hHeld2 hS0 hst HL0
  go_wp2_with fail
  go_loopw [3] (fun i wx => ∃ i' : Nat, 1 ≤ i' ∧ i' ≤ NT ∧ i = .int .i64 (i' : Int) ∧ Below w.heap.size w wx) (fun i _ => NT - (intOf i).toNat)
  case atStart => exact ⟨1, by omega, by omega, rfl, HB0.out⟩
  case round =>
    obtain ⟨i, hi1, hi2, rfl, hbx⟩ := hrel
    have HBX : Hid (Below w.heap.size w wr) := hbx
    clear hbx HB0
    by_cases hiN : i < NT
    · obtain ⟨k, hk⟩ : ∃ k, k + 1 = i := ⟨i - 1, by omega⟩
      obtain ⟨L, J, hs, hnx⟩ := HOK.out.stp k (by rw [HNT.out]; omega)
      obtain ⟨t, ht⟩ : ∃ t, ts.getD k (tz 0) = t := ⟨_, rfl⟩
      rw [ht] at hs hnx
      rw [hk] at hnx
      have HLT : Hid (∀ W, Below w.heap.size w W → (Instr.loadAt 47 (.pointer (some ⟨b, k * 236, none⟩))).run Tryz.prog W = .ok (.agg (tcs t)) W) := HLD.out k t (by rw [HNT.out]; omega) ht
      have HLN : Hid (∀ W, Below w.heap.size w W → (Instr.loadAt 47 (.pointer (some ⟨b, i * 236, none⟩))).run Tryz.prog W = .ok (.agg (tcs (nx t L J))) W) := HLD.out i _ (by rw [HNT.out]; omega) hnx
      have hbt := between_any t L J hs
      have HPE : Hid (pnT t (btL t (nx t L J) 64) J = nx t L J ∧ plE t (btL t (nx t L J) 64) J = 0) := by
        have h1 := (bt_stp hs).pl
        refine ⟨?_, h1⟩
        unfold pnT
        rw [if_pos h1]
        exact bt_nx hs
      have HLV : Hid ((btL t (nx t L J) 64).length ≤ 64 ∧ J.length ≤ 64) := by
        refine ⟨btL_len _ _ _, ?_⟩
        have h1 := hs.fit.cnt
        have h2 := hs.fit.room
        have h3 := Rs.cnt_le t.ro
        omega
      obtain ⟨n, hn⟩ : ∃ n, nx t L J = n := ⟨_, rfl⟩
      rw [hn] at HLN hbt HPE HLV
      unfold BtwP at hbt
      obtain ⟨LV, hLVe⟩ : ∃ l, btL t n 64 = l := ⟨_, rfl⟩
      rw [hLVe] at hbt HPE HLV
      obtain ⟨ct, hct⟩ : ∃ c, tcs t = c := ⟨_, rfl⟩
      have HCT : Hid (tcs t = ct) := hct
      obtain ⟨cn, hcn⟩ : ∃ c, tcs n = c := ⟨_, rfl⟩
      have HCN : Hid (tcs n = cn) := hcn
      rw [hct] at HLT
      rw [hcn] at HLN
      rw [hct, hcn] at hbt
      have HIK : Hid (k + 1 = i) := hk
      have hw1 : IntKind.i64.wrap ((i : Int) - 1) = (k : Int) := by rw [show (i : Int) - 1 = (k : Int) by omega]; exact Rs.i64_fit _ (by omega) (by omega)
      have k1 : (0 : Int) ≤ (k : Int) := by omega
      have k2 : (k : Int) < (NT : Int) := by omega
      have i1 : (0 : Int) ≤ (i : Int) := by omega
      have i2 : (i : Int) < (NT : Int) := by omega
      clear hk ht hs hnx hn hLVe hct hcn
      go_upto_region 6 with (fail)
      go_cut [4, 5, 6, 7] (fun s4 s5 s6 s7 wx => ∃ T, s4 = .pointer (some ⟨T, 0, none⟩) ∧ s7 = .int .i64 0 ∧ Below wr.heap.size wr wx ∧ TrAt wx T n)
      case first =>
        have hS0 : Below wr.heap.size wr wr.drew := drew_below _
        refine wp_region_held_drew (S := fun X => Below wr.heap.size wr X) (by kernel_rfl) hS0 (fun hHeld => ?_)
        refine wpAnyH_take (i := 0) (oi := { dst := some 25, op := Op.move (Operand.tmp 0), type := _, pos := _, after := _, guard := none }) (v := .slice (some ⟨b, 0, none⟩) NT c) rfl (by kernel_rfl) (by kernel_rfl) (by kernel_rfl) (fun _ _ _ h => h) (Or.inl ⟨by rfl, fun w hSw => by (try dsimp only at hSw); go_simp⟩) (by assumption) ?_
        simp only [Act.put, List.setIfInBounds_toArray, List.set_cons_zero, List.set_cons_succ]
        refine wpAnyH_take (i := 1) (oi := { dst := some 26, op := Op.move (Operand.tmp 3), type := _, pos := _, after := _, guard := none }) (v := .int .i64 (i : Int)) rfl (by kernel_rfl) (by kernel_rfl) (by kernel_rfl) (fun _ _ _ h => h) (Or.inl ⟨by rfl, fun w hSw => by (try dsimp only at hSw); go_simp⟩) (by assumption) ?_
        simp only [Act.put, List.setIfInBounds_toArray, List.set_cons_zero, List.set_cons_succ]
        refine wpAnyH_take (i := 2) (oi := { dst := some 27, op := Op.binOp BinOp.sub 3 (Operand.tmp 26) (Operand.const (Value.int IntKind.i64 1)) 3, type := _, pos := _, after := _, guard := none }) (v := .int .i64 (k : Int)) rfl (by kernel_rfl) (by kernel_rfl) (by kernel_rfl) (fun _ _ _ h => h) (Or.inl ⟨by rfl, fun w hSw => by (try dsimp only at hSw); go_simp⟩) (by assumption) ?_
        simp only [Act.put, List.setIfInBounds_toArray, List.set_cons_zero, List.set_cons_succ]
        refine wpAnyH_take (i := 3) (oi := { dst := some 28, op := Op.indexAddr 26 (Operand.tmp 25) (Operand.tmp 27), type := _, pos := _, after := _, guard := none }) (v := .pointer (some ⟨b, k * 236, none⟩)) rfl (by kernel_rfl) (by kernel_rfl) (by kernel_rfl) (fun _ _ _ h => h) (Or.inl ⟨by rfl, fun w hSw => by (try dsimp only at hSw); go_simp⟩) (by assumption) ?_
        simp only [Act.put, List.setIfInBounds_toArray, List.set_cons_zero, List.set_cons_succ]
        refine wpAnyH_take (i := 4) (oi := { dst := some 29, op := Op.load 47 (Operand.tmp 28), type := _, pos := _, after := _, guard := none }) (v := .agg ct) rfl (by kernel_rfl) (by kernel_rfl) (by kernel_rfl) (fun _ _ _ h => h) (Or.inl ⟨by rfl, fun w hSw => ld_exec (HLT.out _ (HBX.out.trans (hSw.mono HBX.out.size))) rfl rfl⟩) (by assumption) ?_
        simp only [Act.put, List.setIfInBounds_toArray, List.set_cons_zero, List.set_cons_succ]
        refine wpAnyH_take (i := 5) (oi := { dst := some 30, op := Op.move (Operand.tmp 0), type := _, pos := _, after := _, guard := none }) (v := .slice (some ⟨b, 0, none⟩) NT c) rfl (by kernel_rfl) (by kernel_rfl) (by kernel_rfl) (fun _ _ _ h => h) (Or.inl ⟨by rfl, fun w hSw => by (try dsimp only at hSw); go_simp⟩) (by assumption) ?_
        simp only [Act.put, List.setIfInBounds_toArray, List.set_cons_zero, List.set_cons_succ]
        refine wpAnyH_take (i := 6) (oi := { dst := some 31, op := Op.move (Operand.tmp 3), type := _, pos := _, after := _, guard := none }) (v := .int .i64 (i : Int)) rfl (by kernel_rfl) (by kernel_rfl) (by kernel_rfl) (fun _ _ _ h => h) (Or.inl ⟨by rfl, fun w hSw => by (try dsimp only at hSw); go_simp⟩) (by assumption) ?_
        simp only [Act.put, List.setIfInBounds_toArray, List.set_cons_zero, List.set_cons_succ]
        refine wpAnyH_take (i := 7) (oi := { dst := some 32, op := Op.binOp BinOp.sub 3 (Operand.tmp 31) (Operand.const (Value.int IntKind.i64 1)) 3, type := _, pos := _, after := _, guard := none }) (v := .int .i64 (k : Int)) rfl (by kernel_rfl) (by kernel_rfl) (by kernel_rfl) (fun _ _ _ h => h) (Or.inl ⟨by rfl, fun w hSw => by (try dsimp only at hSw); go_simp⟩) (by assumption) ?_
        simp only [Act.put, List.setIfInBounds_toArray, List.set_cons_zero, List.set_cons_succ]
        refine wpAnyH_take (i := 8) (oi := { dst := some 33, op := Op.indexAddr 26 (Operand.tmp 30) (Operand.tmp 32), type := _, pos := _, after := _, guard := none }) (v := .pointer (some ⟨b, k * 236, none⟩)) rfl (by kernel_rfl) (by kernel_rfl) (by kernel_rfl) (fun _ _ _ h => h) (Or.inl ⟨by rfl, fun w hSw => by (try dsimp only at hSw); go_simp⟩) (by assumption) ?_
        simp only [Act.put, List.setIfInBounds_toArray, List.set_cons_zero, List.set_cons_succ]
        refine wpAnyH_take (i := 9) (oi := { dst := some 34, op := Op.load 47 (Operand.tmp 33), type := _, pos := _, after := _, guard := none }) (v := .agg ct) rfl (by kernel_rfl) (by kernel_rfl) (by kernel_rfl) (fun _ _ _ h => h) (Or.inl ⟨by rfl, fun w hSw => ld_exec (HLT.out _ (HBX.out.trans (hSw.mono HBX.out.size))) rfl rfl⟩) (by assumption) ?_
        simp only [Act.put, List.setIfInBounds_toArray, List.set_cons_zero, List.set_cons_succ]
        refine wpAnyH_take (i := 10) (oi := { dst := some 35, op := Op.move (Operand.tmp 0), type := _, pos := _, after := _, guard := none }) (v := .slice (some ⟨b, 0, none⟩) NT c) rfl (by kernel_rfl) (by kernel_rfl) (by kernel_rfl) (fun _ _ _ h => h) (Or.inl ⟨by rfl, fun w hSw => by (try dsimp only at hSw); go_simp⟩) (by assumption) ?_
        simp only [Act.put, List.setIfInBounds_toArray, List.set_cons_zero, List.set_cons_succ]
        refine wpAnyH_take (i := 11) (oi := { dst := some 36, op := Op.move (Operand.tmp 3), type := _, pos := _, after := _, guard := none }) (v := .int .i64 (i : Int)) rfl (by kernel_rfl) (by kernel_rfl) (by kernel_rfl) (fun _ _ _ h => h) (Or.inl ⟨by rfl, fun w hSw => by (try dsimp only at hSw); go_simp⟩) (by assumption) ?_
        simp only [Act.put, List.setIfInBounds_toArray, List.set_cons_zero, List.set_cons_succ]
        refine wpAnyH_take (i := 12) (oi := { dst := some 37, op := Op.indexAddr 26 (Operand.tmp 35) (Operand.tmp 36), type := _, pos := _, after := _, guard := none }) (v := .pointer (some ⟨b, i * 236, none⟩)) rfl (by kernel_rfl) (by kernel_rfl) (by kernel_rfl) (fun _ _ _ h => h) (Or.inl ⟨by rfl, fun w hSw => by (try dsimp only at hSw); go_simp⟩) (by assumption) ?_
        simp only [Act.put, List.setIfInBounds_toArray, List.set_cons_zero, List.set_cons_succ]
        refine wpAnyH_take (i := 13) (oi := { dst := some 38, op := Op.load 47 (Operand.tmp 37), type := _, pos := _, after := _, guard := none }) (v := .agg cn) rfl (by kernel_rfl) (by kernel_rfl) (by kernel_rfl) (fun _ _ _ h => h) (Or.inl ⟨by rfl, fun w hSw => ld_exec (HLN.out _ (HBX.out.trans (hSw.mono HBX.out.size))) rfl rfl⟩) (by assumption) ?_
        simp only [Act.put, List.setIfInBounds_toArray, List.set_cons_zero, List.set_cons_succ]
        refine wpAnyH_ready (rs := [14, 21]) (by kernel_rfl) (by simp) ?_
        refine (AllReadyH.cons rfl (fun K hK => ?_) (AllReadyH.cons rfl (fun K hK => ?_) AllReadyH.nil))
        · go_simp
          refine (hbt _).mono ?_
          rintro r w7 ⟨⟨aL, cL, aJ, cJ, rfl, rI1, rI2⟩, hb7⟩
          go_wp2_with fail
          have HRI : Hid (RdI w7 aL LV ∧ RdI w7 aJ J) := ⟨rI1, rI2⟩
          have hge : wr.heap.size ≤ w7.heap.size := Nat.le_trans hHeld.size hb7.size
          refine hK.out _ _ (hHeld.trans (hb7.mono hHeld.size)) (fun hHd1 => ?_)
          clear hHeld hb7 rI1 rI2
          clear hK K
          try simp only [Act.put, List.setIfInBounds_toArray, List.set_cons_zero, List.set_cons_succ]
          refine wpAnyH_ready (rs := [15, 21]) (by kernel_rfl) (by simp) ?_
          refine (AllReadyH.cons rfl (fun K hK => ?_) (AllReadyH.cons rfl (fun K hK => ?_) AllReadyH.nil))
          · go_simp
            have h2 := fun W h3 h4 => rNext11_any t aL aJ cL cJ LV J W (by have := HLV.out; omega) (by have := HLV.out; omega) h3 h4
            unfold N11A at h2
            rw [HPE.out.1, HPE.out.2, HCN.out, HCT.out] at h2
            refine (h2 _ HRI.out.1 HRI.out.2).mono ?_
            rintro r w8 ⟨⟨vl, vj, rfl, -⟩, hb8⟩
            go_wp2_with fail
            have hge8 : wr.heap.size ≤ w8.heap.size := Nat.le_trans hge hb8.size
            refine hK.out _ _ (hHd1.trans (hb8.mono hHd1.size)) (fun hHd2 => ?_)
            clear hHd1 hb8
            clear hK K
            try simp only [Act.put, List.setIfInBounds_toArray, List.set_cons_zero, List.set_cons_succ]
            refine wpAnyH_take (i := 16) (oi := { dst := some 24, op := Op.move (Operand.tmp 40), type := _, pos := _, after := _, guard := none }) (v := .tuple #[.agg cn, vl, vj, .int .i64 0]) rfl (by kernel_rfl) (by kernel_rfl) (by kernel_rfl) (fun _ _ _ h => h) (Or.inl ⟨by rfl, fun w hSw => by (try dsimp only at hSw); go_simp⟩) (by assumption) ?_
            simp only [Act.put, List.setIfInBounds_toArray, List.set_cons_zero, List.set_cons_succ]
            refine wpAnyH_take (i := 17) (oi := { dst := some 41, op := Op.extract (Operand.tmp 24) 0, type := _, pos := _, after := _, guard := none }) (v := .agg cn) rfl (by kernel_rfl) (by kernel_rfl) (by kernel_rfl) (fun _ _ _ h => h) (Or.inl ⟨by rfl, fun w hSw => by (try dsimp only at hSw); go_simp⟩) (by assumption) ?_
            simp only [Act.put, List.setIfInBounds_toArray, List.set_cons_zero, List.set_cons_succ]
            refine wpAnyH_take (i := 18) (oi := { dst := some 42, op := Op.extract (Operand.tmp 24) 1, type := _, pos := _, after := _, guard := none }) (v := vl) rfl (by kernel_rfl) (by kernel_rfl) (by kernel_rfl) (fun _ _ _ h => h) (Or.inl ⟨by rfl, fun w hSw => by (try dsimp only at hSw); go_simp⟩) (by assumption) ?_
            simp only [Act.put, List.setIfInBounds_toArray, List.set_cons_zero, List.set_cons_succ]
            refine wpAnyH_take (i := 19) (oi := { dst := some 43, op := Op.extract (Operand.tmp 24) 2, type := _, pos := _, after := _, guard := none }) (v := vj) rfl (by kernel_rfl) (by kernel_rfl) (by kernel_rfl) (fun _ _ _ h => h) (Or.inl ⟨by rfl, fun w hSw => by (try dsimp only at hSw); go_simp⟩) (by assumption) ?_
            simp only [Act.put, List.setIfInBounds_toArray, List.set_cons_zero, List.set_cons_succ]
            refine wpAnyH_take (i := 20) (oi := { dst := some 44, op := Op.extract (Operand.tmp 24) 3, type := _, pos := _, after := _, guard := none }) (v := .int .i64 0) rfl (by kernel_rfl) (by kernel_rfl) (by kernel_rfl) (fun _ _ _ h => h) (Or.inl ⟨by rfl, fun w hSw => by (try dsimp only at hSw); go_simp⟩) (by assumption) ?_
            simp only [Act.put, List.setIfInBounds_toArray, List.set_cons_zero, List.set_cons_succ]
            refine wpAnyH_ready (rs := [21]) (by kernel_rfl) (by simp) ?_
            refine AllReadyH.cons rfl (fun K hK => ?_) AllReadyH.nil
            go_simp
            have hz := TrAt.zero w8
            have hgeT := hge8
            refine hK.out _ _ (hHd2.trans ((below_alloc _ _).mono hHd2.size)) (fun hHd3 => ?_)
            clear hK K
            try simp only [Act.put, List.setIfInBounds_toArray, List.set_cons_zero, List.set_cons_succ]
            refine wpAnyH_ready (rs := [22]) (by kernel_rfl) (by simp) ?_
            refine AllReadyH.cons rfl (fun Kc hK => ?_) AllReadyH.nil
            refine if_wp rfl (wp_stRow0 47 _ _ rfl _ cn rfl rfl 47 _ hz (by rw [← HCN.out, tcs_size]; exact infoT) (by rw [← HCN.out, tcs_size, tcs_size]) (by rw [← HCN.out]; exact tcs_one n) rfl ?_)
            have hzZ := Rt.heap_setRow_same hz cn
            refine hK.out _ _ (Rt.setRow_below hgeT hHd3 _) (fun hHd4 => ?_)
            clear hK Kc
            try simp only [Act.put, List.setIfInBounds_toArray, List.set_cons_zero, List.set_cons_succ]
            refine wpAnyH_take (i := 23) (oi := { dst := some 5, op := Op.assign (Operand.tmp 42), type := _, pos := _, after := _, guard := none }) (v := vl) rfl (by kernel_rfl) (by kernel_rfl) (by kernel_rfl) (fun _ _ _ h => h) (Or.inl ⟨by rfl, fun w hSw => by (try dsimp only at hSw); go_simp⟩) (by assumption) ?_
            simp only [Act.put, List.setIfInBounds_toArray, List.set_cons_zero, List.set_cons_succ]
            refine wpAnyH_take (i := 24) (oi := { dst := some 6, op := Op.assign (Operand.tmp 43), type := _, pos := _, after := _, guard := none }) (v := vj) rfl (by kernel_rfl) (by kernel_rfl) (by kernel_rfl) (fun _ _ _ h => h) (Or.inl ⟨by rfl, fun w hSw => by (try dsimp only at hSw); go_simp⟩) (by assumption) ?_
            simp only [Act.put, List.setIfInBounds_toArray, List.set_cons_zero, List.set_cons_succ]
            refine wpAnyH_take (i := 25) (oi := { dst := some 7, op := Op.assign (Operand.tmp 44), type := _, pos := _, after := _, guard := none }) (v := .int .i64 0) rfl (by kernel_rfl) (by kernel_rfl) (by kernel_rfl) (fun _ _ _ h => h) (Or.inl ⟨by rfl, fun w hSw => by (try dsimp only at hSw); go_simp⟩) (by assumption) ?_
            simp only [Act.put, List.setIfInBounds_toArray, List.set_cons_zero, List.set_cons_succ]
            refine wpAnyH_done (by kernel_rfl) ?_ _
            go_wp2_with fail
            go_meet
            case rel => exact ⟨_, rfl, rfl, hHd4, by unfold TrAt; rw [HCN.out]; exact hzZ⟩
          · go_simp
            have hz := TrAt.zero w7
            have hgeT := hge
            refine hK.out _ _ (hHd1.trans ((below_alloc _ _).mono hHd1.size)) (fun hHd2 => ?_)
            clear hHd1
            clear hK K
            try simp only [Act.put, List.setIfInBounds_toArray, List.set_cons_zero, List.set_cons_succ]
            refine wpAnyH_ready (rs := [15]) (by kernel_rfl) (by simp) ?_
            refine AllReadyH.cons rfl (fun K hK => ?_) AllReadyH.nil
            go_simp
            have h2 := fun W h3 h4 => rNext11_any t aL aJ cL cJ LV J W (by have := HLV.out; omega) (by have := HLV.out; omega) h3 h4
            unfold N11A at h2
            rw [HPE.out.1, HPE.out.2, HCN.out, HCT.out] at h2
            first | (refine (h2 _ HRI.out.1 HRI.out.2).mono ?_) | (refine (h2 _ (HRI.out.1.later (below_alloc _ _)) (HRI.out.2.later (below_alloc _ _))).mono ?_)
            rintro r w8 ⟨⟨vl, vj, rfl, -⟩, hb8⟩
            go_wp2_with fail
            have hz := hz.later hb8
            refine hK.out _ _ (hHd2.trans (hb8.mono hHd2.size)) (fun hHd3 => ?_)
            clear hHd2 hb8
            clear hK K
            try simp only [Act.put, List.setIfInBounds_toArray, List.set_cons_zero, List.set_cons_succ]
            refine wpAnyH_take (i := 16) (oi := { dst := some 24, op := Op.move (Operand.tmp 40), type := _, pos := _, after := _, guard := none }) (v := .tuple #[.agg cn, vl, vj, .int .i64 0]) rfl (by kernel_rfl) (by kernel_rfl) (by kernel_rfl) (fun _ _ _ h => h) (Or.inl ⟨by rfl, fun w hSw => by (try dsimp only at hSw); go_simp⟩) (by assumption) ?_
            simp only [Act.put, List.setIfInBounds_toArray, List.set_cons_zero, List.set_cons_succ]
            refine wpAnyH_take (i := 17) (oi := { dst := some 41, op := Op.extract (Operand.tmp 24) 0, type := _, pos := _, after := _, guard := none }) (v := .agg cn) rfl (by kernel_rfl) (by kernel_rfl) (by kernel_rfl) (fun _ _ _ h => h) (Or.inl ⟨by rfl, fun w hSw => by (try dsimp only at hSw); go_simp⟩) (by assumption) ?_
            simp only [Act.put, List.setIfInBounds_toArray, List.set_cons_zero, List.set_cons_succ]
            refine wpAnyH_take (i := 18) (oi := { dst := some 42, op := Op.extract (Operand.tmp 24) 1, type := _, pos := _, after := _, guard := none }) (v := vl) rfl (by kernel_rfl) (by kernel_rfl) (by kernel_rfl) (fun _ _ _ h => h) (Or.inl ⟨by rfl, fun w hSw => by (try dsimp only at hSw); go_simp⟩) (by assumption) ?_
            simp only [Act.put, List.setIfInBounds_toArray, List.set_cons_zero, List.set_cons_succ]
            refine wpAnyH_take (i := 19) (oi := { dst := some 43, op := Op.extract (Operand.tmp 24) 2, type := _, pos := _, after := _, guard := none }) (v := vj) rfl (by kernel_rfl) (by kernel_rfl) (by kernel_rfl) (fun _ _ _ h => h) (Or.inl ⟨by rfl, fun w hSw => by (try dsimp only at hSw); go_simp⟩) (by assumption) ?_
            simp only [Act.put, List.setIfInBounds_toArray, List.set_cons_zero, List.set_cons_succ]
            refine wpAnyH_take (i := 20) (oi := { dst := some 44, op := Op.extract (Operand.tmp 24) 3, type := _, pos := _, after := _, guard := none }) (v := .int .i64 0) rfl (by kernel_rfl) (by kernel_rfl) (by kernel_rfl) (fun _ _ _ h => h) (Or.inl ⟨by rfl, fun w hSw => by (try dsimp only at hSw); go_simp⟩) (by assumption) ?_
            simp only [Act.put, List.setIfInBounds_toArray, List.set_cons_zero, List.set_cons_succ]
            refine wpAnyH_ready (rs := [22]) (by kernel_rfl) (by simp) ?_
            refine AllReadyH.cons rfl (fun Kc hK => ?_) AllReadyH.nil
            refine if_wp rfl (wp_stRow0 47 _ _ rfl _ cn rfl rfl 47 _ hz (by rw [← HCN.out, tcs_size]; exact infoT) (by rw [← HCN.out, tcs_size, tcs_size]) (by rw [← HCN.out]; exact tcs_one n) rfl ?_)
            have hzZ := Rt.heap_setRow_same hz cn
            refine hK.out _ _ (Rt.setRow_below hgeT hHd3 _) (fun hHd4 => ?_)
            clear hK Kc
            try simp only [Act.put, List.setIfInBounds_toArray, List.set_cons_zero, List.set_cons_succ]
            refine wpAnyH_take (i := 23) (oi := { dst := some 5, op := Op.assign (Operand.tmp 42), type := _, pos := _, after := _, guard := none }) (v := vl) rfl (by kernel_rfl) (by kernel_rfl) (by kernel_rfl) (fun _ _ _ h => h) (Or.inl ⟨by rfl, fun w hSw => by (try dsimp only at hSw); go_simp⟩) (by assumption) ?_
            simp only [Act.put, List.setIfInBounds_toArray, List.set_cons_zero, List.set_cons_succ]
            refine wpAnyH_take (i := 24) (oi := { dst := some 6, op := Op.assign (Operand.tmp 43), type := _, pos := _, after := _, guard := none }) (v := vj) rfl (by kernel_rfl) (by kernel_rfl) (by kernel_rfl) (fun _ _ _ h => h) (Or.inl ⟨by rfl, fun w hSw => by (try dsimp only at hSw); go_simp⟩) (by assumption) ?_
            simp only [Act.put, List.setIfInBounds_toArray, List.set_cons_zero, List.set_cons_succ]
            refine wpAnyH_take (i := 25) (oi := { dst := some 7, op := Op.assign (Operand.tmp 44), type := _, pos := _, after := _, guard := none }) (v := .int .i64 0) rfl (by kernel_rfl) (by kernel_rfl) (by kernel_rfl) (fun _ _ _ h => h) (Or.inl ⟨by rfl, fun w hSw => by (try dsimp only at hSw); go_simp⟩) (by assumption) ?_
            simp only [Act.put, List.setIfInBounds_toArray, List.set_cons_zero, List.set_cons_succ]
            refine wpAnyH_done (by kernel_rfl) ?_ _
            go_wp2_with fail
            go_meet
            case rel => exact ⟨_, rfl, rfl, hHd4, by unfold TrAt; rw [HCN.out]; exact hzZ⟩
        · go_simp
          have hz := TrAt.zero wr.drew
          have hgeT : wr.heap.size ≤ wr.heap.size := Nat.le_refl _
          refine hK.out _ _ (hHeld.trans ((below_alloc _ _).mono hHeld.size)) (fun hHd1 => ?_)
          clear hHeld
          clear hK K
          try simp only [Act.put, List.setIfInBounds_toArray, List.set_cons_zero, List.set_cons_succ]
          refine wpAnyH_ready (rs := [14]) (by kernel_rfl) (by simp) ?_
          refine AllReadyH.cons rfl (fun K hK => ?_) AllReadyH.nil
          go_simp
          refine (hbt _).mono ?_
          rintro r w7 ⟨⟨aL, cL, aJ, cJ, rfl, rI1, rI2⟩, hb7⟩
          go_wp2_with fail
          have hz := hz.later hb7
          have HRI : Hid (RdI w7 aL LV ∧ RdI w7 aJ J) := ⟨rI1, rI2⟩
          have hge : wr.heap.size ≤ w7.heap.size := Nat.le_trans hHd1.size hb7.size
          refine hK.out _ _ (hHd1.trans (hb7.mono hHd1.size)) (fun hHd2 => ?_)
          clear hHd1 hb7 rI1 rI2
          clear hK K
          try simp only [Act.put, List.setIfInBounds_toArray, List.set_cons_zero, List.set_cons_succ]
          refine wpAnyH_ready (rs := [15]) (by kernel_rfl) (by simp) ?_
          refine AllReadyH.cons rfl (fun K hK => ?_) AllReadyH.nil
          go_simp
          have h2 := fun W h3 h4 => rNext11_any t aL aJ cL cJ LV J W (by have := HLV.out; omega) (by have := HLV.out; omega) h3 h4
          unfold N11A at h2
          rw [HPE.out.1, HPE.out.2, HCN.out, HCT.out] at h2
          first | (refine (h2 _ HRI.out.1 HRI.out.2).mono ?_) | (refine (h2 _ (HRI.out.1.later (below_alloc _ _)) (HRI.out.2.later (below_alloc _ _))).mono ?_)
          rintro r w8 ⟨⟨vl, vj, rfl, -⟩, hb8⟩
          go_wp2_with fail
          have hz := hz.later hb8
          refine hK.out _ _ (hHd2.trans (hb8.mono hHd2.size)) (fun hHd3 => ?_)
          clear hHd2 hb8
          clear hK K
          try simp only [Act.put, List.setIfInBounds_toArray, List.set_cons_zero, List.set_cons_succ]
          refine wpAnyH_take (i := 16) (oi := { dst := some 24, op := Op.move (Operand.tmp 40), type := _, pos := _, after := _, guard := none }) (v := .tuple #[.agg cn, vl, vj, .int .i64 0]) rfl (by kernel_rfl) (by kernel_rfl) (by kernel_rfl) (fun _ _ _ h => h) (Or.inl ⟨by rfl, fun w hSw => by (try dsimp only at hSw); go_simp⟩) (by assumption) ?_
          simp only [Act.put, List.setIfInBounds_toArray, List.set_cons_zero, List.set_cons_succ]
          refine wpAnyH_take (i := 17) (oi := { dst := some 41, op := Op.extract (Operand.tmp 24) 0, type := _, pos := _, after := _, guard := none }) (v := .agg cn) rfl (by kernel_rfl) (by kernel_rfl) (by kernel_rfl) (fun _ _ _ h => h) (Or.inl ⟨by rfl, fun w hSw => by (try dsimp only at hSw); go_simp⟩) (by assumption) ?_
          simp only [Act.put, List.setIfInBounds_toArray, List.set_cons_zero, List.set_cons_succ]
          refine wpAnyH_take (i := 18) (oi := { dst := some 42, op := Op.extract (Operand.tmp 24) 1, type := _, pos := _, after := _, guard := none }) (v := vl) rfl (by kernel_rfl) (by kernel_rfl) (by kernel_rfl) (fun _ _ _ h => h) (Or.inl ⟨by rfl, fun w hSw => by (try dsimp only at hSw); go_simp⟩) (by assumption) ?_
          simp only [Act.put, List.setIfInBounds_toArray, List.set_cons_zero, List.set_cons_succ]
          refine wpAnyH_take (i := 19) (oi := { dst := some 43, op := Op.extract (Operand.tmp 24) 2, type := _, pos := _, after := _, guard := none }) (v := vj) rfl (by kernel_rfl) (by kernel_rfl) (by kernel_rfl) (fun _ _ _ h => h) (Or.inl ⟨by rfl, fun w hSw => by (try dsimp only at hSw); go_simp⟩) (by assumption) ?_
          simp only [Act.put, List.setIfInBounds_toArray, List.set_cons_zero, List.set_cons_succ]
          refine wpAnyH_take (i := 20) (oi := { dst := some 44, op := Op.extract (Operand.tmp 24) 3, type := _, pos := _, after := _, guard := none }) (v := .int .i64 0) rfl (by kernel_rfl) (by kernel_rfl) (by kernel_rfl) (fun _ _ _ h => h) (Or.inl ⟨by rfl, fun w hSw => by (try dsimp only at hSw); go_simp⟩) (by assumption) ?_
          simp only [Act.put, List.setIfInBounds_toArray, List.set_cons_zero, List.set_cons_succ]
          refine wpAnyH_ready (rs := [22]) (by kernel_rfl) (by simp) ?_
          refine AllReadyH.cons rfl (fun Kc hK => ?_) AllReadyH.nil
          refine if_wp rfl (wp_stRow0 47 _ _ rfl _ cn rfl rfl 47 _ hz (by rw [← HCN.out, tcs_size]; exact infoT) (by rw [← HCN.out, tcs_size, tcs_size]) (by rw [← HCN.out]; exact tcs_one n) rfl ?_)
          have hzZ := Rt.heap_setRow_same hz cn
          refine hK.out _ _ (Rt.setRow_below hgeT hHd3 _) (fun hHd4 => ?_)
          clear hK Kc
          try simp only [Act.put, List.setIfInBounds_toArray, List.set_cons_zero, List.set_cons_succ]
          refine wpAnyH_take (i := 23) (oi := { dst := some 5, op := Op.assign (Operand.tmp 42), type := _, pos := _, after := _, guard := none }) (v := vl) rfl (by kernel_rfl) (by kernel_rfl) (by kernel_rfl) (fun _ _ _ h => h) (Or.inl ⟨by rfl, fun w hSw => by (try dsimp only at hSw); go_simp⟩) (by assumption) ?_
          simp only [Act.put, List.setIfInBounds_toArray, List.set_cons_zero, List.set_cons_succ]
          refine wpAnyH_take (i := 24) (oi := { dst := some 6, op := Op.assign (Operand.tmp 43), type := _, pos := _, after := _, guard := none }) (v := vj) rfl (by kernel_rfl) (by kernel_rfl) (by kernel_rfl) (fun _ _ _ h => h) (Or.inl ⟨by rfl, fun w hSw => by (try dsimp only at hSw); go_simp⟩) (by assumption) ?_
          simp only [Act.put, List.setIfInBounds_toArray, List.set_cons_zero, List.set_cons_succ]
          refine wpAnyH_take (i := 25) (oi := { dst := some 7, op := Op.assign (Operand.tmp 44), type := _, pos := _, after := _, guard := none }) (v := .int .i64 0) rfl (by kernel_rfl) (by kernel_rfl) (by kernel_rfl) (fun _ _ _ h => h) (Or.inl ⟨by rfl, fun w hSw => by (try dsimp only at hSw); go_simp⟩) (by assumption) ?_
          simp only [Act.put, List.setIfInBounds_toArray, List.set_cons_zero, List.set_cons_succ]
          refine wpAnyH_done (by kernel_rfl) ?_ _
          go_wp2_with fail
          go_meet
          case rel => exact ⟨_, rfl, rfl, hHd4, by unfold TrAt; rw [HCN.out]; exact hzZ⟩
      case rest =>
        obtain ⟨T, rfl, rfl, hbc, hT⟩ := hcut
        have HT : Hid (TrAt wc T n) := hT
        have HB2 : Hid (Below w.heap.size w wc) := HBX.out.trans (hbc.mono HBX.out.size)
        clear hbc hT hbt HLT
        go_upto_region 7 with (fail)
        have hS1 : Below wc.heap.size wc wc.drew := drew_below _
        refine wp_region_held_drew (S := fun X => Below wc.heap.size wc X) (by kernel_rfl) hS1 (fun hHeld => ?_)
        refine wpAnyH_take (i := 0) (oi := { dst := some 45, op := Op.move (Operand.tmp 7), type := _, pos := _, after := _, guard := none }) (v := .int .i64 0) rfl (by kernel_rfl) (by kernel_rfl) (by kernel_rfl) (fun _ _ _ h => h) (Or.inl ⟨by rfl, fun w hSw => by (try dsimp only at hSw); go_simp⟩) (by assumption) ?_
        simp only [Act.put, List.setIfInBounds_toArray, List.set_cons_zero, List.set_cons_succ]
        refine wpAnyH_take (i := 1) (oi := { dst := some 46, op := Op.binOp BinOp.neq 37 (Operand.tmp 45) (Operand.const (Value.int IntKind.i64 0)) 37, type := _, pos := _, after := _, guard := none }) (v := .bool false) rfl (by kernel_rfl) (by kernel_rfl) (by kernel_rfl) (fun _ _ _ h => h) (Or.inl ⟨by rfl, fun w hSw => by (try dsimp only at hSw); go_simp⟩) (by assumption) ?_
        simp only [Act.put, List.setIfInBounds_toArray, List.set_cons_zero, List.set_cons_succ]
        refine wpAnyH_take (i := 2) (oi := { dst := some 47, op := Op.move (Operand.tmp 46), type := _, pos := _, after := _, guard := none }) (v := .bool false) rfl (by kernel_rfl) (by kernel_rfl) (by kernel_rfl) (fun _ _ _ h => h) (Or.inl ⟨by rfl, fun w hSw => by (try dsimp only at hSw); go_simp⟩) (by assumption) ?_
        simp only [Act.put, List.setIfInBounds_toArray, List.set_cons_zero, List.set_cons_succ]
        refine wpAnyH_take (i := 3) (oi := { dst := some 48, op := Op.load 47 (Operand.tmp 4), type := _, pos := _, after := _, guard := some (2, false) }) (v := .agg cn) rfl (by kernel_rfl) (by kernel_rfl) (by kernel_rfl) (fun _ _ _ h => h) (Or.inl ⟨by rfl, fun w hSw => ld_exec (HCN.out ▸ (HT.out.later hSw).whole) rfl rfl⟩) (by assumption) ?_
        simp only [Act.put, List.setIfInBounds_toArray, List.set_cons_zero, List.set_cons_succ]
        refine wpAnyH_take (i := 4) (oi := { dst := some 49, op := Op.move (Operand.tmp 0), type := _, pos := _, after := _, guard := some (2, false) }) (v := .slice (some ⟨b, 0, none⟩) NT c) rfl (by kernel_rfl) (by kernel_rfl) (by kernel_rfl) (fun _ _ _ h => h) (Or.inl ⟨by rfl, fun w hSw => by (try dsimp only at hSw); go_simp⟩) (by assumption) ?_
        simp only [Act.put, List.setIfInBounds_toArray, List.set_cons_zero, List.set_cons_succ]
        refine wpAnyH_take (i := 5) (oi := { dst := some 50, op := Op.move (Operand.tmp 3), type := _, pos := _, after := _, guard := some (2, false) }) (v := .int .i64 (i : Int)) rfl (by kernel_rfl) (by kernel_rfl) (by kernel_rfl) (fun _ _ _ h => h) (Or.inl ⟨by rfl, fun w hSw => by (try dsimp only at hSw); go_simp⟩) (by assumption) ?_
        simp only [Act.put, List.setIfInBounds_toArray, List.set_cons_zero, List.set_cons_succ]
        refine wpAnyH_take (i := 6) (oi := { dst := some 51, op := Op.indexAddr 26 (Operand.tmp 49) (Operand.tmp 50), type := _, pos := _, after := _, guard := some (2, false) }) (v := .pointer (some ⟨b, i * 236, none⟩)) rfl (by kernel_rfl) (by kernel_rfl) (by kernel_rfl) (fun _ _ _ h => h) (Or.inl ⟨by rfl, fun w hSw => by (try dsimp only at hSw); go_simp⟩) (by assumption) ?_
        simp only [Act.put, List.setIfInBounds_toArray, List.set_cons_zero, List.set_cons_succ]
        refine wpAnyH_take (i := 7) (oi := { dst := some 52, op := Op.load 47 (Operand.tmp 51), type := _, pos := _, after := _, guard := some (2, false) }) (v := .agg cn) rfl (by kernel_rfl) (by kernel_rfl) (by kernel_rfl) (fun _ _ _ h => h) (Or.inl ⟨by rfl, fun w hSw => ld_exec (HLN.out _ (HB2.out.trans (hSw.mono HB2.out.size))) rfl rfl⟩) (by assumption) ?_
        simp only [Act.put, List.setIfInBounds_toArray, List.set_cons_zero, List.set_cons_succ]
        refine wpAnyH_take (i := 8) (oi := { dst := some 53, op := Op.binOp BinOp.neq 47 (Operand.tmp 48) (Operand.tmp 52) 47, type := _, pos := _, after := _, guard := some (2, false) }) (v := .bool false) rfl (by kernel_rfl) (by kernel_rfl) (by kernel_rfl) (fun _ _ _ h => h) (Or.inl ⟨by rfl, fun w hSw => neTr_exec HCN.out rfl rfl rfl⟩) (by assumption) ?_
        simp only [Act.put, List.setIfInBounds_toArray, List.set_cons_zero, List.set_cons_succ]
        refine wpAnyH_take (i := 9) (oi := { dst := some 54, op := Op.pick (Operand.tmp 47) (Operand.const (Value.bool true)) (Operand.tmp 53), type := _, pos := _, after := _, guard := none }) (v := .bool false) rfl (by kernel_rfl) (by kernel_rfl) (by kernel_rfl) (fun _ _ _ h => h) (Or.inl ⟨by rfl, fun w hSw => by (try dsimp only at hSw); go_simp⟩) (by assumption) ?_
        simp only [Act.put, List.setIfInBounds_toArray, List.set_cons_zero, List.set_cons_succ]
        refine wpAnyH_done (by kernel_rfl) ?_ _
        have HB3 : Hid (Below w.heap.size w wc.drew) := HB2.out.trans (hS1.mono HB2.out.size)
        go_wp2_with fail
        go_roundw
        case rel => exact ⟨i + 1, by omega, by omega, by go_num, HB3.out⟩
        case measure => simp [intOf]; omega
    · obtain rfl : i = NT := by omega
      have hdk : decide ((i : Int) < (i : Int)) = false := by simp
      go_wp2_with fail
      go_ret
      exact ⟨rfl, HBX.out⟩
open Rs (En zE rcs tkn fnd RdS RdI ps Tb own_other own_ge owns_later owns_slice below_grown evl)

/- The row on plain data. -/
def lastT (ts : List Tr) : Tr := ts.getD (ts.length - 1) (tz 0)
def run1 (s : List Tr × List (List Int × List Int)) (b : List Int × List Int) : List Tr × List (List Int × List Int) := if plE (lastT s.1) b.1 b.2 = 0 then (s.1 ++ [nx (lastT s.1) b.1 b.2], s.2 ++ [b]) else s
def runS (l : List (List Int × List Int)) : List Tr × List (List Int × List Int) := l.foldl run1 ([stT], [])
theorem runS_snoc (l : List (List Int × List Int)) (b : List Int × List Int) : runS (l ++ [b]) = run1 (runS l) b := by simp [runS]
structure RowB (ts : List Tr) (bs : List (List Int × List Int)) : Prop where
  len : ts.length = bs.length + 1
  st : ts.getD 0 (tz 0) = stT
  stp : ∀ i, i < bs.length → Stp (ts.getD i (tz 0)) (bs.getD i ([], [])).1 (bs.getD i ([], [])).2 ∧ ts.getD (i + 1) (tz 0) = nx (ts.getD i (tz 0)) (bs.getD i ([], [])).1 (bs.getD i ([], [])).2
  ze : ∀ i, i < bs.length → plE (ts.getD i (tz 0)) (bs.getD i ([], [])).1 (bs.getD i ([], [])).2 = 0
theorem getD_app {α : Type} {l : List α} {x d : α} {i : Nat} (h : i < l.length) : (l ++ [x]).getD i d = l.getD i d := by
  rw [List.getD_eq_getElem?_getD, List.getElem?_append_left h, ← List.getD_eq_getElem?_getD]
theorem getD_end {α : Type} {l : List α} {x d : α} : (l ++ [x]).getD l.length d = x := by
  rw [List.getD_eq_getElem?_getD, List.getElem?_append_right (Nat.le_refl _)]
  simp
theorem RowB.zero : RowB [stT] [] := ⟨rfl, rfl, fun i hi => (by cases hi), fun i hi => (by cases hi)⟩
theorem RowB.snoc {ts : List Tr} {bs : List (List Int × List Int)} (h : RowB ts bs) {b : List Int × List Int} (hs : plE (lastT ts) b.1 b.2 = 0) : RowB (ts ++ [nx (lastT ts) b.1 b.2]) (bs ++ [b]) := by
  have hl := h.len
  refine ⟨by simp; omega, by rw [getD_app (by omega)]; exact h.st, fun i hi => ?_, fun i hi => ?_⟩
  all_goals rw [List.length_append, List.length_singleton] at hi
  all_goals rcases Nat.lt_or_ge i bs.length with c | c
  · rw [getD_app (show i < ts.length by omega), getD_app (show i < bs.length from c), getD_app (show i + 1 < ts.length by omega)]
    exact h.stp i c
  · obtain rfl : i = bs.length := by omega
    have e1 : lastT ts = ts.getD bs.length (tz 0) := by unfold lastT; rw [hl]; rfl
    rw [getD_app (by omega), getD_end, ← e1]
    refine ⟨plE_stp hs, ?_⟩
    rw [show bs.length + 1 = ts.length by omega, getD_end]
  · rw [getD_app (show i < ts.length by omega), getD_app (show i < bs.length from c)]
    exact h.ze i c
  · obtain rfl : i = bs.length := by omega
    have e1 : lastT ts = ts.getD bs.length (tz 0) := by unfold lastT; rw [hl]; rfl
    rw [getD_app (by omega), getD_end, ← e1]
    exact hs
theorem runS_row (l : List (List Int × List Int)) : RowB (runS l).1 (runS l).2 := by
  have : ∀ (l : List (List Int × List Int)) (s : List Tr × List (List Int × List Int)), RowB s.1 s.2 → RowB (l.foldl run1 s).1 (l.foldl run1 s).2 := by
    intro l
    induction l with
    | nil => exact fun s h => h
    | cons b l ih =>
      intro s h
      rw [List.foldl_cons]
      refine ih _ ?_
      unfold run1
      split
      · rename_i hE
        exact h.snoc hE
      · exact h
  exact this l _ RowB.zero
theorem st_ok : tck stT = true := by decide +kernel
theorem RowB.row {ts : List Tr} {bs : List (List Int × List Int)} (h : RowB ts bs) : Row (fun i => ts.getD i (tz 0)) (fun i => (bs.getD i ([], [])).1) (fun i => (bs.getD i ([], [])).2) bs.length :=
  ⟨by show tck (ts.getD 0 (tz 0)) = true; rw [h.st]; exact st_ok, by show (ts.getD 0 (tz 0)).ep = 0; rw [h.st]; rfl, fun i hi => (h.stp i hi).1, fun i hi => (h.stp i hi).2⟩
theorem RowB.le {ts : List Tr} {bs : List (List Int × List Int)} (h : RowB ts bs) : ts.length ≤ 201 := by
  have h1 := h.row.le
  have h2 := h.len
  omega
theorem RowB.right {ts : List Tr} {bs : List (List Int × List Int)} (h : RowB ts bs) : RowOk ts :=
  ⟨by have := h.len; omega, h.st, fun i hi => ⟨_, _, h.stp i (by have := h.len; omega)⟩⟩
/- Messages in memory. -/
def itB (ts : List Tr) (bs : List (List Int × List Int)) (i : Nat) : List It := its (nx (ts.getD i (tz 0)) (bs.getD i ([], [])).1 (bs.getD i ([], [])).2) (plR (ts.getD i (tz 0)) (bs.getD i ([], [])).1) (jns (ts.getD i (tz 0)) (bs.getD i ([], [])).1 (bs.getD i ([], [])).2)
def rkl (ms : List (Array Value)) : List Value := ms.flatMap fun m => m.toList
def MsgAt (w W : World) (cs : Array Value) (li : List It) : Prop := ∃ (p : Int) (a1 a2 a3 : Option Addr) (n1 n2 k1 k2 k3 : Nat), cs = #[.int .i64 p, .slice a1 n1 k1, .slice a2 n2 k2, .slice a3 li.length k3] ∧ W.ownsRow w.heap.size 57 6 (.slice a3 li.length k3) li.length (isl li)
theorem MsgAt.later {w W W' : World} {cs : Array Value} {li : List It} (h : MsgAt w W cs li) (hb : Below W.heap.size W W') : MsgAt w W' cs li := by
  obtain ⟨p, a1, a2, a3, n1, n2, k1, k2, k3, e, hr⟩ := h
  exact ⟨p, a1, a2, a3, n1, n2, k1, k2, k3, e, owns_later hr hb⟩
theorem MsgAt.grown {w W W' : World} {cs : Array Value} {li : List It} (h : MsgAt w W cs li) {e : TypeId} {b sz n : Nat} {v : Value} {xs : List Value} (row : W.ownsRow b e sz v n xs) (hg : W.grownBy W' v.ownBlock) (hT : e ≠ 57) : MsgAt w W' cs li := by
  obtain ⟨p, a1, a2, a3, n1, n2, k1, k2, k3, e', hr⟩ := h
  exact ⟨p, a1, a2, a3, n1, n2, k1, k2, k3, e', own_other hr fun g hgj => hg.block g (own_ge hr hgj).2 (fun e => own_ne2 row hr hT hgj e.symm)⟩
structure SS (w W : World) (vr vs : Value) (ts : List Tr) (bs : List (List Int × List Int)) (ms : List (Array Value)) : Prop where
  bel : Below w.heap.size w W
  rr : W.ownsRow w.heap.size 47 236 vr ts.length (trl ts)
  rs : W.ownsRow w.heap.size 55 4 vs ms.length (rkl ms)
  it : ∀ i, i < ms.length → MsgAt w W (ms.getD i #[]) (itB ts bs i)
  ml : ms.length = bs.length
section
variable {w W W' : World} {vr vs v' : Value} {ts : List Tr} {bs : List (List Int × List Int)} {ms : List (Array Value)}
theorem SS.later (h : SS w W vr vs ts bs ms) (hb : Below W.heap.size W W') : SS w W' vr vs ts bs ms := ⟨h.bel.trans (hb.mono h.bel.size), owns_later h.rr hb, owns_later h.rs hb, fun i hi => (h.it i hi).later hb, h.ml⟩
theorem itB_app {ts : List Tr} {bs : List (List Int × List Int)} {t : Tr} {b : List Int × List Int} {i : Nat} (h1 : i < ts.length) (h2 : i < bs.length) : itB (ts ++ [t]) (bs ++ [b]) i = itB ts bs i := by
  unfold itB
  rw [getD_app h1, getD_app h2]
/- The row grows by a tree, then the messages by one. -/
theorem SS.app (h : SS w W vr vs ts bs ms) (hrow : RowB ts bs) {n : Tr} {b : List Int × List Int} {cs : Array Value} {W1 W2 : World} {o : Obj} {v1 v2 : Value}
    (hown1 : W1.ownsRow w.heap.size 47 236 v1 (ts.length + 1) (trl ts ++ (tcs n).toList)) (hg1 : W.grownBy W1 vr.ownBlock)
    (hown2 : W2.ownsRow w.heap.size 55 4 v2 (ms.length + 1) (rkl ms ++ cs.toList)) (hg2 : (W1.alloc o).grownBy W2 vs.ownBlock)
    (hm : MsgAt w W cs (its (nx (lastT ts) b.1 b.2) (plR (lastT ts) b.1) (jns (lastT ts) b.1 b.2))) (hn : n = nx (lastT ts) b.1 b.2) :
    SS w W2 v1 v2 (ts ++ [n]) (bs ++ [b]) (ms ++ [cs]) := by
  have hl := hrow.len
  have hml := h.ml
  have rs1 : W1.ownsRow w.heap.size 55 4 vs ms.length (rkl ms) := own_other h.rs fun g hgj => hg1.block g (own_ge h.rs hgj).2 (fun e => own_ne2 h.rr h.rs (by decide) hgj e.symm)
  have rs2 := owns_later rs1 (below_alloc W1 o)
  have b1 : Below w.heap.size w W1 := below_grown h.bel hg1 h.bel.size (fun j hj => (own_ge h.rr hj).1)
  have b1a := b1.trans ((below_alloc W1 o).mono b1.size)
  have step : ∀ {cs : Array Value} {li : List It}, MsgAt w W cs li → MsgAt w W2 cs li := fun hm => ((hm.grown h.rr hg1 (by decide)).later (below_alloc W1 o)).grown rs2 hg2 (by decide)
  have hown1a := owns_later hown1 (below_alloc W1 o)
  refine ⟨below_grown b1a hg2 b1a.size (fun j hj => (own_ge rs2 hj).1), ?_, ?_, fun i hi => ?_, by simp; omega⟩
  · rw [trl_snoc, List.length_append]
    exact own_other hown1a fun g hgj => hg2.block g (own_ge hown1a hgj).2 (fun e => own_ne2 rs2 hown1a (by decide) hgj e.symm)
  · have e : rkl (ms ++ [cs]) = rkl ms ++ cs.toList := by simp [rkl]
    rw [e, List.length_append]
    exact hown2
  · rw [List.length_append, List.length_singleton] at hi
    rcases Nat.lt_or_ge i ms.length with c | c
    · rw [getD_app c, itB_app (by omega) (by omega)]
      exact step (h.it i c)
    · obtain rfl : i = ms.length := by omega
      rw [getD_end]
      have e1 : itB (ts ++ [n]) (bs ++ [b]) ms.length = its (nx (lastT ts) b.1 b.2) (plR (lastT ts) b.1) (jns (lastT ts) b.1 b.2) := by
        unfold itB
        have e2 : lastT ts = ts.getD ms.length (tz 0) := by unfold lastT; rw [hl, hml]; rfl
        rw [getD_app (by omega), show (bs ++ [b]).getD ms.length ([], []) = b by rw [hml, getD_end], ← e2]
      rw [e1]
      exact step hm
end
/- Batches that came in. -/
def RdB (w : World) (a : Option Addr) (l : List (List Int × List Int)) : Prop := ∀ i, i < l.length → ∃ b o aL cL aJ cJ, a = some ⟨b, o, none⟩ ∧ w.cell? ⟨b, o + i * 2, none⟩ = some (.slice aL (l.getD i ([], [])).1.length cL) ∧ w.cell? ⟨b, o + i * 2 + 1, none⟩ = some (.slice aJ (l.getD i ([], [])).2.length cJ) ∧ RdI w aL (l.getD i ([], [])).1 ∧ RdI w aJ (l.getD i ([], [])).2
theorem RdB.later {w w' : World} {a : Option Addr} {l : List (List Int × List Int)} (h : RdB w a l) (hb : Below w.heap.size w w') : RdB w' a l := fun i hi => by
  obtain ⟨b, o, aL, cL, aJ, cJ, e, h1, h2, h3, h4⟩ := h i hi
  exact ⟨b, o, aL, cL, aJ, cJ, e, Rs.cell_later hb h1, Rs.cell_later hb h2, h3.later hb, h4.later hb⟩
def StepsP (w w' : World) (l : List (List Int × List Int)) (e : Ending) : Prop := ∃ vr vs ms, e = .returned (.tuple #[vr, vs, .bool true]) ∧ SS w w' vr vs (runS l).1 (runS l).2 ms
theorem zero_of {n : Nat} {w X : World} (h : Below n w (X.alloc (.cells Tryz.zeroCells47 47))) : TrAt (X.alloc (.cells Tryz.zeroCells47 47)) X.heap.size (tz 0) := TrAt.zero X
theorem rkz_of {n : Nat} {w X : World} (h : Below n w (X.alloc (.cells #[.int .i64 0, .slice none 0 0, .slice none 0 0, .slice none 0 0] 55))) : RkAt (X.alloc (.cells #[.int .i64 0, .slice none 0 0, .slice none 0 0, .slice none 0 0] 55)) X.heap.size #[.int .i64 0, .slice none 0 0, .slice none 0 0, .slice none 0 0] := heap_alloc_last X _
theorem zero_of' {n : Nat} {w X : World} (h : Below n w (X.alloc (.cells Tryz.zeroCells47 47)).drew) : TrAt (X.alloc (.cells Tryz.zeroCells47 47)).drew X.heap.size (tz 0) := (TrAt.zero X).later (drew_below _)
theorem rkz_of' {n : Nat} {w X : World} (h : Below n w (X.alloc (.cells #[.int .i64 0, .slice none 0 0, .slice none 0 0, .slice none 0 0] 55)).drew) : RkAt (X.alloc (.cells #[.int .i64 0, .slice none 0 0, .slice none 0 0, .slice none 0 0] 55)).drew X.heap.size #[.int .i64 0, .slice none 0 0, .slice none 0 0, .slice none 0 0] := RkAt.later (heap_alloc_last X _) (drew_below _)
theorem info_tree : ∃ i, Tryz.prog.info? 47 = some i ∧ i.zero = some (.agg (tcs (tz 0))) ∧ i.size = 236 ∧ i.bytes = 1888 := by
  have hz : (Tryz.prog.info? 47).bind (·.zero) = some (.agg (tcs (tz 0))) := by rw [← zero236]; kernel_rfl
  have hs : (Tryz.prog.info? 47).map (fun i => (i.size, i.bytes)) = some (236, 1888) := by kernel_rfl
  cases hq : Tryz.prog.info? 47 with
  | none => rw [hq] at hs; cases hs
  | some i =>
    rw [hq] at hs hz
    simp at hs hz
    exact ⟨i, rfl, hz, hs.1, hs.2⟩
theorem info_rk : ∃ i, Tryz.prog.info? 55 = some i ∧ i.zero = some (.agg #[.int .i64 0, .slice none 0 0, .slice none 0 0, .slice none 0 0]) ∧ i.size = 4 ∧ i.bytes = 80 := by
  have h : (Tryz.prog.info? 55).map (fun i => (i.zero, i.size, i.bytes)) = some (some (.agg #[.int .i64 0, .slice none 0 0, .slice none 0 0, .slice none 0 0]), 4, 80) := by kernel_rfl
  cases hq : Tryz.prog.info? 55 with
  | none => rw [hq] at h; cases h
  | some i =>
    rw [hq] at h
    simp at h
    exact ⟨i, rfl, h.1, h.2.1, h.2.2⟩
theorem results_ttt {fn : Func} {p q r : Tmp} (hf : fn.results = #[.tmp p, .tmp q, .tmp r]) (tmps : Array Value) (W : World) : (results fn tmps).run Tryz.prog W = .ok (.tuple #[tmps.getD p undef, tmps.getD q undef, tmps.getD r undef]) W := by
  simp [results, hf]
set_option maxRecDepth 100000 in
set_option maxHeartbeats 1000000 in
theorem steps_any (a : Option Addr) (c : Nat) (l : List (List Int × List Int)) (w : World) (hTb : Tb w) (hl : l.length ≤ 4194304) (hb : ∀ i, i < l.length → (l.getD i ([], [])).1.length ≤ 17592186044416 ∧ (l.getD i ([], [])).2.length ≤ 17592186044416) (hr : RdB w a l) :
    Calls Tryz.prog 5 #[.slice a l.length c] w fun e w' => StepsP w w' l e := by
  obtain ⟨it, hti, htz, hts, htb⟩ := info_tree
  obtain ⟨ik, hki, hkz, hks, hkb⟩ := info_rk
  obtain ⟨c0, hc0⟩ : ∃ c, tcs stT = c := ⟨_, rfl⟩
  have HC0 : Hid (tcs stT = c0) := hc0
  have hst := rStart_any w
  rw [hc0] at hst
  clear hc0
  go_enter Tryz.func5, Tryz.ntmps5
  go_wp2_with fail
  refine hst.mono ?_
  rintro r w1 ⟨rfl, hb1⟩
  clear hst
  have HS0 : Hid (SS w (w1.alloc (.cells c0 47)) (.slice (some ⟨w1.heap.size, 0, none⟩) 1 1) (.slice none 0 0) (runS (l.take 0)).1 (runS (l.take 0)).2 []) := by
    refine ⟨hb1.trans ((below_alloc _ _).mono hb1.size), ⟨by show (trl [stT]).length = 1 * 236; rw [trl_len]; rfl, .inr ⟨w1.heap.size, 1, c0, rfl, hb1.size, heap_alloc_last _ _, Nat.le_refl _, by unfold maxLen; omega, by rw [← HC0.out, tcs_size], ?_⟩⟩, World.ownsRow_nil _ _ _ _, fun i hi => (by cases hi), rfl⟩
    show List.take (1 * 236) c0.toList = trl [stT]
    rw [← HC0.out, List.take_of_length_le (by rw [Array.length_toList, tcs_size]; decide)]
    simp [trl]
  clear hb1
  go_wp2_with (refine bsT HC0.out rfl _ rfl rfl ?_)
  go_loopw [5, 6, 16] (fun x y i wx => ∃ (k : Nat) (vr vs : Value) (ms : List (Array Value)), k ≤ l.length ∧ i = .int .i64 (k : Int) ∧ vr = x ∧ vs = y ∧ SS w wx vr vs (runS (l.take k)).1 (runS (l.take k)).2 ms) (fun _ _ i _ => l.length - (intOf i).toNat)
  case atStart => exact ⟨0, _, _, [], by omega, rfl, rfl, rfl, HS0.out⟩
  case round =>
    obtain ⟨k, vr, vs, ms, hk, rfl, rfl, rfl, hss⟩ := hrel
    have HS : Hid (SS w wr vr vs (runS (l.take k)).1 (runS (l.take k)).2 ms) := hss
    have HROW : Hid (RowB (runS (l.take k)).1 (runS (l.take k)).2) := runS_row _
    clear hss HS0
    by_cases hkN : k < l.length
    · have i1 : (0 : Int) ≤ (k : Int) := by omega
      have i2 : (k : Int) < (l.length : Int) := by omega
      obtain ⟨b0, o0, aL, cL, aJ, cJ, hal, hc0, hc1, rL, rJ⟩ := (hr.later HS.out.bel) k hkN
      obtain ⟨hbL, hbJ⟩ := hb k hkN
      have HTK : Hid (runS (l.take (k + 1)) = run1 (runS (l.take k)) (l.getD k ([], []))) := by
        unfold Hid
        rw [← runS_snoc, List.take_add_one, List.getD_eq_getElem?_getD, List.getElem?_eq_getElem hkN]
        rfl
      obtain ⟨q, hq⟩ : ∃ q, l.getD k ([], []) = q := ⟨_, rfl⟩
      rw [hq] at hc0 hc1 rL rJ hbL hbJ HTK
      obtain ⟨L, J⟩ := q
      dsimp only at hc0 hc1 rL rJ hbL hbJ
      obtain ⟨st, hst⟩ : ∃ s, runS (l.take k) = s := ⟨_, rfl⟩
      rw [hst] at HTK HS HROW
      obtain ⟨ts, bs⟩ := st
      dsimp only at HS HROW
      clear hq hst
      subst hal
      have hlen := HROW.out.len
      have hle := HROW.out.le
      obtain ⟨m, hm⟩ : ∃ m, m + 1 = ts.length := ⟨ts.length - 1, by omega⟩
      obtain ⟨t, ht⟩ : ∃ t, lastT ts = t := ⟨_, rfl⟩
      have ht2 : ts.getD m (tz 0) = t := by rw [← ht]; unfold lastT; rw [← hm]; rfl
      have HR1 : Hid (run1 (ts, bs) (L, J) = if plE t L J = 0 then (ts ++ [nx t L J], bs ++ [(L, J)]) else (ts, bs)) := by
        unfold Hid run1
        dsimp only
        rw [ht]
      have HLT : Hid (lastT ts = t) := ht
      obtain ⟨ar, cr, rfl⟩ := owns_slice HS.out.rr
      obtain ⟨ax, cs, rfl⟩ := owns_slice HS.out.rs
      have HS5 : Hid (SS w (wr.alloc (.cells #[.slice aL L.length cL, .slice aJ J.length cJ] 66)) (.slice ar ts.length cr) (.slice ax ms.length cs) ts bs ms) := HS.out.later (below_alloc _ _)
      have hBT : BtAt (wr.alloc (.cells #[.slice aL L.length cL, .slice aJ J.length cJ] 66)) wr.heap.size aL aJ L.length J.length cL cJ := heap_alloc_last wr _
      have rL5 := rL.later (below_alloc wr (.cells #[.slice aL L.length cL, .slice aJ J.length cJ] 66))
      have rJ5 := rJ.later (below_alloc wr (.cells #[.slice aL L.length cL, .slice aJ J.length cJ] 66))
      clear HS rL rJ
      go_upto_region 6 with (fail)
      clear hc0 hc1
      generalize wr.alloc (.cells #[.slice aL L.length cL, .slice aJ J.length cJ] 66) = w5 at *
      generalize wr.heap.size = C at *
      have HBT : Hid (BtAt w5 C aL aJ L.length J.length cL cJ) := hBT
      have hrd := owns_rdR HS5.out.rr
      obtain ⟨g, eg, -, -⟩ := hrd.tree (i := m) (by omega) ht2
      have HTR : Hid (∀ W, Below w5.heap.size w5 W → (Instr.loadAt 47 (.pointer (some ⟨g, m * 236, none⟩))).run Tryz.prog W = .ok (.agg (tcs t)) W) := fun W hW => by
        obtain ⟨b', e', h2, -⟩ := (hrd.later hW).tree (i := m) (by omega) ht2
        rw [eg] at e'
        simp at e'
        subst e'
        exact h2
      have hnx := fun W (hW : Below w5.heap.size w5 W) => next_any t aL aJ cL cJ L J W ((hTb.later HS5.out.bel).later hW) (by omega) (by omega) (rL5.later hW) (rJ5.later hW)
      have HN3 : Hid ((pnI t L J).length ≤ 4096) := pnI_short t L J
      have HOK : Hid (plE t L J = 0 → pnT t L J = nx t L J ∧ pnI t L J = its (nx t L J) (plR t L) (jns t L J)) := fun h => by
        refine ⟨?_, ?_⟩
        · unfold pnT; rw [if_pos h]
        · unfold pnI; rw [if_pos h]
      obtain ⟨n, hn⟩ : ∃ n, pnT t L J = n := ⟨_, rfl⟩
      obtain ⟨n1, hn1⟩ : ∃ n, (pnL t L J).length = n := ⟨_, rfl⟩
      obtain ⟨n2, hn2⟩ : ∃ n, (pnJ t L J).length = n := ⟨_, rfl⟩
      obtain ⟨li, hli⟩ : ∃ n, pnI t L J = n := ⟨_, rfl⟩
      obtain ⟨E, hE⟩ : ∃ n, plE t L J = n := ⟨_, rfl⟩
      obtain ⟨p, hp⟩ : ∃ n, pnP t L J = n := ⟨_, rfl⟩
      obtain ⟨cn, hcn⟩ : ∃ c, tcs n = c := ⟨_, rfl⟩
      have HCN : Hid (tcs n = cn) := hcn
      have HEQ : Hid (pnT t L J = n ∧ (pnL t L J).length = n1 ∧ (pnJ t L J).length = n2 ∧ pnI t L J = li ∧ plE t L J = E ∧ pnP t L J = p) := ⟨hn, hn1, hn2, hli, hE, hp⟩
      rw [hli] at HN3
      rw [hli, hn, hE] at HOK
      rw [hE] at HR1
      obtain ⟨ct, hct⟩ : ∃ c, tcs t = c := ⟨_, rfl⟩
      have HCT : Hid (tcs t = ct) := hct
      rw [hct] at HTR
      rw [hct] at hnx
      subst eg
      obtain ⟨NT, hNT⟩ : ∃ x, ts.length = x := ⟨_, rfl⟩
      have HNT : Hid (ts.length = NT) := hNT
      obtain ⟨NL, hNL⟩ : ∃ x, L.length = x := ⟨_, rfl⟩
      obtain ⟨NJ, hNJ⟩ : ∃ x, J.length = x := ⟨_, rfl⟩
      rw [hNL, hNJ] at HBT hnx
      rw [hNT] at hm hle HS5 ⊢
      have hw1 : IntKind.i64.wrap ((NT : Int) - 1) = (m : Int) := by rw [show (NT : Int) - 1 = (m : Int) by omega]; exact Rs.i64_fit _ (by omega) (by omega)
      have m1 : (0 : Int) ≤ (m : Int) := by omega
      have m2 : (m : Int) < (NT : Int) := by omega
      have HMN : Hid (m + 1 = NT) := hm
      clear hn hn1 hn2 hli hE hp hcn hct ht ht2 hrd hBT hNT hNL hNJ hm hlen rL5 rJ5 hbL hbJ
      go_cut [9, 10, 11] (fun s9 s10 s11 wx => ∃ T M a1 k1 a2 k2 a3 k3, s9 = .pointer (some ⟨T, 0, none⟩) ∧ s10 = .pointer (some ⟨M, 0, none⟩) ∧ s11 = .int .i64 E ∧ Below w5.heap.size w5 wx ∧ TrAt wx T n ∧ RkAt wx M #[.int .i64 p, .slice a1 n1 k1, .slice a2 n2 k2, .slice a3 li.length k3] ∧ wx.ownsRow w.heap.size 57 6 (.slice a3 li.length k3) li.length (isl li))
      case first =>
        have hS0 : Below w5.heap.size w5 w5.drew := drew_below _
        have HW5 : Hid (w.heap.size ≤ w5.heap.size) := HS5.out.bel.size
        refine wp_region_held_drew (S := fun X => Below w5.heap.size w5 X) (by kernel_rfl) hS0 (fun hHeld => ?_)
        refine wpAnyH_take (i := 0) (oi := { dst := some 21, op := Op.move (Operand.tmp 5), type := _, pos := _, after := _, guard := none }) (v := .slice (some ⟨g, 0, none⟩) NT cr) rfl (by kernel_rfl) (by kernel_rfl) (by kernel_rfl) (fun _ _ _ h => h) (Or.inl ⟨by rfl, fun w hSw => by (try dsimp only at hSw); go_simp⟩) (by assumption) ?_
        simp only [Act.put, List.setIfInBounds_toArray, List.set_cons_zero, List.set_cons_succ]
        refine wpAnyH_take (i := 1) (oi := { dst := some 22, op := Op.move (Operand.tmp 5), type := _, pos := _, after := _, guard := none }) (v := .slice (some ⟨g, 0, none⟩) NT cr) rfl (by kernel_rfl) (by kernel_rfl) (by kernel_rfl) (fun _ _ _ h => h) (Or.inl ⟨by rfl, fun w hSw => by (try dsimp only at hSw); go_simp⟩) (by assumption) ?_
        simp only [Act.put, List.setIfInBounds_toArray, List.set_cons_zero, List.set_cons_succ]
        refine wpAnyH_take (i := 2) (oi := { dst := some 23, op := Op.call { callee := Callee.builtin Builtin.len, args := #[(Operand.tmp 22)], argTypes := #[26] }, type := _, pos := _, after := _, guard := none }) (v := .int .i64 (NT : Int)) rfl (by kernel_rfl) (by kernel_rfl) (by kernel_rfl) (fun _ _ _ h => h) (Or.inl ⟨by rfl, fun w hSw => by (try dsimp only at hSw); go_simp⟩) (by assumption) ?_
        simp only [Act.put, List.setIfInBounds_toArray, List.set_cons_zero, List.set_cons_succ]
        refine wpAnyH_take (i := 3) (oi := { dst := some 24, op := Op.binOp BinOp.sub 3 (Operand.tmp 23) (Operand.const (Value.int IntKind.i64 1)) 3, type := _, pos := _, after := _, guard := none }) (v := .int .i64 (m : Int)) rfl (by kernel_rfl) (by kernel_rfl) (by kernel_rfl) (fun _ _ _ h => h) (Or.inl ⟨by rfl, fun w hSw => by (try dsimp only at hSw); go_simp⟩) (by assumption) ?_
        simp only [Act.put, List.setIfInBounds_toArray, List.set_cons_zero, List.set_cons_succ]
        refine wpAnyH_take (i := 4) (oi := { dst := some 25, op := Op.indexAddr 26 (Operand.tmp 21) (Operand.tmp 24), type := _, pos := _, after := _, guard := none }) (v := .pointer (some ⟨g, m * 236, none⟩)) rfl (by kernel_rfl) (by kernel_rfl) (by kernel_rfl) (fun _ _ _ h => h) (Or.inl ⟨by rfl, fun w hSw => by (try dsimp only at hSw); go_simp⟩) (by assumption) ?_
        simp only [Act.put, List.setIfInBounds_toArray, List.set_cons_zero, List.set_cons_succ]
        refine wpAnyH_take (i := 5) (oi := { dst := some 26, op := Op.load 47 (Operand.tmp 25), type := _, pos := _, after := _, guard := none }) (v := .agg ct) rfl (by kernel_rfl) (by kernel_rfl) (by kernel_rfl) (fun _ _ _ h => h) (Or.inl ⟨by rfl, fun w hSw => ld_exec (HTR.out _ hSw) rfl rfl⟩) (by assumption) ?_
        simp only [Act.put, List.setIfInBounds_toArray, List.set_cons_zero, List.set_cons_succ]
        refine wpAnyH_take (i := 6) (oi := { dst := some 27, op := Op.load 66 (Operand.tmp 8), type := _, pos := _, after := _, guard := none }) (v := .agg #[.slice aL NL cL, .slice aJ NJ cJ]) rfl (by kernel_rfl) (by kernel_rfl) (by kernel_rfl) (fun _ _ _ h => h) (Or.inl ⟨by rfl, fun w hSw => by obtain ⟨x0, x1⟩ := (HBT.out.later hSw).cells; clear hSw; go_simp⟩) (by assumption) ?_
        simp only [Act.put, List.setIfInBounds_toArray, List.set_cons_zero, List.set_cons_succ]
        refine wpAnyH_ready (rs := [7, 12, 13]) (by kernel_rfl) (by simp) ?_
        refine (AllReadyH.cons rfl (fun K hK => ?_) (AllReadyH.cons rfl (fun K hK => ?_) (AllReadyH.cons rfl (fun K hK => ?_) AllReadyH.nil)))
        · go_simp
          have hle7 := hHeld.size
          refine (hnx _ hHeld).mono ?_
          rintro r w7 ⟨⟨vl, vj, vi, rfl, hl1, hl2, hl3, -⟩, hb7⟩
          rw [HEQ.out.2.1] at hl1
          rw [HEQ.out.2.2.1] at hl2
          rw [HEQ.out.2.2.2.1] at hl3
          rw [HEQ.out.1, HEQ.out.2.2.2.2.1, HEQ.out.2.2.2.2.2, HCN.out]
          obtain ⟨a1, k1, rfl⟩ := owns_slice hl1
          obtain ⟨a2, k2, rfl⟩ := owns_slice hl2
          obtain ⟨a3, k3, rfl⟩ := owns_slice hl3
          go_wp2_with fail
          have hrow := Rs.owns_wide hl3 (Nat.le_trans HW5.out hle7)
          try (have hz := hz.later hb7)
          try (have hq := hq.later hb7)
          refine hK.out _ _ (hHeld.trans (hb7.mono hHeld.size)) (fun hHd1 => ?_)
          clear hHeld hb7 hl1 hl2 hl3 hle7
          clear hK K
          try simp only [Act.put, List.setIfInBounds_toArray, List.set_cons_zero, List.set_cons_succ]
          refine wpAnyH_take (i := 8) (oi := { dst := some 20, op := Op.move (Operand.tmp 28), type := _, pos := _, after := _, guard := none }) (v := .tuple #[.agg cn, .agg #[.int .i64 p, .slice a1 n1 k1, .slice a2 n2 k2, .slice a3 li.length k3], .int .i64 E]) rfl (by kernel_rfl) (by kernel_rfl) (by kernel_rfl) (fun _ _ _ h => h) (Or.inl ⟨by rfl, fun w hSw => by (try dsimp only at hSw); go_simp⟩) (by assumption) ?_
          simp only [Act.put, List.setIfInBounds_toArray, List.set_cons_zero, List.set_cons_succ]
          refine wpAnyH_take (i := 9) (oi := { dst := some 29, op := Op.extract (Operand.tmp 20) 0, type := _, pos := _, after := _, guard := none }) (v := .agg cn) rfl (by kernel_rfl) (by kernel_rfl) (by kernel_rfl) (fun _ _ _ h => h) (Or.inl ⟨by rfl, fun w hSw => by (try dsimp only at hSw); go_simp⟩) (by assumption) ?_
          simp only [Act.put, List.setIfInBounds_toArray, List.set_cons_zero, List.set_cons_succ]
          refine wpAnyH_take (i := 10) (oi := { dst := some 30, op := Op.extract (Operand.tmp 20) 1, type := _, pos := _, after := _, guard := none }) (v := .agg #[.int .i64 p, .slice a1 n1 k1, .slice a2 n2 k2, .slice a3 li.length k3]) rfl (by kernel_rfl) (by kernel_rfl) (by kernel_rfl) (fun _ _ _ h => h) (Or.inl ⟨by rfl, fun w hSw => by (try dsimp only at hSw); go_simp⟩) (by assumption) ?_
          simp only [Act.put, List.setIfInBounds_toArray, List.set_cons_zero, List.set_cons_succ]
          refine wpAnyH_take (i := 11) (oi := { dst := some 31, op := Op.extract (Operand.tmp 20) 2, type := _, pos := _, after := _, guard := none }) (v := .int .i64 E) rfl (by kernel_rfl) (by kernel_rfl) (by kernel_rfl) (fun _ _ _ h => h) (Or.inl ⟨by rfl, fun w hSw => by (try dsimp only at hSw); go_simp⟩) (by assumption) ?_
          simp only [Act.put, List.setIfInBounds_toArray, List.set_cons_zero, List.set_cons_succ]
          refine wpAnyH_ready (rs := [12, 13]) (by kernel_rfl) (by simp) ?_
          refine (AllReadyH.cons rfl (fun K hK => ?_) (AllReadyH.cons rfl (fun K hK => ?_) AllReadyH.nil))
          · go_simp
            have hgT := hHd1.size
            refine hK.out _ _ (hHd1.trans ((below_alloc _ _).mono hHd1.size)) (fun hHd2 => ?_)
            first | have hz := zero_of hHd2 | have hz := zero_of' hHd2
            try simp only [World.size_alloc] at hz
            try simp only [World.size_alloc] at hgT
            try (have hq := RkAt.later hq (below_alloc _ (.cells Tryz.zeroCells47 47)))
            try (have hrow := owns_later hrow (below_alloc _ (.cells Tryz.zeroCells47 47)))
            clear hHd1
            clear hK K
            try simp only [Act.put, List.setIfInBounds_toArray, List.set_cons_zero, List.set_cons_succ]
            refine wpAnyH_ready (rs := [13]) (by kernel_rfl) (by simp) ?_
            refine AllReadyH.cons rfl (fun K hK => ?_) AllReadyH.nil
            go_simp
            have hgM := hHd2.size
            refine hK.out _ _ (hHd2.trans ((below_alloc _ _).mono hHd2.size)) (fun hHd3 => ?_)
            first | have hq := rkz_of hHd3 | have hq := rkz_of' hHd3
            try simp only [World.size_alloc] at hq
            try simp only [World.size_alloc] at hgM
            try (have hz := hz.later (below_alloc _ (.cells #[.int .i64 0, .slice none 0 0, .slice none 0 0, .slice none 0 0] 55)))
            try (have hrow := owns_later hrow (below_alloc _ (.cells #[.int .i64 0, .slice none 0 0, .slice none 0 0, .slice none 0 0] 55)))
            clear hHd2
            clear hK K
            try simp only [Act.put, List.setIfInBounds_toArray, List.set_cons_zero, List.set_cons_succ]
            refine wpAnyH_ready (rs := [14]) (by kernel_rfl) (by simp) ?_
            refine AllReadyH.cons rfl (fun Kc hK => ?_) AllReadyH.nil
            refine if_wp rfl (wp_stRow0 47 _ _ rfl _ cn rfl rfl 47 _ hz (by rw [← HCN.out, tcs_size]; exact infoT) (by rw [← HCN.out, tcs_size, tcs_size]) (by rw [← HCN.out]; exact tcs_one n) rfl ?_)
            have hTM := block_ne hz hq (by decide)
            have hzZ := Rt.heap_setRow_same hz cn
            have hq2 := (Rt.row_other (Ne.symm hTM) cn).trans hq
            have hrow2 := Rs.owns_type hrow hz (by decide) cn
            refine hK.out _ _ (Rt.setRow_below (by first | exact hgT | omega) hHd3 _) (fun hHd4 => ?_)
            clear hHd3
            clear hK Kc
            try simp only [Act.put, List.setIfInBounds_toArray, List.set_cons_zero, List.set_cons_succ]
            refine wpAnyH_ready (rs := [15]) (by kernel_rfl) (by simp) ?_
            refine AllReadyH.cons rfl (fun Kc hK => ?_) AllReadyH.nil
            refine if_wp rfl (wp_stRow0 55 _ _ rfl _ #[.int .i64 p, .slice a1 n1 k1, .slice a2 n2 k2, .slice a3 li.length k3] rfl rfl 55 _ hq2 infoRk rfl (rk_one _ _ _ _ _ _ _ _ _ _) rfl ?_)
            have hqZ := Rt.heap_setRow_same hq2 #[.int .i64 p, .slice a1 n1 k1, .slice a2 n2 k2, .slice a3 li.length k3]
            have hzZ2 := (Rt.row_other hTM #[.int .i64 p, .slice a1 n1 k1, .slice a2 n2 k2, .slice a3 li.length k3]).trans hzZ
            have hrow3 := Rs.owns_type hrow2 hq2 (by decide) #[.int .i64 p, .slice a1 n1 k1, .slice a2 n2 k2, .slice a3 li.length k3]
            refine hK.out _ _ (Rt.setRow_below (by first | exact hgM | omega) hHd4 _) (fun hHd5 => ?_)
            clear hK Kc
            try simp only [Act.put, List.setIfInBounds_toArray, List.set_cons_zero, List.set_cons_succ]
            refine wpAnyH_take (i := 16) (oi := { dst := some 11, op := Op.assign (Operand.tmp 31), type := _, pos := _, after := _, guard := none }) (v := .int .i64 E) rfl (by kernel_rfl) (by kernel_rfl) (by kernel_rfl) (fun _ _ _ h => h) (Or.inl ⟨by rfl, fun w hSw => by (try dsimp only at hSw); go_simp⟩) (by assumption) ?_
            simp only [Act.put, List.setIfInBounds_toArray, List.set_cons_zero, List.set_cons_succ]
            refine wpAnyH_done (by kernel_rfl) ?_ _
            go_wp2_with fail
            go_meet
            case rel => exact ⟨_, _, a1, k1, a2, k2, a3, k3, rfl, rfl, rfl, hHd5, by unfold TrAt; rw [HCN.out]; exact hzZ2, hqZ, hrow3⟩
          · go_simp
            have hgM := hHd1.size
            refine hK.out _ _ (hHd1.trans ((below_alloc _ _).mono hHd1.size)) (fun hHd2 => ?_)
            first | have hq := rkz_of hHd2 | have hq := rkz_of' hHd2
            try simp only [World.size_alloc] at hq
            try simp only [World.size_alloc] at hgM
            try (have hz := hz.later (below_alloc _ (.cells #[.int .i64 0, .slice none 0 0, .slice none 0 0, .slice none 0 0] 55)))
            try (have hrow := owns_later hrow (below_alloc _ (.cells #[.int .i64 0, .slice none 0 0, .slice none 0 0, .slice none 0 0] 55)))
            clear hHd1
            clear hK K
            try simp only [Act.put, List.setIfInBounds_toArray, List.set_cons_zero, List.set_cons_succ]
            refine wpAnyH_ready (rs := [12]) (by kernel_rfl) (by simp) ?_
            refine AllReadyH.cons rfl (fun K hK => ?_) AllReadyH.nil
            go_simp
            have hgT := hHd2.size
            refine hK.out _ _ (hHd2.trans ((below_alloc _ _).mono hHd2.size)) (fun hHd3 => ?_)
            first | have hz := zero_of hHd3 | have hz := zero_of' hHd3
            try simp only [World.size_alloc] at hz
            try simp only [World.size_alloc] at hgT
            try (have hq := RkAt.later hq (below_alloc _ (.cells Tryz.zeroCells47 47)))
            try (have hrow := owns_later hrow (below_alloc _ (.cells Tryz.zeroCells47 47)))
            clear hHd2
            clear hK K
            try simp only [Act.put, List.setIfInBounds_toArray, List.set_cons_zero, List.set_cons_succ]
            refine wpAnyH_ready (rs := [14]) (by kernel_rfl) (by simp) ?_
            refine AllReadyH.cons rfl (fun Kc hK => ?_) AllReadyH.nil
            refine if_wp rfl (wp_stRow0 47 _ _ rfl _ cn rfl rfl 47 _ hz (by rw [← HCN.out, tcs_size]; exact infoT) (by rw [← HCN.out, tcs_size, tcs_size]) (by rw [← HCN.out]; exact tcs_one n) rfl ?_)
            have hTM := block_ne hz hq (by decide)
            have hzZ := Rt.heap_setRow_same hz cn
            have hq2 := (Rt.row_other (Ne.symm hTM) cn).trans hq
            have hrow2 := Rs.owns_type hrow hz (by decide) cn
            refine hK.out _ _ (Rt.setRow_below (by first | exact hgT | omega) hHd3 _) (fun hHd4 => ?_)
            clear hHd3
            clear hK Kc
            try simp only [Act.put, List.setIfInBounds_toArray, List.set_cons_zero, List.set_cons_succ]
            refine wpAnyH_ready (rs := [15]) (by kernel_rfl) (by simp) ?_
            refine AllReadyH.cons rfl (fun Kc hK => ?_) AllReadyH.nil
            refine if_wp rfl (wp_stRow0 55 _ _ rfl _ #[.int .i64 p, .slice a1 n1 k1, .slice a2 n2 k2, .slice a3 li.length k3] rfl rfl 55 _ hq2 infoRk rfl (rk_one _ _ _ _ _ _ _ _ _ _) rfl ?_)
            have hqZ := Rt.heap_setRow_same hq2 #[.int .i64 p, .slice a1 n1 k1, .slice a2 n2 k2, .slice a3 li.length k3]
            have hzZ2 := (Rt.row_other hTM #[.int .i64 p, .slice a1 n1 k1, .slice a2 n2 k2, .slice a3 li.length k3]).trans hzZ
            have hrow3 := Rs.owns_type hrow2 hq2 (by decide) #[.int .i64 p, .slice a1 n1 k1, .slice a2 n2 k2, .slice a3 li.length k3]
            refine hK.out _ _ (Rt.setRow_below (by first | exact hgM | omega) hHd4 _) (fun hHd5 => ?_)
            clear hK Kc
            try simp only [Act.put, List.setIfInBounds_toArray, List.set_cons_zero, List.set_cons_succ]
            refine wpAnyH_take (i := 16) (oi := { dst := some 11, op := Op.assign (Operand.tmp 31), type := _, pos := _, after := _, guard := none }) (v := .int .i64 E) rfl (by kernel_rfl) (by kernel_rfl) (by kernel_rfl) (fun _ _ _ h => h) (Or.inl ⟨by rfl, fun w hSw => by (try dsimp only at hSw); go_simp⟩) (by assumption) ?_
            simp only [Act.put, List.setIfInBounds_toArray, List.set_cons_zero, List.set_cons_succ]
            refine wpAnyH_done (by kernel_rfl) ?_ _
            go_wp2_with fail
            go_meet
            case rel => exact ⟨_, _, a1, k1, a2, k2, a3, k3, rfl, rfl, rfl, hHd5, by unfold TrAt; rw [HCN.out]; exact hzZ2, hqZ, hrow3⟩
        · go_simp
          have hgT := hHeld.size
          refine hK.out _ _ (hHeld.trans ((below_alloc _ _).mono hHeld.size)) (fun hHd1 => ?_)
          first | have hz := zero_of hHd1 | have hz := zero_of' hHd1
          try simp only [World.size_alloc] at hz
          try simp only [World.size_alloc] at hgT
          try (have hq := RkAt.later hq (below_alloc _ (.cells Tryz.zeroCells47 47)))
          try (have hrow := owns_later hrow (below_alloc _ (.cells Tryz.zeroCells47 47)))
          clear hHeld
          clear hK K
          try simp only [Act.put, List.setIfInBounds_toArray, List.set_cons_zero, List.set_cons_succ]
          refine wpAnyH_ready (rs := [7, 13]) (by kernel_rfl) (by simp) ?_
          refine (AllReadyH.cons rfl (fun K hK => ?_) (AllReadyH.cons rfl (fun K hK => ?_) AllReadyH.nil))
          · go_simp
            have hle7 := hHd1.size
            refine (hnx _ hHd1).mono ?_
            rintro r w7 ⟨⟨vl, vj, vi, rfl, hl1, hl2, hl3, -⟩, hb7⟩
            rw [HEQ.out.2.1] at hl1
            rw [HEQ.out.2.2.1] at hl2
            rw [HEQ.out.2.2.2.1] at hl3
            rw [HEQ.out.1, HEQ.out.2.2.2.2.1, HEQ.out.2.2.2.2.2, HCN.out]
            obtain ⟨a1, k1, rfl⟩ := owns_slice hl1
            obtain ⟨a2, k2, rfl⟩ := owns_slice hl2
            obtain ⟨a3, k3, rfl⟩ := owns_slice hl3
            go_wp2_with fail
            have hrow := Rs.owns_wide hl3 (Nat.le_trans HW5.out hle7)
            try (have hz := hz.later hb7)
            try (have hq := hq.later hb7)
            refine hK.out _ _ (hHd1.trans (hb7.mono hHd1.size)) (fun hHd2 => ?_)
            clear hHd1 hb7 hl1 hl2 hl3 hle7
            clear hK K
            try simp only [Act.put, List.setIfInBounds_toArray, List.set_cons_zero, List.set_cons_succ]
            refine wpAnyH_take (i := 8) (oi := { dst := some 20, op := Op.move (Operand.tmp 28), type := _, pos := _, after := _, guard := none }) (v := .tuple #[.agg cn, .agg #[.int .i64 p, .slice a1 n1 k1, .slice a2 n2 k2, .slice a3 li.length k3], .int .i64 E]) rfl (by kernel_rfl) (by kernel_rfl) (by kernel_rfl) (fun _ _ _ h => h) (Or.inl ⟨by rfl, fun w hSw => by (try dsimp only at hSw); go_simp⟩) (by assumption) ?_
            simp only [Act.put, List.setIfInBounds_toArray, List.set_cons_zero, List.set_cons_succ]
            refine wpAnyH_take (i := 9) (oi := { dst := some 29, op := Op.extract (Operand.tmp 20) 0, type := _, pos := _, after := _, guard := none }) (v := .agg cn) rfl (by kernel_rfl) (by kernel_rfl) (by kernel_rfl) (fun _ _ _ h => h) (Or.inl ⟨by rfl, fun w hSw => by (try dsimp only at hSw); go_simp⟩) (by assumption) ?_
            simp only [Act.put, List.setIfInBounds_toArray, List.set_cons_zero, List.set_cons_succ]
            refine wpAnyH_take (i := 10) (oi := { dst := some 30, op := Op.extract (Operand.tmp 20) 1, type := _, pos := _, after := _, guard := none }) (v := .agg #[.int .i64 p, .slice a1 n1 k1, .slice a2 n2 k2, .slice a3 li.length k3]) rfl (by kernel_rfl) (by kernel_rfl) (by kernel_rfl) (fun _ _ _ h => h) (Or.inl ⟨by rfl, fun w hSw => by (try dsimp only at hSw); go_simp⟩) (by assumption) ?_
            simp only [Act.put, List.setIfInBounds_toArray, List.set_cons_zero, List.set_cons_succ]
            refine wpAnyH_take (i := 11) (oi := { dst := some 31, op := Op.extract (Operand.tmp 20) 2, type := _, pos := _, after := _, guard := none }) (v := .int .i64 E) rfl (by kernel_rfl) (by kernel_rfl) (by kernel_rfl) (fun _ _ _ h => h) (Or.inl ⟨by rfl, fun w hSw => by (try dsimp only at hSw); go_simp⟩) (by assumption) ?_
            simp only [Act.put, List.setIfInBounds_toArray, List.set_cons_zero, List.set_cons_succ]
            refine wpAnyH_ready (rs := [13]) (by kernel_rfl) (by simp) ?_
            refine AllReadyH.cons rfl (fun K hK => ?_) AllReadyH.nil
            go_simp
            have hgM := hHd2.size
            refine hK.out _ _ (hHd2.trans ((below_alloc _ _).mono hHd2.size)) (fun hHd3 => ?_)
            first | have hq := rkz_of hHd3 | have hq := rkz_of' hHd3
            try simp only [World.size_alloc] at hq
            try simp only [World.size_alloc] at hgM
            try (have hz := hz.later (below_alloc _ (.cells #[.int .i64 0, .slice none 0 0, .slice none 0 0, .slice none 0 0] 55)))
            try (have hrow := owns_later hrow (below_alloc _ (.cells #[.int .i64 0, .slice none 0 0, .slice none 0 0, .slice none 0 0] 55)))
            clear hHd2
            clear hK K
            try simp only [Act.put, List.setIfInBounds_toArray, List.set_cons_zero, List.set_cons_succ]
            refine wpAnyH_ready (rs := [14]) (by kernel_rfl) (by simp) ?_
            refine AllReadyH.cons rfl (fun Kc hK => ?_) AllReadyH.nil
            refine if_wp rfl (wp_stRow0 47 _ _ rfl _ cn rfl rfl 47 _ hz (by rw [← HCN.out, tcs_size]; exact infoT) (by rw [← HCN.out, tcs_size, tcs_size]) (by rw [← HCN.out]; exact tcs_one n) rfl ?_)
            have hTM := block_ne hz hq (by decide)
            have hzZ := Rt.heap_setRow_same hz cn
            have hq2 := (Rt.row_other (Ne.symm hTM) cn).trans hq
            have hrow2 := Rs.owns_type hrow hz (by decide) cn
            refine hK.out _ _ (Rt.setRow_below (by first | exact hgT | omega) hHd3 _) (fun hHd4 => ?_)
            clear hHd3
            clear hK Kc
            try simp only [Act.put, List.setIfInBounds_toArray, List.set_cons_zero, List.set_cons_succ]
            refine wpAnyH_ready (rs := [15]) (by kernel_rfl) (by simp) ?_
            refine AllReadyH.cons rfl (fun Kc hK => ?_) AllReadyH.nil
            refine if_wp rfl (wp_stRow0 55 _ _ rfl _ #[.int .i64 p, .slice a1 n1 k1, .slice a2 n2 k2, .slice a3 li.length k3] rfl rfl 55 _ hq2 infoRk rfl (rk_one _ _ _ _ _ _ _ _ _ _) rfl ?_)
            have hqZ := Rt.heap_setRow_same hq2 #[.int .i64 p, .slice a1 n1 k1, .slice a2 n2 k2, .slice a3 li.length k3]
            have hzZ2 := (Rt.row_other hTM #[.int .i64 p, .slice a1 n1 k1, .slice a2 n2 k2, .slice a3 li.length k3]).trans hzZ
            have hrow3 := Rs.owns_type hrow2 hq2 (by decide) #[.int .i64 p, .slice a1 n1 k1, .slice a2 n2 k2, .slice a3 li.length k3]
            refine hK.out _ _ (Rt.setRow_below (by first | exact hgM | omega) hHd4 _) (fun hHd5 => ?_)
            clear hK Kc
            try simp only [Act.put, List.setIfInBounds_toArray, List.set_cons_zero, List.set_cons_succ]
            refine wpAnyH_take (i := 16) (oi := { dst := some 11, op := Op.assign (Operand.tmp 31), type := _, pos := _, after := _, guard := none }) (v := .int .i64 E) rfl (by kernel_rfl) (by kernel_rfl) (by kernel_rfl) (fun _ _ _ h => h) (Or.inl ⟨by rfl, fun w hSw => by (try dsimp only at hSw); go_simp⟩) (by assumption) ?_
            simp only [Act.put, List.setIfInBounds_toArray, List.set_cons_zero, List.set_cons_succ]
            refine wpAnyH_done (by kernel_rfl) ?_ _
            go_wp2_with fail
            go_meet
            case rel => exact ⟨_, _, a1, k1, a2, k2, a3, k3, rfl, rfl, rfl, hHd5, by unfold TrAt; rw [HCN.out]; exact hzZ2, hqZ, hrow3⟩
          · go_simp
            have hgM := hHd1.size
            refine hK.out _ _ (hHd1.trans ((below_alloc _ _).mono hHd1.size)) (fun hHd2 => ?_)
            first | have hq := rkz_of hHd2 | have hq := rkz_of' hHd2
            try simp only [World.size_alloc] at hq
            try simp only [World.size_alloc] at hgM
            try (have hz := hz.later (below_alloc _ (.cells #[.int .i64 0, .slice none 0 0, .slice none 0 0, .slice none 0 0] 55)))
            try (have hrow := owns_later hrow (below_alloc _ (.cells #[.int .i64 0, .slice none 0 0, .slice none 0 0, .slice none 0 0] 55)))
            clear hHd1
            clear hK K
            try simp only [Act.put, List.setIfInBounds_toArray, List.set_cons_zero, List.set_cons_succ]
            refine wpAnyH_ready (rs := [7]) (by kernel_rfl) (by simp) ?_
            refine AllReadyH.cons rfl (fun K hK => ?_) AllReadyH.nil
            go_simp
            have hle7 := hHd2.size
            refine (hnx _ hHd2).mono ?_
            rintro r w7 ⟨⟨vl, vj, vi, rfl, hl1, hl2, hl3, -⟩, hb7⟩
            rw [HEQ.out.2.1] at hl1
            rw [HEQ.out.2.2.1] at hl2
            rw [HEQ.out.2.2.2.1] at hl3
            rw [HEQ.out.1, HEQ.out.2.2.2.2.1, HEQ.out.2.2.2.2.2, HCN.out]
            obtain ⟨a1, k1, rfl⟩ := owns_slice hl1
            obtain ⟨a2, k2, rfl⟩ := owns_slice hl2
            obtain ⟨a3, k3, rfl⟩ := owns_slice hl3
            go_wp2_with fail
            have hrow := Rs.owns_wide hl3 (Nat.le_trans HW5.out hle7)
            try (have hz := hz.later hb7)
            try (have hq := hq.later hb7)
            refine hK.out _ _ (hHd2.trans (hb7.mono hHd2.size)) (fun hHd3 => ?_)
            clear hHd2 hb7 hl1 hl2 hl3 hle7
            clear hK K
            try simp only [Act.put, List.setIfInBounds_toArray, List.set_cons_zero, List.set_cons_succ]
            refine wpAnyH_take (i := 8) (oi := { dst := some 20, op := Op.move (Operand.tmp 28), type := _, pos := _, after := _, guard := none }) (v := .tuple #[.agg cn, .agg #[.int .i64 p, .slice a1 n1 k1, .slice a2 n2 k2, .slice a3 li.length k3], .int .i64 E]) rfl (by kernel_rfl) (by kernel_rfl) (by kernel_rfl) (fun _ _ _ h => h) (Or.inl ⟨by rfl, fun w hSw => by (try dsimp only at hSw); go_simp⟩) (by assumption) ?_
            simp only [Act.put, List.setIfInBounds_toArray, List.set_cons_zero, List.set_cons_succ]
            refine wpAnyH_take (i := 9) (oi := { dst := some 29, op := Op.extract (Operand.tmp 20) 0, type := _, pos := _, after := _, guard := none }) (v := .agg cn) rfl (by kernel_rfl) (by kernel_rfl) (by kernel_rfl) (fun _ _ _ h => h) (Or.inl ⟨by rfl, fun w hSw => by (try dsimp only at hSw); go_simp⟩) (by assumption) ?_
            simp only [Act.put, List.setIfInBounds_toArray, List.set_cons_zero, List.set_cons_succ]
            refine wpAnyH_take (i := 10) (oi := { dst := some 30, op := Op.extract (Operand.tmp 20) 1, type := _, pos := _, after := _, guard := none }) (v := .agg #[.int .i64 p, .slice a1 n1 k1, .slice a2 n2 k2, .slice a3 li.length k3]) rfl (by kernel_rfl) (by kernel_rfl) (by kernel_rfl) (fun _ _ _ h => h) (Or.inl ⟨by rfl, fun w hSw => by (try dsimp only at hSw); go_simp⟩) (by assumption) ?_
            simp only [Act.put, List.setIfInBounds_toArray, List.set_cons_zero, List.set_cons_succ]
            refine wpAnyH_take (i := 11) (oi := { dst := some 31, op := Op.extract (Operand.tmp 20) 2, type := _, pos := _, after := _, guard := none }) (v := .int .i64 E) rfl (by kernel_rfl) (by kernel_rfl) (by kernel_rfl) (fun _ _ _ h => h) (Or.inl ⟨by rfl, fun w hSw => by (try dsimp only at hSw); go_simp⟩) (by assumption) ?_
            simp only [Act.put, List.setIfInBounds_toArray, List.set_cons_zero, List.set_cons_succ]
            refine wpAnyH_ready (rs := [14]) (by kernel_rfl) (by simp) ?_
            refine AllReadyH.cons rfl (fun Kc hK => ?_) AllReadyH.nil
            refine if_wp rfl (wp_stRow0 47 _ _ rfl _ cn rfl rfl 47 _ hz (by rw [← HCN.out, tcs_size]; exact infoT) (by rw [← HCN.out, tcs_size, tcs_size]) (by rw [← HCN.out]; exact tcs_one n) rfl ?_)
            have hTM := block_ne hz hq (by decide)
            have hzZ := Rt.heap_setRow_same hz cn
            have hq2 := (Rt.row_other (Ne.symm hTM) cn).trans hq
            have hrow2 := Rs.owns_type hrow hz (by decide) cn
            refine hK.out _ _ (Rt.setRow_below (by first | exact hgT | omega) hHd3 _) (fun hHd4 => ?_)
            clear hHd3
            clear hK Kc
            try simp only [Act.put, List.setIfInBounds_toArray, List.set_cons_zero, List.set_cons_succ]
            refine wpAnyH_ready (rs := [15]) (by kernel_rfl) (by simp) ?_
            refine AllReadyH.cons rfl (fun Kc hK => ?_) AllReadyH.nil
            refine if_wp rfl (wp_stRow0 55 _ _ rfl _ #[.int .i64 p, .slice a1 n1 k1, .slice a2 n2 k2, .slice a3 li.length k3] rfl rfl 55 _ hq2 infoRk rfl (rk_one _ _ _ _ _ _ _ _ _ _) rfl ?_)
            have hqZ := Rt.heap_setRow_same hq2 #[.int .i64 p, .slice a1 n1 k1, .slice a2 n2 k2, .slice a3 li.length k3]
            have hzZ2 := (Rt.row_other hTM #[.int .i64 p, .slice a1 n1 k1, .slice a2 n2 k2, .slice a3 li.length k3]).trans hzZ
            have hrow3 := Rs.owns_type hrow2 hq2 (by decide) #[.int .i64 p, .slice a1 n1 k1, .slice a2 n2 k2, .slice a3 li.length k3]
            refine hK.out _ _ (Rt.setRow_below (by first | exact hgM | omega) hHd4 _) (fun hHd5 => ?_)
            clear hK Kc
            try simp only [Act.put, List.setIfInBounds_toArray, List.set_cons_zero, List.set_cons_succ]
            refine wpAnyH_take (i := 16) (oi := { dst := some 11, op := Op.assign (Operand.tmp 31), type := _, pos := _, after := _, guard := none }) (v := .int .i64 E) rfl (by kernel_rfl) (by kernel_rfl) (by kernel_rfl) (fun _ _ _ h => h) (Or.inl ⟨by rfl, fun w hSw => by (try dsimp only at hSw); go_simp⟩) (by assumption) ?_
            simp only [Act.put, List.setIfInBounds_toArray, List.set_cons_zero, List.set_cons_succ]
            refine wpAnyH_done (by kernel_rfl) ?_ _
            go_wp2_with fail
            go_meet
            case rel => exact ⟨_, _, a1, k1, a2, k2, a3, k3, rfl, rfl, rfl, hHd5, by unfold TrAt; rw [HCN.out]; exact hzZ2, hqZ, hrow3⟩
        · go_simp
          have hgM := hHeld.size
          refine hK.out _ _ (hHeld.trans ((below_alloc _ _).mono hHeld.size)) (fun hHd1 => ?_)
          first | have hq := rkz_of hHd1 | have hq := rkz_of' hHd1
          try simp only [World.size_alloc] at hq
          try simp only [World.size_alloc] at hgM
          try (have hz := hz.later (below_alloc _ (.cells #[.int .i64 0, .slice none 0 0, .slice none 0 0, .slice none 0 0] 55)))
          try (have hrow := owns_later hrow (below_alloc _ (.cells #[.int .i64 0, .slice none 0 0, .slice none 0 0, .slice none 0 0] 55)))
          clear hHeld
          clear hK K
          try simp only [Act.put, List.setIfInBounds_toArray, List.set_cons_zero, List.set_cons_succ]
          refine wpAnyH_ready (rs := [7, 12]) (by kernel_rfl) (by simp) ?_
          refine (AllReadyH.cons rfl (fun K hK => ?_) (AllReadyH.cons rfl (fun K hK => ?_) AllReadyH.nil))
          · go_simp
            have hle7 := hHd1.size
            refine (hnx _ hHd1).mono ?_
            rintro r w7 ⟨⟨vl, vj, vi, rfl, hl1, hl2, hl3, -⟩, hb7⟩
            rw [HEQ.out.2.1] at hl1
            rw [HEQ.out.2.2.1] at hl2
            rw [HEQ.out.2.2.2.1] at hl3
            rw [HEQ.out.1, HEQ.out.2.2.2.2.1, HEQ.out.2.2.2.2.2, HCN.out]
            obtain ⟨a1, k1, rfl⟩ := owns_slice hl1
            obtain ⟨a2, k2, rfl⟩ := owns_slice hl2
            obtain ⟨a3, k3, rfl⟩ := owns_slice hl3
            go_wp2_with fail
            have hrow := Rs.owns_wide hl3 (Nat.le_trans HW5.out hle7)
            try (have hz := hz.later hb7)
            try (have hq := hq.later hb7)
            refine hK.out _ _ (hHd1.trans (hb7.mono hHd1.size)) (fun hHd2 => ?_)
            clear hHd1 hb7 hl1 hl2 hl3 hle7
            clear hK K
            try simp only [Act.put, List.setIfInBounds_toArray, List.set_cons_zero, List.set_cons_succ]
            refine wpAnyH_take (i := 8) (oi := { dst := some 20, op := Op.move (Operand.tmp 28), type := _, pos := _, after := _, guard := none }) (v := .tuple #[.agg cn, .agg #[.int .i64 p, .slice a1 n1 k1, .slice a2 n2 k2, .slice a3 li.length k3], .int .i64 E]) rfl (by kernel_rfl) (by kernel_rfl) (by kernel_rfl) (fun _ _ _ h => h) (Or.inl ⟨by rfl, fun w hSw => by (try dsimp only at hSw); go_simp⟩) (by assumption) ?_
            simp only [Act.put, List.setIfInBounds_toArray, List.set_cons_zero, List.set_cons_succ]
            refine wpAnyH_take (i := 9) (oi := { dst := some 29, op := Op.extract (Operand.tmp 20) 0, type := _, pos := _, after := _, guard := none }) (v := .agg cn) rfl (by kernel_rfl) (by kernel_rfl) (by kernel_rfl) (fun _ _ _ h => h) (Or.inl ⟨by rfl, fun w hSw => by (try dsimp only at hSw); go_simp⟩) (by assumption) ?_
            simp only [Act.put, List.setIfInBounds_toArray, List.set_cons_zero, List.set_cons_succ]
            refine wpAnyH_take (i := 10) (oi := { dst := some 30, op := Op.extract (Operand.tmp 20) 1, type := _, pos := _, after := _, guard := none }) (v := .agg #[.int .i64 p, .slice a1 n1 k1, .slice a2 n2 k2, .slice a3 li.length k3]) rfl (by kernel_rfl) (by kernel_rfl) (by kernel_rfl) (fun _ _ _ h => h) (Or.inl ⟨by rfl, fun w hSw => by (try dsimp only at hSw); go_simp⟩) (by assumption) ?_
            simp only [Act.put, List.setIfInBounds_toArray, List.set_cons_zero, List.set_cons_succ]
            refine wpAnyH_take (i := 11) (oi := { dst := some 31, op := Op.extract (Operand.tmp 20) 2, type := _, pos := _, after := _, guard := none }) (v := .int .i64 E) rfl (by kernel_rfl) (by kernel_rfl) (by kernel_rfl) (fun _ _ _ h => h) (Or.inl ⟨by rfl, fun w hSw => by (try dsimp only at hSw); go_simp⟩) (by assumption) ?_
            simp only [Act.put, List.setIfInBounds_toArray, List.set_cons_zero, List.set_cons_succ]
            refine wpAnyH_ready (rs := [12]) (by kernel_rfl) (by simp) ?_
            refine AllReadyH.cons rfl (fun K hK => ?_) AllReadyH.nil
            go_simp
            have hgT := hHd2.size
            refine hK.out _ _ (hHd2.trans ((below_alloc _ _).mono hHd2.size)) (fun hHd3 => ?_)
            first | have hz := zero_of hHd3 | have hz := zero_of' hHd3
            try simp only [World.size_alloc] at hz
            try simp only [World.size_alloc] at hgT
            try (have hq := RkAt.later hq (below_alloc _ (.cells Tryz.zeroCells47 47)))
            try (have hrow := owns_later hrow (below_alloc _ (.cells Tryz.zeroCells47 47)))
            clear hHd2
            clear hK K
            try simp only [Act.put, List.setIfInBounds_toArray, List.set_cons_zero, List.set_cons_succ]
            refine wpAnyH_ready (rs := [14]) (by kernel_rfl) (by simp) ?_
            refine AllReadyH.cons rfl (fun Kc hK => ?_) AllReadyH.nil
            refine if_wp rfl (wp_stRow0 47 _ _ rfl _ cn rfl rfl 47 _ hz (by rw [← HCN.out, tcs_size]; exact infoT) (by rw [← HCN.out, tcs_size, tcs_size]) (by rw [← HCN.out]; exact tcs_one n) rfl ?_)
            have hTM := block_ne hz hq (by decide)
            have hzZ := Rt.heap_setRow_same hz cn
            have hq2 := (Rt.row_other (Ne.symm hTM) cn).trans hq
            have hrow2 := Rs.owns_type hrow hz (by decide) cn
            refine hK.out _ _ (Rt.setRow_below (by first | exact hgT | omega) hHd3 _) (fun hHd4 => ?_)
            clear hHd3
            clear hK Kc
            try simp only [Act.put, List.setIfInBounds_toArray, List.set_cons_zero, List.set_cons_succ]
            refine wpAnyH_ready (rs := [15]) (by kernel_rfl) (by simp) ?_
            refine AllReadyH.cons rfl (fun Kc hK => ?_) AllReadyH.nil
            refine if_wp rfl (wp_stRow0 55 _ _ rfl _ #[.int .i64 p, .slice a1 n1 k1, .slice a2 n2 k2, .slice a3 li.length k3] rfl rfl 55 _ hq2 infoRk rfl (rk_one _ _ _ _ _ _ _ _ _ _) rfl ?_)
            have hqZ := Rt.heap_setRow_same hq2 #[.int .i64 p, .slice a1 n1 k1, .slice a2 n2 k2, .slice a3 li.length k3]
            have hzZ2 := (Rt.row_other hTM #[.int .i64 p, .slice a1 n1 k1, .slice a2 n2 k2, .slice a3 li.length k3]).trans hzZ
            have hrow3 := Rs.owns_type hrow2 hq2 (by decide) #[.int .i64 p, .slice a1 n1 k1, .slice a2 n2 k2, .slice a3 li.length k3]
            refine hK.out _ _ (Rt.setRow_below (by first | exact hgM | omega) hHd4 _) (fun hHd5 => ?_)
            clear hK Kc
            try simp only [Act.put, List.setIfInBounds_toArray, List.set_cons_zero, List.set_cons_succ]
            refine wpAnyH_take (i := 16) (oi := { dst := some 11, op := Op.assign (Operand.tmp 31), type := _, pos := _, after := _, guard := none }) (v := .int .i64 E) rfl (by kernel_rfl) (by kernel_rfl) (by kernel_rfl) (fun _ _ _ h => h) (Or.inl ⟨by rfl, fun w hSw => by (try dsimp only at hSw); go_simp⟩) (by assumption) ?_
            simp only [Act.put, List.setIfInBounds_toArray, List.set_cons_zero, List.set_cons_succ]
            refine wpAnyH_done (by kernel_rfl) ?_ _
            go_wp2_with fail
            go_meet
            case rel => exact ⟨_, _, a1, k1, a2, k2, a3, k3, rfl, rfl, rfl, hHd5, by unfold TrAt; rw [HCN.out]; exact hzZ2, hqZ, hrow3⟩
          · go_simp
            have hgT := hHd1.size
            refine hK.out _ _ (hHd1.trans ((below_alloc _ _).mono hHd1.size)) (fun hHd2 => ?_)
            first | have hz := zero_of hHd2 | have hz := zero_of' hHd2
            try simp only [World.size_alloc] at hz
            try simp only [World.size_alloc] at hgT
            try (have hq := RkAt.later hq (below_alloc _ (.cells Tryz.zeroCells47 47)))
            try (have hrow := owns_later hrow (below_alloc _ (.cells Tryz.zeroCells47 47)))
            clear hHd1
            clear hK K
            try simp only [Act.put, List.setIfInBounds_toArray, List.set_cons_zero, List.set_cons_succ]
            refine wpAnyH_ready (rs := [7]) (by kernel_rfl) (by simp) ?_
            refine AllReadyH.cons rfl (fun K hK => ?_) AllReadyH.nil
            go_simp
            have hle7 := hHd2.size
            refine (hnx _ hHd2).mono ?_
            rintro r w7 ⟨⟨vl, vj, vi, rfl, hl1, hl2, hl3, -⟩, hb7⟩
            rw [HEQ.out.2.1] at hl1
            rw [HEQ.out.2.2.1] at hl2
            rw [HEQ.out.2.2.2.1] at hl3
            rw [HEQ.out.1, HEQ.out.2.2.2.2.1, HEQ.out.2.2.2.2.2, HCN.out]
            obtain ⟨a1, k1, rfl⟩ := owns_slice hl1
            obtain ⟨a2, k2, rfl⟩ := owns_slice hl2
            obtain ⟨a3, k3, rfl⟩ := owns_slice hl3
            go_wp2_with fail
            have hrow := Rs.owns_wide hl3 (Nat.le_trans HW5.out hle7)
            try (have hz := hz.later hb7)
            try (have hq := hq.later hb7)
            refine hK.out _ _ (hHd2.trans (hb7.mono hHd2.size)) (fun hHd3 => ?_)
            clear hHd2 hb7 hl1 hl2 hl3 hle7
            clear hK K
            try simp only [Act.put, List.setIfInBounds_toArray, List.set_cons_zero, List.set_cons_succ]
            refine wpAnyH_take (i := 8) (oi := { dst := some 20, op := Op.move (Operand.tmp 28), type := _, pos := _, after := _, guard := none }) (v := .tuple #[.agg cn, .agg #[.int .i64 p, .slice a1 n1 k1, .slice a2 n2 k2, .slice a3 li.length k3], .int .i64 E]) rfl (by kernel_rfl) (by kernel_rfl) (by kernel_rfl) (fun _ _ _ h => h) (Or.inl ⟨by rfl, fun w hSw => by (try dsimp only at hSw); go_simp⟩) (by assumption) ?_
            simp only [Act.put, List.setIfInBounds_toArray, List.set_cons_zero, List.set_cons_succ]
            refine wpAnyH_take (i := 9) (oi := { dst := some 29, op := Op.extract (Operand.tmp 20) 0, type := _, pos := _, after := _, guard := none }) (v := .agg cn) rfl (by kernel_rfl) (by kernel_rfl) (by kernel_rfl) (fun _ _ _ h => h) (Or.inl ⟨by rfl, fun w hSw => by (try dsimp only at hSw); go_simp⟩) (by assumption) ?_
            simp only [Act.put, List.setIfInBounds_toArray, List.set_cons_zero, List.set_cons_succ]
            refine wpAnyH_take (i := 10) (oi := { dst := some 30, op := Op.extract (Operand.tmp 20) 1, type := _, pos := _, after := _, guard := none }) (v := .agg #[.int .i64 p, .slice a1 n1 k1, .slice a2 n2 k2, .slice a3 li.length k3]) rfl (by kernel_rfl) (by kernel_rfl) (by kernel_rfl) (fun _ _ _ h => h) (Or.inl ⟨by rfl, fun w hSw => by (try dsimp only at hSw); go_simp⟩) (by assumption) ?_
            simp only [Act.put, List.setIfInBounds_toArray, List.set_cons_zero, List.set_cons_succ]
            refine wpAnyH_take (i := 11) (oi := { dst := some 31, op := Op.extract (Operand.tmp 20) 2, type := _, pos := _, after := _, guard := none }) (v := .int .i64 E) rfl (by kernel_rfl) (by kernel_rfl) (by kernel_rfl) (fun _ _ _ h => h) (Or.inl ⟨by rfl, fun w hSw => by (try dsimp only at hSw); go_simp⟩) (by assumption) ?_
            simp only [Act.put, List.setIfInBounds_toArray, List.set_cons_zero, List.set_cons_succ]
            refine wpAnyH_ready (rs := [14]) (by kernel_rfl) (by simp) ?_
            refine AllReadyH.cons rfl (fun Kc hK => ?_) AllReadyH.nil
            refine if_wp rfl (wp_stRow0 47 _ _ rfl _ cn rfl rfl 47 _ hz (by rw [← HCN.out, tcs_size]; exact infoT) (by rw [← HCN.out, tcs_size, tcs_size]) (by rw [← HCN.out]; exact tcs_one n) rfl ?_)
            have hTM := block_ne hz hq (by decide)
            have hzZ := Rt.heap_setRow_same hz cn
            have hq2 := (Rt.row_other (Ne.symm hTM) cn).trans hq
            have hrow2 := Rs.owns_type hrow hz (by decide) cn
            refine hK.out _ _ (Rt.setRow_below (by first | exact hgT | omega) hHd3 _) (fun hHd4 => ?_)
            clear hHd3
            clear hK Kc
            try simp only [Act.put, List.setIfInBounds_toArray, List.set_cons_zero, List.set_cons_succ]
            refine wpAnyH_ready (rs := [15]) (by kernel_rfl) (by simp) ?_
            refine AllReadyH.cons rfl (fun Kc hK => ?_) AllReadyH.nil
            refine if_wp rfl (wp_stRow0 55 _ _ rfl _ #[.int .i64 p, .slice a1 n1 k1, .slice a2 n2 k2, .slice a3 li.length k3] rfl rfl 55 _ hq2 infoRk rfl (rk_one _ _ _ _ _ _ _ _ _ _) rfl ?_)
            have hqZ := Rt.heap_setRow_same hq2 #[.int .i64 p, .slice a1 n1 k1, .slice a2 n2 k2, .slice a3 li.length k3]
            have hzZ2 := (Rt.row_other hTM #[.int .i64 p, .slice a1 n1 k1, .slice a2 n2 k2, .slice a3 li.length k3]).trans hzZ
            have hrow3 := Rs.owns_type hrow2 hq2 (by decide) #[.int .i64 p, .slice a1 n1 k1, .slice a2 n2 k2, .slice a3 li.length k3]
            refine hK.out _ _ (Rt.setRow_below (by first | exact hgM | omega) hHd4 _) (fun hHd5 => ?_)
            clear hK Kc
            try simp only [Act.put, List.setIfInBounds_toArray, List.set_cons_zero, List.set_cons_succ]
            refine wpAnyH_take (i := 16) (oi := { dst := some 11, op := Op.assign (Operand.tmp 31), type := _, pos := _, after := _, guard := none }) (v := .int .i64 E) rfl (by kernel_rfl) (by kernel_rfl) (by kernel_rfl) (fun _ _ _ h => h) (Or.inl ⟨by rfl, fun w hSw => by (try dsimp only at hSw); go_simp⟩) (by assumption) ?_
            simp only [Act.put, List.setIfInBounds_toArray, List.set_cons_zero, List.set_cons_succ]
            refine wpAnyH_done (by kernel_rfl) ?_ _
            go_wp2_with fail
            go_meet
            case rel => exact ⟨_, _, a1, k1, a2, k2, a3, k3, rfl, rfl, rfl, hHd5, by unfold TrAt; rw [HCN.out]; exact hzZ2, hqZ, hrow3⟩
      case rest =>
        obtain ⟨T, M, a1, k1, a2, k2, a3, k3, rfl, rfl, rfl, hbc, hT, hM, hrow⟩ := hcut
        have HS6 : Hid (SS w wc (.slice (some ⟨g, 0, none⟩) NT cr) (.slice ax ms.length cs) ts bs ms) := HS5.out.later hbc
        have HMS : Hid (MsgAt w wc #[.int .i64 p, .slice a1 n1 k1, .slice a2 n2 k2, .slice a3 li.length k3] li) := ⟨p, a1, a2, a3, n1, n2, k1, k2, k3, rfl, hrow⟩
        have HRK : Hid (RkAt wc M #[.int .i64 p, .slice a1 n1 k1, .slice a2 n2 k2, .slice a3 li.length k3]) := hM
        have HTT : Hid (TrAt wc T n) := hT
        clear hbc hT hM hrow HS5 HTR hnx HBT
        by_cases hE0 : E = 0
        · have hd : (E != 0) = false := by simp [hE0]
          obtain ⟨en, ei⟩ := HOK.out hE0
          have HRN : Hid (runS (l.take (k + 1)) = (ts ++ [n], bs ++ [(L, J)])) := by unfold Hid; rw [HTK.out, HR1.out, if_pos hE0, en]
          have HEN : Hid (n = nx (lastT ts) L J ∧ li = its (nx (lastT ts) L J) (plR (lastT ts) L) (jns (lastT ts) L J)) := by rw [HLT.out]; exact ⟨en, ei⟩
          clear hE0 en ei HOK
          have hrr : wc.ownsRow w.heap.size 47 236 (.slice (some ⟨g, 0, none⟩) NT cr) NT (trl ts) := by have h := HS6.out.rr; rw [HNT.out] at h; exact h
          have hbs := HS6.out.bel.size
          have hTt := HTT.out
          have hc236 : cn.toList.length = 1 * 236 := by rw [Array.length_toList, ← HCN.out, tcs_size]
          have hc1 : ∀ u ∈ cn.toList, u.oneCell' = true := fun u hu => by
            have := tcs_one n
            rw [HCN.out, Array.all_eq_true'] at this
            exact this u (Array.mem_toList_iff.1 hu)
          go_upto_region 9 with (first
            | (refine rdT hTt HCN.out _ rfl rfl rfl ?_)
            | (refine bsT HCN.out rfl _ rfl rfl ?_)
            | (at_builtin; (refine wpList_append_own _ rfl _ _ 26 rfl w.heap.size 47 it (.agg (tcs (tz 0))) 236 1888 Tryz.underlying26 hti htz hts htb (by show (tcs (tz 0)).size = 236; exact tcs_size _) (by decide) (.slice (some ⟨g, 0, none⟩) NT cr) NT (trl ts) rfl (hrr.alloc _) ⟨wc.heap.size, 0, none⟩ 1 1 cn.toList rfl hc236 (cell_row_new _ _ _) hc1 (by unfold maxLen; omega) (by omega) (by simp; omega) ?_); intro v1 w8 hown1 hg1 _; have HO1 : Hid (w8.ownsRow w.heap.size 47 236 v1 (NT + 1) (trl ts ++ cn.toList)) := hown1; have HG1 : Hid ((wc.alloc (.cells cn 47)).grownBy w8 (Value.slice (some ⟨g, 0, none⟩) NT cr).ownBlock) := hg1; have HR8 : Hid (RkAt w8 M #[.int .i64 p, .slice a1 n1 k1, .slice a2 n2 k2, .slice a3 li.length k3]) := grown_type (hrr.alloc _) hg1 (row_later HRK.out (below_alloc _ _)) (by decide); clear hown1 hg1))
          clear hTt HTT HRK hc236 hc1
          have rs0 := (HS6.out.later (below_alloc wc (.cells cn 47))).rs
          have hrs : w8.ownsRow w.heap.size 55 4 (.slice ax ms.length cs) ms.length (rkl ms) := own_other rs0 fun g' hgj => HG1.out.block g' (own_ge rs0 hgj).2 (fun e => own_ne2 (hrr.alloc _) rs0 (by decide) hgj e.symm)
          have hb8 : w.heap.size ≤ w8.heap.size := by have h1 := HG1.out.size; simp at h1; omega
          have hml : ms.length ≤ 300 := by have h1 := HS6.out.ml; have h2 := HROW.out.len; have h3 := HNT.out; omega
          obtain ⟨x0, x1, x2, x3⟩ := HR8.out.cells
          obtain ⟨g1, c1, rfl⟩ := owns_slice HO1.out
          clear rs0
          go_upto_region 10 with (at_builtin; (refine wpList_append_own _ rfl _ _ 27 rfl w.heap.size 55 ik (.agg #[.int .i64 0, .slice none 0 0, .slice none 0 0, .slice none 0 0]) 4 80 Tryz.underlying27 hki hkz hks hkb rfl (by decide) (.slice ax ms.length cs) ms.length (rkl ms) rfl (hrs.alloc _) ⟨w8.heap.size, 0, none⟩ 1 1 [.int .i64 p, .slice a1 n1 k1, .slice a2 n2 k2, .slice a3 li.length k3] rfl rfl (cell_row_new _ #[.int .i64 p, .slice a1 n1 k1, .slice a2 n2 k2, .slice a3 li.length k3] _) (by simp [Value.oneCell']) (by unfold maxLen; omega) (by omega) (by simp; omega) ?_); intro v2 w9 hown2 hg2 _; have HO2 : Hid (w9.ownsRow w.heap.size 55 4 v2 (ms.length + 1) (rkl ms ++ [.int .i64 p, .slice a1 n1 k1, .slice a2 n2 k2, .slice a3 li.length k3])) := hown2; have HG2 : Hid ((w8.alloc (.cells #[.int .i64 p, .slice a1 n1 k1, .slice a2 n2 k2, .slice a3 li.length k3] 55)).grownBy w9 (Value.slice ax ms.length cs).ownBlock) := hg2; clear hown2 hg2)
          have HSF : Hid (SS w w9 (.slice g1 (NT + 1) c1) v2 (ts ++ [n]) (bs ++ [(L, J)]) (ms ++ [#[.int .i64 p, .slice a1 n1 k1, .slice a2 n2 k2, .slice a3 li.length k3]])) := by
            have hm' : MsgAt w (wc.alloc (.cells cn 47)) #[.int .i64 p, .slice a1 n1 k1, .slice a2 n2 k2, .slice a3 li.length k3] (its (nx (lastT ts) L J) (plR (lastT ts) L) (jns (lastT ts) L J)) := by
              have h := HMS.out.later (below_alloc wc (.cells cn 47))
              have e2 := HEN.out.2
              rw [← e2]
              exact h
            have ho1 : w8.ownsRow w.heap.size 47 236 (.slice g1 (NT + 1) c1) (ts.length + 1) (trl ts ++ (tcs n).toList) := by
              rw [HNT.out, HCN.out]
              exact HO1.out
            have h6 := HS6.out.later (below_alloc wc (.cells cn 47))
            exact SS.app h6 HROW.out (b := (L, J)) ho1 HG1.out HO2.out HG2.out hm' HEN.out.1
          clear HO1 HG1 HO2 HG2 HMS HS6 HR8 hrs hrr x0 x1 x2 x3
          go_wp2_with fail
          go_roundw
          case rel => exact ⟨k + 1, _, _, _, by omega, by go_num, rfl, rfl, by rw [HRN.out]; exact HSF.out⟩
          case measure => simp [intOf]; omega
        · have hd : (E != 0) = true := by simpa using hE0
          have HRN : Hid (runS (l.take (k + 1)) = (ts, bs)) := by unfold Hid; rw [HTK.out, HR1.out, if_neg hE0]
          clear hE0
          go_wp2_with fail
          go_roundw
          case rel => exact ⟨k + 1, _, _, ms, by omega, by go_num, rfl, rfl, by rw [HRN.out]; exact HS6.out⟩
          case measure => simp [intOf]; omega
    · obtain rfl : k = l.length := by omega
      have hdk : decide ((l.length : Int) < (l.length : Int)) = false := by simp
      rw [List.take_length] at HS HROW
      obtain ⟨ar, cr, rfl⟩ := owns_slice HS.out.rr
      have hrr := rRight_any ar cr (runS l).1 wr (by have := HROW.out.le; omega) (owns_rdR HS.out.rr) HROW.out.right
      obtain ⟨NT, hNT⟩ : ∃ n, (runS l).1.length = n := ⟨_, rfl⟩
      have HNT : Hid ((runS l).1.length = NT) := hNT
      rw [hNT] at hrr ⊢
      clear hNT
      go_wp2_with fail
      refine hrr.mono ?_
      rintro r w9 ⟨rfl, hb9⟩
      go_wp2_with fail
      refine bodyPost_ret (results_ttt (p := 2) (q := 3) (r := 4) rfl _ _) rfl ?_
      refine ⟨_, _, ms, rfl, ?_⟩
      have h := HS.out.later hb9
      rw [HNT.out] at h
      exact h
end Go.Proofs.YtpimbpfefhkojabGreatDoor
