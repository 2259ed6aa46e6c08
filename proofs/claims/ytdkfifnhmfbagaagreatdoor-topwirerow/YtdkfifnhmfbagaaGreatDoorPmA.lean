/- Contract: each tree of a row is what its step makes of the one before (the document's RowRight). -/
import Derived.Test.YtdkfifnhmfbagaaGreatDoorPlJ5
import Derived.Test.YtdkfifnhmfbagaaGreatDoorPlZ
import Derived.Test.YtdkfifnhmfbagaaGreatDoorPlF
namespace Go.Proofs.YtdkfifnhmfbagaaGreatDoor
open Go.RowKit Go.Maps
open Rt (Ky zK KyAt)
open Rs (En zE rcs tkn fnd RdS RdI ps)
set_option linter.unusedVariables false
set_option linter.unusedSimpArgs false
theorem neTr_exec {w : World} {t : Tr} {c : Array Value} (hc : tcs t = c) {o : Oper} {a : Act} {x y : Operand} (ho : o.op = .binOp .neq 62 x y 62) (hx : a.eval x = .agg c) (hy : a.eval y = .agg c) : (execOp a.eval o).run Tryz.prog w = .ok (.value (.bool false)) w := by
 subst hc
 have h1 := run_eqGuard_agg (P := Tryz.prog) w .neq 62 x y (tcs t) (tcs t) Tryz.eqGuardType62
 have h2 := run_neq_struct (P := Tryz.prog) w 62 (tcs t) (tcs t)
 rw [run_eqTr, eqT_refl] at h2
 simp [execOp, ho, hx, hy, h1, h2, Sem.run_bind, Result.andThen]
structure RowOk (ts : List Tr) : Prop where
 ne : 0 < ts.length
 st : ts.getD 0 (tz 0) = stT
 stp : ∀ i, i + 1 < ts.length → ∃ L J, Stp (ts.getD i (tz 0)) L J ∧ ts.getD (i + 1) (tz 0) = nx (ts.getD i (tz 0)) L J
set_option maxRecDepth 100000 in
set_option maxHeartbeats 4000000 in
theorem rRight_any (a : Option Addr) (c : Nat) (ts : List Tr) (w : World) (hl : ts.length ≤ 4096) (hr : RdR w a ts) (hok : RowOk ts) :
  Calls Tryz.prog 11 #[.slice a ts.length c] w fun e w' => e = .returned (.bool true) ∧ Below w.heap.size w w' := by
 obtain ⟨b, eb, -, -⟩ := hr.tree hok.ne hok.st
 have HLD : Hid (∀ i t, i < ts.length → ts.getD i (tz 0) = t → ∀ W, Below w.heap.size w W → (Instr.loadAt 62 (.pointer (some ⟨b, i * 236, none⟩))).run Tryz.prog W = .ok (.agg (tcs t)) W) := fun i t hi ht W hW => by
  obtain ⟨b', e', h2, -⟩ := (hr.later hW).tree hi ht
  rw [eb] at e'
  simp at e'
  subst e'
  exact h2
 have HL0 : Hid (∀ W, Below w.heap.size w W → (Instr.loadAt 62 (.pointer (some ⟨b, 0, none⟩))).run Tryz.prog W = .ok (.agg (tcs stT)) W) := fun W hW => by
  have := HLD.out 0 stT hok.ne hok.st W hW
  rw [Nat.zero_mul] at this
  exact this
 have HOK : Hid (RowOk ts) := hok
 subst eb
 obtain ⟨NT, hNT⟩ : ∃ n, ts.length = n := ⟨_, rfl⟩
 have HNT : Hid (ts.length = NT) := hNT
 have hn1 : 0 < NT := by rw [← hNT]; exact hok.ne
 have hn2 : NT ≤ 4096 := by rw [← hNT]; exact hl
 rw [hNT]
 clear hNT hok hr hl
 have n0 : ((NT : Int) == 0) = false := by simp; omega
 have n1 : (NT == 0) = false := by simp; omega
 have n2 : (0 : Int) < (NT : Int) := by omega
 have n3 : decide (NT = 0) = false := decide_eq_false (by omega)
 obtain ⟨c0, hc0⟩ : ∃ c, tcs stT = c := ⟨_, rfl⟩
 have HC0 : Hid (tcs stT = c0) := hc0
 have hst := rStart_any
 rw [hc0] at HL0
 rw [hc0] at hst
 clear hc0
 go_enter Tryz.func11, Tryz.ntmps11
 go_upto_region 1 with (fail)
 have hS0 : Below w.heap.size w w.drew := drew_below _
 refine wp_region_held_drew (S := fun X => Below w.heap.size w X) (by kernel_rfl) hS0 (fun hHeld => ?_)
 refine wpAnyH_take (i := 0) (oi := ⟨some 8, Op.move (.tmp 0), _, _, _, none⟩) (v := .slice (some ⟨b, 0, none⟩) NT c) rfl (by kernel_rfl) (by kernel_rfl) (by kernel_rfl) (fun _ _ _ h => h) (Or.inl ⟨by rfl, fun w hSw => by (try dsimp only at hSw); go_simp⟩) (by assumption) ?_
 simp only [Act.put, List.setIfInBounds_toArray, List.set_cons_zero, List.set_cons_succ]
 refine wpAnyH_take (i := 1) (oi := ⟨some 9, Op.call { callee := Callee.builtin Builtin.len, args := #[(.tmp 8)], argTypes := #[24] }, _, _, _, none⟩) (v := .int .i64 (NT : Int)) rfl (by kernel_rfl) (by kernel_rfl) (by kernel_rfl) (fun _ _ _ h => h) (Or.inl ⟨by rfl, fun w hSw => by (try dsimp only at hSw); go_simp⟩) (by assumption) ?_
 simp only [Act.put, List.setIfInBounds_toArray, List.set_cons_zero, List.set_cons_succ]
 refine wpAnyH_take (i := 2) (oi := ⟨some 10, Op.binOp BinOp.eql 3 (.tmp 9) (Operand.const (Value.int IntKind.i64 0)) 3, _, _, _, none⟩) (v := .bool false) rfl (by kernel_rfl) (by kernel_rfl) (by kernel_rfl) (fun _ _ _ h => h) (Or.inl ⟨by rfl, fun w hSw => by (try dsimp only at hSw); go_simp⟩) (by assumption) ?_
 simp only [Act.put, List.setIfInBounds_toArray, List.set_cons_zero, List.set_cons_succ]
 refine wpAnyH_take (i := 3) (oi := ⟨some 11, Op.move (.tmp 10), _, _, _, none⟩) (v := .bool false) rfl (by kernel_rfl) (by kernel_rfl) (by kernel_rfl) (fun _ _ _ h => h) (Or.inl ⟨by rfl, fun w hSw => by (try dsimp only at hSw); go_simp⟩) (by assumption) ?_
 simp only [Act.put, List.setIfInBounds_toArray, List.set_cons_zero, List.set_cons_succ]
 refine wpAnyH_take (i := 4) (oi := ⟨some 12, Op.move (.tmp 0), _, _, _, some (3, false)⟩) (v := .slice (some ⟨b, 0, none⟩) NT c) rfl (by kernel_rfl) (by kernel_rfl) (by kernel_rfl) (fun _ _ _ h => h) (Or.inl ⟨by rfl, fun w hSw => by (try dsimp only at hSw); go_simp⟩) (by assumption) ?_
 simp only [Act.put, List.setIfInBounds_toArray, List.set_cons_zero, List.set_cons_succ]
 refine wpAnyH_take (i := 5) (oi := ⟨some 13, Op.indexAddr 24 (.tmp 12) (Operand.const (Value.int IntKind.i64 0)), _, _, _, some (3, false)⟩) (v := .pointer (some ⟨b, 0, none⟩)) rfl (by kernel_rfl) (by kernel_rfl) (by kernel_rfl) (fun _ _ _ h => h) (Or.inl ⟨by rfl, fun w hSw => by (try dsimp only at hSw); go_simp⟩) (by assumption) ?_
 simp only [Act.put, List.setIfInBounds_toArray, List.set_cons_zero, List.set_cons_succ]
 refine wpAnyH_take (i := 6) (oi := ⟨some 14, Op.load 62 (.tmp 13), _, _, _, some (3, false)⟩) (v := .agg c0) rfl (by kernel_rfl) (by kernel_rfl) (by kernel_rfl) (fun _ _ _ h => h) (Or.inl ⟨by rfl, fun w hSw => ld_exec (HL0.out _ hSw) rfl rfl⟩) (by assumption) ?_
 simp only [Act.put, List.setIfInBounds_toArray, List.set_cons_zero, List.set_cons_succ]
 refine wpAnyH_ready (rs := [7]) (by kernel_rfl) (by simp) ?_
 refine AllReadyH.cons rfl (fun K hK => ?_) AllReadyH.nil
 go_simp
 refine (hst _).mono ?_
 rintro r w7 ⟨rfl, hb7⟩
 go_wp2_with fail
 refine hK.out _ _ (hHeld.trans (hb7.mono hHeld.size)) (fun hHeld2 => ?_)
 clear hHeld hb7
 clear hK K
 try simp only [Act.put, List.setIfInBounds_toArray, List.set_cons_zero, List.set_cons_succ]
 refine wpAnyH_take (i := 8) (oi := ⟨some 16, Op.binOp BinOp.neq 62 (.tmp 14) (.tmp 15) 62, _, _, _, some (3, false)⟩) (v := .bool false) rfl (by kernel_rfl) (by kernel_rfl) (by kernel_rfl) (fun _ _ _ h => h) (Or.inl ⟨by rfl, fun w hSw => neTr_exec HC0.out rfl rfl rfl⟩) (by assumption) ?_
 simp only [Act.put, List.setIfInBounds_toArray, List.set_cons_zero, List.set_cons_succ]
 refine wpAnyH_take (i := 9) (oi := ⟨some 17, Op.pick (.tmp 11) (Operand.const (Value.bool true)) (.tmp 16), _, _, _, none⟩) (v := .bool false) rfl (by kernel_rfl) (by kernel_rfl) (by kernel_rfl) (fun _ _ _ h => h) (Or.inl ⟨by rfl, fun w hSw => by (try dsimp only at hSw); go_simp⟩) (by assumption) ?_
 simp only [Act.put, List.setIfInBounds_toArray, List.set_cons_zero, List.set_cons_succ]
 refine wpAnyH_done (by kernel_rfl) ?_ _
 have HB0 : Hid (Below w.heap.size w w7) := hHeld2
 clear hHeld2 hS0 hst HL0
 go_wp2_with fail
 go_loopw [3] (fun i wx => ∃ i' : Nat, 1 ≤ i' ∧ i' ≤ NT ∧ i = .int .i64 (i' : Int) ∧ Below w.heap.size w wx) (fun i _ => NT - (intOf i).toNat)
 case atStart => exact ⟨1, by omega, by omega, rfl, HB0.out⟩
 case round =>
  obtain ⟨i, hi1, hi2, rfl, hbx⟩ := hrel
  have HBX : Hid (Below w.heap.size w wr) := hbx
  clear hbx HB0
  by_cases hiN : i < NT
  ·obtain ⟨k, hk⟩ : ∃ k, k + 1 = i := ⟨i - 1, by omega⟩
   obtain ⟨L, J, hs, hnx⟩ := HOK.out.stp k (by rw [HNT.out]; omega)
   obtain ⟨t, ht⟩ : ∃ t, ts.getD k (tz 0) = t := ⟨_, rfl⟩
   rw [ht] at hs hnx
   rw [hk] at hnx
   have HLT : Hid (∀ W, Below w.heap.size w W → (Instr.loadAt 62 (.pointer (some ⟨b, k * 236, none⟩))).run Tryz.prog W = .ok (.agg (tcs t)) W) := HLD.out k t (by rw [HNT.out]; omega) ht
   have HLN : Hid (∀ W, Below w.heap.size w W → (Instr.loadAt 62 (.pointer (some ⟨b, i * 236, none⟩))).run Tryz.prog W = .ok (.agg (tcs (nx t L J))) W) := HLD.out i _ (by rw [HNT.out]; omega) hnx
   have hbt := between_any t L J hs
   have HPE : Hid (pnT t (btL t (nx t L J) 64) J = nx t L J ∧ plE t (btL t (nx t L J) 64) J = 0) := by
    have h1 := (bt_stp hs).pl
    refine ⟨?_, h1⟩
    unfold pnT
    rw [if_pos h1]
    exact bt_nx hs
   have HLV : Hid ((btL t (nx t L J) 64).length ≤ 64 ∧ J.length ≤ 64) := by
    refine ⟨btL_len _ _ _, ?_⟩
    have h1 := hs.fit.cnt
    have h2 := hs.fit.room
    have h3 := Rs.cnt_le t.ro
    omega
   obtain ⟨n, hn⟩ : ∃ n, nx t L J = n := ⟨_, rfl⟩
   rw [hn] at HLN hbt HPE HLV
   unfold BtwP at hbt
   obtain ⟨LV, hLVe⟩ : ∃ l, btL t n 64 = l := ⟨_, rfl⟩
   rw [hLVe] at hbt HPE HLV
   obtain ⟨ct, hct⟩ : ∃ c, tcs t = c := ⟨_, rfl⟩
   have HCT : Hid (tcs t = ct) := hct
   obtain ⟨cn, hcn⟩ : ∃ c, tcs n = c := ⟨_, rfl⟩
   have HCN : Hid (tcs n = cn) := hcn
   rw [hct] at HLT
   rw [hcn] at HLN
   rw [hct, hcn] at hbt
   have HIK : Hid (k + 1 = i) := hk
   have hw1 : IntKind.i64.wrap ((i : Int) - 1) = (k : Int) := by rw [show (i : Int) - 1 = (k : Int) by omega]; exact Rs.i64_fit _ (by omega) (by omega)
   have k1 : (0 : Int) ≤ (k : Int) := by omega
   have k2 : (k : Int) < (NT : Int) := by omega
   have i1 : (0 : Int) ≤ (i : Int) := by omega
   have i2 : (i : Int) < (NT : Int) := by omega
   clear hk ht hs hnx hn hLVe hct hcn
   go_upto_region 6 with (fail)
   go_cut [4, 5, 6, 7] (fun s4 s5 s6 s7 wx => ∃ T, s4 = .pointer (some ⟨T, 0, none⟩) ∧ s7 = .int .i64 0 ∧ Below wr.heap.size wr wx ∧ TrAt wx T n)
   case first =>
    have hS0 : Below wr.heap.size wr wr.drew := drew_below _
    refine wp_region_held_drew (S := fun X => Below wr.heap.size wr X) (by kernel_rfl) hS0 (fun hHeld => ?_)
    refine wpAnyH_take (i := 0) (oi := ⟨some 25, Op.move (.tmp 0), _, _, _, none⟩) (v := .slice (some ⟨b, 0, none⟩) NT c) rfl (by kernel_rfl) (by kernel_rfl) (by kernel_rfl) (fun _ _ _ h => h) (Or.inl ⟨by rfl, fun w hSw => by (try dsimp only at hSw); go_simp⟩) (by assumption) ?_
    simp only [Act.put, List.setIfInBounds_toArray, List.set_cons_zero, List.set_cons_succ]
    refine wpAnyH_take (i := 1) (oi := ⟨some 26, Op.move (.tmp 3), _, _, _, none⟩) (v := .int .i64 (i : Int)) rfl (by kernel_rfl) (by kernel_rfl) (by kernel_rfl) (fun _ _ _ h => h) (Or.inl ⟨by rfl, fun w hSw => by (try dsimp only at hSw); go_simp⟩) (by assumption) ?_
    simp only [Act.put, List.setIfInBounds_toArray, List.set_cons_zero, List.set_cons_succ]
    refine wpAnyH_take (i := 2) (oi := ⟨some 27, Op.binOp BinOp.sub 3 (.tmp 26) (Operand.const (Value.int IntKind.i64 1)) 3, _, _, _, none⟩) (v := .int .i64 (k : Int)) rfl (by kernel_rfl) (by kernel_rfl) (by kernel_rfl) (fun _ _ _ h => h) (Or.inl ⟨by rfl, fun w hSw => by (try dsimp only at hSw); go_simp⟩) (by assumption) ?_
    simp only [Act.put, List.setIfInBounds_toArray, List.set_cons_zero, List.set_cons_succ]
    refine wpAnyH_take (i := 3) (oi := ⟨some 28, Op.indexAddr 24 (.tmp 25) (.tmp 27), _, _, _, none⟩) (v := .pointer (some ⟨b, k * 236, none⟩)) rfl (by kernel_rfl) (by kernel_rfl) (by kernel_rfl) (fun _ _ _ h => h) (Or.inl ⟨by rfl, fun w hSw => by (try dsimp only at hSw); go_simp⟩) (by assumption) ?_
    simp only [Act.put, List.setIfInBounds_toArray, List.set_cons_zero, List.set_cons_succ]
    refine wpAnyH_take (i := 4) (oi := ⟨some 29, Op.load 62 (.tmp 28), _, _, _, none⟩) (v := .agg ct) rfl (by kernel_rfl) (by kernel_rfl) (by kernel_rfl) (fun _ _ _ h => h) (Or.inl ⟨by rfl, fun w hSw => ld_exec (HLT.out _ (HBX.out.trans (hSw.mono HBX.out.size))) rfl rfl⟩) (by assumption) ?_
    simp only [Act.put, List.setIfInBounds_toArray, List.set_cons_zero, List.set_cons_succ]
    refine wpAnyH_take (i := 5) (oi := ⟨some 30, Op.move (.tmp 0), _, _, _, none⟩) (v := .slice (some ⟨b, 0, none⟩) NT c) rfl (by kernel_rfl) (by kernel_rfl) (by kernel_rfl) (fun _ _ _ h => h) (Or.inl ⟨by rfl, fun w hSw => by (try dsimp only at hSw); go_simp⟩) (by assumption) ?_
    simp only [Act.put, List.setIfInBounds_toArray, List.set_cons_zero, List.set_cons_succ]
    refine wpAnyH_take (i := 6) (oi := ⟨some 31, Op.move (.tmp 3), _, _, _, none⟩) (v := .int .i64 (i : Int)) rfl (by kernel_rfl) (by kernel_rfl) (by kernel_rfl) (fun _ _ _ h => h) (Or.inl ⟨by rfl, fun w hSw => by (try dsimp only at hSw); go_simp⟩) (by assumption) ?_
    simp only [Act.put, List.setIfInBounds_toArray, List.set_cons_zero, List.set_cons_succ]
    refine wpAnyH_take (i := 7) (oi := ⟨some 32, Op.binOp BinOp.sub 3 (.tmp 31) (Operand.const (Value.int IntKind.i64 1)) 3, _, _, _, none⟩) (v := .int .i64 (k : Int)) rfl (by kernel_rfl) (by kernel_rfl) (by kernel_rfl) (fun _ _ _ h => h) (Or.inl ⟨by rfl, fun w hSw => by (try dsimp only at hSw); go_simp⟩) (by assumption) ?_
    simp only [Act.put, List.setIfInBounds_toArray, List.set_cons_zero, List.set_cons_succ]
    refine wpAnyH_take (i := 8) (oi := ⟨some 33, Op.indexAddr 24 (.tmp 30) (.tmp 32), _, _, _, none⟩) (v := .pointer (some ⟨b, k * 236, none⟩)) rfl (by kernel_rfl) (by kernel_rfl) (by kernel_rfl) (fun _ _ _ h => h) (Or.inl ⟨by rfl, fun w hSw => by (try dsimp only at hSw); go_simp⟩) (by assumption) ?_
    simp only [Act.put, List.setIfInBounds_toArray, List.set_cons_zero, List.set_cons_succ]
    refine wpAnyH_take (i := 9) (oi := ⟨some 34, Op.load 62 (.tmp 33), _, _, _, none⟩) (v := .agg ct) rfl (by kernel_rfl) (by kernel_rfl) (by kernel_rfl) (fun _ _ _ h => h) (Or.inl ⟨by rfl, fun w hSw => ld_exec (HLT.out _ (HBX.out.trans (hSw.mono HBX.out.size))) rfl rfl⟩) (by assumption) ?_
    simp only [Act.put, List.setIfInBounds_toArray, List.set_cons_zero, List.set_cons_succ]
    refine wpAnyH_take (i := 10) (oi := ⟨some 35, Op.move (.tmp 0), _, _, _, none⟩) (v := .slice (some ⟨b, 0, none⟩) NT c) rfl (by kernel_rfl) (by kernel_rfl) (by kernel_rfl) (fun _ _ _ h => h) (Or.inl ⟨by rfl, fun w hSw => by (try dsimp only at hSw); go_simp⟩) (by assumption) ?_
    simp only [Act.put, List.setIfInBounds_toArray, List.set_cons_zero, List.set_cons_succ]
    refine wpAnyH_take (i := 11) (oi := ⟨some 36, Op.move (.tmp 3), _, _, _, none⟩) (v := .int .i64 (i : Int)) rfl (by kernel_rfl) (by kernel_rfl) (by kernel_rfl) (fun _ _ _ h => h) (Or.inl ⟨by rfl, fun w hSw => by (try dsimp only at hSw); go_simp⟩) (by assumption) ?_
    simp only [Act.put, List.setIfInBounds_toArray, List.set_cons_zero, List.set_cons_succ]
    refine wpAnyH_take (i := 12) (oi := ⟨some 37, Op.indexAddr 24 (.tmp 35) (.tmp 36), _, _, _, none⟩) (v := .pointer (some ⟨b, i * 236, none⟩)) rfl (by kernel_rfl) (by kernel_rfl) (by kernel_rfl) (fun _ _ _ h => h) (Or.inl ⟨by rfl, fun w hSw => by (try dsimp only at hSw); go_simp⟩) (by assumption) ?_
    simp only [Act.put, List.setIfInBounds_toArray, List.set_cons_zero, List.set_cons_succ]
    refine wpAnyH_take (i := 13) (oi := ⟨some 38, Op.load 62 (.tmp 37), _, _, _, none⟩) (v := .agg cn) rfl (by kernel_rfl) (by kernel_rfl) (by kernel_rfl) (fun _ _ _ h => h) (Or.inl ⟨by rfl, fun w hSw => ld_exec (HLN.out _ (HBX.out.trans (hSw.mono HBX.out.size))) rfl rfl⟩) (by assumption) ?_
    simp only [Act.put, List.setIfInBounds_toArray, List.set_cons_zero, List.set_cons_succ]
    refine wpAnyH_ready (rs := [14, 21]) (by kernel_rfl) (by simp) ?_
    refine (AllReadyH.cons rfl (fun K hK => ?_) (AllReadyH.cons rfl (fun K hK => ?_) AllReadyH.nil))
    ·go_simp
     refine (hbt _).mono ?_
     rintro r w7 ⟨⟨aL, cL, aJ, cJ, rfl, rI1, rI2⟩, hb7⟩
     go_wp2_with fail
     have HRI : Hid (RdI w7 aL LV ∧ RdI w7 aJ J) := ⟨rI1, rI2⟩
     have hge : wr.heap.size ≤ w7.heap.size := Nat.le_trans hHeld.size hb7.size
     refine hK.out _ _ (hHeld.trans (hb7.mono hHeld.size)) (fun hHd1 => ?_)
     clear hHeld hb7 rI1 rI2
     clear hK K
     try simp only [Act.put, List.setIfInBounds_toArray, List.set_cons_zero, List.set_cons_succ]
     refine wpAnyH_ready (rs := [15, 21]) (by kernel_rfl) (by simp) ?_
     refine (AllReadyH.cons rfl (fun K hK => ?_) (AllReadyH.cons rfl (fun K hK => ?_) AllReadyH.nil))
     ·go_simp
      have h2 := fun W h3 h4 => rNext11_any t aL aJ cL cJ LV J W (by have := HLV.out; omega) (by have := HLV.out; omega) h3 h4
      unfold N11A at h2
      rw [HPE.out.1, HPE.out.2, HCN.out, HCT.out] at h2
      refine (h2 _ HRI.out.1 HRI.out.2).mono ?_
      rintro r w8 ⟨⟨vl, vj, rfl, -⟩, hb8⟩
      go_wp2_with fail
      have hge8 : wr.heap.size ≤ w8.heap.size := Nat.le_trans hge hb8.size
      refine hK.out _ _ (hHd1.trans (hb8.mono hHd1.size)) (fun hHd2 => ?_)
      clear hHd1 hb8
      clear hK K
      try simp only [Act.put, List.setIfInBounds_toArray, List.set_cons_zero, List.set_cons_succ]
      refine wpAnyH_take (i := 16) (oi := ⟨some 24, Op.move (.tmp 40), _, _, _, none⟩) (v := .tuple #[.agg cn, vl, vj, .int .i64 0]) rfl (by kernel_rfl) (by kernel_rfl) (by kernel_rfl) (fun _ _ _ h => h) (Or.inl ⟨by rfl, fun w hSw => by (try dsimp only at hSw); go_simp⟩) (by assumption) ?_
      simp only [Act.put, List.setIfInBounds_toArray, List.set_cons_zero, List.set_cons_succ]
      refine wpAnyH_take (i := 17) (oi := ⟨some 41, Op.extract (.tmp 24) 0, _, _, _, none⟩) (v := .agg cn) rfl (by kernel_rfl) (by kernel_rfl) (by kernel_rfl) (fun _ _ _ h => h) (Or.inl ⟨by rfl, fun w hSw => by (try dsimp only at hSw); go_simp⟩) (by assumption) ?_
      simp only [Act.put, List.setIfInBounds_toArray, List.set_cons_zero, List.set_cons_succ]
      refine wpAnyH_take (i := 18) (oi := ⟨some 42, Op.extract (.tmp 24) 1, _, _, _, none⟩) (v := vl) rfl (by kernel_rfl) (by kernel_rfl) (by kernel_rfl) (fun _ _ _ h => h) (Or.inl ⟨by rfl, fun w hSw => by (try dsimp only at hSw); go_simp⟩) (by assumption) ?_
      simp only [Act.put, List.setIfInBounds_toArray, List.set_cons_zero, List.set_cons_succ]
      refine wpAnyH_take (i := 19) (oi := ⟨some 43, Op.extract (.tmp 24) 2, _, _, _, none⟩) (v := vj) rfl (by kernel_rfl) (by kernel_rfl) (by kernel_rfl) (fun _ _ _ h => h) (Or.inl ⟨by rfl, fun w hSw => by (try dsimp only at hSw); go_simp⟩) (by assumption) ?_
      simp only [Act.put, List.setIfInBounds_toArray, List.set_cons_zero, List.set_cons_succ]
      refine wpAnyH_take (i := 20) (oi := ⟨some 44, Op.extract (.tmp 24) 3, _, _, _, none⟩) (v := .int .i64 0) rfl (by kernel_rfl) (by kernel_rfl) (by kernel_rfl) (fun _ _ _ h => h) (Or.inl ⟨by rfl, fun w hSw => by (try dsimp only at hSw); go_simp⟩) (by assumption) ?_
      simp only [Act.put, List.setIfInBounds_toArray, List.set_cons_zero, List.set_cons_succ]
      refine wpAnyH_ready (rs := [21]) (by kernel_rfl) (by simp) ?_
      refine AllReadyH.cons rfl (fun K hK => ?_) AllReadyH.nil
      go_simp
      have hz := TrAt.zero w8
      have hgeT := hge8
      refine hK.out _ _ (hHd2.trans ((below_alloc _ _).mono hHd2.size)) (fun hHd3 => ?_)
      clear hK K
      try simp only [Act.put, List.setIfInBounds_toArray, List.set_cons_zero, List.set_cons_succ]
      refine wpAnyH_ready (rs := [22]) (by kernel_rfl) (by simp) ?_
      refine AllReadyH.cons rfl (fun Kc hK => ?_) AllReadyH.nil
      refine if_wp rfl (wp_stRow0 62 _ _ rfl _ cn rfl rfl 62 _ hz (by rw [← HCN.out, tcs_size]; exact infoT) (by rw [← HCN.out, tcs_size, tcs_size]) (by rw [← HCN.out]; exact tcs_one n) rfl ?_)
      have hzZ := Rt.heap_setRow_same hz cn
      refine hK.out _ _ (Rt.setRow_below hgeT hHd3 _) (fun hHd4 => ?_)
      clear hK Kc
      try simp only [Act.put, List.setIfInBounds_toArray, List.set_cons_zero, List.set_cons_succ]
      refine wpAnyH_take (i := 23) (oi := ⟨some 5, Op.assign (.tmp 42), _, _, _, none⟩) (v := vl) rfl (by kernel_rfl) (by kernel_rfl) (by kernel_rfl) (fun _ _ _ h => h) (Or.inl ⟨by rfl, fun w hSw => by (try dsimp only at hSw); go_simp⟩) (by assumption) ?_
      simp only [Act.put, List.setIfInBounds_toArray, List.set_cons_zero, List.set_cons_succ]
      refine wpAnyH_take (i := 24) (oi := ⟨some 6, Op.assign (.tmp 43), _, _, _, none⟩) (v := vj) rfl (by kernel_rfl) (by kernel_rfl) (by kernel_rfl) (fun _ _ _ h => h) (Or.inl ⟨by rfl, fun w hSw => by (try dsimp only at hSw); go_simp⟩) (by assumption) ?_
      simp only [Act.put, List.setIfInBounds_toArray, List.set_cons_zero, List.set_cons_succ]
      refine wpAnyH_take (i := 25) (oi := ⟨some 7, Op.assign (.tmp 44), _, _, _, none⟩) (v := .int .i64 0) rfl (by kernel_rfl) (by kernel_rfl) (by kernel_rfl) (fun _ _ _ h => h) (Or.inl ⟨by rfl, fun w hSw => by (try dsimp only at hSw); go_simp⟩) (by assumption) ?_
      simp only [Act.put, List.setIfInBounds_toArray, List.set_cons_zero, List.set_cons_succ]
      refine wpAnyH_done (by kernel_rfl) ?_ _
      go_wp2_with fail
      go_meet
      case rel => exact ⟨_, rfl, rfl, hHd4, by unfold TrAt; rw [HCN.out]; exact hzZ⟩
     ·go_simp
      have hz := TrAt.zero w7
      have hgeT := hge
      refine hK.out _ _ (hHd1.trans ((below_alloc _ _).mono hHd1.size)) (fun hHd2 => ?_)
      clear hHd1
      clear hK K
      try simp only [Act.put, List.setIfInBounds_toArray, List.set_cons_zero, List.set_cons_succ]
      refine wpAnyH_ready (rs := [15]) (by kernel_rfl) (by simp) ?_
      refine AllReadyH.cons rfl (fun K hK => ?_) AllReadyH.nil
      go_simp
      have h2 := fun W h3 h4 => rNext11_any t aL aJ cL cJ LV J W (by have := HLV.out; omega) (by have := HLV.out; omega) h3 h4
      unfold N11A at h2
      rw [HPE.out.1, HPE.out.2, HCN.out, HCT.out] at h2
      first | (refine (h2 _ HRI.out.1 HRI.out.2).mono ?_) | (refine (h2 _ (HRI.out.1.later (below_alloc _ _)) (HRI.out.2.later (below_alloc _ _))).mono ?_)
      rintro r w8 ⟨⟨vl, vj, rfl, -⟩, hb8⟩
      go_wp2_with fail
      have hz := hz.later hb8
      refine hK.out _ _ (hHd2.trans (hb8.mono hHd2.size)) (fun hHd3 => ?_)
      clear hHd2 hb8
      clear hK K
      try simp only [Act.put, List.setIfInBounds_toArray, List.set_cons_zero, List.set_cons_succ]
      refine wpAnyH_take (i := 16) (oi := ⟨some 24, Op.move (.tmp 40), _, _, _, none⟩) (v := .tuple #[.agg cn, vl, vj, .int .i64 0]) rfl (by kernel_rfl) (by kernel_rfl) (by kernel_rfl) (fun _ _ _ h => h) (Or.inl ⟨by rfl, fun w hSw => by (try dsimp only at hSw); go_simp⟩) (by assumption) ?_
      simp only [Act.put, List.setIfInBounds_toArray, List.set_cons_zero, List.set_cons_succ]
      refine wpAnyH_take (i := 17) (oi := ⟨some 41, Op.extract (.tmp 24) 0, _, _, _, none⟩) (v := .agg cn) rfl (by kernel_rfl) (by kernel_rfl) (by kernel_rfl) (fun _ _ _ h => h) (Or.inl ⟨by rfl, fun w hSw => by (try dsimp only at hSw); go_simp⟩) (by assumption) ?_
      simp only [Act.put, List.setIfInBounds_toArray, List.set_cons_zero, List.set_cons_succ]
      refine wpAnyH_take (i := 18) (oi := ⟨some 42, Op.extract (.tmp 24) 1, _, _, _, none⟩) (v := vl) rfl (by kernel_rfl) (by kernel_rfl) (by kernel_rfl) (fun _ _ _ h => h) (Or.inl ⟨by rfl, fun w hSw => by (try dsimp only at hSw); go_simp⟩) (by assumption) ?_
      simp only [Act.put, List.setIfInBounds_toArray, List.set_cons_zero, List.set_cons_succ]
      refine wpAnyH_take (i := 19) (oi := ⟨some 43, Op.extract (.tmp 24) 2, _, _, _, none⟩) (v := vj) rfl (by kernel_rfl) (by kernel_rfl) (by kernel_rfl) (fun _ _ _ h => h) (Or.inl ⟨by rfl, fun w hSw => by (try dsimp only at hSw); go_simp⟩) (by assumption) ?_
      simp only [Act.put, List.setIfInBounds_toArray, List.set_cons_zero, List.set_cons_succ]
      refine wpAnyH_take (i := 20) (oi := ⟨some 44, Op.extract (.tmp 24) 3, _, _, _, none⟩) (v := .int .i64 0) rfl (by kernel_rfl) (by kernel_rfl) (by kernel_rfl) (fun _ _ _ h => h) (Or.inl ⟨by rfl, fun w hSw => by (try dsimp only at hSw); go_simp⟩) (by assumption) ?_
      simp only [Act.put, List.setIfInBounds_toArray, List.set_cons_zero, List.set_cons_succ]
      refine wpAnyH_ready (rs := [22]) (by kernel_rfl) (by simp) ?_
      refine AllReadyH.cons rfl (fun Kc hK => ?_) AllReadyH.nil
      refine if_wp rfl (wp_stRow0 62 _ _ rfl _ cn rfl rfl 62 _ hz (by rw [← HCN.out, tcs_size]; exact infoT) (by rw [← HCN.out, tcs_size, tcs_size]) (by rw [← HCN.out]; exact tcs_one n) rfl ?_)
      have hzZ := Rt.heap_setRow_same hz cn
      refine hK.out _ _ (Rt.setRow_below hgeT hHd3 _) (fun hHd4 => ?_)
      clear hK Kc
      try simp only [Act.put, List.setIfInBounds_toArray, List.set_cons_zero, List.set_cons_succ]
      refine wpAnyH_take (i := 23) (oi := ⟨some 5, Op.assign (.tmp 42), _, _, _, none⟩) (v := vl) rfl (by kernel_rfl) (by kernel_rfl) (by kernel_rfl) (fun _ _ _ h => h) (Or.inl ⟨by rfl, fun w hSw => by (try dsimp only at hSw); go_simp⟩) (by assumption) ?_
      simp only [Act.put, List.setIfInBounds_toArray, List.set_cons_zero, List.set_cons_succ]
      refine wpAnyH_take (i := 24) (oi := ⟨some 6, Op.assign (.tmp 43), _, _, _, none⟩) (v := vj) rfl (by kernel_rfl) (by kernel_rfl) (by kernel_rfl) (fun _ _ _ h => h) (Or.inl ⟨by rfl, fun w hSw => by (try dsimp only at hSw); go_simp⟩) (by assumption) ?_
      simp only [Act.put, List.setIfInBounds_toArray, List.set_cons_zero, List.set_cons_succ]
      refine wpAnyH_take (i := 25) (oi := ⟨some 7, Op.assign (.tmp 44), _, _, _, none⟩) (v := .int .i64 0) rfl (by kernel_rfl) (by kernel_rfl) (by kernel_rfl) (fun _ _ _ h => h) (Or.inl ⟨by rfl, fun w hSw => by (try dsimp only at hSw); go_simp⟩) (by assumption) ?_
      simp only [Act.put, List.setIfInBounds_toArray, List.set_cons_zero, List.set_cons_succ]
      refine wpAnyH_done (by kernel_rfl) ?_ _
      go_wp2_with fail
      go_meet
      case rel => exact ⟨_, rfl, rfl, hHd4, by unfold TrAt; rw [HCN.out]; exact hzZ⟩
    ·go_simp
     have hz := TrAt.zero wr.drew
     have hgeT : wr.heap.size ≤ wr.heap.size := Nat.le_refl _
     refine hK.out _ _ (hHeld.trans ((below_alloc _ _).mono hHeld.size)) (fun hHd1 => ?_)
     clear hHeld
     clear hK K
     try simp only [Act.put, List.setIfInBounds_toArray, List.set_cons_zero, List.set_cons_succ]
     refine wpAnyH_ready (rs := [14]) (by kernel_rfl) (by simp) ?_
     refine AllReadyH.cons rfl (fun K hK => ?_) AllReadyH.nil
     go_simp
     refine (hbt _).mono ?_
     rintro r w7 ⟨⟨aL, cL, aJ, cJ, rfl, rI1, rI2⟩, hb7⟩
     go_wp2_with fail
     have hz := hz.later hb7
     have HRI : Hid (RdI w7 aL LV ∧ RdI w7 aJ J) := ⟨rI1, rI2⟩
     have hge : wr.heap.size ≤ w7.heap.size := Nat.le_trans hHd1.size hb7.size
     refine hK.out _ _ (hHd1.trans (hb7.mono hHd1.size)) (fun hHd2 => ?_)
     clear hHd1 hb7 rI1 rI2
     clear hK K
     try simp only [Act.put, List.setIfInBounds_toArray, List.set_cons_zero, List.set_cons_succ]
     refine wpAnyH_ready (rs := [15]) (by kernel_rfl) (by simp) ?_
     refine AllReadyH.cons rfl (fun K hK => ?_) AllReadyH.nil
     go_simp
     have h2 := fun W h3 h4 => rNext11_any t aL aJ cL cJ LV J W (by have := HLV.out; omega) (by have := HLV.out; omega) h3 h4
     unfold N11A at h2
     rw [HPE.out.1, HPE.out.2, HCN.out, HCT.out] at h2
     first | (refine (h2 _ HRI.out.1 HRI.out.2).mono ?_) | (refine (h2 _ (HRI.out.1.later (below_alloc _ _)) (HRI.out.2.later (below_alloc _ _))).mono ?_)
     rintro r w8 ⟨⟨vl, vj, rfl, -⟩, hb8⟩
     go_wp2_with fail
     have hz := hz.later hb8
     refine hK.out _ _ (hHd2.trans (hb8.mono hHd2.size)) (fun hHd3 => ?_)
     clear hHd2 hb8
     clear hK K
     try simp only [Act.put, List.setIfInBounds_toArray, List.set_cons_zero, List.set_cons_succ]
     refine wpAnyH_take (i := 16) (oi := ⟨some 24, Op.move (.tmp 40), _, _, _, none⟩) (v := .tuple #[.agg cn, vl, vj, .int .i64 0]) rfl (by kernel_rfl) (by kernel_rfl) (by kernel_rfl) (fun _ _ _ h => h) (Or.inl ⟨by rfl, fun w hSw => by (try dsimp only at hSw); go_simp⟩) (by assumption) ?_
     simp only [Act.put, List.setIfInBounds_toArray, List.set_cons_zero, List.set_cons_succ]
     refine wpAnyH_take (i := 17) (oi := ⟨some 41, Op.extract (.tmp 24) 0, _, _, _, none⟩) (v := .agg cn) rfl (by kernel_rfl) (by kernel_rfl) (by kernel_rfl) (fun _ _ _ h => h) (Or.inl ⟨by rfl, fun w hSw => by (try dsimp only at hSw); go_simp⟩) (by assumption) ?_
     simp only [Act.put, List.setIfInBounds_toArray, List.set_cons_zero, List.set_cons_succ]
     refine wpAnyH_take (i := 18) (oi := ⟨some 42, Op.extract (.tmp 24) 1, _, _, _, none⟩) (v := vl) rfl (by kernel_rfl) (by kernel_rfl) (by kernel_rfl) (fun _ _ _ h => h) (Or.inl ⟨by rfl, fun w hSw => by (try dsimp only at hSw); go_simp⟩) (by assumption) ?_
     simp only [Act.put, List.setIfInBounds_toArray, List.set_cons_zero, List.set_cons_succ]
     refine wpAnyH_take (i := 19) (oi := ⟨some 43, Op.extract (.tmp 24) 2, _, _, _, none⟩) (v := vj) rfl (by kernel_rfl) (by kernel_rfl) (by kernel_rfl) (fun _ _ _ h => h) (Or.inl ⟨by rfl, fun w hSw => by (try dsimp only at hSw); go_simp⟩) (by assumption) ?_
     simp only [Act.put, List.setIfInBounds_toArray, List.set_cons_zero, List.set_cons_succ]
     refine wpAnyH_take (i := 20) (oi := ⟨some 44, Op.extract (.tmp 24) 3, _, _, _, none⟩) (v := .int .i64 0) rfl (by kernel_rfl) (by kernel_rfl) (by kernel_rfl) (fun _ _ _ h => h) (Or.inl ⟨by rfl, fun w hSw => by (try dsimp only at hSw); go_simp⟩) (by assumption) ?_
     simp only [Act.put, List.setIfInBounds_toArray, List.set_cons_zero, List.set_cons_succ]
     refine wpAnyH_ready (rs := [22]) (by kernel_rfl) (by simp) ?_
     refine AllReadyH.cons rfl (fun Kc hK => ?_) AllReadyH.nil
     refine if_wp rfl (wp_stRow0 62 _ _ rfl _ cn rfl rfl 62 _ hz (by rw [← HCN.out, tcs_size]; exact infoT) (by rw [← HCN.out, tcs_size, tcs_size]) (by rw [← HCN.out]; exact tcs_one n) rfl ?_)
     have hzZ := Rt.heap_setRow_same hz cn
     refine hK.out _ _ (Rt.setRow_below hgeT hHd3 _) (fun hHd4 => ?_)
     clear hK Kc
     try simp only [Act.put, List.setIfInBounds_toArray, List.set_cons_zero, List.set_cons_succ]
     refine wpAnyH_take (i := 23) (oi := ⟨some 5, Op.assign (.tmp 42), _, _, _, none⟩) (v := vl) rfl (by kernel_rfl) (by kernel_rfl) (by kernel_rfl) (fun _ _ _ h => h) (Or.inl ⟨by rfl, fun w hSw => by (try dsimp only at hSw); go_simp⟩) (by assumption) ?_
     simp only [Act.put, List.setIfInBounds_toArray, List.set_cons_zero, List.set_cons_succ]
     refine wpAnyH_take (i := 24) (oi := ⟨some 6, Op.assign (.tmp 43), _, _, _, none⟩) (v := vj) rfl (by kernel_rfl) (by kernel_rfl) (by kernel_rfl) (fun _ _ _ h => h) (Or.inl ⟨by rfl, fun w hSw => by (try dsimp only at hSw); go_simp⟩) (by assumption) ?_
     simp only [Act.put, List.setIfInBounds_toArray, List.set_cons_zero, List.set_cons_succ]
     refine wpAnyH_take (i := 25) (oi := ⟨some 7, Op.assign (.tmp 44), _, _, _, none⟩) (v := .int .i64 0) rfl (by kernel_rfl) (by kernel_rfl) (by kernel_rfl) (fun _ _ _ h => h) (Or.inl ⟨by rfl, fun w hSw => by (try dsimp only at hSw); go_simp⟩) (by assumption) ?_
     simp only [Act.put, List.setIfInBounds_toArray, List.set_cons_zero, List.set_cons_succ]
     refine wpAnyH_done (by kernel_rfl) ?_ _
     go_wp2_with fail
     go_meet
     case rel => exact ⟨_, rfl, rfl, hHd4, by unfold TrAt; rw [HCN.out]; exact hzZ⟩
   case rest =>
    obtain ⟨T, rfl, rfl, hbc, hT⟩ := hcut
    have HT : Hid (TrAt wc T n) := hT
    have HB2 : Hid (Below w.heap.size w wc) := HBX.out.trans (hbc.mono HBX.out.size)
    clear hbc hT hbt HLT
    go_upto_region 7 with (fail)
    have hS1 : Below wc.heap.size wc wc.drew := drew_below _
    refine wp_region_held_drew (S := fun X => Below wc.heap.size wc X) (by kernel_rfl) hS1 (fun hHeld => ?_)
    refine wpAnyH_take (i := 0) (oi := ⟨some 45, Op.move (.tmp 7), _, _, _, none⟩) (v := .int .i64 0) rfl (by kernel_rfl) (by kernel_rfl) (by kernel_rfl) (fun _ _ _ h => h) (Or.inl ⟨by rfl, fun w hSw => by (try dsimp only at hSw); go_simp⟩) (by assumption) ?_
    simp only [Act.put, List.setIfInBounds_toArray, List.set_cons_zero, List.set_cons_succ]
    refine wpAnyH_take (i := 1) (oi := ⟨some 46, Op.binOp BinOp.neq 32 (.tmp 45) (Operand.const (Value.int IntKind.i64 0)) 32, _, _, _, none⟩) (v := .bool false) rfl (by kernel_rfl) (by kernel_rfl) (by kernel_rfl) (fun _ _ _ h => h) (Or.inl ⟨by rfl, fun w hSw => by (try dsimp only at hSw); go_simp⟩) (by assumption) ?_
    simp only [Act.put, List.setIfInBounds_toArray, List.set_cons_zero, List.set_cons_succ]
    refine wpAnyH_take (i := 2) (oi := ⟨some 47, Op.move (.tmp 46), _, _, _, none⟩) (v := .bool false) rfl (by kernel_rfl) (by kernel_rfl) (by kernel_rfl) (fun _ _ _ h => h) (Or.inl ⟨by rfl, fun w hSw => by (try dsimp only at hSw); go_simp⟩) (by assumption) ?_
    simp only [Act.put, List.setIfInBounds_toArray, List.set_cons_zero, List.set_cons_succ]
    refine wpAnyH_take (i := 3) (oi := ⟨some 48, Op.load 62 (.tmp 4), _, _, _, some (2, false)⟩) (v := .agg cn) rfl (by kernel_rfl) (by kernel_rfl) (by kernel_rfl) (fun _ _ _ h => h) (Or.inl ⟨by rfl, fun w hSw => ld_exec (HCN.out ▸ (HT.out.later hSw).whole) rfl rfl⟩) (by assumption) ?_
    simp only [Act.put, List.setIfInBounds_toArray, List.set_cons_zero, List.set_cons_succ]
    refine wpAnyH_take (i := 4) (oi := ⟨some 49, Op.move (.tmp 0), _, _, _, some (2, false)⟩) (v := .slice (some ⟨b, 0, none⟩) NT c) rfl (by kernel_rfl) (by kernel_rfl) (by kernel_rfl) (fun _ _ _ h => h) (Or.inl ⟨by rfl, fun w hSw => by (try dsimp only at hSw); go_simp⟩) (by assumption) ?_
    simp only [Act.put, List.setIfInBounds_toArray, List.set_cons_zero, List.set_cons_succ]
    refine wpAnyH_take (i := 5) (oi := ⟨some 50, Op.move (.tmp 3), _, _, _, some (2, false)⟩) (v := .int .i64 (i : Int)) rfl (by kernel_rfl) (by kernel_rfl) (by kernel_rfl) (fun _ _ _ h => h) (Or.inl ⟨by rfl, fun w hSw => by (try dsimp only at hSw); go_simp⟩) (by assumption) ?_
    simp only [Act.put, List.setIfInBounds_toArray, List.set_cons_zero, List.set_cons_succ]
    refine wpAnyH_take (i := 6) (oi := ⟨some 51, Op.indexAddr 24 (.tmp 49) (.tmp 50), _, _, _, some (2, false)⟩) (v := .pointer (some ⟨b, i * 236, none⟩)) rfl (by kernel_rfl) (by kernel_rfl) (by kernel_rfl) (fun _ _ _ h => h) (Or.inl ⟨by rfl, fun w hSw => by (try dsimp only at hSw); go_simp⟩) (by assumption) ?_
    simp only [Act.put, List.setIfInBounds_toArray, List.set_cons_zero, List.set_cons_succ]
    refine wpAnyH_take (i := 7) (oi := ⟨some 52, Op.load 62 (.tmp 51), _, _, _, some (2, false)⟩) (v := .agg cn) rfl (by kernel_rfl) (by kernel_rfl) (by kernel_rfl) (fun _ _ _ h => h) (Or.inl ⟨by rfl, fun w hSw => ld_exec (HLN.out _ (HB2.out.trans (hSw.mono HB2.out.size))) rfl rfl⟩) (by assumption) ?_
    simp only [Act.put, List.setIfInBounds_toArray, List.set_cons_zero, List.set_cons_succ]
    refine wpAnyH_take (i := 8) (oi := ⟨some 53, Op.binOp BinOp.neq 62 (.tmp 48) (.tmp 52) 62, _, _, _, some (2, false)⟩) (v := .bool false) rfl (by kernel_rfl) (by kernel_rfl) (by kernel_rfl) (fun _ _ _ h => h) (Or.inl ⟨by rfl, fun w hSw => neTr_exec HCN.out rfl rfl rfl⟩) (by assumption) ?_
    simp only [Act.put, List.setIfInBounds_toArray, List.set_cons_zero, List.set_cons_succ]
    refine wpAnyH_take (i := 9) (oi := ⟨some 54, Op.pick (.tmp 47) (Operand.const (Value.bool true)) (.tmp 53), _, _, _, none⟩) (v := .bool false) rfl (by kernel_rfl) (by kernel_rfl) (by kernel_rfl) (fun _ _ _ h => h) (Or.inl ⟨by rfl, fun w hSw => by (try dsimp only at hSw); go_simp⟩) (by assumption) ?_
    simp only [Act.put, List.setIfInBounds_toArray, List.set_cons_zero, List.set_cons_succ]
    refine wpAnyH_done (by kernel_rfl) ?_ _
    have HB3 : Hid (Below w.heap.size w wc.drew) := HB2.out.trans (hS1.mono HB2.out.size)
    go_wp2_with fail
    go_roundw
    case rel => exact ⟨i + 1, by omega, by omega, by go_num, HB3.out⟩
    case measure => simp [intOf]; omega
  ·obtain rfl : i = NT := by omega
   have hdk : decide ((i : Int) < (i : Int)) = false := by simp
   go_wp2_with fail
   go_ret
   exact ⟨rfl, HBX.out⟩
end Go.Proofs.YtdkfifnhmfbagaaGreatDoor
