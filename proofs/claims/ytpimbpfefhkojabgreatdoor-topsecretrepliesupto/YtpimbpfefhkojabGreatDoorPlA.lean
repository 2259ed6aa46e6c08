/- Contracts: isIn, keyAt, allowed, Replaced of the program. -/
import Derived.Test.YtpimbpfefhkojabGreatDoorPlJ1
import Derived.Test.YtpimbpfefhkojabGreatDoorTrJ3
import Derived.Test.YtpimbpfefhkojabGreatDoorRsJ5
import Derived.Test.YtpimbpfefhkojabGreatDoorShK
import Derived.Deep.DeepCutAuto
namespace Go.Proofs.YtpimbpfefhkojabGreatDoor
open Go.RowKit Go.Maps
open Rt (Ky zK kcs KyAt lfE lfB lfS)
open Rs (En zE rcs RoAt tkn ft RdI RdS ps sl put putR)
open Sh (lef abvTo)
set_option linter.unusedVariables false
set_option linter.unusedSimpArgs false

set_option maxRecDepth 100000 in
theorem isIn_any (r v : Nat) (hr : r < 4294967296) (hv : v < 21) (w : World) :
    Calls Tryz.prog 61 #[.int .u32 (r : Int), .int .i64 (v : Int)] w fun e w' => e = .returned (.bool (r.testBit v)) ∧ w' = w := by
  have hand := Rt.and1 r v hr
  have v0 : (0 : Int) ≤ (v : Int) := by omega
  have v1 : IntKind.u64.wrap (v : Int) = (v : Int) := Rs.u64_fit _ (by omega) (by omega)
  cases hb : r.testBit v with
  | false =>
    rw [hb] at hand
    go_enter Tryz.func61, Tryz.ntmps61
    go_wp2_with fail
    go_ret
    exact ⟨rfl, rfl⟩
  | true =>
    rw [hb] at hand
    go_enter Tryz.func61, Tryz.ntmps61
    go_wp2_with fail
    go_ret
    exact ⟨rfl, rfl⟩
theorem results_ky1 {fn : Func} {p : Tmp} (hf : fn.results = #[.cell p 31 ]) (tmps : Array Value) (W : World) (B : Nat) (e : Ky) (hp : tmps[p]? = some (.pointer (some ⟨B, 0, none⟩))) (hb : KyAt W B e) :
    (results fn tmps).run Tryz.prog W = .ok (.agg #[.int .i64 e.bas, .int .i64 e.stp]) W := by
  have h := run_loadVar_row W B _ 31 _ _ _ hb Tryz.underlying31 rfl infoKy
  simp [results, hf, hp, asAddr, h]
theorem SK.two {w W : World} {B K : Nat} {t : Tr} (h : SK w W B K t) {A : Nat} (h1 : B ≠ A) (h2 : K ≠ A) (h3 : w.heap.size ≤ A) (a b : Int) : SK w ((W.setCell ⟨A, 0, none⟩ (.int .i64 a)).setCell ⟨A, 1, none⟩ (.int .i64 b)) B K t :=
  ⟨(Rt.set2_other h1 _ _ _ _).trans h.tr, h.ky.elim fun e he => ⟨e, (Rt.set2_other h2 _ _ _ _).trans he⟩, Rt.set2_below h.bel h3 _ _ _ _, h.ne, h.ge⟩
theorem take_snoc2 {l : List (Int × Int)} {k : Nat} (h : k < l.length) : l.take (k + 1) = l.take k ++ [l.getD k (0, 0)] := by
  rw [List.take_add_one, List.getD_eq_getElem?_getD, List.getElem?_eq_getElem h]
  rfl
def KyE (k : Ky) : Ending := .returned (.agg #[.int .i64 k.bas, .int .i64 k.stp])
set_option maxRecDepth 100000 in
set_option maxHeartbeats 1000000 in
theorem keyAt_any (t : Tr) (v : Nat) (hv : v < 85) (he : t.ep < 9223372036854775808) (w : World) : Calls Tryz.prog 59 #[.agg (tcs t), .int .i64 (v : Int)] w fun e w' => e = KyE (kyA t v) ∧ Below w.heap.size w w' := by
  have hS := SK.new w t
  have hs := Sh.slot_any (v : Int)
  obtain ⟨ct, hct⟩ : ∃ c, tcs t = c := ⟨_, rfl⟩
  have HT : Hid (tcs t = ct) := hct
  clear hct
  go_enter Tryz.func59, Tryz.ntmps59
  go_upto_region 1 with (fail)
  generalize (w.alloc (.cells (tcs t) 47)).alloc (.cells #[.int .i64 0, .int .i64 0] 31) = w1 at *
  rw [HT.out]
  obtain ⟨K, hK⟩ : ∃ K, w.heap.size + 1 = K := ⟨_, rfl⟩
  rw [hK] at hS ⊢
  obtain ⟨B, hB⟩ : ∃ B, w.heap.size = B := ⟨_, rfl⟩
  rw [hB] at hS ⊢
  clear hK hB
  rcases Nat.lt_or_ge v 21 with hn | hn
  · rw [Sh.slo_no (by omega)] at hs
    obtain ⟨k, hk⟩ := hS.ky
    have n0 : (0 : Int) ≤ (v : Int) := by omega
    have n1 : (v : Int) < 21 := by omega
    obtain ⟨c0, c1⟩ := hS.tr.key v hn
    have HA : Hid (kyA t v = t.ks v) := kyA_in hn
    obtain ⟨e, he⟩ : ∃ e, t.ks v = e := ⟨_, rfl⟩
    rw [he] at c0 c1 HA
    clear he
    go_wp2_with (first | (go_at_call 91; refine (hs _).mono ?_; rintro r w' ⟨rfl, rfl⟩) | (refine stKy hk e rfl _ _ rfl rfl rfl ?_))
    refine bodyPost_ret (results_ky1 (p := 4) rfl _ _ K e rfl (KyAt.row hk _)) rfl ?_
    exact ⟨by rw [HA.out]; rfl, Rt.setRow_below hS.ge hS.bel _⟩
  · obtain ⟨s, rfl⟩ : ∃ s, v = 21 + s := ⟨v - 21, by omega⟩
    have hs8 : s < 64 := by omega
    rw [show (((21 + s : Nat) : Int)) = 21 + (s : Int) by push_cast; rfl] at hs ⊢
    rw [Sh.slo_yes (by omega) (by omega), show 21 + (s : Int) - 21 = (s : Int) by omega] at hs
    have hlf := Rt.leafAt_any (t.ro s).who (t.ro s).bas (t.ro s).snc t.ep he
    unfold Rt.LeafA at hlf
    have HA : Hid (kyA t (21 + s) = ⟨lfB (t.ro s).bas (t.ro s).snc t.ep, lfS (t.ro s).bas (t.ro s).snc t.ep⟩) := kyA_leaf
    obtain ⟨X, hX⟩ : ∃ X, lfB (t.ro s).bas (t.ro s).snc t.ep = X := ⟨_, rfl⟩
    obtain ⟨Y, hY⟩ : ∃ Y, lfS (t.ro s).bas (t.ro s).snc t.ep = Y := ⟨_, rfl⟩
    obtain ⟨E, hE⟩ : ∃ E, lfE (t.ro s).bas (t.ro s).snc t.ep = E := ⟨_, rfl⟩
    simp only [hX, hY, hE] at hlf
    rw [hX, hY] at HA
    clear hX hY hE
    have s2 : decide ((s : Int) < 0) = false := decide_eq_false (by omega)
    obtain ⟨v, hv⟩ : ∃ v, 21 + (s : Int) = v := ⟨_, rfl⟩
    rw [hv] at hs ⊢
    clear hv
    go_upto_region 4 with (go_at_call 91; refine (hs _).mono ?_; rintro r w1 ⟨rfl, rfl⟩)
    go_cut [6] (fun s6 wx => ∃ A, s6 = .pointer (some ⟨A, 0, none⟩) ∧ SK w wx B K t ∧ KyAt wx A ⟨X, Y⟩)
    case first =>
      have hS0 : SK w w1.drew B K t := hS.later (drew_below _)
      have HN : Hid (B ≠ w1.heap.size ∧ K ≠ w1.heap.size ∧ w.heap.size ≤ w1.heap.size) := ⟨Nat.ne_of_lt hS.tr.lt, hS.ky.elim fun e he => Nat.ne_of_lt he.lt, hS.bel.size⟩
      clear hS s2 hs
      have s0 : (0 : Int) ≤ (s : Int) := by omega
      have s1 : (s : Int) < 64 := by omega
      obtain ⟨e, he⟩ : ∃ e, t.ro s = e := ⟨_, rfl⟩
      rw [he] at hlf
      have HE : Hid (t.ro s = e) := he
      clear he
      refine wp_region_held_drew (S := fun W => SK w W B K t) (by kernel_rfl) hS0 (fun hHeld => ?_)
      refine wpAnyH_take (i := 0) (oi := { dst := some 17, op := Op.move (Operand.tmp 5), type := _, pos := _, after := _, guard := none }) (v := .int .i64 (s : Int)) rfl (by kernel_rfl) (by kernel_rfl) (by kernel_rfl) (fun _ _ _ h => h) (Or.inl ⟨by rfl, fun w hSw => by (try dsimp only at hSw); go_simp⟩) (by assumption) ?_
      simp only [Act.put, List.setIfInBounds_toArray, List.set_cons_zero, List.set_cons_succ]
      refine wpAnyH_take (i := 1) (oi := { dst := some 18, op := Op.fieldAddr 47 (Operand.tmp 2) 3, type := _, pos := _, after := _, guard := none }) (v := .pointer (some ⟨B, 44, none⟩)) rfl (by kernel_rfl) (by kernel_rfl) (by kernel_rfl) (fun _ _ _ h => h) (Or.inl ⟨by rfl, fun w hSw => by (try dsimp only at hSw); go_simp⟩) (by assumption) ?_
      simp only [Act.put, List.setIfInBounds_toArray, List.set_cons_zero, List.set_cons_succ]
      refine wpAnyH_take (i := 2) (oi := { dst := some 19, op := Op.indexAddr 45 (Operand.tmp 18) (Operand.tmp 17), type := _, pos := _, after := _, guard := none }) (v := .pointer (some ⟨B, 44 + s * 3, none⟩)) rfl (by kernel_rfl) (by kernel_rfl) (by kernel_rfl) (fun _ _ _ h => h) (Or.inl ⟨by rfl, fun w hSw => by (try dsimp only at hSw); go_simp⟩) (by assumption) ?_
      simp only [Act.put, List.setIfInBounds_toArray, List.set_cons_zero, List.set_cons_succ]
      refine wpAnyH_take (i := 3) (oi := { dst := some 20, op := Op.load 43 (Operand.tmp 19), type := _, pos := _, after := _, guard := none }) (v := .agg #[.int .i64 e.who, .int .i64 e.bas, .int .i64 e.snc]) rfl (by kernel_rfl) (by kernel_rfl) (by kernel_rfl) (fun _ _ _ h => h) (Or.inl ⟨by rfl, fun w hSw => by obtain ⟨c0, c1, c2⟩ := hSw.tr.ent s hs8; rw [HE.out] at c0 c1 c2; clear hSw; go_simp⟩) (by assumption) ?_
      simp only [Act.put, List.setIfInBounds_toArray, List.set_cons_zero, List.set_cons_succ]
      refine wpAnyH_take (i := 4) (oi := { dst := some 21, op := Op.fieldAddr 47 (Operand.tmp 2) 0, type := _, pos := _, after := _, guard := none }) (v := .pointer (some ⟨B, 0, none⟩)) rfl (by kernel_rfl) (by kernel_rfl) (by kernel_rfl) (fun _ _ _ h => h) (Or.inl ⟨by rfl, fun w hSw => by (try dsimp only at hSw); go_simp⟩) (by assumption) ?_
      simp only [Act.put, List.setIfInBounds_toArray, List.set_cons_zero, List.set_cons_succ]
      refine wpAnyH_take (i := 5) (oi := { dst := some 22, op := Op.load 3 (Operand.tmp 21), type := _, pos := _, after := _, guard := none }) (v := .int .i64 t.ep) rfl (by kernel_rfl) (by kernel_rfl) (by kernel_rfl) (fun _ _ _ h => h) (Or.inl ⟨by rfl, fun w hSw => by obtain ⟨c0, c1⟩ := hSw.tr.cells; clear hSw; go_simp⟩) (by assumption) ?_
      simp only [Act.put, List.setIfInBounds_toArray, List.set_cons_zero, List.set_cons_succ]
      refine wpAnyH_ready (rs := [6, 10]) (by kernel_rfl) (by simp) ?_
      refine (AllReadyH.cons rfl (fun K hK => ?_) (AllReadyH.cons rfl (fun K hK => ?_) AllReadyH.nil))
      · go_simp
        refine (hlf _).mono ?_
        rintro r w5 ⟨rfl, hb5⟩
        go_wp2_with fail
        refine hK.out _ _ (hHeld.later hb5) (fun hHd1 => ?_)
        clear hHeld hb5
        clear hK K
        try simp only [Act.put, List.setIfInBounds_toArray, List.set_cons_zero, List.set_cons_succ]
        refine wpAnyH_take (i := 7) (oi := { dst := some 16, op := Op.move (Operand.tmp 23), type := _, pos := _, after := _, guard := none }) (v := .tuple #[.agg #[.int .i64 X, .int .i64 Y], .int .i64 E]) rfl (by kernel_rfl) (by kernel_rfl) (by kernel_rfl) (fun _ _ _ h => h) (Or.inl ⟨by rfl, fun w hSw => by (try dsimp only at hSw); go_simp⟩) (by assumption) ?_
        simp only [Act.put, List.setIfInBounds_toArray, List.set_cons_zero, List.set_cons_succ]
        refine wpAnyH_take (i := 8) (oi := { dst := some 24, op := Op.extract (Operand.tmp 16) 0, type := _, pos := _, after := _, guard := none }) (v := .agg #[.int .i64 X, .int .i64 Y]) rfl (by kernel_rfl) (by kernel_rfl) (by kernel_rfl) (fun _ _ _ h => h) (Or.inl ⟨by rfl, fun w hSw => by (try dsimp only at hSw); go_simp⟩) (by assumption) ?_
        simp only [Act.put, List.setIfInBounds_toArray, List.set_cons_zero, List.set_cons_succ]
        refine wpAnyH_take (i := 9) (oi := { dst := some 25, op := Op.extract (Operand.tmp 16) 1, type := _, pos := _, after := _, guard := none }) (v := .int .i64 E) rfl (by kernel_rfl) (by kernel_rfl) (by kernel_rfl) (fun _ _ _ h => h) (Or.inl ⟨by rfl, fun w hSw => by (try dsimp only at hSw); go_simp⟩) (by assumption) ?_
        simp only [Act.put, List.setIfInBounds_toArray, List.set_cons_zero, List.set_cons_succ]
        refine wpAnyH_ready (rs := [10]) (by kernel_rfl) (by simp) ?_
        refine AllReadyH.cons rfl (fun K hK => ?_) AllReadyH.nil
        go_simp
        have hpre := hHd1
        refine hK.out _ _ (hHd1.later (below_alloc _ _)) (fun hHd2 => ?_)
        clear hK K
        try simp only [Act.put, List.setIfInBounds_toArray, List.set_cons_zero, List.set_cons_succ]
        refine wpAnyH_ready (rs := [11]) (by kernel_rfl) (by simp) ?_
        refine AllReadyH.cons rfl (fun K hK => ?_) AllReadyH.nil
        go_simp
        first | (refine hK.out _ _ (hpre.later (below_alloc _ _)) (fun hHd3 => ?_); have hkyZ : KyAt (w5.alloc (.cells #[.int .i64 X, .int .i64 Y] 31)) w5.heap.size ⟨X, Y⟩ := KyAt.new w5 ⟨X, Y⟩) | (refine hK.out _ _ (hHd2.two HN.out.1 HN.out.2.1 HN.out.2.2 _ _) (fun hHd3 => ?_); have hkyZ := KyAt.set hky2 X Y)
        clear hK K
        try simp only [Act.put, List.setIfInBounds_toArray, List.set_cons_zero, List.set_cons_succ]
        refine wpAnyH_take (i := 12) (oi := { dst := some 7, op := Op.assign (Operand.tmp 25), type := _, pos := _, after := _, guard := none }) (v := .int .i64 E) rfl (by kernel_rfl) (by kernel_rfl) (by kernel_rfl) (fun _ _ _ h => h) (Or.inl ⟨by rfl, fun w hSw => by (try dsimp only at hSw); go_simp⟩) (by assumption) ?_
        simp only [Act.put, List.setIfInBounds_toArray, List.set_cons_zero, List.set_cons_succ]
        refine wpAnyH_done (by kernel_rfl) ?_ _
        go_wp2_with fail
        go_meet
        case rel => exact ⟨_, rfl, hHd3, hkyZ⟩
      · go_simp
        have hky : KyAt (w1.drew.alloc (.cells #[.int .i64 0, .int .i64 0] 31)) w1.heap.size zK := KyAt.new w1.drew zK
        refine hK.out _ _ (hHeld.later (below_alloc _ _)) (fun hHd1 => ?_)
        clear hHeld
        clear hK K
        try simp only [Act.put, List.setIfInBounds_toArray, List.set_cons_zero, List.set_cons_succ]
        refine wpAnyH_ready (rs := [6]) (by kernel_rfl) (by simp) ?_
        refine AllReadyH.cons rfl (fun K hK => ?_) AllReadyH.nil
        go_simp
        refine (hlf _).mono ?_
        rintro r w5 ⟨rfl, hb5⟩
        go_wp2_with fail
        have hky2 := hky.later hb5
        obtain ⟨k0, k1⟩ := hky2.cells
        have f0 := Rt.row_frozen hky2 0
        have f1 := Rt.row_frozen hky2 1
        refine hK.out _ _ (hHd1.later hb5) (fun hHd2 => ?_)
        clear hHd1 hb5 hky
        clear hK K
        try simp only [Act.put, List.setIfInBounds_toArray, List.set_cons_zero, List.set_cons_succ]
        refine wpAnyH_take (i := 7) (oi := { dst := some 16, op := Op.move (Operand.tmp 23), type := _, pos := _, after := _, guard := none }) (v := .tuple #[.agg #[.int .i64 X, .int .i64 Y], .int .i64 E]) rfl (by kernel_rfl) (by kernel_rfl) (by kernel_rfl) (fun _ _ _ h => h) (Or.inl ⟨by rfl, fun w hSw => by (try dsimp only at hSw); go_simp⟩) (by assumption) ?_
        simp only [Act.put, List.setIfInBounds_toArray, List.set_cons_zero, List.set_cons_succ]
        refine wpAnyH_take (i := 8) (oi := { dst := some 24, op := Op.extract (Operand.tmp 16) 0, type := _, pos := _, after := _, guard := none }) (v := .agg #[.int .i64 X, .int .i64 Y]) rfl (by kernel_rfl) (by kernel_rfl) (by kernel_rfl) (fun _ _ _ h => h) (Or.inl ⟨by rfl, fun w hSw => by (try dsimp only at hSw); go_simp⟩) (by assumption) ?_
        simp only [Act.put, List.setIfInBounds_toArray, List.set_cons_zero, List.set_cons_succ]
        refine wpAnyH_take (i := 9) (oi := { dst := some 25, op := Op.extract (Operand.tmp 16) 1, type := _, pos := _, after := _, guard := none }) (v := .int .i64 E) rfl (by kernel_rfl) (by kernel_rfl) (by kernel_rfl) (fun _ _ _ h => h) (Or.inl ⟨by rfl, fun w hSw => by (try dsimp only at hSw); go_simp⟩) (by assumption) ?_
        simp only [Act.put, List.setIfInBounds_toArray, List.set_cons_zero, List.set_cons_succ]
        refine wpAnyH_ready (rs := [11]) (by kernel_rfl) (by simp) ?_
        refine AllReadyH.cons rfl (fun K hK => ?_) AllReadyH.nil
        go_simp
        first | (refine hK.out _ _ (hpre.later (below_alloc _ _)) (fun hHd3 => ?_); have hkyZ : KyAt (w5.alloc (.cells #[.int .i64 X, .int .i64 Y] 31)) w5.heap.size ⟨X, Y⟩ := KyAt.new w5 ⟨X, Y⟩) | (refine hK.out _ _ (hHd2.two HN.out.1 HN.out.2.1 HN.out.2.2 _ _) (fun hHd3 => ?_); have hkyZ := KyAt.set hky2 X Y)
        clear hK K
        try simp only [Act.put, List.setIfInBounds_toArray, List.set_cons_zero, List.set_cons_succ]
        refine wpAnyH_take (i := 12) (oi := { dst := some 7, op := Op.assign (Operand.tmp 25), type := _, pos := _, after := _, guard := none }) (v := .int .i64 E) rfl (by kernel_rfl) (by kernel_rfl) (by kernel_rfl) (fun _ _ _ h => h) (Or.inl ⟨by rfl, fun w hSw => by (try dsimp only at hSw); go_simp⟩) (by assumption) ?_
        simp only [Act.put, List.setIfInBounds_toArray, List.set_cons_zero, List.set_cons_succ]
        refine wpAnyH_done (by kernel_rfl) ?_ _
        go_wp2_with fail
        go_meet
        case rel => exact ⟨_, rfl, hHd3, hkyZ⟩
    case rest =>
      obtain ⟨A, rfl, hS9, hky9⟩ := hcut
      obtain ⟨k0, k1⟩ := hky9.cells
      dsimp only at k0 k1
      obtain ⟨k, hk⟩ := hS9.ky
      go_wp2_with (refine stKy hk ⟨X, Y⟩ rfl _ _ rfl rfl rfl ?_)
      refine bodyPost_ret (results_ky1 (p := 4) rfl _ _ K ⟨X, Y⟩ rfl (KyAt.row hk ⟨X, Y⟩)) rfl ?_
      exact ⟨by rw [HA.out]; rfl, Rt.setRow_below hS9.ge hS9.bel _⟩
/- The tree and the batch, boxed. -/
def BtAt (w : World) (B : Nat) (aL aJ : Option Addr) (nL nJ cL cJ : Nat) : Prop := w.heap[B]? = some (.cells #[.slice aL nL cL, .slice aJ nJ cJ] 66 (0, 0))
theorem BtAt.cells {w : World} {B : Nat} {aL aJ : Option Addr} {nL nJ cL cJ : Nat} (h : BtAt w B aL aJ nL nJ cL cJ) : w.cell? ⟨B, 0, none⟩ = some (.slice aL nL cL) ∧ w.cell? ⟨B, 1, none⟩ = some (.slice aJ nJ cJ) :=
  ⟨cell_of_row w B 0 _ _ _ h, cell_of_row w B 1 _ _ _ h⟩
theorem BtAt.later {w w' : World} {B : Nat} {aL aJ : Option Addr} {nL nJ cL cJ : Nat} (h : BtAt w B aL aJ nL nJ cL cJ) (hb : Below w.heap.size w w') : BtAt w' B aL aJ nL nJ cL cJ := (hb.block B (Array.getElem?_eq_some_iff.1 h).1).trans h
structure TB (w W : World) (B C : Nat) (t : Tr) (aL aJ : Option Addr) (nL nJ cL cJ : Nat) : Prop where
  tr : TrAt W B t
  bt : BtAt W C aL aJ nL nJ cL cJ
  bel : Below w.heap.size w W
theorem TB.later {w W W' : World} {B C : Nat} {t : Tr} {aL aJ : Option Addr} {nL nJ cL cJ : Nat} (h : TB w W B C t aL aJ nL nJ cL cJ) (hb : Below W.heap.size W W') : TB w W' B C t aL aJ nL nJ cL cJ := ⟨h.tr.later hb, h.bt.later hb, h.bel.trans (hb.mono h.bel.size)⟩
theorem TB.new (w : World) (t : Tr) (aL aJ : Option Addr) (nL nJ cL cJ : Nat) : TB w ((w.alloc (.cells (tcs t) 47)).alloc (.cells #[.slice aL nL cL, .slice aJ nJ cJ] 66)) w.heap.size (w.heap.size + 1) t aL aJ nL nJ cL cJ := by
  have h1 := TrAt.new w t
  have hb1 := alloc_tr w t
  have h2 := heap_alloc_last (w.alloc (.cells (tcs t) 47)) (.cells #[.slice aL nL cL, .slice aJ nJ cJ] 66)
  have hb2 := below_alloc (w.alloc (.cells (tcs t) 47)) (.cells #[.slice aL nL cL, .slice aJ nJ cJ] 66)
  rw [World.size_alloc] at h2
  exact ⟨h1.later hb2, h2, hb1.trans (hb2.mono hb1.size)⟩
def alE (t : Tr) (L J : List Int) : Int := if tck t then (if t.ep = 200 then 19 else ft t.ro L J) else 31
set_option maxRecDepth 100000 in
set_option maxHeartbeats 1000000 in
theorem allowed_any (t : Tr) (aL aJ : Option Addr) (cL cJ : Nat) (L J : List Int) (w : World) (lL : L.length < 1152921504606846976) (lJ : J.length < 1152921504606846976) (hL : RdI w aL L) (hJ : RdI w aJ J) :
    Calls Tryz.prog 23 #[.agg (tcs t), .agg #[.slice aL L.length cL, .slice aJ J.length cJ] ] w fun e w' => e = .returned (.int .i64 (alE t L J)) ∧ Below w.heap.size w w' := by
  have hS := TB.new w t aL aJ L.length J.length cL cJ
  have h1 := check_any t
  have h2 : ∀ W, Below w.heap.size w W → _ := fun W hW => Rs.fits_any t.ro aL aJ cL cJ L J W lL lJ (hL.later hW) (hJ.later hW)
  obtain ⟨ct, hct⟩ : ∃ c, tcs t = c := ⟨_, rfl⟩
  obtain ⟨cr, hcr⟩ : ∃ c, rcs t.ro = c := ⟨_, rfl⟩
  simp only [hct] at h1
  simp only [hcr] at h2
  have HT : Hid (tcs t = ct) := hct
  have HR : Hid (rcs t.ro = cr) := hcr
  clear hct hcr
  go_enter Tryz.func23, Tryz.ntmps23
  go_upto_region 1 with (fail)
  generalize (w.alloc (.cells (tcs t) 47)).alloc (.cells #[.slice aL L.length cL, .slice aJ J.length cJ] 66) = w1 at *
  rw [HT.out]
  have hT1 := hS.tr
  obtain ⟨C, hC⟩ : ∃ C, w.heap.size + 1 = C := ⟨_, rfl⟩
  rw [hC] at hS ⊢
  obtain ⟨B, hB⟩ : ∃ B, w.heap.size = B := ⟨_, rfl⟩
  rw [hB] at hS hT1 ⊢
  have HBB : Hid (w.heap.size = B) := hB
  clear hC hB
  go_wp2_with (refine rdT hT1 HT.out _ rfl rfl rfl ?_)
  refine (h1 _).mono ?_
  rintro r w2 ⟨rfl, hb2⟩
  have hS2 := hS.later hb2
  clear h1 hS hT1 hb2
  cases hck : tck t with
  | false =>
    rw [tckE_ff hck]
    go_wp2_with fail
    go_ret
    exact ⟨ret_int (by unfold alE; rw [hck]; rfl), hS2.bel⟩
  | true =>
    rw [tckE_tt hck]
    obtain ⟨c0, c1⟩ := hS2.tr.cells
    obtain ⟨e, he⟩ : ∃ e, t.ep = e := ⟨_, rfl⟩
    rw [he] at c0
    by_cases hp : e = 200
    · subst hp
      go_wp2_with fail
      go_ret
      exact ⟨ret_int (by unfold alE; rw [hck, if_pos rfl, if_pos he]), hS2.bel⟩
    · have hd : (e == 200) = false := by simpa using hp
      have HE : Hid (alE t L J = ft t.ro L J) := by show alE t L J = _; unfold alE; rw [hck, if_pos rfl, if_neg (by rw [he]; exact hp)]
      have hT2 := hS2.tr
      obtain ⟨d0, d1⟩ := hS2.bt.cells
      have h3 := h2 w2 hS2.bel
      clear he hp h2
      go_wp2_with (refine rdR hT2 HR.out _ rfl rfl rfl ?_)
      refine h3.mono ?_
      rintro r w3 ⟨rfl, hb3⟩
      have hS3 := hS2.later hb3
      clear h3 hb3 hS2 hT2 c0 c1 d0 d1
      go_wp2_with fail
      go_ret
      exact ⟨ret_int HE.out.symm, hS3.bel⟩
/- The seats' slots. -/
set_option maxRecDepth 100000 in
set_option maxHeartbeats 1000000 in
theorem replaced_any (a : Option Addr) (c : Nat) (l : List (Int × Int)) (w : World) (hl : l.length < 1152921504606846976) (hr : RdS w a l) :
    Calls Tryz.prog 25 #[.slice a l.length c] w fun e w' => e = .returned (.int .u32 ((rp l : Nat) : Int)) ∧ Below w.heap.size w w' := by
  have h1 := fun s (hs : s < 18446744073709551616) n => Rs.put_any s hs n
  have h2 := Sh.above_any ((sw l : Nat) : Int) (by omega) (by have := sw_lt l; omega)
  rw [abv_rp] at h2
  go_enter Tryz.func25, Tryz.ntmps25
  go_wp2_with fail
  go_loopw [3, 10] (fun s i wx => ∃ k : Nat, k ≤ l.length ∧ i = .int .i64 (k : Int) ∧ s = .int .u64 ((sw (l.take k) : Nat) : Int) ∧ Below w.heap.size w wx) (fun _ i _ => l.length - (intOf i).toNat)
  case atStart => exact ⟨0, by omega, rfl, by simp [sw], Below.refl _ _⟩
  case round =>
    obtain ⟨k, hk, rfl, rfl, hb⟩ := hrel
    have HB : Hid (Below w.heap.size w wr) := hb
    clear hb
    by_cases hkN : k < l.length
    · have i1 : (0 : Int) ≤ (k : Int) := by omega
      have i2 : (k : Int) < (l.length : Int) := by omega
      obtain ⟨b, hal, hc0, hc1⟩ := (hr.later HB.out) k hkN
      have HT : Hid (sw (l.take (k + 1)) = sw1 (sw (l.take k)) (l.getD k (0, 0))) := by
        show sw (l.take (k + 1)) = _
        rw [take_snoc2 hkN, sw_snoc]
      have hlt := sw_lt (l.take k)
      obtain ⟨s, hs⟩ : ∃ s, sw (l.take k) = s := ⟨_, rfl⟩
      obtain ⟨p, hp⟩ : ∃ p, l.getD k (0, 0) = p := ⟨_, rfl⟩
      rw [hs] at hlt HT
      rw [hs]
      rw [hp] at hc0 hc1 HT
      have h3 := h1 s hlt p.2
      clear hs hp h1 h2
      subst hal
      have HB2 : Hid (Below w.heap.size w (wr.alloc (.cells #[.int .i64 p.1, .int .i64 p.2] 107))) := HB.out.alloc HB.out.size _
      unfold sw1 at HT
      cases hsl : sl p.2 with
      | false =>
        rw [hsl] at HT
        rw [Rs.putR_no hsl] at h3
        go_wp2_with (go_at_call 53; refine (h3 _).mono ?_; rintro r w' ⟨rfl, rfl⟩)
        go_roundw
        case rel => exact ⟨k + 1, by omega, by go_num, by rw [HT.out]; rfl, HB2.out⟩
        case measure => simp [intOf]; omega
      | true =>
        obtain ⟨n, hn, hn64⟩ := Rs.sl_nat hsl
        rw [hsl, hn, if_pos rfl, Int.toNat_natCast] at HT
        rw [hn, Rs.putR_sl hn64] at h3
        rw [hn] at hc1
        obtain ⟨z, hz⟩ : ∃ z, put s n = z := ⟨_, rfl⟩
        rw [hz] at HT h3
        clear hz
        rw [hn] at HB2
        go_wp2_with (go_at_call 53; refine (h3 _).mono ?_; rintro r w' ⟨rfl, rfl⟩)
        go_roundw
        case rel => exact ⟨k + 1, by omega, by go_num, by rw [HT.out], HB2.out⟩
        case measure => simp [intOf]; omega
    · obtain rfl : k = l.length := by omega
      have hdk : decide ((l.length : Int) < (l.length : Int)) = false := by simp
      rw [List.take_length]
      clear h1
      go_wp2_with (go_at_call 54; refine (h2 _).mono ?_; rintro r w' ⟨rfl, hb'⟩)
      go_ret
      exact ⟨rfl, by first | exact HB.out | exact HB.out.trans (hb'.mono HB.out.size)⟩
end Go.Proofs.YtpimbpfefhkojabGreatDoor
