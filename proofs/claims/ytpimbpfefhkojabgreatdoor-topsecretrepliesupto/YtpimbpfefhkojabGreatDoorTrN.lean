/- Contracts: the document's Stand and Card. -/
import Derived.Test.YtpimbpfefhkojabGreatDoorTrJ2
namespace Go.Proofs.YtpimbpfefhkojabGreatDoor
open Go.RowKit
open Rt (Ky zK kcs KyAt pcs PaAt)
open Rs (En zE rcs RoAt EnAt tkn fnd)
set_option linter.unusedVariables false
set_option linter.unusedSimpArgs false

set_option maxRecDepth 100000 in
set_option maxHeartbeats 2000000 in
theorem rStand_any (t : Tr) (x : Int) (w : World) : Calls Tryz.prog 20 #[.agg (tcs t), .int .i64 x] w fun e w' => e = StandA t x ∧ Below w.heap.size w w' := by
  have hS := SM.new w t
  have h1 := rCheck_any t
  have h2 := fun s => rPathOf_any t s
  have h4 := Rs.rFind_any t.ro x
  obtain ⟨ct, hct⟩ : ∃ c, tcs t = c := ⟨_, rfl⟩
  obtain ⟨cr, hcr⟩ : ∃ c, rcs t.ro = c := ⟨_, rfl⟩
  simp only [hct] at h1 h2
  simp only [hcr] at h4
  have HT : Hid (tcs t = ct) := hct
  have HR : Hid (rcs t.ro = cr) := hcr
  clear hct hcr
  unfold zM at hS
  go_enter Tryz.func20, Tryz.ntmps20
  go_upto_region 1 with (fail)
  generalize (w.alloc (.cells (tcs t) 47)).alloc (.cells #[.int .i64 0, .int .i64 0, .int .i64 0, .int .i64 0, .int .i64 0, .int .i64 0, .int .i64 0, .int .i64 0, .int .i64 0, .int .i64 0, .int .i64 0, .bool false, .bool false, .int .i64 0] 74) = w1 at *
  rw [HT.out]
  have hT1 := hS.tr
  obtain ⟨K, hK⟩ : ∃ K, w.heap.size + 1 = K := ⟨_, rfl⟩
  rw [hK] at hS ⊢
  obtain ⟨B, hB⟩ : ∃ B, w.heap.size = B := ⟨_, rfl⟩
  rw [hB] at hS hT1 ⊢
  clear hK hB
  go_wp2_with (refine rdT hT1 HT.out _ rfl rfl rfl ?_)
  refine (h1 _).mono ?_
  rintro r w2 ⟨rfl, hb2⟩
  have hS2 := hS.later hb2
  clear h1 hS hT1 hb2
  cases hck : tck t with
  | false =>
    rw [tckE_ff hck]
    go_wp2_with (refine stRow infoMb (cs := mcs 0 0 0 zK zK zK zK false) rfl hS2.mb (mcs 0 0 0 zK zK zK zK false) rfl (mcs_one _ _ _ _ _ _ _ _) rfl _ _ rfl rfl rfl ?_)
    refine bodyPost_ret (resRow (p := 4) (t := 5) rfl _ _ K (mcs 0 0 0 zK zK zK zK false) rfl (MbAt.row hS2.mb 0 0 0 zK zK zK zK false).var) rfl ?_
    exact ⟨StandA.no (caE_bad hck) (by decide), Rt.setRow_below hS2.ge hS2.bel _⟩
  | true =>
    rw [tckE_tt hck]
    have hT2 := hS2.tr
    go_wp2_with (refine rdR hT2 HR.out _ rfl rfl rfl ?_)
    refine (h4 _).mono ?_
    rintro r w3 ⟨rfl, hb3⟩
    have hS3 := hS2.later hb3
    clear h4 hS2 hT2 hb3
    rcases fnd_at t.ro x with hf | ⟨s, hs8, hf, ht, hw⟩
    · rw [hf]
      go_wp2_with (refine stRow infoMb (cs := mcs 0 0 0 zK zK zK zK false) rfl hS3.mb (mcs 0 0 0 zK zK zK zK false) rfl (mcs_one _ _ _ _ _ _ _ _) rfl _ _ rfl rfl rfl ?_)
      refine bodyPost_ret (resRow (p := 4) (t := 5) rfl _ _ K (mcs 0 0 0 zK zK zK zK false) rfl (MbAt.row hS3.mb 0 0 0 zK zK zK zK false).var) rfl ?_
      exact ⟨StandA.no (caE_off hck hf) (by decide), Rt.setRow_below hS3.ge hS3.bel _⟩
    · rw [hf]
      have hlf := Rt.rLeafAt_any (t.ro s).who (t.ro s).bas (t.ro s).snc t.ep (by have := (tck_right hck).e1; omega)
      rw [KeyA.leaf hck hs8, KeyA.is rfl (found (x := x) hck hs8 ht)] at hlf
      have h3 := h2 (s : Int)
      rw [path_lit hck hs8] at h3
      have HA := StandA.yes (x := x) hck hf
      obtain ⟨e, he⟩ : ∃ e, koK t (21 + (s : Int)) = e := ⟨_, rfl⟩
      obtain ⟨p, hp⟩ : ∃ e, t.ks (pn s 0) = e := ⟨_, rfl⟩
      obtain ⟨q, hq⟩ : ∃ e, t.ks (pn s 1) = e := ⟨_, rfl⟩
      obtain ⟨r, hr⟩ : ∃ e, t.ks (pn s 2) = e := ⟨_, rfl⟩
      rw [he, hp, hq, hr] at HA
      rw [he] at hlf
      rw [hp, hq, hr] at h3
      have HA2 : Hid (Ending.returned (.tuple #[.agg (mcs x s t.ep e p q r true), .int .i64 0]) = StandA t x) := HA
      obtain ⟨n, hn⟩ : ∃ n, t.ro s = n := ⟨_, rfl⟩
      rw [hn] at hlf
      have HE : Hid (t.ro s = n) := hn
      clear HA he hp hq hr hn hw ht hf h2 hck
      have s2 : decide ((s : Int) < 0) = false := decide_eq_false (by omega)
      go_upto_region 6 with (fail)
      go_cut [7, 8] (fun s7 s8 wx => ∃ A, s7 = .pointer (some ⟨A, 0, none⟩) ∧ s8 = .int .i64 0 ∧ SM w wx B K t ∧ KyAt wx A e)
      case first =>
        have hS0 : SM w w3.drew B K t := hS3.later (drew_below _)
        have hB3 : B ≠ w3.heap.size := Nat.ne_of_lt hS3.tr.lt
        have hK3 : K ≠ w3.heap.size := Nat.ne_of_lt (Array.getElem?_eq_some_iff.1 hS3.mb).1
        have hW3 : w.heap.size ≤ w3.heap.size := hS3.bel.size
        have HN : Hid (B ≠ w3.heap.size ∧ K ≠ w3.heap.size ∧ w.heap.size ≤ w3.heap.size) := ⟨hB3, hK3, hW3⟩
        clear hS3 s2 hB3 hK3 hW3
        have s0 : (0 : Int) ≤ (s : Int) := by omega
        have s1 : (s : Int) < 64 := by omega
        refine wp_region_held_drew (S := fun W => SM w W B K t) (by kernel_rfl) hS0 (fun hHeld => ?_)
        refine wpAnyH_take (i := 0) (oi := { dst := some 23, op := Op.move (Operand.tmp 6), type := _, pos := _, after := _, guard := none }) (v := .int .i64 (s : Int)) rfl (by kernel_rfl) (by kernel_rfl) (by kernel_rfl) (fun _ _ _ h => h) (Or.inl ⟨by rfl, fun w hSw => by (try dsimp only at hSw); go_simp⟩) (by assumption) ?_
        simp only [Act.put, List.setIfInBounds_toArray, List.set_cons_zero, List.set_cons_succ]
        refine wpAnyH_take (i := 1) (oi := { dst := some 24, op := Op.fieldAddr 47 (Operand.tmp 2) 3, type := _, pos := _, after := _, guard := none }) (v := .pointer (some ⟨B, 44, none⟩)) rfl (by kernel_rfl) (by kernel_rfl) (by kernel_rfl) (fun _ _ _ h => h) (Or.inl ⟨by rfl, fun w hSw => by (try dsimp only at hSw); go_simp⟩) (by assumption) ?_
        simp only [Act.put, List.setIfInBounds_toArray, List.set_cons_zero, List.set_cons_succ]
        refine wpAnyH_take (i := 2) (oi := { dst := some 25, op := Op.indexAddr 45 (Operand.tmp 24) (Operand.tmp 23), type := _, pos := _, after := _, guard := none }) (v := .pointer (some ⟨B, 44 + s * 3, none⟩)) rfl (by kernel_rfl) (by kernel_rfl) (by kernel_rfl) (fun _ _ _ h => h) (Or.inl ⟨by rfl, fun w hSw => by (try dsimp only at hSw); go_simp⟩) (by assumption) ?_
        simp only [Act.put, List.setIfInBounds_toArray, List.set_cons_zero, List.set_cons_succ]
        refine wpAnyH_take (i := 3) (oi := { dst := some 26, op := Op.load 43 (Operand.tmp 25), type := _, pos := _, after := _, guard := none }) (v := .agg #[.int .i64 n.who, .int .i64 n.bas, .int .i64 n.snc]) rfl (by kernel_rfl) (by kernel_rfl) (by kernel_rfl) (fun _ _ _ h => h) (Or.inl ⟨by rfl, fun w hSw => by obtain ⟨c0, c1, c2⟩ := hSw.tr.ent s hs8; rw [HE.out] at c0 c1 c2; clear hSw; go_simp⟩) (by assumption) ?_
        simp only [Act.put, List.setIfInBounds_toArray, List.set_cons_zero, List.set_cons_succ]
        refine wpAnyH_take (i := 4) (oi := { dst := some 27, op := Op.fieldAddr 47 (Operand.tmp 2) 0, type := _, pos := _, after := _, guard := none }) (v := .pointer (some ⟨B, 0, none⟩)) rfl (by kernel_rfl) (by kernel_rfl) (by kernel_rfl) (fun _ _ _ h => h) (Or.inl ⟨by rfl, fun w hSw => by (try dsimp only at hSw); go_simp⟩) (by assumption) ?_
        simp only [Act.put, List.setIfInBounds_toArray, List.set_cons_zero, List.set_cons_succ]
        refine wpAnyH_take (i := 5) (oi := { dst := some 28, op := Op.load 3 (Operand.tmp 27), type := _, pos := _, after := _, guard := none }) (v := .int .i64 t.ep) rfl (by kernel_rfl) (by kernel_rfl) (by kernel_rfl) (fun _ _ _ h => h) (Or.inl ⟨by rfl, fun w hSw => by obtain ⟨c0, c1⟩ := hSw.tr.cells; clear hSw; go_simp⟩) (by assumption) ?_
        simp only [Act.put, List.setIfInBounds_toArray, List.set_cons_zero, List.set_cons_succ]
        refine wpAnyH_ready (rs := [6, 10]) (by kernel_rfl) (by simp) ?_
        refine (AllReadyH.cons rfl (fun K hK => ?_) (AllReadyH.cons rfl (fun K hK => ?_) AllReadyH.nil))
        · go_simp
          refine (hlf _).mono ?_
          rintro r w5 ⟨rfl, hb5⟩
          go_wp2_with fail
          refine hK.out _ _ (hHeld.later hb5) (fun hHd1 => ?_)
          clear hHeld hb5
          clear hK K
          try simp only [Act.put, List.setIfInBounds_toArray, List.set_cons_zero, List.set_cons_succ]
          refine wpAnyH_take (i := 7) (oi := { dst := some 22, op := Op.move (Operand.tmp 29), type := _, pos := _, after := _, guard := none }) (v := .tuple #[.agg #[.int .i64 e.bas, .int .i64 e.stp], .int .i64 0]) rfl (by kernel_rfl) (by kernel_rfl) (by kernel_rfl) (fun _ _ _ h => h) (Or.inl ⟨by rfl, fun w hSw => by (try dsimp only at hSw); go_simp⟩) (by assumption) ?_
          simp only [Act.put, List.setIfInBounds_toArray, List.set_cons_zero, List.set_cons_succ]
          refine wpAnyH_take (i := 8) (oi := { dst := some 30, op := Op.extract (Operand.tmp 22) 0, type := _, pos := _, after := _, guard := none }) (v := .agg #[.int .i64 e.bas, .int .i64 e.stp]) rfl (by kernel_rfl) (by kernel_rfl) (by kernel_rfl) (fun _ _ _ h => h) (Or.inl ⟨by rfl, fun w hSw => by (try dsimp only at hSw); go_simp⟩) (by assumption) ?_
          simp only [Act.put, List.setIfInBounds_toArray, List.set_cons_zero, List.set_cons_succ]
          refine wpAnyH_take (i := 9) (oi := { dst := some 31, op := Op.extract (Operand.tmp 22) 1, type := _, pos := _, after := _, guard := none }) (v := .int .i64 0) rfl (by kernel_rfl) (by kernel_rfl) (by kernel_rfl) (fun _ _ _ h => h) (Or.inl ⟨by rfl, fun w hSw => by (try dsimp only at hSw); go_simp⟩) (by assumption) ?_
          simp only [Act.put, List.setIfInBounds_toArray, List.set_cons_zero, List.set_cons_succ]
          refine wpAnyH_ready (rs := [10]) (by kernel_rfl) (by simp) ?_
          refine AllReadyH.cons rfl (fun K hK => ?_) AllReadyH.nil
          go_simp
          have hpre := hHd1
          refine hK.out _ _ (hHd1.later (below_alloc _ _)) (fun hHd2 => ?_)
          clear hK K
          try simp only [Act.put, List.setIfInBounds_toArray, List.set_cons_zero, List.set_cons_succ]
          refine wpAnyH_ready (rs := [11]) (by kernel_rfl) (by simp) ?_
          refine AllReadyH.cons rfl (fun K hK => ?_) AllReadyH.nil
          go_simp
          first | (refine hK.out _ _ (hpre.later (below_alloc _ _)) (fun hHd3 => ?_); have hkyZ := KyAt.new w5 e) | (refine hK.out _ _ (hHd2.two HN.out.1 HN.out.2.1 HN.out.2.2 _ _) (fun hHd3 => ?_); have hkyZ := KyAt.set hky2 e.bas e.stp)
          clear hK K
          try simp only [Act.put, List.setIfInBounds_toArray, List.set_cons_zero, List.set_cons_succ]
          refine wpAnyH_take (i := 12) (oi := { dst := some 8, op := Op.assign (Operand.tmp 31), type := _, pos := _, after := _, guard := none }) (v := .int .i64 0) rfl (by kernel_rfl) (by kernel_rfl) (by kernel_rfl) (fun _ _ _ h => h) (Or.inl ⟨by rfl, fun w hSw => by (try dsimp only at hSw); go_simp⟩) (by assumption) ?_
          simp only [Act.put, List.setIfInBounds_toArray, List.set_cons_zero, List.set_cons_succ]
          refine wpAnyH_done (by kernel_rfl) ?_ _
          go_wp2_with fail
          go_meet
          case rel => exact ⟨_, rfl, rfl, hHd3, hkyZ⟩
        · go_simp
          have hky : KyAt (w3.drew.alloc (.cells #[.int .i64 0, .int .i64 0] 31)) w3.heap.size zK := KyAt.new w3.drew zK
          refine hK.out _ _ (hHeld.later (below_alloc _ _)) (fun hHd1 => ?_)
          clear hHeld
          clear hK K
          try simp only [Act.put, List.setIfInBounds_toArray, List.set_cons_zero, List.set_cons_succ]
          refine wpAnyH_ready (rs := [6]) (by kernel_rfl) (by simp) ?_
          refine AllReadyH.cons rfl (fun K hK => ?_) AllReadyH.nil
          go_simp
          refine (hlf _).mono ?_
          rintro r w5 ⟨rfl, hb5⟩
          go_wp2_with fail
          have hky2 := hky.later hb5
          obtain ⟨k0, k1⟩ := hky2.cells
          have f0 := Rt.row_frozen hky2 0
          have f1 := Rt.row_frozen hky2 1
          refine hK.out _ _ (hHd1.later hb5) (fun hHd2 => ?_)
          clear hHd1 hb5 hky
          clear hK K
          try simp only [Act.put, List.setIfInBounds_toArray, List.set_cons_zero, List.set_cons_succ]
          refine wpAnyH_take (i := 7) (oi := { dst := some 22, op := Op.move (Operand.tmp 29), type := _, pos := _, after := _, guard := none }) (v := .tuple #[.agg #[.int .i64 e.bas, .int .i64 e.stp], .int .i64 0]) rfl (by kernel_rfl) (by kernel_rfl) (by kernel_rfl) (fun _ _ _ h => h) (Or.inl ⟨by rfl, fun w hSw => by (try dsimp only at hSw); go_simp⟩) (by assumption) ?_
          simp only [Act.put, List.setIfInBounds_toArray, List.set_cons_zero, List.set_cons_succ]
          refine wpAnyH_take (i := 8) (oi := { dst := some 30, op := Op.extract (Operand.tmp 22) 0, type := _, pos := _, after := _, guard := none }) (v := .agg #[.int .i64 e.bas, .int .i64 e.stp]) rfl (by kernel_rfl) (by kernel_rfl) (by kernel_rfl) (fun _ _ _ h => h) (Or.inl ⟨by rfl, fun w hSw => by (try dsimp only at hSw); go_simp⟩) (by assumption) ?_
          simp only [Act.put, List.setIfInBounds_toArray, List.set_cons_zero, List.set_cons_succ]
          refine wpAnyH_take (i := 9) (oi := { dst := some 31, op := Op.extract (Operand.tmp 22) 1, type := _, pos := _, after := _, guard := none }) (v := .int .i64 0) rfl (by kernel_rfl) (by kernel_rfl) (by kernel_rfl) (fun _ _ _ h => h) (Or.inl ⟨by rfl, fun w hSw => by (try dsimp only at hSw); go_simp⟩) (by assumption) ?_
          simp only [Act.put, List.setIfInBounds_toArray, List.set_cons_zero, List.set_cons_succ]
          refine wpAnyH_ready (rs := [11]) (by kernel_rfl) (by simp) ?_
          refine AllReadyH.cons rfl (fun K hK => ?_) AllReadyH.nil
          go_simp
          first | (refine hK.out _ _ (hpre.later (below_alloc _ _)) (fun hHd3 => ?_); have hkyZ := KyAt.new w5 e) | (refine hK.out _ _ (hHd2.two HN.out.1 HN.out.2.1 HN.out.2.2 _ _) (fun hHd3 => ?_); have hkyZ := KyAt.set hky2 e.bas e.stp)
          clear hK K
          try simp only [Act.put, List.setIfInBounds_toArray, List.set_cons_zero, List.set_cons_succ]
          refine wpAnyH_take (i := 12) (oi := { dst := some 8, op := Op.assign (Operand.tmp 31), type := _, pos := _, after := _, guard := none }) (v := .int .i64 0) rfl (by kernel_rfl) (by kernel_rfl) (by kernel_rfl) (fun _ _ _ h => h) (Or.inl ⟨by rfl, fun w hSw => by (try dsimp only at hSw); go_simp⟩) (by assumption) ?_
          simp only [Act.put, List.setIfInBounds_toArray, List.set_cons_zero, List.set_cons_succ]
          refine wpAnyH_done (by kernel_rfl) ?_ _
          go_wp2_with fail
          go_meet
          case rel => exact ⟨_, rfl, rfl, hHd3, hkyZ⟩
      case rest =>
        obtain ⟨A, rfl, rfl, hS9, hky9⟩ := hcut
        have hT9 := hS9.tr
        go_wp2_with (refine rdT hT9 HT.out _ rfl rfl rfl ?_)
        refine (h3 _).mono ?_
        rintro r2 w4 ⟨rfl, hb4⟩
        have hb5 := hb4.trans ((below_alloc w4 (.cells (p6 p q r) 72)).mono hb4.size)
        have hS5 := hS9.later hb5
        have hC5 := hky9.later hb5
        have hP5 : P6At (w4.alloc (.cells (p6 p q r) 72)) w4.heap.size p q r := heap_alloc_last w4 _
        unfold p6 at hS5 hC5 hP5
        clear h3 hS9 hky9 hT9 hb4 hb5
        go_upto_region 8 with (fail)
        generalize w4.alloc (.cells #[.int .i64 p.bas, .int .i64 p.stp, .int .i64 q.bas, .int .i64 q.stp, .int .i64 r.bas, .int .i64 r.stp] 72) = w6 at *
        generalize w4.heap.size = P at *
        obtain ⟨c0, c1⟩ := hC5.cells
        obtain ⟨e0, e1⟩ := hS5.tr.cells
        obtain ⟨p0, p1, p2, p3, p4, p5⟩ := hP5.cells
        go_wp2_with (refine stRow infoMb (cs := mcs 0 0 0 zK zK zK zK false) rfl hS5.mb (mcs x s t.ep e p q r true) rfl (mcs_one _ _ _ _ _ _ _ _) rfl _ _ rfl rfl rfl ?_)
        refine bodyPost_ret (resRow (p := 4) (t := 5) rfl _ _ K (mcs x s t.ep e p q r true) rfl (MbAt.row hS5.mb x s t.ep e p q r true).var) rfl ?_
        exact ⟨HA2.out, Rt.setRow_below hS5.ge hS5.bel _⟩
end Go.Proofs.YtpimbpfefhkojabGreatDoor
