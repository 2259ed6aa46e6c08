/- Contracts: the document's KeyOf; Group. -/
import Derived.Test.YtpkfpckljpffgaaTrE
import Derived.Test.YtpkfpckljpffgaaShpC
namespace Go.Proofs.Ytpkfpckljpffgaa
open Go.RowKit
open Rt (Ky zK kcs KsAt KyAt lfE lfB lfS)
open Rs (En zE rcs RoAt EnAt tkn)
set_option linter.unusedVariables false
set_option linter.unusedSimpArgs false

theorem KeyA.is {t : Tr} {v : Int} {e : Ky} {E : Int} (he : koK t v = e) (hE : koE t v = E) : KeyA t v = Ending.returned (.tuple #[.agg #[.int .i64 e.bas, .int .i64 e.stp], .int .i64 E]) := by unfold KeyA; rw [he, hE]
set_option maxRecDepth 100000 in
set_option maxHeartbeats 1000000 in
theorem rOf_any (t : Tr) (hck : tck t = true) (v : Int) (w : World) : Calls Try.prog 37 #[.agg (tcs t), .int .i64 v] w fun e w' => e = KeyA t v ∧ Below w.heap.size w w' := by
  have hS2 := SK.new w t
  obtain ⟨ct, hct⟩ : ∃ c, tcs t = c := ⟨_, rfl⟩
  have HT : Hid (tcs t = ct) := hct
  clear hct
  go_enter Try.func37, Try.ntmps37
  go_upto_region 1 with (fail)
  generalize (w.alloc (.cells (tcs t) 31)).alloc (.cells #[.int .i64 0, .int .i64 0] 23) = w2 at *
  rw [HT.out]
  obtain ⟨K, hK⟩ : ∃ K, w.heap.size + 1 = K := ⟨_, rfl⟩
  rw [hK] at hS2 ⊢
  obtain ⟨B, hB⟩ : ∃ B, w.heap.size = B := ⟨_, rfl⟩
  rw [hB] at hS2 ⊢
  clear hK hB
  obtain ⟨k, hk⟩ := hS2.ky
  rcases node_cases v with ⟨hv, hv2⟩ | ⟨n, rfl, hn⟩ | ⟨s, rfl, hs8⟩
  · have hl := Sh.rNode_no v hv2
    clear hv2
    go_wp2_with (first | (go_at_call 59; refine (hl _).mono ?_; rintro r w2 ⟨rfl, rfl⟩) | (refine stKy hk zK rfl _ _ rfl rfl rfl ?_))
    refine bodyPost_ret (results_ky2 (p := 4) (t := 5) rfl _ _ K zK rfl (KyAt.row hk _)) rfl ?_
    exact ⟨KeyA.no (koE_node hck hv) (by decide), Rt.setRow_below hS2.ge hS2.bel _⟩
  · have hl := Sh.rNode_yes (n : Int) (by omega) (by omega)
    have n0 : (0 : Int) ≤ (n : Int) := by omega
    have n1 : (n : Int) < 21 := by omega
    obtain ⟨c0, c1⟩ := hS2.tr.key n hn
    have HA := KeyA.inner (koE_inner (v := (n : Int)) hck n0 n1) hn
    obtain ⟨e, he⟩ : ∃ e, t.ks n = e := ⟨_, rfl⟩
    rw [he] at c0 c1 HA
    have HA2 : Hid (Ending.returned (.tuple #[.agg #[.int .i64 e.bas, .int .i64 e.stp], .int .i64 0]) = KeyA t (n : Int)) := HA
    clear he HA
    go_wp2_with (first | (go_at_call 59; refine (hl _).mono ?_; rintro r w2 ⟨rfl, rfl⟩) | (refine stKy hk e rfl _ _ rfl rfl rfl ?_))
    refine bodyPost_ret (results_ky2 (p := 4) (t := 5) rfl _ _ K e rfl (KyAt.row hk _)) rfl ?_
    exact ⟨HA2.out, Rt.setRow_below hS2.ge hS2.bel _⟩
  · have hl := Sh.rNode_yes (21 + (s : Int)) (by omega) (by omega)
    have hlf := Rt.rLeafAt_any (t.ro s).who (t.ro s).bas (t.ro s).snc t.ep (by have := (tck_right hck).e1; omega)
    have HA : Rt.LeafA (t.ro s).bas (t.ro s).snc t.ep = KeyA t (21 + (s : Int)) := KeyA.leaf hck hs8
    unfold Rt.LeafA at hlf HA
    obtain ⟨X, hX⟩ : ∃ X, lfB (t.ro s).bas (t.ro s).snc t.ep = X := ⟨_, rfl⟩
    obtain ⟨Y, hY⟩ : ∃ Y, lfS (t.ro s).bas (t.ro s).snc t.ep = Y := ⟨_, rfl⟩
    obtain ⟨E, hE⟩ : ∃ E, lfE (t.ro s).bas (t.ro s).snc t.ep = E := ⟨_, rfl⟩
    simp only [hX, hY, hE] at hlf HA
    have HA2 : Hid (Ending.returned (.tuple #[.agg #[.int .i64 X, .int .i64 Y], .int .i64 E]) = KeyA t (21 + (s : Int))) := HA
    clear HA hX hY hE hk
    have v0 : decide (21 + (s : Int) < 21) = false := decide_eq_false (by omega)
    have v1 : IntKind.i64.wrap (21 + (s : Int) - 21) = (s : Int) := by rw [show 21 + (s : Int) - 21 = (s : Int) by omega]; exact Rt.i64_fit _ (by omega) (by omega)
    obtain ⟨v, hv⟩ : ∃ v, 21 + (s : Int) = v := ⟨_, rfl⟩
    rw [hv] at hl v0 v1 ⊢
    clear hv
    go_upto_region 5 with (go_at_call 59; refine (hl _).mono ?_; rintro r w2 ⟨rfl, rfl⟩)
    have hS0 : SK w w2.drew B K t := hS2.later (drew_below _)
    clear hS2 hl v0
    have s0 : (0 : Int) ≤ (s : Int) := by omega
    have s1 : (s : Int) < 64 := by omega
    obtain ⟨e, he⟩ : ∃ e, t.ro s = e := ⟨_, rfl⟩
    rw [he] at hlf
    have HE : Hid (t.ro s = e) := he
    clear he
    refine wp_region_held_drew (S := fun W => SK w W B K t) (by kernel_rfl) hS0 (fun hHeld => ?_)
    refine wpAnyH_take (i := 0) (oi := { dst := some 16, op := Op.move (Operand.tmp 1), type := _, pos := _, after := _, guard := none }) (v := .int .i64 v) rfl (by kernel_rfl) (by kernel_rfl) (by kernel_rfl) (fun _ _ _ h => h) (Or.inl ⟨by rfl, fun w hSw => by (try dsimp only at hSw); go_simp⟩) (by assumption) ?_
    simp only [Act.put, List.setIfInBounds_toArray, List.set_cons_zero, List.set_cons_succ]
    refine wpAnyH_take (i := 1) (oi := { dst := some 17, op := Op.binOp BinOp.sub 3 (Operand.tmp 16) (Operand.const (Value.int IntKind.i64 21)) 3, type := _, pos := _, after := _, guard := none }) (v := .int .i64 (s : Int)) rfl (by kernel_rfl) (by kernel_rfl) (by kernel_rfl) (fun _ _ _ h => h) (Or.inl ⟨by rfl, fun w hSw => by (try dsimp only at hSw); go_simp⟩) (by assumption) ?_
    simp only [Act.put, List.setIfInBounds_toArray, List.set_cons_zero, List.set_cons_succ]
    refine wpAnyH_take (i := 2) (oi := { dst := some 18, op := Op.fieldAddr 31 (Operand.tmp 2) 3, type := _, pos := _, after := _, guard := none }) (v := .pointer (some ⟨B, 44, none⟩)) rfl (by kernel_rfl) (by kernel_rfl) (by kernel_rfl) (fun _ _ _ h => h) (Or.inl ⟨by rfl, fun w hSw => by (try dsimp only at hSw); go_simp⟩) (by assumption) ?_
    simp only [Act.put, List.setIfInBounds_toArray, List.set_cons_zero, List.set_cons_succ]
    refine wpAnyH_take (i := 3) (oi := { dst := some 19, op := Op.indexAddr 29 (Operand.tmp 18) (Operand.tmp 17), type := _, pos := _, after := _, guard := none }) (v := .pointer (some ⟨B, 44 + s * 3, none⟩)) rfl (by kernel_rfl) (by kernel_rfl) (by kernel_rfl) (fun _ _ _ h => h) (Or.inl ⟨by rfl, fun w hSw => by (try dsimp only at hSw); go_simp⟩) (by assumption) ?_
    simp only [Act.put, List.setIfInBounds_toArray, List.set_cons_zero, List.set_cons_succ]
    refine wpAnyH_take (i := 4) (oi := { dst := some 20, op := Op.load 27 (Operand.tmp 19), type := _, pos := _, after := _, guard := none }) (v := .agg #[.int .i64 e.who, .int .i64 e.bas, .int .i64 e.snc]) rfl (by kernel_rfl) (by kernel_rfl) (by kernel_rfl) (fun _ _ _ h => h) (Or.inl ⟨by rfl, fun w hSw => by obtain ⟨c0, c1, c2⟩ := hSw.tr.ent s hs8; rw [HE.out] at c0 c1 c2; clear hSw; go_simp⟩) (by assumption) ?_
    simp only [Act.put, List.setIfInBounds_toArray, List.set_cons_zero, List.set_cons_succ]
    refine wpAnyH_take (i := 5) (oi := { dst := some 21, op := Op.fieldAddr 31 (Operand.tmp 2) 0, type := _, pos := _, after := _, guard := none }) (v := .pointer (some ⟨B, 0, none⟩)) rfl (by kernel_rfl) (by kernel_rfl) (by kernel_rfl) (fun _ _ _ h => h) (Or.inl ⟨by rfl, fun w hSw => by (try dsimp only at hSw); go_simp⟩) (by assumption) ?_
    simp only [Act.put, List.setIfInBounds_toArray, List.set_cons_zero, List.set_cons_succ]
    refine wpAnyH_take (i := 6) (oi := { dst := some 22, op := Op.load 3 (Operand.tmp 21), type := _, pos := _, after := _, guard := none }) (v := .int .i64 t.ep) rfl (by kernel_rfl) (by kernel_rfl) (by kernel_rfl) (fun _ _ _ h => h) (Or.inl ⟨by rfl, fun w hSw => by obtain ⟨c0, c1⟩ := hSw.tr.cells; clear hSw; go_simp⟩) (by assumption) ?_
    simp only [Act.put, List.setIfInBounds_toArray, List.set_cons_zero, List.set_cons_succ]
    refine wpAnyH_ready (rs := [7]) (by kernel_rfl) (by simp) ?_
    refine AllReadyH.cons rfl (fun K hK => ?_) AllReadyH.nil
    go_simp
    refine (hlf _).mono ?_
    rintro r w3 ⟨rfl, hb3⟩
    go_wp2_with fail
    refine hK.out _ _ (hHeld.later hb3) (fun hHeld2 => ?_)
    obtain ⟨k3, hk3⟩ := hHeld2.ky
    obtain ⟨k0, k1⟩ := hk3.cells
    have f0 := Rt.row_frozen hk3 0
    have f1 := Rt.row_frozen hk3 1
    clear hHeld hb3
    clear hK K
    try simp only [Act.put, List.setIfInBounds_toArray, List.set_cons_zero, List.set_cons_succ]
    refine wpAnyH_take (i := 8) (oi := { dst := some 24, op := Op.extract (Operand.tmp 23) 0, type := _, pos := _, after := _, guard := none }) (v := .agg #[.int .i64 X, .int .i64 Y]) rfl (by kernel_rfl) (by kernel_rfl) (by kernel_rfl) (fun _ _ _ h => h) (Or.inl ⟨by rfl, fun w hSw => by (try dsimp only at hSw); go_simp⟩) (by assumption) ?_
    simp only [Act.put, List.setIfInBounds_toArray, List.set_cons_zero, List.set_cons_succ]
    refine wpAnyH_take (i := 9) (oi := { dst := some 25, op := Op.extract (Operand.tmp 23) 1, type := _, pos := _, after := _, guard := none }) (v := .int .i64 E) rfl (by kernel_rfl) (by kernel_rfl) (by kernel_rfl) (fun _ _ _ h => h) (Or.inl ⟨by rfl, fun w hSw => by (try dsimp only at hSw); go_simp⟩) (by assumption) ?_
    simp only [Act.put, List.setIfInBounds_toArray, List.set_cons_zero, List.set_cons_succ]
    refine wpAnyH_ready (rs := [10]) (by kernel_rfl) (by simp) ?_
    refine AllReadyH.cons rfl (fun K hK => ?_) AllReadyH.nil
    go_simp
    refine hK.out _ _ (hHeld2.set X Y) (fun hHeld3 => ?_)
    clear hK K
    try simp only [Act.put, List.setIfInBounds_toArray, List.set_cons_zero, List.set_cons_succ]
    refine wpAnyH_take (i := 11) (oi := { dst := some 5, op := Op.assign (Operand.tmp 25), type := _, pos := _, after := _, guard := none }) (v := .int .i64 E) rfl (by kernel_rfl) (by kernel_rfl) (by kernel_rfl) (fun _ _ _ h => h) (Or.inl ⟨by rfl, fun w hSw => by (try dsimp only at hSw); go_simp⟩) (by assumption) ?_
    simp only [Act.put, List.setIfInBounds_toArray, List.set_cons_zero, List.set_cons_succ]
    refine wpAnyH_done (by kernel_rfl) ?_ _
    go_wp2_with fail
    refine bodyPost_ret (results_ky2 (p := 4) (t := 5) rfl _ _ K ⟨X, Y⟩ rfl (KyAt.set hk3 _ _)) rfl ?_
    exact ⟨HA2.out, hHeld3.bel⟩
set_option maxRecDepth 100000 in
set_option maxHeartbeats 1000000 in
theorem rKeyOf_any (t : Tr) (v : Int) (w : World) : Calls Try.prog 13 #[.agg (tcs t), .int .i64 v] w fun e w' => e = KeyA t v ∧ Below w.heap.size w w' := by
  have hS := SK.new w t
  have h1 := rCheck_any t
  have h2 := fun h => rOf_any t h v
  unfold KeyA at h2
  obtain ⟨ct, hct⟩ : ∃ c, tcs t = c := ⟨_, rfl⟩
  simp only [hct] at h1 h2
  have HT : Hid (tcs t = ct) := hct
  clear hct
  go_enter Try.func13, Try.ntmps13
  go_upto_region 1 with (fail)
  generalize (w.alloc (.cells (tcs t) 31)).alloc (.cells #[.int .i64 0, .int .i64 0] 23) = w1 at *
  rw [HT.out]
  have hT1 := hS.tr
  obtain ⟨K, hK⟩ : ∃ K, w.heap.size + 1 = K := ⟨_, rfl⟩
  rw [hK] at hS ⊢
  obtain ⟨B, hB⟩ : ∃ B, w.heap.size = B := ⟨_, rfl⟩
  rw [hB] at hS hT1 ⊢
  clear hK hB
  go_wp2_with (refine rdT hT1 HT.out _ rfl rfl rfl ?_)
  refine (h1 _).mono ?_
  rintro r w2 ⟨rfl, hb2⟩
  have hS2 := hS.later hb2
  clear h1 hS hT1 hb2
  obtain ⟨k, hk⟩ := hS2.ky
  cases hck : tck t with
  | false =>
    rw [tckE_ff hck]
    go_wp2_with (refine stKy hk zK rfl _ _ rfl rfl rfl ?_)
    refine bodyPost_ret (results_ky2 (p := 4) (t := 5) rfl _ _ K zK rfl (KyAt.row hk _)) rfl ?_
    exact ⟨KeyA.no (koE_bad hck) (by decide), Rt.setRow_below hS2.ge hS2.bel _⟩
  | true =>
    rw [tckE_tt hck]
    have h3 := h2 hck
    have hT2 := hS2.tr
    clear h2
    go_wp2_with (refine rdT hT2 HT.out _ rfl rfl rfl ?_)
    refine (h3 _).mono ?_
    rintro r w3 ⟨rfl, hb3⟩
    have hS3 := hS2.later hb3
    clear h3 hT2 hb3 hS2 hk
    obtain ⟨k3, hk3⟩ := hS3.ky
    obtain ⟨e, he⟩ : ∃ e, koK t v = e := ⟨_, rfl⟩
    obtain ⟨E, hE⟩ : ∃ E, koE t v = E := ⟨_, rfl⟩
    have HA : Hid (KeyA t v = Ending.returned (.tuple #[.agg #[.int .i64 e.bas, .int .i64 e.stp], .int .i64 E])) := KeyA.is he hE
    rw [he, hE]
    clear he hE
    go_wp2_with (refine stKy hk3 e rfl _ _ rfl rfl rfl ?_)
    refine bodyPost_ret (results_ky2 (p := 4) (t := 5) rfl _ _ K e rfl (KyAt.row hk3 _)) rfl ?_
    exact ⟨HA.out.symm, Rt.setRow_below hS3.ge hS3.bel _⟩
set_option maxRecDepth 100000 in
set_option maxHeartbeats 1000000 in
theorem group_any (t : Tr) (w : World) : Calls Try.prog 16 #[.agg (tcs t)] w fun e w' => e = KeyA t 0 ∧ Below w.heap.size w w' := by
  have hS := SK.new w t
  have h1 := keyOf_any t 0
  unfold KeyA at h1
  obtain ⟨ct, hct⟩ : ∃ c, tcs t = c := ⟨_, rfl⟩
  simp only [hct] at h1
  have HT : Hid (tcs t = ct) := hct
  clear hct
  obtain ⟨e, he⟩ : ∃ e, koK t 0 = e := ⟨_, rfl⟩
  obtain ⟨E, hE⟩ : ∃ E, koE t 0 = E := ⟨_, rfl⟩
  have HA : Hid (KeyA t 0 = Ending.returned (.tuple #[.agg #[.int .i64 e.bas, .int .i64 e.stp], .int .i64 E])) := KeyA.is he hE
  simp only [he, hE] at h1
  clear he hE
  go_enter Try.func16, Try.ntmps16
  go_upto_region 1 with (fail)
  generalize (w.alloc (.cells (tcs t) 31)).alloc (.cells #[.int .i64 0, .int .i64 0] 23) = w1 at *
  rw [HT.out]
  have hT1 := hS.tr
  obtain ⟨K, hK⟩ : ∃ K, w.heap.size + 1 = K := ⟨_, rfl⟩
  rw [hK] at hS ⊢
  obtain ⟨B, hB⟩ : ∃ B, w.heap.size = B := ⟨_, rfl⟩
  rw [hB] at hS hT1 ⊢
  clear hK hB
  go_wp2_with (refine rdT hT1 HT.out _ rfl rfl rfl ?_)
  refine (h1 _).mono ?_
  rintro r w2 ⟨rfl, hb2⟩
  have hS2 := hS.later hb2
  clear h1 hS hT1 hb2
  obtain ⟨k, hk⟩ := hS2.ky
  go_wp2_with (refine stKy hk e rfl _ _ rfl rfl rfl ?_)
  refine bodyPost_ret (results_ky2 (p := 2) (t := 3) rfl _ _ K e rfl (KyAt.row hk _)) rfl ?_
  exact ⟨HA.out.symm, Rt.setRow_below hS2.ge hS2.bel _⟩
end Go.Proofs.Ytpkfpckljpffgaa
