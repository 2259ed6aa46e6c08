/- For every tree, person and text: who stands there seals the text under the tree's group key, everybody who stands there opens it, and nobody who has just a card does. No conditions. -/
import Derived.Test.YtpimbpfefhkojaaRows
import Derived.Test.YtpimbpfefhkojaaDaC
import Derived.Test.YtpimbpfefhkojaaOpenTr
import Derived.BigQuiet
import Derived.OpenShut
import Derived.SizedLaws
import Derived.ChangeMaps5
namespace Go.Proofs.Ytpimbpfefhkojaa.dataInStep
open Go.ChangeShapes Go.WideShapes Go.ChangeAt Go.RowKit Go.Maps
open Go.Proofs.Ytpimbpfefhkojaa.Mb Go.Proofs.Ytpimbpfefhkojaa.Rv
open Rt (Ky KyAt zK)
open Rs (tkn fnd)
open Wi (ldM ra_of sdl stl zD)
set_option linter.unusedVariables false
set_option linter.unusedSimpArgs false

structure IR (w W : World) (B D : Nat) (t : Tr) (d : Sd) : Prop where
  tr : TrAt W B t
  sd : DAt W D d
  bel : Below w.heap.size w W
theorem IR.later {w W W' : World} {B D : Nat} {t : Tr} {d : Sd} (h : IR w W B D t d) (hb : Below W.heap.size W W') : IR w W' B D t d := ⟨h.tr.later hb, h.sd.later hb, Wi.Below.join h.bel hb⟩
theorem key0 {w : World} {B : Nat} {t : Tr} (h : TrAt w B t) : w.rangeAt B 2 (stl (kpr2 (t.ks 0))) := fun j v hv => by
  match j, hv with
  | 0, hv => simp [stl, kpr2] at hv; subst hv; exact (h.key 0 (by omega)).1
  | 1, hv => simp [stl, kpr2] at hv; subst hv; exact (h.key 0 (by omega)).2
  | n + 2, hv => simp [stl] at hv
set_option maxHeartbeats 4000000 in
set_option maxRecDepth 100000 in
theorem walk (f0 : Tr) (a1 : Int) (s2 : ByteArray) (w1_ : (Lit.int .i64 a1).wf = true) (hl2 : s2.size ≤ 140737488351232) (w : World) :
    Calls Try.prog 5 #[.agg (tcs f0), .int .i64 a1, .string s2] w fun e w' => e = .returned (.bool true) ∧ Below w.heap.size w w' := by
  have hli := lives17_any
  have hst := stand_r f0 a1
  have hT := TrAt.new w f0
  have hB := alloc_tr w f0
  clear w1_
  obtain ⟨ct, hct⟩ : ∃ c, tcs f0 = c := ⟨_, rfl⟩
  have HT : TC f0 ct := ⟨hct⟩
  rw [hct] at hT hB hst
  rw [hct]
  clear hct
  go_enter Try.func5, Try.ntmps5
  go_upto_region 1 with (fail)
  generalize w.alloc (.cells ct 45) = w1 at *
  have HB1 : Hid (Below w.heap.size w w1) := hB
  clear hB
  obtain ⟨B, hBe⟩ : ∃ B, w.heap.size = B := ⟨_, rfl⟩
  rw [hBe] at hT ⊢
  clear hBe
  go_wp2_with fail
  refine (hli _).mono ?_
  rintro r w2 ⟨rfl, hb2⟩
  have hT2 := hT.later hb2
  have HB2 : Hid (Below w.heap.size w w2) := Wi.Below.join HB1.out hb2
  clear hb2 hli hT HB1
  obtain ⟨m, hm⟩ : ∃ m, Mb.stM f0 a1 = m := ⟨_, rfl⟩
  have HM : Hid (Mb.stM f0 a1 = m) := hm
  rw [hm] at hst
  clear hm
  obtain ⟨cm, hcm⟩ : ∃ c, mba m = c := ⟨_, rfl⟩
  have HC : MC m cm := ⟨hcm⟩
  rw [hcm] at hst
  clear hcm
  obtain ⟨ce, hce⟩ : ∃ c, caE f0 a1 = c := ⟨_, rfl⟩
  have HCE : Hid (caE f0 a1 = ce) := hce
  rw [hce] at hst
  clear hce
  go_wp2_with (refine rdT hT2 HT.out _ rfl rfl rfl ?_)
  refine (hst _).mono ?_
  rintro r w3 ⟨rfl, hb3⟩
  have hb4 := Wi.Below.join hb3 (below_alloc w3 (.cells (mba m) 27))
  have hM4 := MA.new w3 m
  have hT4 := hT2.later hb4
  have HB4 : Hid (Below w.heap.size w (w3.alloc (.cells (mba m) 27))) := Wi.Below.join HB2.out hb4
  rw [HC.out] at hM4 hT4 HB4
  clear hb3 hb4 hT2 HB2 hst
  go_upto_region 4 with (refine stMn (w := w3) HC.out rfl _ _ rfl rfl rfl ?_)
  generalize w3.alloc (.cells cm 27) = w4 at *
  generalize w3.heap.size = M at *
  by_cases h0 : ce = 0
  rotate_left
  · have d0 : (ce != 0) = true := by simpa using h0
    clear h0 hT4 hM4
    go_wp2_with fail
    go_ret
    exact ⟨rfl, HB4.out⟩
  subst h0
  obtain ⟨htk, s, hs, _, hkk, hwx, hsm⟩ := on_at HCE.out
  have HFA : Hid (tck f0 = true ∧ s < 64 ∧ tkn (f0.ro s) = true) := ⟨htk, hs, hkk⟩
  obtain rfl : m = atS f0 s 0 := HM.out.symm.trans hsm
  have hse := fun W => seal_any (atS f0 s 0) s2 W (by omega)
  unfold SlA at hse
  rw [HC.out] at hse
  obtain ⟨n, hn⟩ : ∃ n, s2.size = n := ⟨_, rfl⟩
  have HNN : Hid (s2.size = n) := hn
  clear htk hs hkk hwx hsm HM HCE
  by_cases h64 : n ≤ 64
  rotate_left
  · have h1 := at_sl2 HFA.out.1 HFA.out.2.1 HFA.out.2.2 (x := s2) (by rw [hn]; exact h64)
    rw [h1.1, h1.2] at hse
    have d1 : 64 < (n : Int) := by omega
    have d2 : decide (64 < (n : Int)) = true := decide_eq_true d1
    have d3 : decide ((n : Int) > 64) = true := decide_eq_true d1
    have eqr := fun W => Wi.run_eqSd (w := W) 9997 zD zD
    rw [decide_eq_true rfl] at eqr
    clear h1 h64 hT4
    go_wp2_with (refine ldMb hM4 HC.out _ rfl rfl rfl ?_)
    refine (hse _).mono ?_
    rintro r w5 ⟨rfl, hb5⟩
    have hb6 := Wi.Below.join hb5 (below_alloc w5 (.cells (sdl zD).toArray 30))
    have hD6 := DAt.new w5 zD
    have HB6 : Hid (Below w.heap.size w (w5.alloc (.cells (sdl zD).toArray 30))) := Wi.Below.join HB4.out hb6
    have hz : (sdl zD).toArray = #[.int .i64 0, .int .i64 0, .int .i64 0, .string ⟨#[]⟩] := rfl
    rw [hz] at HB6 ⊢
    unfold DAt at hD6
    rw [hz] at hD6
    clear hb5 hb6 hM4 HB4 hse
    go_upto_region 7 with (fail)
    generalize w5.alloc (.cells #[.int .i64 0, .int .i64 0, .int .i64 0, .string ⟨#[]⟩] 30) = w6 at *
    generalize w5.heap.size = D at *
    have hD6' : DAt w6 D zD := hD6
    have HD6 : Hid (w6.rangeAt D 0 (sdl zD)) := hD6'.all
    have e1 := eqr w6
    clear hD6 hD6' eqr hz
    go_wp2_with (first | (refine ldM HD6.out Try.underlying30 rfl Wi.szSd _ rfl rfl rfl ?_) | (refine Wi.eqX e1 Try.eqGuardType30 _ _ rfl rfl rfl rfl ?_))
    go_ret
    exact ⟨rfl, HB6.out⟩
  have h1 := at_sl1 HFA.out.1 HFA.out.2.1 HFA.out.2.2 (x := s2) (by rw [hn]; exact h64)
  rw [h1.1, h1.2] at hse
  have HST : Hid (∀ k, k < 64 → tkn (f0.ro k) = true → caE f0 (f0.ro k).who = 0 ∧ Mb.stM f0 (f0.ro k).who = atS f0 k 0) := fun k hk ht => stM_at HFA.out.1 hk ht
  have HO1 : Hid (∀ k, k < 64 → tkn (f0.ro k) = true → opE (atS f0 k 0) (f0.ep, (kpr2 (f0.ks 0), s2)) = 0 ∧ opS (atS f0 k 0) (f0.ep, (kpr2 (f0.ks 0), s2)) = s2) := fun k hk ht => at_op HFA.out.1 hk ht (by rw [hn]; exact h64)
  have HO2 : Hid (∀ k, k < 64 → tkn (f0.ro k) = true → opE (bare (atS f0 k 0) true) (f0.ep, (kpr2 (f0.ks 0), s2)) = 22 ∧ opS (bare (atS f0 k 0) true) (f0.ep, (kpr2 (f0.ks 0), s2)) = ⟨#[]⟩) := fun k hk ht => bare_op HFA.out.1 hk ht _
  have hop : ∀ m W, Calls Try.prog 10 #[.agg (mba m), .agg (sdl (f0.ep, (kpr2 (f0.ks 0), s2))).toArray] W fun r w' => r = Rv.OpA m (f0.ep, (kpr2 (f0.ks 0), s2)) ∧ Below W.heap.size W w' := fun m W => open_any m (f0.ep, (kpr2 (f0.ks 0), s2)) W (by show s2.size < _; omega)
  have HOP : Hid _ := hop
  obtain ⟨te, hte⟩ : ∃ x, f0.ep = x := ⟨_, rfl⟩
  have HTE : Hid (f0.ep = te) := hte
  have d1 : ¬ 64 < (n : Int) := by omega
  have d2 : decide (64 < (n : Int)) = false := decide_eq_false d1
  have d3 : decide ((n : Int) > 64) = false := decide_eq_false d1
  clear h1 h64 hl2 hte hop
  go_wp2_with (refine ldMb hM4 HC.out _ rfl rfl rfl ?_)
  refine (hse _).mono ?_
  rintro r w5 ⟨rfl, hb5⟩
  have hb6 := Wi.Below.join hb5 (below_alloc w5 (.cells (sdl (f0.ep, (kpr2 (f0.ks 0), s2))).toArray 30))
  have hI6 : IR w (w5.alloc (.cells (sdl (f0.ep, (kpr2 (f0.ks 0), s2))).toArray 30)) B w5.heap.size f0 (f0.ep, (kpr2 (f0.ks 0), s2)) := ⟨hT4.later hb6, DAt.new w5 _, Wi.Below.join HB4.out hb6⟩
  have hz : (sdl (f0.ep, (kpr2 (f0.ks 0), s2))).toArray = #[.int .i64 f0.ep, .int .i64 (f0.ks 0).bas, .int .i64 (f0.ks 0).stp, .string s2] := rfl
  rw [hz] at hI6 ⊢
  clear hb5 hb6 hM4 HB4 hse hT4 hz
  go_upto_region 7 with (fail)
  generalize w5.alloc (.cells #[.int .i64 f0.ep, .int .i64 (f0.ks 0).bas, .int .i64 (f0.ks 0).stp, .string s2] 30) = w6 at *
  generalize w5.heap.size = D at *
  clear HC
  have c0 := hI6.sd.ep
  have c3 := hI6.sd.txt
  have HKD : Hid (w6.rangeAt D 1 (stl (kpr2 (f0.ks 0)))) := hI6.sd.key
  have HKT : Hid (w6.rangeAt B 2 (stl (kpr2 (f0.ks 0)))) := key0 hI6.tr
  have t0 := hI6.tr.cells.1
  dsimp only at c0 c3
  have e1 : (Op.equalIn 10000 23 (.agg (stl (kpr2 (f0.ks 0))).toArray) (.agg (stl (kpr2 (f0.ks 0))).toArray)).run Try.prog w6 = .ok true w6 := by rw [Wi.run_eqPr 23 9998 _ _ (.inl rfl), decide_eq_true rfl]
  go_upto_region 9 with (fail)
  clear d1 d2 d3 hn
  rw [HTE.out] at c0 t0
  go_upto_region 12 with (first | (refine ldM HKD.out Try.underlying23 rfl Wi.szKey _ rfl rfl rfl ?_) | (refine ldM HKT.out Try.underlying23 rfl Wi.szKey _ rfl rfl rfl ?_) | (refine neX e1 Try.eqGuardType23 _ _ rfl rfl rfl rfl ?_))
  clear e1
  obtain ⟨d, hd⟩ : ∃ d : Sd, (f0.ep, (kpr2 (f0.ks 0), s2)) = d := ⟨_, rfl⟩
  rw [hd] at hI6 HO1 HO2 HOP
  have HB9 : Hid (DAt w6 D d) := hI6.sd
  clear hd HKD HKT c0 c3 t0 HTE
  go_loopw [10] (fun y wx => ∃ k : Nat, k ≤ 64 ∧ y = .int .i64 (k : Int) ∧ IR w wx B D f0 d) (fun y _ => 64 - (intOf y).toNat)
  case atStart => exact ⟨0, by omega, rfl, hI6⟩
  case round =>
    clear hI6 HB9
    obtain ⟨k, hk, rfl, hIr⟩ := hrel
    by_cases hkn : k < 64
    · have i1 : (0 : Int) ≤ (k : Int) := by omega
      have i2 : (k : Int) < 64 := by omega
      obtain ⟨e0, e1, e2⟩ := hIr.tr.ent k hkn
      have HI : Hid (IR w wr B D f0 d) := hIr
      clear hIr
      by_cases hb : (f0.ro k).bas = 0
      · rw [hb] at e1
        clear hb
        go_wp2_with fail
        go_roundw
        case rel => exact ⟨k + 1, by omega, by go_num, HI.out⟩
        case measure => simp [intOf]; omega
      · have q0 : ((f0.ro k).bas == 0) = false := by simpa using hb
        have htk : tkn (f0.ro k) = true := by simpa [tkn] using hb
        have hsd := HST.out k hkn htk
        have ho1 := HO1.out k hkn htk
        have ho2 := HO2.out k hkn htk
        have hst := stand_r f0 (f0.ro k).who
        rw [hsd.1, hsd.2, HT.out] at hst
        obtain ⟨wh, hwh⟩ : ∃ x, (f0.ro k).who = x := ⟨_, rfl⟩
        have HWH : Hid ((f0.ro k).who = wh) := hwh
        rw [hwh] at hst e0
        obtain ⟨m0, hm0⟩ : ∃ x, atS f0 k 0 = x := ⟨_, rfl⟩
        rw [hm0] at hst ho1 ho2
        obtain ⟨cm0, hcm0⟩ : ∃ x, mba m0 = x := ⟨_, rfl⟩
        have HCM0 : MC m0 cm0 := ⟨hcm0⟩
        rw [hcm0] at hst
        obtain ⟨cb0, hcb0⟩ : ∃ x, mba (bare m0 true) = x := ⟨_, rfl⟩
        have HCB0 : MC (bare m0 true) cb0 := ⟨hcb0⟩
        have hp1 := HOP.out m0
        have hp2 := HOP.out (bare m0 true)
        unfold Rv.OpA at hp1 hp2
        rw [ho1.1, ho1.2, hcm0] at hp1
        rw [ho2.1, ho2.2, hcb0] at hp2
        have HP1 : Hid _ := hp1
        have HP2 : Hid _ := hp2
        have HSTD : Hid _ := hst
        have HLT : Hid (k < 64) := hkn
        clear hb htk hsd hwh hm0 hcm0 hcb0 hst hp1 hp2 ho1 ho2
        go_upto_region 15 with (fail)
        clear q0
        go_cut [11, 12] (fun s11 s12 wx => ∃ M, s11 = .pointer (some ⟨M, 0, none⟩) ∧ s12 = .int .i64 0 ∧ IR w wx B D f0 d ∧ MA wx M m0 ∧ w.heap.size ≤ M ∧ B ≠ M ∧ D ≠ M)
        case first =>
          have hS0 : IR w wr.drew B D f0 d := HI.out.later (drew_below _)
          clear e0 e1 e2
          refine wp_region_held_drew (S := fun W => IR w W B D f0 d) (by kernel_rfl) hS0 (fun hHeld => ?_)
          clear hS0
          generalize wr.drew = wd at *
          refine wpAnyH_take (i := 0) (oi := { dst := some 75, op := Op.load 45 (Operand.tmp 3), type := _, pos := _, after := _, guard := none }) (v := .agg ct) rfl (by kernel_rfl) (by kernel_rfl) (by kernel_rfl) (fun _ _ _ h => h) (Or.inl ⟨by rfl, fun w hSw => ld_exec (HT.out ▸ hSw.tr.whole) rfl rfl⟩) (by assumption) ?_
          simp only [Act.put, List.setIfInBounds_toArray, List.set_cons_zero, List.set_cons_succ]
          refine wpAnyH_take (i := 1) (oi := { dst := some 76, op := Op.move (Operand.tmp 10), type := _, pos := _, after := _, guard := none }) (v := .int .i64 (k : Int)) rfl (by kernel_rfl) (by kernel_rfl) (by kernel_rfl) (fun _ _ _ h => h) (Or.inl ⟨by rfl, fun w hSw => by (try dsimp only at hSw); go_simp⟩) (by assumption) ?_
          simp only [Act.put, List.setIfInBounds_toArray, List.set_cons_zero, List.set_cons_succ]
          refine wpAnyH_take (i := 2) (oi := { dst := some 77, op := Op.fieldAddr 45 (Operand.tmp 3) 3, type := _, pos := _, after := _, guard := none }) (v := .pointer (some ⟨B, 44, none⟩)) rfl (by kernel_rfl) (by kernel_rfl) (by kernel_rfl) (fun _ _ _ h => h) (Or.inl ⟨by rfl, fun w hSw => by (try dsimp only at hSw); go_simp⟩) (by assumption) ?_
          simp only [Act.put, List.setIfInBounds_toArray, List.set_cons_zero, List.set_cons_succ]
          refine wpAnyH_take (i := 3) (oi := { dst := some 78, op := Op.indexAddr 43 (Operand.tmp 77) (Operand.tmp 76), type := _, pos := _, after := _, guard := none }) (v := .pointer (some ⟨B, 44 + k * 3, none⟩)) rfl (by kernel_rfl) (by kernel_rfl) (by kernel_rfl) (fun _ _ _ h => h) (Or.inl ⟨by rfl, fun w hSw => by (try dsimp only at hSw); go_simp⟩) (by assumption) ?_
          simp only [Act.put, List.setIfInBounds_toArray, List.set_cons_zero, List.set_cons_succ]
          refine wpAnyH_take (i := 4) (oi := { dst := some 79, op := Op.fieldAddr 41 (Operand.tmp 78) 0, type := _, pos := _, after := _, guard := none }) (v := .pointer (some ⟨B, 44 + k * 3, none⟩)) rfl (by kernel_rfl) (by kernel_rfl) (by kernel_rfl) (fun _ _ _ h => h) (Or.inl ⟨by rfl, fun w hSw => by (try dsimp only at hSw); go_simp⟩) (by assumption) ?_
          simp only [Act.put, List.setIfInBounds_toArray, List.set_cons_zero, List.set_cons_succ]
          refine wpAnyH_take (i := 5) (oi := { dst := some 80, op := Op.load 3 (Operand.tmp 79), type := _, pos := _, after := _, guard := none }) (v := .int .i64 wh) rfl (by kernel_rfl) (by kernel_rfl) (by kernel_rfl) (fun _ _ _ h => h) (Or.inl ⟨by rfl, fun w hSw => by obtain ⟨x0, x1, x2⟩ := hSw.tr.ent k HLT.out; rw [HWH.out] at x0; clear hSw; go_simp⟩) (by assumption) ?_
          simp only [Act.put, List.setIfInBounds_toArray, List.set_cons_zero, List.set_cons_succ]
          refine wpAnyH_ready (rs := [6, 10]) (by kernel_rfl) (by simp) ?_
          refine (AllReadyH.cons rfl (fun K hK => ?_) (AllReadyH.cons rfl (fun K hK => ?_) AllReadyH.nil))
          · go_simp
            refine (HSTD.out _).mono ?_
            rintro e w7 ⟨rfl, hb7⟩
            go_wp2_with fail
            try (have hz := hz.later hb7)
            refine hK.out _ _ (hHeld.later hb7) (fun hHd1 => ?_)
            clear hHeld hb7
            clear hK K
            try simp only [Act.put, List.setIfInBounds_toArray, List.set_cons_zero, List.set_cons_succ]
            refine wpAnyH_take (i := 7) (oi := { dst := some 74, op := Op.move (Operand.tmp 81), type := _, pos := _, after := _, guard := none }) (v := .tuple #[.agg cm0, .int .i64 0]) rfl (by kernel_rfl) (by kernel_rfl) (by kernel_rfl) (fun _ _ _ h => h) (Or.inl ⟨by rfl, fun w hSw => by (try dsimp only at hSw); go_simp⟩) (by assumption) ?_
            simp only [Act.put, List.setIfInBounds_toArray, List.set_cons_zero, List.set_cons_succ]
            refine wpAnyH_take (i := 8) (oi := { dst := some 82, op := Op.extract (Operand.tmp 74) 0, type := _, pos := _, after := _, guard := none }) (v := .agg cm0) rfl (by kernel_rfl) (by kernel_rfl) (by kernel_rfl) (fun _ _ _ h => h) (Or.inl ⟨by rfl, fun w hSw => by (try dsimp only at hSw); go_simp⟩) (by assumption) ?_
            simp only [Act.put, List.setIfInBounds_toArray, List.set_cons_zero, List.set_cons_succ]
            refine wpAnyH_take (i := 9) (oi := { dst := some 83, op := Op.extract (Operand.tmp 74) 1, type := _, pos := _, after := _, guard := none }) (v := .int .i64 0) rfl (by kernel_rfl) (by kernel_rfl) (by kernel_rfl) (fun _ _ _ h => h) (Or.inl ⟨by rfl, fun w hSw => by (try dsimp only at hSw); go_simp⟩) (by assumption) ?_
            simp only [Act.put, List.setIfInBounds_toArray, List.set_cons_zero, List.set_cons_succ]
            refine wpAnyH_ready (rs := [10]) (by kernel_rfl) (by simp) ?_
            refine AllReadyH.cons rfl (fun K hK => ?_) AllReadyH.nil
            go_simp
            have hgM := hHd1.bel.size
            refine hK.out _ _ (hHd1.later (below_alloc _ _)) (fun hHd2 => ?_)
            first | have hz := mb_of2 hHd2.bel | have hz := mb_of hHd2.bel
            clear hHd1
            clear hK K
            try simp only [Act.put, List.setIfInBounds_toArray, List.set_cons_zero, List.set_cons_succ]
            refine wpAnyH_ready (rs := [11]) (by kernel_rfl) (by simp) ?_
            refine AllReadyH.cons rfl (fun Kc hK => ?_) AllReadyH.nil
            refine if_wp rfl (wp_stRow0 27 _ _ rfl _ cm0 rfl rfl 27 _ hz (by rw [← HCM0.out]; exact infoMb) (by rw [← HCM0.out]; rfl) (by rw [← HCM0.out]; exact mba_one m0) rfl ?_)
            have hzZ := Rt.heap_setRow_same hz cm0
            have hnB := block_ne hHd2.tr hz (by decide)
            have hnD := block_ne hHd2.sd hz (by decide)
            refine hK.out _ _ ⟨(Rt.row_other hnB _).trans hHd2.tr, (Rt.row_other hnD _).trans hHd2.sd, Rt.setRow_below hgM hHd2.bel _⟩ (fun hHd3 => ?_)
            clear hHd2
            clear hK Kc
            try simp only [Act.put, List.setIfInBounds_toArray, List.set_cons_zero, List.set_cons_succ]
            refine wpAnyH_take (i := 12) (oi := { dst := some 12, op := Op.assign (Operand.tmp 83), type := _, pos := _, after := _, guard := none }) (v := .int .i64 0) rfl (by kernel_rfl) (by kernel_rfl) (by kernel_rfl) (fun _ _ _ h => h) (Or.inl ⟨by rfl, fun w hSw => by (try dsimp only at hSw); go_simp⟩) (by assumption) ?_
            simp only [Act.put, List.setIfInBounds_toArray, List.set_cons_zero, List.set_cons_succ]
            refine wpAnyH_done (by kernel_rfl) ?_ _
            go_wp2_with fail
            go_meet
            case rel => exact ⟨_, rfl, rfl, hHd3, by unfold MA; rw [HCM0.out]; exact hzZ, hgM, hnB, hnD⟩
          · go_simp
            have hgM := hHeld.bel.size
            refine hK.out _ _ (hHeld.later (below_alloc _ _)) (fun hHd1 => ?_)
            first | have hz := mb_of2 hHd1.bel | have hz := mb_of hHd1.bel
            clear hHeld
            clear hK K
            try simp only [Act.put, List.setIfInBounds_toArray, List.set_cons_zero, List.set_cons_succ]
            refine wpAnyH_ready (rs := [6]) (by kernel_rfl) (by simp) ?_
            refine AllReadyH.cons rfl (fun K hK => ?_) AllReadyH.nil
            go_simp
            refine (HSTD.out _).mono ?_
            rintro e w7 ⟨rfl, hb7⟩
            go_wp2_with fail
            try (have hz := hz.later hb7)
            refine hK.out _ _ (hHd1.later hb7) (fun hHd2 => ?_)
            clear hHd1 hb7
            clear hK K
            try simp only [Act.put, List.setIfInBounds_toArray, List.set_cons_zero, List.set_cons_succ]
            refine wpAnyH_take (i := 7) (oi := { dst := some 74, op := Op.move (Operand.tmp 81), type := _, pos := _, after := _, guard := none }) (v := .tuple #[.agg cm0, .int .i64 0]) rfl (by kernel_rfl) (by kernel_rfl) (by kernel_rfl) (fun _ _ _ h => h) (Or.inl ⟨by rfl, fun w hSw => by (try dsimp only at hSw); go_simp⟩) (by assumption) ?_
            simp only [Act.put, List.setIfInBounds_toArray, List.set_cons_zero, List.set_cons_succ]
            refine wpAnyH_take (i := 8) (oi := { dst := some 82, op := Op.extract (Operand.tmp 74) 0, type := _, pos := _, after := _, guard := none }) (v := .agg cm0) rfl (by kernel_rfl) (by kernel_rfl) (by kernel_rfl) (fun _ _ _ h => h) (Or.inl ⟨by rfl, fun w hSw => by (try dsimp only at hSw); go_simp⟩) (by assumption) ?_
            simp only [Act.put, List.setIfInBounds_toArray, List.set_cons_zero, List.set_cons_succ]
            refine wpAnyH_take (i := 9) (oi := { dst := some 83, op := Op.extract (Operand.tmp 74) 1, type := _, pos := _, after := _, guard := none }) (v := .int .i64 0) rfl (by kernel_rfl) (by kernel_rfl) (by kernel_rfl) (fun _ _ _ h => h) (Or.inl ⟨by rfl, fun w hSw => by (try dsimp only at hSw); go_simp⟩) (by assumption) ?_
            simp only [Act.put, List.setIfInBounds_toArray, List.set_cons_zero, List.set_cons_succ]
            refine wpAnyH_ready (rs := [11]) (by kernel_rfl) (by simp) ?_
            refine AllReadyH.cons rfl (fun Kc hK => ?_) AllReadyH.nil
            refine if_wp rfl (wp_stRow0 27 _ _ rfl _ cm0 rfl rfl 27 _ hz (by rw [← HCM0.out]; exact infoMb) (by rw [← HCM0.out]; rfl) (by rw [← HCM0.out]; exact mba_one m0) rfl ?_)
            have hzZ := Rt.heap_setRow_same hz cm0
            have hnB := block_ne hHd2.tr hz (by decide)
            have hnD := block_ne hHd2.sd hz (by decide)
            refine hK.out _ _ ⟨(Rt.row_other hnB _).trans hHd2.tr, (Rt.row_other hnD _).trans hHd2.sd, Rt.setRow_below hgM hHd2.bel _⟩ (fun hHd3 => ?_)
            clear hHd2
            clear hK Kc
            try simp only [Act.put, List.setIfInBounds_toArray, List.set_cons_zero, List.set_cons_succ]
            refine wpAnyH_take (i := 12) (oi := { dst := some 12, op := Op.assign (Operand.tmp 83), type := _, pos := _, after := _, guard := none }) (v := .int .i64 0) rfl (by kernel_rfl) (by kernel_rfl) (by kernel_rfl) (fun _ _ _ h => h) (Or.inl ⟨by rfl, fun w hSw => by (try dsimp only at hSw); go_simp⟩) (by assumption) ?_
            simp only [Act.put, List.setIfInBounds_toArray, List.set_cons_zero, List.set_cons_succ]
            refine wpAnyH_done (by kernel_rfl) ?_ _
            go_wp2_with fail
            go_meet
            case rel => exact ⟨_, rfl, rfl, hHd3, by unfold MA; rw [HCM0.out]; exact hzZ, hgM, hnB, hnD⟩
        case rest =>
          obtain ⟨M', rfl, rfl, hI7, hMA, hgM, hnB, hnD⟩ := hcut
          have HGM : Hid (w.heap.size ≤ M') := hgM
          have HNE : Hid (B ≠ M' ∧ D ≠ M') := ⟨hnB, hnD⟩
          clear HI e0 e1 e2 HSTD hgM hnB hnD
          have HD7 : Hid (wc.rangeAt D 0 (sdl d)) := hI7.sd.all
          go_wp2_with (first | (refine ldMb hMA HCM0.out _ rfl rfl rfl ?_) | (refine ldM HD7.out Try.underlying30 rfl Wi.szSd _ rfl rfl rfl ?_))
          refine (HP1.out _).mono ?_
          rintro r w8 ⟨rfl, hb8⟩
          have hM8 := hMA.later hb8
          have hI8 := hI7.later hb8
          clear HD7 hMA hI7 hb8
          go_upto_region 19 with (fail)
          obtain ⟨⟨z5, z6⟩, ⟨z7, z8⟩, z9, z10⟩ := hM8.key
          have z11 := hM8.has
          have f5 := hM8.fr 5
          have f6 := hM8.fr 6
          have f7 := hM8.fr 7
          have f8 := hM8.fr 8
          have f9 := hM8.fr 9
          have f10 := hM8.fr 10
          have f11 := hM8.fr 11
          have hM9 := bare_row hM8
          have hI9 : IR w (((((((w8.setCell ⟨M', 11, none⟩ (.bool false)).setCell ⟨M', 5, none⟩ (.int .i64 0)).setCell ⟨M', 6, none⟩ (.int .i64 0)).setCell ⟨M', 7, none⟩ (.int .i64 0)).setCell ⟨M', 8, none⟩ (.int .i64 0)).setCell ⟨M', 9, none⟩ (.int .i64 0)).setCell ⟨M', 10, none⟩ (.int .i64 0)) B D f0 d := ⟨(o7 HNE.out.1 _ _ _ _ _ _ _).trans hI8.tr, (o7 HNE.out.2 _ _ _ _ _ _ _).trans hI8.sd, b7 hI8.bel HGM.out _ _ _ _ _ _ _⟩
          have HM9 : Hid _ := hM9
          have HI9 : Hid _ := hI9
          clear hM9 hI9 hM8 hI8
          go_upto_region 20 with (fail)
          clear z5 z6 z7 z8 z9 z10 z11 f5 f6 f7 f8 f9 f10 f11
          have hM9 := HM9.out
          have hI9 := HI9.out
          clear HM9 HI9
          generalize ((((((w8.setCell ⟨M', 11, none⟩ (.bool false)).setCell ⟨M', 5, none⟩ (.int .i64 0)).setCell ⟨M', 6, none⟩ (.int .i64 0)).setCell ⟨M', 7, none⟩ (.int .i64 0)).setCell ⟨M', 8, none⟩ (.int .i64 0)).setCell ⟨M', 9, none⟩ (.int .i64 0)).setCell ⟨M', 10, none⟩ (.int .i64 0) = w9 at *
          have HD9 : Hid (w9.rangeAt D 0 (sdl d)) := hI9.sd.all
          go_wp2_with (first | (refine ldMb hM9 HCB0.out _ rfl rfl rfl ?_) | (refine ldM HD9.out Try.underlying30 rfl Wi.szSd _ rfl rfl rfl ?_))
          refine (HP2.out _).mono ?_
          rintro r w10 ⟨rfl, hb10⟩
          have HI10 : Hid (IR w w10 B D f0 d) := hI9.later hb10
          clear hI9 hM9 HD9 hb10
          go_wp2_with fail
          go_roundw
          case rel => exact ⟨k + 1, by omega, by go_num, HI10.out⟩
          case measure => simp [intOf]; omega
    · obtain rfl : k = 64 := by omega
      have HI : Hid (Below w.heap.size w wr) := hIr.bel
      clear hIr
      go_wp2_with fail
      go_ret
      exact ⟨rfl, HI.out⟩
theorem own : ownKnob Try.prog.godebug = none := by kernel_rfl
theorem laidOut : laidOutB Try.prog = true := by kernel_rfl
theorem text_reach {s : ByteArray} (h : s.data.toList.length ≤ reachBytes) : s.size ≤ 140737488351232 := by
  have e2 : s.data.toList.length = s.data.size := Array.length_toList
  have e1 : s.size = s.data.size := rfl
  unfold reachBytes at h
  omega
set_option maxRecDepth 100000 in
theorem lifted (os : Os) (started : os.Started) (H : Type) (enc : TypeId × Value → H) :
    ReturnsInHanded {} Try.checked os 5 .any (Rows.dataInStepSpec.pre6 enc Try.prog Try.f5 Rows.dataInStepRow.domain false) (Rows.dataInStepSpec.post enc Try.prog Try.f5 false true false false) := by
  refine returnsInHanded_of_change_sized (C := Try.checked) own started (by kernel_rfl) Try.func5
    (ChangeSpec.witness6 (enc := enc) (C := Try.checked) false ⟨#[], #[.agg (List.replicate 236 (Value.int .i64 0)).toArray, .int .i64 0, .string ⟨#[]⟩], []⟩ 8 (by kernel_rfl) (by kernel_rfl) (by kernel_rfl) (by kernel_rfl)) ?_
  intro W base args ds gs before hval0 hW hcnd hsz0 _
  have hsz : (DataW.weightsEach Try.prog (Try.f5.params.toList ++ Rows.dataInStepSpec.plain.varTypes Try.prog) (ds ++ gs)).all (· ≤ reachBytes) = true := hsz0
  clear hsz0
  have hval : ∀ (j : Nat) t v, Try.f5.params[j]? = some t → args[j]? = some v → Value.okWide Try.prog W .any base t v := hval0
  have hW' := hW
  obtain ⟨p, q, hA0, hV, rfl, hfz, hnd⟩ := hW
  have hA : DataW.TrodAll enc Try.prog W 0 (fun _ => true) true Try.f5.params.toList args.toList ds p := hA0
  rw [Try.params5] at hA hval hsz
  obtain ⟨v0, vs0, d0, ds0, p0, q0, hargs, rfl, rfl, h0, r0⟩ := trodAll_cons hA
  obtain ⟨v1, vs1, d1, ds1, p1, q1, rfl, rfl, rfl, h1, r1⟩ := trodAll_cons r0
  obtain ⟨v2, vs2, d2, ds2, p2, q2, rfl, rfl, rfl, h2, r2⟩ := trodAll_cons r1
  obtain ⟨rfl, rfl, rfl⟩ := trodAll_nil r2
  obtain rfl : args = #[v0, v1, v2] := by cases args; simp_all
  obtain ⟨rfl, rfl⟩ := trodVars_none hV
  have k0 := h0
  have lt0 : ∀ x ∈ p0, x.block < W.heap.size := by obtain ⟨m, hm⟩ := k0; exact DataW.trod_lt m _ _ _ hm
  obtain ⟨f0, rfl⟩ := open_tr (hval 0 45 v0 rfl rfl) h0
  obtain ⟨a1, rfl, rfl, rfl, w1⟩ := open_int Try.underlying3 (hval 1 3 v1 rfl rfl) h1
  obtain ⟨s2, rfl, rfl, rfl, hs2⟩ := Go.ChangeMaps.open_string Try.underlying9 (hval 2 9 v2 rfl rfl) h2
  have hl2 : s2.size ≤ 140737488351232 := text_reach (sized_string hsz (j := 2) (t := 9) rfl rfl)
  clear hA0 hval0
  refine (walk f0 a1 s2 w1 hl2 W).mono fun e W' ⟨he, bel⟩ => ?_
  subst he
  exact ⟨_, rfl, _, _, _, [], _, [], hW', trodAll_mk1 (shut_bool Try.underlying4 _), (trodAll_cons_mk (Below.trod laidOut (by kernel_rfl) (of_decide_eq_true (by kernel_rfl)) k0 bel lt0) (trodAll_cons_mk (shut_int Try.underlying3 w1) (trodAll_cons_mk (Go.ChangeMaps.shut_string Try.underlying9 hs2) trodAll_mk0))), rfl, bel.frame _, fun h => by cases h⟩
theorem over : Rows.dataInStepRow.holds Try.pinned (OpenSpec.ofChange Rows.dataInStepSpec) :=
  OpenClaim.holds_of_wide 5 Try.f5 rfl rfl rfl rfl rfl rfl rfl ⟨rfl, rfl, rfl, rfl, rfl⟩ rfl rfl rfl rfl rfl (by kernel_rfl) Try.func5 (by kernel_rfl)
    (of_decide_eq_true (by kernel_rfl)) (by unfold Func.isWrapper; first | (rw [if_pos (by decide +kernel)]; kernel_rfl) | (rw [if_neg (by decide +kernel)]; exact ⟨rfl, rfl⟩))
    (fun os started H enc _ => lifted os started H enc)
end Go.Proofs.Ytpimbpfefhkojaa.dataInStep
namespace Go.Proofs.Ytpimbpfefhkojaa
theorem dataInStep_holds : Rows.DataInStepSaid := dataInStep.over
#print axioms dataInStep_holds
end Go.Proofs.Ytpimbpfefhkojaa
