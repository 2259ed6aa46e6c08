/- Contract: who stays gets its path's new keys. -/
import Derived.Test.YtedbnamekfgmhaaDoorPlQ
namespace Go.Proofs.YtedbnamekfgmhaaDoor
open Go.RowKit Go.Maps
open Rt (Ky zK KyAt Gd gv)
open Rs (En zE tkn RdS RdI ps evl)
set_option linter.unusedVariables false
set_option linter.unusedSimpArgs false

structure FH (w W : World) (U B M : Nat) (u n : Tr) (cs : Array Value) : Prop where
  tu : TrAt W U u
  eh : EH w W B M n cs
theorem FH.later {w W W' : World} {U B M : Nat} {u n : Tr} {cs : Array Value} (h : FH w W U B M u n cs) (hb : Below W.heap.size W W') : FH w W' U B M u n cs := ⟨h.tu.later hb, h.eh.later hb⟩
theorem FH.new (w : World) (u n : Tr) (cs : Array Value) : FH w (((w.alloc (.cells (tcs u) 31)).alloc (.cells (tcs n) 31)).alloc (.cells cs 39)) w.heap.size (w.heap.size + 1) (w.heap.size + 2) u n cs := by
  have h1 := TrAt.new w u
  have b1 := alloc_tr w u
  have e1 : (w.alloc (.cells (tcs u) 31)).heap.size = w.heap.size + 1 := World.size_alloc _ _
  have h2 := EH.new (w.alloc (.cells (tcs u) 31)) n cs
  rw [e1] at h2
  exact ⟨h1.later h2.bel, h2.tr, h2.rk, b1.trans (h2.bel.mono b1.size)⟩
structure F2 (w W : World) (U B M F A K : Nat) (u n : Tr) (cs : Array Value) (s : Nat) (lf k : Ky) : Prop where
  tu : TrAt W U u
  e2 : E2 w W B M F A K n cs s lf k
theorem F2.later {w W W' : World} {U B M F A K : Nat} {u n : Tr} {cs : Array Value} {s : Nat} {lf k : Ky} (h : F2 w W U B M F A K u n cs s lf k) (hb : Below W.heap.size W W') : F2 w W' U B M F A K u n cs s lf k := ⟨h.tu.later hb, h.e2.later hb⟩
theorem F2.set {w W : World} {U B M F A K : Nat} {u n : Tr} {cs : Array Value} {s : Nat} {lf k : Ky} (h : F2 w W U B M F A K u n cs s lf k) (a b : Int) : F2 w ((W.setCell ⟨K, 0, none⟩ (.int .i64 a)).setCell ⟨K, 1, none⟩ (.int .i64 b)) U B M F A K u n cs s lf ⟨a, b⟩ :=
  ⟨(Rt.set2_other (block_ne h.tu h.e2.ky (by decide)) _ _ _ _).trans h.tu, h.e2.set a b⟩
structure FJ (u n : Tr) (li : List It) (R s j : Nat) : Prop where
  gd : Gd (u.ks (pn s j)).bas (u.ks (pn s j)).stp
  le : (u.ks (pn s j)).stp ≤ 254
  yes : R.testBit (pn s j) = true → hasI li ((pn s j : Nat) : Int) ((bel s j : Nat) : Int) = true
  no : R.testBit (pn s j) = false → n.ks (pn s j) = ⟨(u.ks (pn s j)).bas, (u.ks (pn s j)).stp + 1⟩
set_option maxRecDepth 100000 in
set_option maxHeartbeats 4000000 in
theorem follows_any (u n : Tr) (htn : tck n = true) (p : Int) (a1 a2 a : Option Addr) (n2 c1 c2 ca : Nat) (ll : List (Int × Int)) (li : List It) (s : Nat) (hs8 : s < 64) (hts : tkn (n.ro s) = true) (w : World) (hl : li.length ≤ 4096) (hll : ll.length ≤ 64) (hrl : RdS w a1 ll) (hr : RdT w a li) (hu : Uni n li) (hj : ∀ j, j < 3 → FJ u n li (rp ll) s j) :
    Calls Tryd.prog 19 #[.agg (tcs u), .agg (tcs n), .agg #[.int .i64 p, .slice a1 ll.length c1, .slice a2 n2 c2, .slice a li.length ca], .int .i64 (s : Int)] w fun e w' => e = .returned (.bool true) ∧ Below w.heap.size w w' := by
  have hE := FH.new w u n #[.int .i64 p, .slice a1 ll.length c1, .slice a2 n2 c2, .slice a li.length ca]
  obtain ⟨ct, hct⟩ : ∃ c, tcs n = c := ⟨_, rfl⟩
  have HT : Hid (tcs n = ct) := hct
  clear hct
  obtain ⟨cu, hcu⟩ : ∃ c, tcs u = c := ⟨_, rfl⟩
  have HUT : Hid (tcs u = cu) := hcu
  clear hcu
  have HOP : Hid (∀ (v c : Nat) (W : World), Below w.heap.size w W → Calls Tryd.prog 38 #[.agg #[.int .i64 p, .slice a1 ll.length c1, .slice a2 n2 c2, .slice a li.length ca], .int .i64 (v : Int), .int .i64 (c : Int), .agg #[.int .i64 (kyA n c).bas, .int .i64 (kyA n c).stp] ] W fun e w' => e = OpE li (v : Int) (c : Int) (mkI n v c) ∧ Below W.heap.size W w') := fun v c W hW => opened_any p a1 a2 a ll.length n2 c1 c2 ca li v c (kyA n c) (mkI n v c) W hl (hr.later hW) (hu.at htn v c)
  have HRP : Hid (∀ W : World, Below w.heap.size w W → Calls Tryd.prog 37 #[.slice a1 ll.length c1] W fun e w' => e = .returned (.int .u32 ((rp ll : Nat) : Int)) ∧ Below W.heap.size W w') := fun W hW => rRep_any a1 c1 ll W (by omega) (hrl.later hW)
  have HC1 : Hid (∀ (W : World) (M : Nat), RkAt W M #[.int .i64 p, .slice a1 ll.length c1, .slice a2 n2 c2, .slice a li.length ca] → W.cell? ⟨M, 1, none⟩ = some (.slice a1 ll.length c1)) := fun W M h => h.cells.2.1
  have HR4 : Hid (rp ll < 4294967296) := by unfold Hid; have := rp_lt ll; omega
  obtain ⟨R, hR⟩ : ∃ R, rp ll = R := ⟨_, rfl⟩
  rw [hR] at hj HRP HR4
  have HJ : Hid (∀ j, j < 3 → FJ u n li R s j) := hj
  clear hj hu hr hrl hR
  obtain ⟨cs, hcs⟩ : ∃ cs : Array Value, #[.int .i64 p, .slice a1 ll.length c1, .slice a2 n2 c2, .slice a li.length ca] = cs := ⟨_, rfl⟩
  have HCS : Hid (cs.size = 4) := by rw [← hcs]; rfl
  have hone : cs.all (·.oneCell') = true := by rw [← hcs]; exact rk_one _ _ _ _ _ _ _ _ _ _
  rw [hcs] at hE HOP HC1 ⊢
  clear hcs
  go_enter Tryd.func19, Tryd.ntmps19
  go_upto_region 1 with (fail)
  generalize ((w.alloc (.cells (tcs u) 31)).alloc (.cells (tcs n) 31)).alloc (.cells cs 39) = w1 at *
  rw [HT.out, HUT.out]
  obtain ⟨M, hM⟩ : ∃ C, w.heap.size + 2 = C := ⟨_, rfl⟩
  obtain ⟨B, hB⟩ : ∃ C, w.heap.size + 1 = C := ⟨_, rfl⟩
  obtain ⟨U, hU⟩ : ∃ C, w.heap.size = C := ⟨_, rfl⟩
  rw [hM, hB, hU] at hE
  rw [hM, hB, hU]
  have HE : Hid (FH w w1 U B M u n cs) := hE
  clear hM hB hU hE
  have hks := koK_leaf htn hs8 hts
  have hof := rOf_any n htn ((21 + s : Nat) : Int)
  unfold KeyA at hof
  rw [hks.1, HT.out, ← kyA_ko htn (by omega) hks.1] at hof
  obtain ⟨k, hk⟩ : ∃ k, kyA n (21 + s) = k := ⟨_, rfl⟩
  have HKE : Hid (kyA n (21 + s) = k) := hk
  rw [hk] at hof
  rw [show (((21 + s : Nat) : Int)) = 21 + (s : Int) by push_cast; rfl] at hof
  have hlf := Sh.rLeaf_any (s : Int)
  rw [Sh.lef_yes (by omega) (by omega)] at hlf
  obtain ⟨z, hz⟩ : ∃ z, 21 + (s : Int) = z := ⟨_, rfl⟩
  have HZ : Hid (21 + (s : Int) = z) := hz
  rw [hz] at hof hlf
  clear hk hks hz
  go_cut [9, 10] (fun s7 s8 wx => ∃ F, s7 = .pointer (some ⟨F, 0, none⟩) ∧ s8 = .int .i64 0 ∧ Below w1.heap.size w1 wx ∧ KyAt wx F k)
  case first =>
    have hS0 : Below w1.heap.size w1 w1.drew := drew_below _
    refine wp_region_held_drew (S := fun X => Below w1.heap.size w1 X) (by kernel_rfl) hS0 (fun hHeld => ?_)
    refine wpAnyH_take (i := 0) (oi := { dst := some 22, op := Op.load 31 (Operand.tmp 5), type := _, pos := _, after := _, guard := none }) (v := .agg ct) rfl (by kernel_rfl) (by kernel_rfl) (by kernel_rfl) (fun _ _ _ h => h) (Or.inl ⟨by rfl, fun w hSw => ld_exec (HT.out ▸ (HE.out.eh.tr.later hSw).whole) rfl rfl⟩) (by assumption) ?_
    simp only [Act.put, List.setIfInBounds_toArray, List.set_cons_zero, List.set_cons_succ]
    refine wpAnyH_take (i := 1) (oi := { dst := some 23, op := Op.move (Operand.tmp 3), type := _, pos := _, after := _, guard := none }) (v := .int .i64 (s : Int)) rfl (by kernel_rfl) (by kernel_rfl) (by kernel_rfl) (fun _ _ _ h => h) (Or.inl ⟨by rfl, fun w hSw => by (try dsimp only at hSw); go_simp⟩) (by assumption) ?_
    simp only [Act.put, List.setIfInBounds_toArray, List.set_cons_zero, List.set_cons_succ]
    refine wpAnyH_ready (rs := [2, 7]) (by kernel_rfl) (by simp) ?_
    refine (AllReadyH.cons rfl (fun K hK => ?_) (AllReadyH.cons rfl (fun K hK => ?_) AllReadyH.nil))
    · go_simp
      refine (hlf _).mono ?_
      rintro r w6 ⟨rfl, rfl⟩
      go_wp2_with fail
      refine hK.out _ _ hHeld (fun hHd1 => ?_)
      clear hHeld
      clear hK K
      try simp only [Act.put, List.setIfInBounds_toArray, List.set_cons_zero, List.set_cons_succ]
      refine wpAnyH_ready (rs := [3, 7]) (by kernel_rfl) (by simp) ?_
      refine (AllReadyH.cons rfl (fun K hK => ?_) (AllReadyH.cons rfl (fun K hK => ?_) AllReadyH.nil))
      · go_simp
        refine (hof _).mono ?_
        rintro r w7 ⟨rfl, hb7⟩
        go_wp2_with fail
        refine hK.out _ _ (hHd1.trans (hb7.mono hHd1.size)) (fun hHd2 => ?_)
        clear hHd1 hb7
        clear hK K
        try simp only [Act.put, List.setIfInBounds_toArray, List.set_cons_zero, List.set_cons_succ]
        refine wpAnyH_take (i := 4) (oi := { dst := some 21, op := Op.move (Operand.tmp 25), type := _, pos := _, after := _, guard := none }) (v := .tuple #[.agg #[.int .i64 k.bas, .int .i64 k.stp], .int .i64 0]) rfl (by kernel_rfl) (by kernel_rfl) (by kernel_rfl) (fun _ _ _ h => h) (Or.inl ⟨by rfl, fun w hSw => by (try dsimp only at hSw); go_simp⟩) (by assumption) ?_
        simp only [Act.put, List.setIfInBounds_toArray, List.set_cons_zero, List.set_cons_succ]
        refine wpAnyH_take (i := 5) (oi := { dst := some 26, op := Op.extract (Operand.tmp 21) 0, type := _, pos := _, after := _, guard := none }) (v := .agg #[.int .i64 k.bas, .int .i64 k.stp]) rfl (by kernel_rfl) (by kernel_rfl) (by kernel_rfl) (fun _ _ _ h => h) (Or.inl ⟨by rfl, fun w hSw => by (try dsimp only at hSw); go_simp⟩) (by assumption) ?_
        simp only [Act.put, List.setIfInBounds_toArray, List.set_cons_zero, List.set_cons_succ]
        refine wpAnyH_take (i := 6) (oi := { dst := some 27, op := Op.extract (Operand.tmp 21) 1, type := _, pos := _, after := _, guard := none }) (v := .int .i64 0) rfl (by kernel_rfl) (by kernel_rfl) (by kernel_rfl) (fun _ _ _ h => h) (Or.inl ⟨by rfl, fun w hSw => by (try dsimp only at hSw); go_simp⟩) (by assumption) ?_
        simp only [Act.put, List.setIfInBounds_toArray, List.set_cons_zero, List.set_cons_succ]
        refine wpAnyH_ready (rs := [7]) (by kernel_rfl) (by simp) ?_
        refine AllReadyH.cons rfl (fun K hK => ?_) AllReadyH.nil
        go_simp
        have hpre := hHd2
        refine hK.out _ _ (hHd2.trans ((below_alloc _ _).mono hHd2.size)) (fun hHd3 => ?_)
        clear hK K
        try simp only [Act.put, List.setIfInBounds_toArray, List.set_cons_zero, List.set_cons_succ]
        refine wpAnyH_ready (rs := [8]) (by kernel_rfl) (by simp) ?_
        refine AllReadyH.cons rfl (fun K hK => ?_) AllReadyH.nil
        go_simp
        first | (refine hK.out _ _ (hpre.trans ((below_alloc _ _).mono hpre.size)) (fun hHd4 => ?_); have hkyZ := Rt.KyAt.new w7 k) | (refine hK.out _ _ (Rt.set2_below hHd3 (Nat.le_refl _) _ _ _ _) (fun hHd4 => ?_); have hkyZ := KyAt.set hky2 k.bas k.stp)
        clear hK K
        try simp only [Act.put, List.setIfInBounds_toArray, List.set_cons_zero, List.set_cons_succ]
        refine wpAnyH_take (i := 9) (oi := { dst := some 10, op := Op.assign (Operand.tmp 27), type := _, pos := _, after := _, guard := none }) (v := .int .i64 0) rfl (by kernel_rfl) (by kernel_rfl) (by kernel_rfl) (fun _ _ _ h => h) (Or.inl ⟨by rfl, fun w hSw => by (try dsimp only at hSw); go_simp⟩) (by assumption) ?_
        simp only [Act.put, List.setIfInBounds_toArray, List.set_cons_zero, List.set_cons_succ]
        refine wpAnyH_done (by kernel_rfl) ?_ _
        go_wp2_with fail
        go_meet
        case rel => exact ⟨_, rfl, rfl, hHd4, hkyZ⟩
      · go_simp
        have hky : KyAt (w1.drew.alloc (.cells #[.int .i64 0, .int .i64 0] 23)) w1.heap.size Rt.zK := Rt.KyAt.new w1.drew Rt.zK
        refine hK.out _ _ (hHd1.trans ((below_alloc _ _).mono hHd1.size)) (fun hHd2 => ?_)
        clear hHd1
        clear hK K
        try simp only [Act.put, List.setIfInBounds_toArray, List.set_cons_zero, List.set_cons_succ]
        refine wpAnyH_ready (rs := [3]) (by kernel_rfl) (by simp) ?_
        refine AllReadyH.cons rfl (fun K hK => ?_) AllReadyH.nil
        go_simp
        refine (hof _).mono ?_
        rintro r w7 ⟨rfl, hb7⟩
        go_wp2_with fail
        have hky2 := hky.later hb7
        obtain ⟨x0, x1⟩ := hky2.cells
        have y0 := Rt.row_frozen hky2 0
        have y1 := Rt.row_frozen hky2 1
        refine hK.out _ _ (hHd2.trans (hb7.mono hHd2.size)) (fun hHd3 => ?_)
        clear hHd2 hb7 hky
        clear hK K
        try simp only [Act.put, List.setIfInBounds_toArray, List.set_cons_zero, List.set_cons_succ]
        refine wpAnyH_take (i := 4) (oi := { dst := some 21, op := Op.move (Operand.tmp 25), type := _, pos := _, after := _, guard := none }) (v := .tuple #[.agg #[.int .i64 k.bas, .int .i64 k.stp], .int .i64 0]) rfl (by kernel_rfl) (by kernel_rfl) (by kernel_rfl) (fun _ _ _ h => h) (Or.inl ⟨by rfl, fun w hSw => by (try dsimp only at hSw); go_simp⟩) (by assumption) ?_
        simp only [Act.put, List.setIfInBounds_toArray, List.set_cons_zero, List.set_cons_succ]
        refine wpAnyH_take (i := 5) (oi := { dst := some 26, op := Op.extract (Operand.tmp 21) 0, type := _, pos := _, after := _, guard := none }) (v := .agg #[.int .i64 k.bas, .int .i64 k.stp]) rfl (by kernel_rfl) (by kernel_rfl) (by kernel_rfl) (fun _ _ _ h => h) (Or.inl ⟨by rfl, fun w hSw => by (try dsimp only at hSw); go_simp⟩) (by assumption) ?_
        simp only [Act.put, List.setIfInBounds_toArray, List.set_cons_zero, List.set_cons_succ]
        refine wpAnyH_take (i := 6) (oi := { dst := some 27, op := Op.extract (Operand.tmp 21) 1, type := _, pos := _, after := _, guard := none }) (v := .int .i64 0) rfl (by kernel_rfl) (by kernel_rfl) (by kernel_rfl) (fun _ _ _ h => h) (Or.inl ⟨by rfl, fun w hSw => by (try dsimp only at hSw); go_simp⟩) (by assumption) ?_
        simp only [Act.put, List.setIfInBounds_toArray, List.set_cons_zero, List.set_cons_succ]
        refine wpAnyH_ready (rs := [8]) (by kernel_rfl) (by simp) ?_
        refine AllReadyH.cons rfl (fun K hK => ?_) AllReadyH.nil
        go_simp
        first | (refine hK.out _ _ (hpre.trans ((below_alloc _ _).mono hpre.size)) (fun hHd4 => ?_); have hkyZ := Rt.KyAt.new w7 k) | (refine hK.out _ _ (Rt.set2_below hHd3 (Nat.le_refl _) _ _ _ _) (fun hHd4 => ?_); have hkyZ := KyAt.set hky2 k.bas k.stp)
        clear hK K
        try simp only [Act.put, List.setIfInBounds_toArray, List.set_cons_zero, List.set_cons_succ]
        refine wpAnyH_take (i := 9) (oi := { dst := some 10, op := Op.assign (Operand.tmp 27), type := _, pos := _, after := _, guard := none }) (v := .int .i64 0) rfl (by kernel_rfl) (by kernel_rfl) (by kernel_rfl) (fun _ _ _ h => h) (Or.inl ⟨by rfl, fun w hSw => by (try dsimp only at hSw); go_simp⟩) (by assumption) ?_
        simp only [Act.put, List.setIfInBounds_toArray, List.set_cons_zero, List.set_cons_succ]
        refine wpAnyH_done (by kernel_rfl) ?_ _
        go_wp2_with fail
        go_meet
        case rel => exact ⟨_, rfl, rfl, hHd4, hkyZ⟩
    · go_simp
      have hky : KyAt (w1.drew.alloc (.cells #[.int .i64 0, .int .i64 0] 23)) w1.heap.size Rt.zK := Rt.KyAt.new w1.drew Rt.zK
      refine hK.out _ _ (hHeld.trans ((below_alloc _ _).mono hHeld.size)) (fun hHd1 => ?_)
      clear hHeld
      clear hK K
      try simp only [Act.put, List.setIfInBounds_toArray, List.set_cons_zero, List.set_cons_succ]
      refine wpAnyH_ready (rs := [2]) (by kernel_rfl) (by simp) ?_
      refine AllReadyH.cons rfl (fun K hK => ?_) AllReadyH.nil
      go_simp
      refine (hlf _).mono ?_
      rintro r w6 ⟨rfl, rfl⟩
      go_wp2_with fail
      refine hK.out _ _ hHd1 (fun hHd2 => ?_)
      clear hHd1
      clear hK K
      try simp only [Act.put, List.setIfInBounds_toArray, List.set_cons_zero, List.set_cons_succ]
      refine wpAnyH_ready (rs := [3]) (by kernel_rfl) (by simp) ?_
      refine AllReadyH.cons rfl (fun K hK => ?_) AllReadyH.nil
      go_simp
      refine (hof _).mono ?_
      rintro r w7 ⟨rfl, hb7⟩
      go_wp2_with fail
      have hky2 := hky.later hb7
      obtain ⟨x0, x1⟩ := hky2.cells
      have y0 := Rt.row_frozen hky2 0
      have y1 := Rt.row_frozen hky2 1
      refine hK.out _ _ (hHd2.trans (hb7.mono hHd2.size)) (fun hHd3 => ?_)
      clear hHd2 hb7 hky
      clear hK K
      try simp only [Act.put, List.setIfInBounds_toArray, List.set_cons_zero, List.set_cons_succ]
      refine wpAnyH_take (i := 4) (oi := { dst := some 21, op := Op.move (Operand.tmp 25), type := _, pos := _, after := _, guard := none }) (v := .tuple #[.agg #[.int .i64 k.bas, .int .i64 k.stp], .int .i64 0]) rfl (by kernel_rfl) (by kernel_rfl) (by kernel_rfl) (fun _ _ _ h => h) (Or.inl ⟨by rfl, fun w hSw => by (try dsimp only at hSw); go_simp⟩) (by assumption) ?_
      simp only [Act.put, List.setIfInBounds_toArray, List.set_cons_zero, List.set_cons_succ]
      refine wpAnyH_take (i := 5) (oi := { dst := some 26, op := Op.extract (Operand.tmp 21) 0, type := _, pos := _, after := _, guard := none }) (v := .agg #[.int .i64 k.bas, .int .i64 k.stp]) rfl (by kernel_rfl) (by kernel_rfl) (by kernel_rfl) (fun _ _ _ h => h) (Or.inl ⟨by rfl, fun w hSw => by (try dsimp only at hSw); go_simp⟩) (by assumption) ?_
      simp only [Act.put, List.setIfInBounds_toArray, List.set_cons_zero, List.set_cons_succ]
      refine wpAnyH_take (i := 6) (oi := { dst := some 27, op := Op.extract (Operand.tmp 21) 1, type := _, pos := _, after := _, guard := none }) (v := .int .i64 0) rfl (by kernel_rfl) (by kernel_rfl) (by kernel_rfl) (fun _ _ _ h => h) (Or.inl ⟨by rfl, fun w hSw => by (try dsimp only at hSw); go_simp⟩) (by assumption) ?_
      simp only [Act.put, List.setIfInBounds_toArray, List.set_cons_zero, List.set_cons_succ]
      refine wpAnyH_ready (rs := [8]) (by kernel_rfl) (by simp) ?_
      refine AllReadyH.cons rfl (fun K hK => ?_) AllReadyH.nil
      go_simp
      first | (refine hK.out _ _ (hpre.trans ((below_alloc _ _).mono hpre.size)) (fun hHd4 => ?_); have hkyZ := Rt.KyAt.new w7 k) | (refine hK.out _ _ (Rt.set2_below hHd3 (Nat.le_refl _) _ _ _ _) (fun hHd4 => ?_); have hkyZ := KyAt.set hky2 k.bas k.stp)
      clear hK K
      try simp only [Act.put, List.setIfInBounds_toArray, List.set_cons_zero, List.set_cons_succ]
      refine wpAnyH_take (i := 9) (oi := { dst := some 10, op := Op.assign (Operand.tmp 27), type := _, pos := _, after := _, guard := none }) (v := .int .i64 0) rfl (by kernel_rfl) (by kernel_rfl) (by kernel_rfl) (fun _ _ _ h => h) (Or.inl ⟨by rfl, fun w hSw => by (try dsimp only at hSw); go_simp⟩) (by assumption) ?_
      simp only [Act.put, List.setIfInBounds_toArray, List.set_cons_zero, List.set_cons_succ]
      refine wpAnyH_done (by kernel_rfl) ?_ _
      go_wp2_with fail
      go_meet
      case rel => exact ⟨_, rfl, rfl, hHd4, hkyZ⟩
  case rest =>
    obtain ⟨F, rfl, rfl, hbc, hkF⟩ := hcut
    have HE2 : Hid (FH w wc U B M u n cs) := HE.out.later hbc
    have HF : Hid (KyAt wc F k) := hkF
    have hpa := rPath_pn s hs8
    clear hbc hkF HE hof
    go_wp2_with fail
    refine (hpa _).mono ?_
    rintro r' w4 ⟨rfl, hb4⟩
    have hb5 := hb4.trans ((below_alloc w4 (.cells #[.int .i64 (pn s 0 : Nat), .int .i64 (pn s 1 : Nat), .int .i64 (pn s 2 : Nat)] 61)).mono hb4.size)
    have HE5 : Hid (FH w (w4.alloc (.cells #[.int .i64 (pn s 0 : Nat), .int .i64 (pn s 1 : Nat), .int .i64 (pn s 2 : Nat)] 61)) U B M u n cs) := HE2.out.later hb5
    have HF5 : Hid (KyAt (w4.alloc (.cells #[.int .i64 (pn s 0 : Nat), .int .i64 (pn s 1 : Nat), .int .i64 (pn s 2 : Nat)] 61)) F k) := HF.out.later hb5
    have HP5 : Hid (Pa3 (w4.alloc (.cells #[.int .i64 (pn s 0 : Nat), .int .i64 (pn s 1 : Nat), .int .i64 (pn s 2 : Nat)] 61)) w4.heap.size (pn s 0) (pn s 1) (pn s 2)) := heap_alloc_last w4 _
    clear hpa hb4 hb5 HE2 HF
    go_upto_region 3 with (fail)
    generalize w4.alloc (.cells #[.int .i64 (pn s 0 : Nat), .int .i64 (pn s 1 : Nat), .int .i64 (pn s 2 : Nat)] 61) = w5 at *
    generalize w4.heap.size = A at *
    have hrp := HRP.out w5 HE5.out.eh.bel
    have x1 := HC1.out w5 M HE5.out.eh.rk
    go_wp2_with fail
    refine hrp.mono ?_
    rintro r w6 ⟨rfl, hb6⟩
    have HE6 : Hid (FH w w6 U B M u n cs) := HE5.out.later hb6
    have HF6 : Hid (KyAt w6 F k) := HF5.out.later hb6
    have HP6 : Hid (Pa3 w6 A (pn s 0) (pn s 1) (pn s 2)) := (hb6.block A (Array.getElem?_eq_some_iff.1 HP5.out).1).trans HP5.out
    clear hrp hb6 x1 HE5 HF5 HP5 HRP HC1
    go_upto_region 4 with (fail)
    go_cut [14, 15] (fun s11 s12 wx => ∃ K, s11 = .int .i64 z ∧ s12 = .pointer (some ⟨K, 0, none⟩) ∧ Below w6.heap.size w6 wx ∧ KyAt wx K k ∧ w6.heap.size ≤ K)
    case first =>
      have hS0 : Below w6.heap.size w6 w6.drew := drew_below _
      have hpre : Below w6.heap.size w6 (w6.drew.alloc (.cells #[.int .i64 k.bas, .int .i64 k.stp] 23)) := hS0.trans ((below_alloc _ _).mono hS0.size)
      have hkyZ : KyAt (w6.drew.alloc (.cells #[.int .i64 k.bas, .int .i64 k.stp] 23)) w6.heap.size k := Rt.KyAt.new w6.drew k
      refine wp_region_held_drew (S := fun X => Below w6.heap.size w6 X) (by kernel_rfl) hS0 (fun hHeld => ?_)
      refine wpAnyH_take (i := 0) (oi := { dst := some 36, op := Op.move (Operand.tmp 3), type := _, pos := _, after := _, guard := none }) (v := .int .i64 (s : Int)) rfl (by kernel_rfl) (by kernel_rfl) (by kernel_rfl) (fun _ _ _ h => h) (Or.inl ⟨by rfl, fun w hSw => by (try dsimp only at hSw); go_simp⟩) (by assumption) ?_
      simp only [Act.put, List.setIfInBounds_toArray, List.set_cons_zero, List.set_cons_succ]
      refine wpAnyH_take (i := 2) (oi := { dst := some 38, op := Op.load 23 (Operand.tmp 9), type := _, pos := _, after := _, guard := none }) (v := .agg #[.int .i64 k.bas, .int .i64 k.stp]) rfl (by kernel_rfl) (by kernel_rfl) (by kernel_rfl) (fun _ _ _ h => h) (Or.inl ⟨by rfl, fun w hSw => by obtain ⟨x0, x1⟩ := (HF6.out.later hSw).cells; clear hSw; go_simp⟩) (by assumption) ?_
      simp only [Act.put, List.setIfInBounds_toArray, List.set_cons_zero, List.set_cons_succ]
      refine wpAnyH_ready (rs := [1, 3]) (by kernel_rfl) (by simp) ?_
      refine (AllReadyH.cons rfl (fun K hK => ?_) (AllReadyH.cons rfl (fun K hK => ?_) AllReadyH.nil))
      · go_simp
        refine (hlf _).mono ?_
        rintro r w7 ⟨rfl, rfl⟩
        go_wp2_with fail
        refine hK.out _ _ hHeld (fun hHd1 => ?_)
        clear hHeld
        clear hK K
        try simp only [Act.put, List.setIfInBounds_toArray, List.set_cons_zero, List.set_cons_succ]
        refine wpAnyH_ready (rs := [3]) (by kernel_rfl) (by simp) ?_
        refine AllReadyH.cons rfl (fun K hK => ?_) AllReadyH.nil
        go_simp
        refine hK.out _ _ (hHd1.trans ((below_alloc _ _).mono hHd1.size)) (fun hHd2 => ?_)
        clear hHd1
        clear hK K
        try simp only [Act.put, List.setIfInBounds_toArray, List.set_cons_zero, List.set_cons_succ]
        refine wpAnyH_take (i := 4) (oi := { dst := some 14, op := Op.assign (Operand.tmp 37), type := _, pos := _, after := _, guard := none }) (v := .int .i64 z) rfl (by kernel_rfl) (by kernel_rfl) (by kernel_rfl) (fun _ _ _ h => h) (Or.inl ⟨by rfl, fun w hSw => by (try dsimp only at hSw); go_simp⟩) (by assumption) ?_
        simp only [Act.put, List.setIfInBounds_toArray, List.set_cons_zero, List.set_cons_succ]
        refine wpAnyH_ready (rs := [5]) (by kernel_rfl) (by simp) ?_
        refine AllReadyH.cons rfl (fun K hK => ?_) AllReadyH.nil
        go_simp
        refine hK.out _ _ hpre (fun hHd3 => ?_)
        clear hK K
        try simp only [Act.put, List.setIfInBounds_toArray, List.set_cons_zero, List.set_cons_succ]
        refine wpAnyH_done (by kernel_rfl) ?_ _
        go_wp2_with fail
        go_meet
        case rel => exact ⟨_, rfl, rfl, hHd3, hkyZ, Nat.le_refl _⟩
      · go_simp
        refine hK.out _ _ (hHeld.trans ((below_alloc _ _).mono hHeld.size)) (fun hHd1 => ?_)
        clear hHeld
        clear hK K
        try simp only [Act.put, List.setIfInBounds_toArray, List.set_cons_zero, List.set_cons_succ]
        refine wpAnyH_ready (rs := [1]) (by kernel_rfl) (by simp) ?_
        refine AllReadyH.cons rfl (fun K hK => ?_) AllReadyH.nil
        go_simp
        refine (hlf _).mono ?_
        rintro r w7 ⟨rfl, rfl⟩
        go_wp2_with fail
        refine hK.out _ _ hHd1 (fun hHd2 => ?_)
        clear hHd1
        clear hK K
        try simp only [Act.put, List.setIfInBounds_toArray, List.set_cons_zero, List.set_cons_succ]
        refine wpAnyH_take (i := 4) (oi := { dst := some 14, op := Op.assign (Operand.tmp 37), type := _, pos := _, after := _, guard := none }) (v := .int .i64 z) rfl (by kernel_rfl) (by kernel_rfl) (by kernel_rfl) (fun _ _ _ h => h) (Or.inl ⟨by rfl, fun w hSw => by (try dsimp only at hSw); go_simp⟩) (by assumption) ?_
        simp only [Act.put, List.setIfInBounds_toArray, List.set_cons_zero, List.set_cons_succ]
        refine wpAnyH_ready (rs := [5]) (by kernel_rfl) (by simp) ?_
        refine AllReadyH.cons rfl (fun K hK => ?_) AllReadyH.nil
        go_simp
        refine hK.out _ _ hpre (fun hHd3 => ?_)
        clear hK K
        try simp only [Act.put, List.setIfInBounds_toArray, List.set_cons_zero, List.set_cons_succ]
        refine wpAnyH_done (by kernel_rfl) ?_ _
        go_wp2_with fail
        go_meet
        case rel => exact ⟨_, rfl, rfl, hHd3, hkyZ, Nat.le_refl _⟩
    case rest =>
      obtain ⟨K, rfl, rfl, hbc, hkK, hKg⟩ := hcut
      have HE7 : Hid (F2 w wc U B M F A K u n cs s k k) := ⟨HE6.out.tu.later hbc, HE6.out.eh.later hbc, HF6.out.later hbc, (hbc.block A (Array.getElem?_eq_some_iff.1 HP6.out).1).trans HP6.out, hkK, by have := (Array.getElem?_eq_some_iff.1 HF6.out).1; omega, by have := HE6.out.eh.bel.size; omega⟩
      clear HE6 HF6 HP6 hbc hkK hKg hlf
      go_wp2_with fail
      go_loopw [14, 16] (fun b i wx => ∃ j : Nat, j ≤ 3 ∧ i = .int .i64 (j : Int) ∧ b = .int .i64 ((bel s j : Nat) : Int) ∧ F2 w wx U B M F A K u n cs s k (kyA n (bel s j))) (fun _ i _ => 3 - (intOf i).toNat)
      case atStart => exact ⟨0, by omega, rfl, by rw [← HZ.out]; rfl, by rw [show bel s 0 = 21 + s from rfl, HKE.out]; exact HE7.out⟩
      case round =>
        obtain ⟨j, hj, rfl, rfl, hE2⟩ := hrel
        have HE7 : Hid (F2 w wr U B M F A K u n cs s k (kyA n (bel s j))) := hE2
        clear hE2
        by_cases hj3 : j < 3
        · have j0 : (0 : Int) ≤ (j : Int) := by omega
          have j1 : (j : Int) < 3 := by omega
          have hv21 : pn s j < 21 := pn_lt hs8 j
          obtain ⟨g1, g2, g3, g4⟩ := HJ.out j hj3
          have h2 := fun W (hW : Below wr.heap.size wr W) => HOP.out (pn s j) (bel s j) W (HE7.out.e2.eh.bel.trans (hW.mono HE7.out.e2.eh.bel.size))
          have HEV : Hid (n.ks (pn s j) = kyA n (pn s j)) := (kyA_in hv21).symm
          have HNX : Hid (bel s (j + 1) = pn s j) := rfl
          unfold OpE at h2
          simp only [show ∀ v c, (mkI n v c).ld = kyA n v from fun _ _ => rfl] at h2
          obtain ⟨v, hv⟩ : ∃ v, pn s j = v := ⟨_, rfl⟩
          have HV : Hid (pn s j = v) := hv
          obtain ⟨e, he⟩ : ∃ e, kyA n (pn s j) = e := ⟨_, rfl⟩
          rw [he] at h2 HEV
          rw [HEV.out] at g4
          rw [hv] at h2 hv21 HEV HNX g1 g2 g3 g4
          have HEK : Hid (kyA n (bel s (j + 1)) = e) := by unfold Hid; rw [HNX.out, ← he, hv]
          obtain ⟨kc, hkc⟩ : ∃ e, kyA n (bel s j) = e := ⟨_, rfl⟩
          rw [hkc] at h2 HE7
          obtain ⟨c, hc⟩ : ∃ c, bel s j = c := ⟨_, rfl⟩
          rw [hc] at h2 g3
          rw [hc]
          clear hv he hkc hc
          obtain ⟨c0, d0⟩ := HE7.out.tu.key v hv21
          obtain ⟨o, ho⟩ : ∃ o, u.ks v = o := ⟨_, rfl⟩
          rw [ho] at g1 g2 g4 c0 d0
          have hah := Rt.rAhead_yes o.bas o.stp 1 g1 (by omega) (by omega)
          have HG3 : Hid (R.testBit v = true → hasI li (v : Int) (c : Int) = true) := g3
          have HG4 : Hid (R.testBit v = false → e = ⟨o.bas, o.stp + 1⟩) := g4
          have hin := Rt.rIn_any R v HR4.out (by omega)
          clear ho g1 g2 g3 g4
          have v0 : (0 : Int) ≤ (v : Int) := by omega
          have v1 : (v : Int) < 21 := by omega
          have x0 := pa_at HE7.out.e2.pa hj3
          rw [HV.out] at x0
          go_wp2_with fail
          refine (hah _).mono ?_
          rintro r w7 ⟨rfl, hb7⟩
          have hb8 := hb7.trans ((below_alloc w7 (.cells #[.int .i64 o.bas, .int .i64 (o.stp + 1)] 23)).mono hb7.size)
          have hkx := Rt.KyAt.new w7 ⟨o.bas, o.stp + 1⟩
          have hxg := hb7.size
          clear hah x0 c0 d0 hb7
          go_upto_region 9 with (fail)
          generalize w7.alloc (.cells #[.int .i64 o.bas, .int .i64 (o.stp + 1)] 23) = w8 at *
          generalize w7.heap.size = X at *
          have HB8 : Hid (Below wr.heap.size wr w8) := hb8
          have HKX : Hid (KyAt w8 X ⟨o.bas, o.stp + 1⟩) := hkx
          have HXG : Hid (wr.heap.size ≤ X) := hxg
          clear hb8 hkx hxg
          have HE8 : Hid (F2 w w8 U B M F A K u n cs s k kc) := HE7.out.later HB8.out
          have x0 := pa_at HE8.out.e2.pa hj3
          rw [HV.out] at x0
          go_wp2_with fail
          refine (hin _).mono ?_
          rintro r w8 ⟨rfl, rfl⟩
          clear hin x0
          cases hb : R.testBit v with
          | true =>
              have HHI : Hid (hasI li (v : Int) (c : Int) = true) := HG3.out hb
              clear HG3 HG4 hb
              go_upto_region 10 with (fail)
              go_cut [19, 20] (fun s19 s20 wx => ∃ Y, s19 = .pointer (some ⟨Y, 0, none⟩) ∧ s20 = .bool true ∧ Below w8.heap.size w8 wx ∧ KyAt wx Y e)
              case first =>
                have hS0 : Below w8.heap.size w8 w8.drew := drew_below _
                refine wp_region_held_drew (S := fun Z => Below w8.heap.size w8 Z) (by kernel_rfl) hS0 (fun hHeld => ?_)
                refine wpAnyH_take (i := 0) (oi := { dst := some 59, op := Op.load 39 (Operand.tmp 6), type := _, pos := _, after := _, guard := none }) (v := .agg cs) rfl (by kernel_rfl) (by kernel_rfl) (by kernel_rfl) (fun _ _ _ h => h) (Or.inl ⟨by rfl, fun w hSw => ld_exec ((HE8.out.later hSw).e2.eh.rk.whole HCS.out) rfl rfl⟩) (by assumption) ?_
                simp only [Act.put, List.setIfInBounds_toArray, List.set_cons_zero, List.set_cons_succ]
                refine wpAnyH_take (i := 1) (oi := { dst := some 60, op := Op.move (Operand.tmp 16), type := _, pos := _, after := _, guard := none }) (v := .int .i64 (j : Int)) rfl (by kernel_rfl) (by kernel_rfl) (by kernel_rfl) (fun _ _ _ h => h) (Or.inl ⟨by rfl, fun w hSw => by (try dsimp only at hSw); go_simp⟩) (by assumption) ?_
                simp only [Act.put, List.setIfInBounds_toArray, List.set_cons_zero, List.set_cons_succ]
                refine wpAnyH_take (i := 2) (oi := { dst := some 61, op := Op.indexAddr 61 (Operand.tmp 11) (Operand.tmp 60), type := _, pos := _, after := _, guard := none }) (v := .pointer (some ⟨A, j, none⟩)) rfl (by kernel_rfl) (by kernel_rfl) (by kernel_rfl) (fun _ _ _ h => h) (Or.inl ⟨by rfl, fun w hSw => by (try dsimp only at hSw); go_simp⟩) (by assumption) ?_
                simp only [Act.put, List.setIfInBounds_toArray, List.set_cons_zero, List.set_cons_succ]
                refine wpAnyH_take (i := 3) (oi := { dst := some 62, op := Op.load 3 (Operand.tmp 61), type := _, pos := _, after := _, guard := none }) (v := .int .i64 (v : Int)) rfl (by kernel_rfl) (by kernel_rfl) (by kernel_rfl) (fun _ _ _ h => h) (Or.inl ⟨by rfl, fun w hSw => by have x0 := pa_at (HE8.out.later hSw).e2.pa hj3; rw [HV.out] at x0; clear hSw; go_simp⟩) (by assumption) ?_
                simp only [Act.put, List.setIfInBounds_toArray, List.set_cons_zero, List.set_cons_succ]
                refine wpAnyH_take (i := 4) (oi := { dst := some 63, op := Op.move (Operand.tmp 14), type := _, pos := _, after := _, guard := none }) (v := .int .i64 (c : Int)) rfl (by kernel_rfl) (by kernel_rfl) (by kernel_rfl) (fun _ _ _ h => h) (Or.inl ⟨by rfl, fun w hSw => by (try dsimp only at hSw); go_simp⟩) (by assumption) ?_
                simp only [Act.put, List.setIfInBounds_toArray, List.set_cons_zero, List.set_cons_succ]
                refine wpAnyH_take (i := 5) (oi := { dst := some 64, op := Op.load 23 (Operand.tmp 15), type := _, pos := _, after := _, guard := none }) (v := .agg #[.int .i64 kc.bas, .int .i64 kc.stp]) rfl (by kernel_rfl) (by kernel_rfl) (by kernel_rfl) (fun _ _ _ h => h) (Or.inl ⟨by rfl, fun w hSw => by obtain ⟨x0, x1⟩ := (HE8.out.later hSw).e2.ky.cells; clear hSw; go_simp⟩) (by assumption) ?_
                simp only [Act.put, List.setIfInBounds_toArray, List.set_cons_zero, List.set_cons_succ]
                refine wpAnyH_ready (rs := [6, 10]) (by kernel_rfl) (by simp) ?_
                refine (AllReadyH.cons rfl (fun K hK => ?_) (AllReadyH.cons rfl (fun K hK => ?_) AllReadyH.nil))
                · go_simp
                  have h3 := h2 _ (HB8.out.trans (hHeld.mono HB8.out.size))
                  rw [HHI.out] at h3
                  refine h3.mono ?_
                  rintro r w7 ⟨rfl, hb7⟩
                  go_wp2_with fail
                  refine hK.out _ _ (hHeld.trans (hb7.mono hHeld.size)) (fun hHd1 => ?_)
                  clear hHeld hb7
                  clear hK K
                  try simp only [Act.put, List.setIfInBounds_toArray, List.set_cons_zero, List.set_cons_succ]
                  refine wpAnyH_take (i := 7) (oi := { dst := some 58, op := Op.move (Operand.tmp 65), type := _, pos := _, after := _, guard := none }) (v := .tuple #[.agg #[.int .i64 e.bas, .int .i64 e.stp], .bool true]) rfl (by kernel_rfl) (by kernel_rfl) (by kernel_rfl) (fun _ _ _ h => h) (Or.inl ⟨by rfl, fun w hSw => by (try dsimp only at hSw); go_simp⟩) (by assumption) ?_
                  simp only [Act.put, List.setIfInBounds_toArray, List.set_cons_zero, List.set_cons_succ]
                  refine wpAnyH_take (i := 8) (oi := { dst := some 66, op := Op.extract (Operand.tmp 58) 0, type := _, pos := _, after := _, guard := none }) (v := .agg #[.int .i64 e.bas, .int .i64 e.stp]) rfl (by kernel_rfl) (by kernel_rfl) (by kernel_rfl) (fun _ _ _ h => h) (Or.inl ⟨by rfl, fun w hSw => by (try dsimp only at hSw); go_simp⟩) (by assumption) ?_
                  simp only [Act.put, List.setIfInBounds_toArray, List.set_cons_zero, List.set_cons_succ]
                  refine wpAnyH_take (i := 9) (oi := { dst := some 67, op := Op.extract (Operand.tmp 58) 1, type := _, pos := _, after := _, guard := none }) (v := .bool true) rfl (by kernel_rfl) (by kernel_rfl) (by kernel_rfl) (fun _ _ _ h => h) (Or.inl ⟨by rfl, fun w hSw => by (try dsimp only at hSw); go_simp⟩) (by assumption) ?_
                  simp only [Act.put, List.setIfInBounds_toArray, List.set_cons_zero, List.set_cons_succ]
                  refine wpAnyH_ready (rs := [10]) (by kernel_rfl) (by simp) ?_
                  refine AllReadyH.cons rfl (fun K hK => ?_) AllReadyH.nil
                  go_simp
                  have hpre := hHd1
                  refine hK.out _ _ (hHd1.trans ((below_alloc _ _).mono hHd1.size)) (fun hHd2 => ?_)
                  clear hK K
                  try simp only [Act.put, List.setIfInBounds_toArray, List.set_cons_zero, List.set_cons_succ]
                  refine wpAnyH_ready (rs := [11]) (by kernel_rfl) (by simp) ?_
                  refine AllReadyH.cons rfl (fun K hK => ?_) AllReadyH.nil
                  go_simp
                  first | (refine hK.out _ _ (hpre.trans ((below_alloc _ _).mono hpre.size)) (fun hHd3 => ?_); have hkyZ := Rt.KyAt.new w7 e) | (refine hK.out _ _ (Rt.set2_below hHd2 (Nat.le_refl _) _ _ _ _) (fun hHd3 => ?_); have hkyZ := KyAt.set hky2 e.bas e.stp)
                  clear hK K
                  try simp only [Act.put, List.setIfInBounds_toArray, List.set_cons_zero, List.set_cons_succ]
                  refine wpAnyH_take (i := 12) (oi := { dst := some 20, op := Op.assign (Operand.tmp 67), type := _, pos := _, after := _, guard := none }) (v := .bool true) rfl (by kernel_rfl) (by kernel_rfl) (by kernel_rfl) (fun _ _ _ h => h) (Or.inl ⟨by rfl, fun w hSw => by (try dsimp only at hSw); go_simp⟩) (by assumption) ?_
                  simp only [Act.put, List.setIfInBounds_toArray, List.set_cons_zero, List.set_cons_succ]
                  refine wpAnyH_done (by kernel_rfl) ?_ _
                  go_wp2_with fail
                  go_meet
                  case rel => exact ⟨_, rfl, rfl, hHd3, hkyZ⟩
                · go_simp
                  have hky : KyAt (w8.drew.alloc (.cells #[.int .i64 0, .int .i64 0] 23)) w8.heap.size Rt.zK := Rt.KyAt.new w8.drew Rt.zK
                  refine hK.out _ _ (hHeld.trans ((below_alloc _ _).mono hHeld.size)) (fun hHd1 => ?_)
                  clear hHeld
                  clear hK K
                  try simp only [Act.put, List.setIfInBounds_toArray, List.set_cons_zero, List.set_cons_succ]
                  refine wpAnyH_ready (rs := [6]) (by kernel_rfl) (by simp) ?_
                  refine AllReadyH.cons rfl (fun K hK => ?_) AllReadyH.nil
                  go_simp
                  have h3 := h2 _ (HB8.out.trans (hHd1.mono HB8.out.size))
                  rw [HHI.out] at h3
                  refine h3.mono ?_
                  rintro r w7 ⟨rfl, hb7⟩
                  go_wp2_with fail
                  have hky2 := hky.later hb7
                  obtain ⟨x0, x1⟩ := hky2.cells
                  have y0 := Rt.row_frozen hky2 0
                  have y1 := Rt.row_frozen hky2 1
                  refine hK.out _ _ (hHd1.trans (hb7.mono hHd1.size)) (fun hHd2 => ?_)
                  clear hHd1 hb7 hky
                  clear hK K
                  try simp only [Act.put, List.setIfInBounds_toArray, List.set_cons_zero, List.set_cons_succ]
                  refine wpAnyH_take (i := 7) (oi := { dst := some 58, op := Op.move (Operand.tmp 65), type := _, pos := _, after := _, guard := none }) (v := .tuple #[.agg #[.int .i64 e.bas, .int .i64 e.stp], .bool true]) rfl (by kernel_rfl) (by kernel_rfl) (by kernel_rfl) (fun _ _ _ h => h) (Or.inl ⟨by rfl, fun w hSw => by (try dsimp only at hSw); go_simp⟩) (by assumption) ?_
                  simp only [Act.put, List.setIfInBounds_toArray, List.set_cons_zero, List.set_cons_succ]
                  refine wpAnyH_take (i := 8) (oi := { dst := some 66, op := Op.extract (Operand.tmp 58) 0, type := _, pos := _, after := _, guard := none }) (v := .agg #[.int .i64 e.bas, .int .i64 e.stp]) rfl (by kernel_rfl) (by kernel_rfl) (by kernel_rfl) (fun _ _ _ h => h) (Or.inl ⟨by rfl, fun w hSw => by (try dsimp only at hSw); go_simp⟩) (by assumption) ?_
                  simp only [Act.put, List.setIfInBounds_toArray, List.set_cons_zero, List.set_cons_succ]
                  refine wpAnyH_take (i := 9) (oi := { dst := some 67, op := Op.extract (Operand.tmp 58) 1, type := _, pos := _, after := _, guard := none }) (v := .bool true) rfl (by kernel_rfl) (by kernel_rfl) (by kernel_rfl) (fun _ _ _ h => h) (Or.inl ⟨by rfl, fun w hSw => by (try dsimp only at hSw); go_simp⟩) (by assumption) ?_
                  simp only [Act.put, List.setIfInBounds_toArray, List.set_cons_zero, List.set_cons_succ]
                  refine wpAnyH_ready (rs := [11]) (by kernel_rfl) (by simp) ?_
                  refine AllReadyH.cons rfl (fun K hK => ?_) AllReadyH.nil
                  go_simp
                  first | (refine hK.out _ _ (hpre.trans ((below_alloc _ _).mono hpre.size)) (fun hHd3 => ?_); have hkyZ := Rt.KyAt.new w7 e) | (refine hK.out _ _ (Rt.set2_below hHd2 (Nat.le_refl _) _ _ _ _) (fun hHd3 => ?_); have hkyZ := KyAt.set hky2 e.bas e.stp)
                  clear hK K
                  try simp only [Act.put, List.setIfInBounds_toArray, List.set_cons_zero, List.set_cons_succ]
                  refine wpAnyH_take (i := 12) (oi := { dst := some 20, op := Op.assign (Operand.tmp 67), type := _, pos := _, after := _, guard := none }) (v := .bool true) rfl (by kernel_rfl) (by kernel_rfl) (by kernel_rfl) (fun _ _ _ h => h) (Or.inl ⟨by rfl, fun w hSw => by (try dsimp only at hSw); go_simp⟩) (by assumption) ?_
                  simp only [Act.put, List.setIfInBounds_toArray, List.set_cons_zero, List.set_cons_succ]
                  refine wpAnyH_done (by kernel_rfl) ?_ _
                  go_wp2_with fail
                  go_meet
                  case rel => exact ⟨_, rfl, rfl, hHd3, hkyZ⟩
              case rest =>
                obtain ⟨Y, rfl, rfl, hbc, hkY⟩ := hcut
                have hkX := HKX.out.later hbc
                obtain ⟨q0, q1⟩ := hkX.cells
                obtain ⟨z0, z1⟩ := hkY.cells
                have y0 := Rt.row_frozen hkX 0
                have y1 := Rt.row_frozen hkX 1
                have HBQ : Hid (Below wr.heap.size wr ((wc.setCell ⟨X, 0, none⟩ (.int .i64 e.bas)).setCell ⟨X, 1, none⟩ (.int .i64 e.stp))) := Rt.set2_below (HB8.out.trans (hbc.mono HB8.out.size)) HXG.out _ _ _ _
                have HKQ : Hid (KyAt ((wc.setCell ⟨X, 0, none⟩ (.int .i64 e.bas)).setCell ⟨X, 1, none⟩ (.int .i64 e.stp)) X e) := KyAt.set hkX e.bas e.stp
                clear hbc hkY hkX HE8 HB8 HKX HHI
                go_upto_region 14 with (fail)
                clear q0 q1 z0 z1 y0 y1
                generalize (wc.setCell ⟨X, 0, none⟩ (.int .i64 e.bas)).setCell ⟨X, 1, none⟩ (.int .i64 e.stp) = wq at *
                have HE9 : Hid (F2 w wq U B M F A K u n cs s k kc) := HE7.out.later HBQ.out
                have HXN : Hid (X ≠ K) := by unfold Hid; have h1 := (Array.getElem?_eq_some_iff.1 HE7.out.e2.ky).1; have h2 := HXG.out; omega
                clear HE7 HBQ h2
                have hT0 : Below wq.heap.size wq wq.drew := drew_below _
                refine wp_region_held_drew (S := fun Y => Below wq.heap.size wq Y) (by kernel_rfl) hT0 (fun hHeld => ?_)
                refine wpAnyH_take (i := 0) (oi := { dst := some 71, op := Op.move (Operand.tmp 18), type := _, pos := _, after := _, guard := none }) (v := .int .i64 0) rfl (by kernel_rfl) (by kernel_rfl) (by kernel_rfl) (fun _ _ _ h => h) (Or.inl ⟨by rfl, fun w hSw => by (try dsimp only at hSw); go_simp⟩) (by assumption) ?_
                simp only [Act.put, List.setIfInBounds_toArray, List.set_cons_zero, List.set_cons_succ]
                refine wpAnyH_take (i := 1) (oi := { dst := some 72, op := Op.binOp BinOp.neq 40 (Operand.tmp 71) (Operand.const (Value.int IntKind.i64 0)) 40, type := _, pos := _, after := _, guard := none }) (v := .bool false) rfl (by kernel_rfl) (by kernel_rfl) (by kernel_rfl) (fun _ _ _ h => h) (Or.inl ⟨by rfl, fun w hSw => by (try dsimp only at hSw); go_simp⟩) (by assumption) ?_
                simp only [Act.put, List.setIfInBounds_toArray, List.set_cons_zero, List.set_cons_succ]
                refine wpAnyH_take (i := 2) (oi := { dst := some 73, op := Op.move (Operand.tmp 72), type := _, pos := _, after := _, guard := none }) (v := .bool false) rfl (by kernel_rfl) (by kernel_rfl) (by kernel_rfl) (fun _ _ _ h => h) (Or.inl ⟨by rfl, fun w hSw => by (try dsimp only at hSw); go_simp⟩) (by assumption) ?_
                simp only [Act.put, List.setIfInBounds_toArray, List.set_cons_zero, List.set_cons_succ]
                refine wpAnyH_take (i := 3) (oi := { dst := some 74, op := Op.load 23 (Operand.tmp 17), type := _, pos := _, after := _, guard := some (2, false) }) (v := .agg #[.int .i64 e.bas, .int .i64 e.stp]) rfl (by kernel_rfl) (by kernel_rfl) (by kernel_rfl) (fun _ _ _ h => h) (Or.inl ⟨by rfl, fun w hSw => by obtain ⟨x0, x1⟩ := (HKQ.out.later hSw).cells; clear hSw; go_simp⟩) (by assumption) ?_
                simp only [Act.put, List.setIfInBounds_toArray, List.set_cons_zero, List.set_cons_succ]
                refine wpAnyH_take (i := 4) (oi := { dst := some 75, op := Op.move (Operand.tmp 16), type := _, pos := _, after := _, guard := some (2, false) }) (v := .int .i64 (j : Int)) rfl (by kernel_rfl) (by kernel_rfl) (by kernel_rfl) (fun _ _ _ h => h) (Or.inl ⟨by rfl, fun w hSw => by (try dsimp only at hSw); go_simp⟩) (by assumption) ?_
                simp only [Act.put, List.setIfInBounds_toArray, List.set_cons_zero, List.set_cons_succ]
                refine wpAnyH_take (i := 5) (oi := { dst := some 76, op := Op.indexAddr 61 (Operand.tmp 11) (Operand.tmp 75), type := _, pos := _, after := _, guard := some (2, false) }) (v := .pointer (some ⟨A, j, none⟩)) rfl (by kernel_rfl) (by kernel_rfl) (by kernel_rfl) (fun _ _ _ h => h) (Or.inl ⟨by rfl, fun w hSw => by (try dsimp only at hSw); go_simp⟩) (by assumption) ?_
                simp only [Act.put, List.setIfInBounds_toArray, List.set_cons_zero, List.set_cons_succ]
                refine wpAnyH_take (i := 6) (oi := { dst := some 77, op := Op.load 3 (Operand.tmp 76), type := _, pos := _, after := _, guard := some (2, false) }) (v := .int .i64 (v : Int)) rfl (by kernel_rfl) (by kernel_rfl) (by kernel_rfl) (fun _ _ _ h => h) (Or.inl ⟨by rfl, fun w hSw => by have x0 := pa_at (HE9.out.later hSw).e2.pa hj3; rw [HV.out] at x0; clear hSw; go_simp⟩) (by assumption) ?_
                simp only [Act.put, List.setIfInBounds_toArray, List.set_cons_zero, List.set_cons_succ]
                refine wpAnyH_take (i := 7) (oi := { dst := some 78, op := Op.fieldAddr 31 (Operand.tmp 5) 2, type := _, pos := _, after := _, guard := some (2, false) }) (v := .pointer (some ⟨B, 2, none⟩)) rfl (by kernel_rfl) (by kernel_rfl) (by kernel_rfl) (fun _ _ _ h => h) (Or.inl ⟨by rfl, fun w hSw => by (try dsimp only at hSw); go_simp⟩) (by assumption) ?_
                simp only [Act.put, List.setIfInBounds_toArray, List.set_cons_zero, List.set_cons_succ]
                refine wpAnyH_take (i := 8) (oi := { dst := some 79, op := Op.indexAddr 25 (Operand.tmp 78) (Operand.tmp 77), type := _, pos := _, after := _, guard := some (2, false) }) (v := .pointer (some ⟨B, 2 + v * 2, none⟩)) rfl (by kernel_rfl) (by kernel_rfl) (by kernel_rfl) (fun _ _ _ h => h) (Or.inl ⟨by rfl, fun w hSw => by (try dsimp only at hSw); go_simp⟩) (by assumption) ?_
                simp only [Act.put, List.setIfInBounds_toArray, List.set_cons_zero, List.set_cons_succ]
                refine wpAnyH_take (i := 9) (oi := { dst := some 80, op := Op.load 23 (Operand.tmp 79), type := _, pos := _, after := _, guard := some (2, false) }) (v := .agg #[.int .i64 e.bas, .int .i64 e.stp]) rfl (by kernel_rfl) (by kernel_rfl) (by kernel_rfl) (fun _ _ _ h => h) (Or.inl ⟨by rfl, fun w hSw => by obtain ⟨x0, x1⟩ := (HE9.out.later hSw).e2.eh.tr.key v hv21; rw [HEV.out] at x0 x1; clear hSw; go_simp⟩) (by assumption) ?_
                simp only [Act.put, List.setIfInBounds_toArray, List.set_cons_zero, List.set_cons_succ]
                refine wpAnyH_take (i := 10) (oi := { dst := some 81, op := Op.binOp BinOp.neq 23 (Operand.tmp 74) (Operand.tmp 80) 23, type := _, pos := _, after := _, guard := some (2, false) }) (v := .bool false) rfl (by kernel_rfl) (by kernel_rfl) (by kernel_rfl) (fun _ _ _ h => h) (Or.inl ⟨by rfl, fun w hSw => by (try dsimp only at hSw); go_simp⟩) (by assumption) ?_
                simp only [Act.put, List.setIfInBounds_toArray, List.set_cons_zero, List.set_cons_succ]
                refine wpAnyH_take (i := 11) (oi := { dst := some 82, op := Op.pick (Operand.tmp 73) (Operand.const (Value.bool true)) (Operand.tmp 81), type := _, pos := _, after := _, guard := none }) (v := .bool false) rfl (by kernel_rfl) (by kernel_rfl) (by kernel_rfl) (fun _ _ _ h => h) (Or.inl ⟨by rfl, fun w hSw => by (try dsimp only at hSw); go_simp⟩) (by assumption) ?_
                simp only [Act.put, List.setIfInBounds_toArray, List.set_cons_zero, List.set_cons_succ]
                refine wpAnyH_done (by kernel_rfl) ?_ _
                have HE10 : Hid (F2 w wq.drew U B M F A K u n cs s k kc) := HE9.out.later hT0
                have HX10 : Hid (KyAt wq.drew X e) := HKQ.out.later hT0
                clear HE9 HKQ hHeld hT0
                generalize wq.drew = wz at *
                go_upto_region 16 with (fail)
                have hkK := HE10.out.e2.ky
                obtain ⟨q0, q1⟩ := hkK.cells
                have y0 := Rt.row_frozen hkK 0
                have y1 := Rt.row_frozen hkK 1
                have HES : Hid (F2 w ((wz.setCell ⟨K, 0, none⟩ (.int .i64 e.bas)).setCell ⟨K, 1, none⟩ (.int .i64 e.stp)).drew U B M F A K u n cs s k e) := (HE10.out.set e.bas e.stp).later (drew_below _)
                have HXS : Hid (KyAt ((wz.setCell ⟨K, 0, none⟩ (.int .i64 e.bas)).setCell ⟨K, 1, none⟩ (.int .i64 e.stp)).drew X e) := KyAt.later ((Rt.set2_other HXN.out _ _ _ _).trans HX10.out) (drew_below _)
                have hT0 : Pa3 wz.drew A (pn s 0) (pn s 1) (pn s 2) ∧ KyAt wz.drew X e := ⟨(HE10.out.later (drew_below _)).e2.pa, HX10.out.later (drew_below _)⟩
                clear HE10 HX10
                refine wp_region_held_drew (S := fun Y => Pa3 Y A (pn s 0) (pn s 1) (pn s 2) ∧ KyAt Y X e) (by kernel_rfl) hT0 (fun hHeld => ?_)
                refine wpAnyH_take (i := 0) (oi := { dst := some 83, op := Op.move (Operand.tmp 16), type := _, pos := _, after := _, guard := none }) (v := .int .i64 (j : Int)) rfl (by kernel_rfl) (by kernel_rfl) (by kernel_rfl) (fun _ _ _ h => h) (Or.inl ⟨by rfl, fun w hSw => by (try dsimp only at hSw); go_simp⟩) (by assumption) ?_
                simp only [Act.put, List.setIfInBounds_toArray, List.set_cons_zero, List.set_cons_succ]
                refine wpAnyH_take (i := 1) (oi := { dst := some 84, op := Op.indexAddr 61 (Operand.tmp 11) (Operand.tmp 83), type := _, pos := _, after := _, guard := none }) (v := .pointer (some ⟨A, j, none⟩)) rfl (by kernel_rfl) (by kernel_rfl) (by kernel_rfl) (fun _ _ _ h => h) (Or.inl ⟨by rfl, fun w hSw => by (try dsimp only at hSw); go_simp⟩) (by assumption) ?_
                simp only [Act.put, List.setIfInBounds_toArray, List.set_cons_zero, List.set_cons_succ]
                refine wpAnyH_take (i := 2) (oi := { dst := some 85, op := Op.load 3 (Operand.tmp 84), type := _, pos := _, after := _, guard := none }) (v := .int .i64 (v : Int)) rfl (by kernel_rfl) (by kernel_rfl) (by kernel_rfl) (fun _ _ _ h => h) (Or.inl ⟨by rfl, fun w hSw => by have x0 := pa_at hSw.1 hj3; rw [HV.out] at x0; clear hSw; go_simp⟩) (by assumption) ?_
                simp only [Act.put, List.setIfInBounds_toArray, List.set_cons_zero, List.set_cons_succ]
                refine wpAnyH_take (i := 3) (oi := { dst := some 86, op := Op.load 23 (Operand.tmp 17), type := _, pos := _, after := _, guard := none }) (v := .agg #[.int .i64 e.bas, .int .i64 e.stp]) rfl (by kernel_rfl) (by kernel_rfl) (by kernel_rfl) (fun _ _ _ h => h) (Or.inl ⟨by rfl, fun w hSw => by obtain ⟨x0, x1⟩ := hSw.2.cells; clear hSw; go_simp⟩) (by assumption) ?_
                simp only [Act.put, List.setIfInBounds_toArray, List.set_cons_zero, List.set_cons_succ]
                refine wpAnyH_take (i := 4) (oi := { dst := some 14, op := Op.assign (Operand.tmp 85), type := _, pos := _, after := _, guard := none }) (v := .int .i64 (v : Int)) rfl (by kernel_rfl) (by kernel_rfl) (by kernel_rfl) (fun _ _ _ h => h) (Or.inl ⟨by rfl, fun w hSw => by (try dsimp only at hSw); go_simp⟩) (by assumption) ?_
                simp only [Act.put, List.setIfInBounds_toArray, List.set_cons_zero, List.set_cons_succ]
                refine wpAnyH_ready (rs := [5]) (by kernel_rfl) (by simp) ?_
                refine AllReadyH.cons rfl (fun K hK => ?_) AllReadyH.nil
                go_simp
                refine hK.out _ _ ⟨HES.out.e2.pa, HXS.out⟩ (fun hHeld9 => ?_)
                clear hK K
                try simp only [Act.put, List.setIfInBounds_toArray, List.set_cons_zero, List.set_cons_succ]
                refine wpAnyH_done (by kernel_rfl) ?_ _
                clear hHeld9 hHeld hT0 hkK q0 q1 y0 y1 HXS
                go_wp2_with fail
                go_roundw
                case rel => exact ⟨j + 1, by omega, by go_num, by rw [HNX.out], by rw [HEK.out]; exact HES.out⟩
                case measure => simp [intOf]; omega
          | false =>
              have HBQ := HB8
              have HKQ : Hid (KyAt w8 X e) := HG4.out hb ▸ HKX.out
              clear HB8 HKX HG3 HG4 HE8 hb
              go_upto_region 14 with (fail)
              generalize w8 = wq at *
              have HE9 : Hid (F2 w wq U B M F A K u n cs s k kc) := HE7.out.later HBQ.out
              have HXN : Hid (X ≠ K) := by unfold Hid; have h1 := (Array.getElem?_eq_some_iff.1 HE7.out.e2.ky).1; have h2 := HXG.out; omega
              clear HE7 HBQ h2
              have hT0 : Below wq.heap.size wq wq.drew := drew_below _
              refine wp_region_held_drew (S := fun Y => Below wq.heap.size wq Y) (by kernel_rfl) hT0 (fun hHeld => ?_)
              refine wpAnyH_take (i := 0) (oi := { dst := some 71, op := Op.move (Operand.tmp 18), type := _, pos := _, after := _, guard := none }) (v := .int .i64 0) rfl (by kernel_rfl) (by kernel_rfl) (by kernel_rfl) (fun _ _ _ h => h) (Or.inl ⟨by rfl, fun w hSw => by (try dsimp only at hSw); go_simp⟩) (by assumption) ?_
              simp only [Act.put, List.setIfInBounds_toArray, List.set_cons_zero, List.set_cons_succ]
              refine wpAnyH_take (i := 1) (oi := { dst := some 72, op := Op.binOp BinOp.neq 40 (Operand.tmp 71) (Operand.const (Value.int IntKind.i64 0)) 40, type := _, pos := _, after := _, guard := none }) (v := .bool false) rfl (by kernel_rfl) (by kernel_rfl) (by kernel_rfl) (fun _ _ _ h => h) (Or.inl ⟨by rfl, fun w hSw => by (try dsimp only at hSw); go_simp⟩) (by assumption) ?_
              simp only [Act.put, List.setIfInBounds_toArray, List.set_cons_zero, List.set_cons_succ]
              refine wpAnyH_take (i := 2) (oi := { dst := some 73, op := Op.move (Operand.tmp 72), type := _, pos := _, after := _, guard := none }) (v := .bool false) rfl (by kernel_rfl) (by kernel_rfl) (by kernel_rfl) (fun _ _ _ h => h) (Or.inl ⟨by rfl, fun w hSw => by (try dsimp only at hSw); go_simp⟩) (by assumption) ?_
              simp only [Act.put, List.setIfInBounds_toArray, List.set_cons_zero, List.set_cons_succ]
              refine wpAnyH_take (i := 3) (oi := { dst := some 74, op := Op.load 23 (Operand.tmp 17), type := _, pos := _, after := _, guard := some (2, false) }) (v := .agg #[.int .i64 e.bas, .int .i64 e.stp]) rfl (by kernel_rfl) (by kernel_rfl) (by kernel_rfl) (fun _ _ _ h => h) (Or.inl ⟨by rfl, fun w hSw => by obtain ⟨x0, x1⟩ := (HKQ.out.later hSw).cells; clear hSw; go_simp⟩) (by assumption) ?_
              simp only [Act.put, List.setIfInBounds_toArray, List.set_cons_zero, List.set_cons_succ]
              refine wpAnyH_take (i := 4) (oi := { dst := some 75, op := Op.move (Operand.tmp 16), type := _, pos := _, after := _, guard := some (2, false) }) (v := .int .i64 (j : Int)) rfl (by kernel_rfl) (by kernel_rfl) (by kernel_rfl) (fun _ _ _ h => h) (Or.inl ⟨by rfl, fun w hSw => by (try dsimp only at hSw); go_simp⟩) (by assumption) ?_
              simp only [Act.put, List.setIfInBounds_toArray, List.set_cons_zero, List.set_cons_succ]
              refine wpAnyH_take (i := 5) (oi := { dst := some 76, op := Op.indexAddr 61 (Operand.tmp 11) (Operand.tmp 75), type := _, pos := _, after := _, guard := some (2, false) }) (v := .pointer (some ⟨A, j, none⟩)) rfl (by kernel_rfl) (by kernel_rfl) (by kernel_rfl) (fun _ _ _ h => h) (Or.inl ⟨by rfl, fun w hSw => by (try dsimp only at hSw); go_simp⟩) (by assumption) ?_
              simp only [Act.put, List.setIfInBounds_toArray, List.set_cons_zero, List.set_cons_succ]
              refine wpAnyH_take (i := 6) (oi := { dst := some 77, op := Op.load 3 (Operand.tmp 76), type := _, pos := _, after := _, guard := some (2, false) }) (v := .int .i64 (v : Int)) rfl (by kernel_rfl) (by kernel_rfl) (by kernel_rfl) (fun _ _ _ h => h) (Or.inl ⟨by rfl, fun w hSw => by have x0 := pa_at (HE9.out.later hSw).e2.pa hj3; rw [HV.out] at x0; clear hSw; go_simp⟩) (by assumption) ?_
              simp only [Act.put, List.setIfInBounds_toArray, List.set_cons_zero, List.set_cons_succ]
              refine wpAnyH_take (i := 7) (oi := { dst := some 78, op := Op.fieldAddr 31 (Operand.tmp 5) 2, type := _, pos := _, after := _, guard := some (2, false) }) (v := .pointer (some ⟨B, 2, none⟩)) rfl (by kernel_rfl) (by kernel_rfl) (by kernel_rfl) (fun _ _ _ h => h) (Or.inl ⟨by rfl, fun w hSw => by (try dsimp only at hSw); go_simp⟩) (by assumption) ?_
              simp only [Act.put, List.setIfInBounds_toArray, List.set_cons_zero, List.set_cons_succ]
              refine wpAnyH_take (i := 8) (oi := { dst := some 79, op := Op.indexAddr 25 (Operand.tmp 78) (Operand.tmp 77), type := _, pos := _, after := _, guard := some (2, false) }) (v := .pointer (some ⟨B, 2 + v * 2, none⟩)) rfl (by kernel_rfl) (by kernel_rfl) (by kernel_rfl) (fun _ _ _ h => h) (Or.inl ⟨by rfl, fun w hSw => by (try dsimp only at hSw); go_simp⟩) (by assumption) ?_
              simp only [Act.put, List.setIfInBounds_toArray, List.set_cons_zero, List.set_cons_succ]
              refine wpAnyH_take (i := 9) (oi := { dst := some 80, op := Op.load 23 (Operand.tmp 79), type := _, pos := _, after := _, guard := some (2, false) }) (v := .agg #[.int .i64 e.bas, .int .i64 e.stp]) rfl (by kernel_rfl) (by kernel_rfl) (by kernel_rfl) (fun _ _ _ h => h) (Or.inl ⟨by rfl, fun w hSw => by obtain ⟨x0, x1⟩ := (HE9.out.later hSw).e2.eh.tr.key v hv21; rw [HEV.out] at x0 x1; clear hSw; go_simp⟩) (by assumption) ?_
              simp only [Act.put, List.setIfInBounds_toArray, List.set_cons_zero, List.set_cons_succ]
              refine wpAnyH_take (i := 10) (oi := { dst := some 81, op := Op.binOp BinOp.neq 23 (Operand.tmp 74) (Operand.tmp 80) 23, type := _, pos := _, after := _, guard := some (2, false) }) (v := .bool false) rfl (by kernel_rfl) (by kernel_rfl) (by kernel_rfl) (fun _ _ _ h => h) (Or.inl ⟨by rfl, fun w hSw => by (try dsimp only at hSw); go_simp⟩) (by assumption) ?_
              simp only [Act.put, List.setIfInBounds_toArray, List.set_cons_zero, List.set_cons_succ]
              refine wpAnyH_take (i := 11) (oi := { dst := some 82, op := Op.pick (Operand.tmp 73) (Operand.const (Value.bool true)) (Operand.tmp 81), type := _, pos := _, after := _, guard := none }) (v := .bool false) rfl (by kernel_rfl) (by kernel_rfl) (by kernel_rfl) (fun _ _ _ h => h) (Or.inl ⟨by rfl, fun w hSw => by (try dsimp only at hSw); go_simp⟩) (by assumption) ?_
              simp only [Act.put, List.setIfInBounds_toArray, List.set_cons_zero, List.set_cons_succ]
              refine wpAnyH_done (by kernel_rfl) ?_ _
              have HE10 : Hid (F2 w wq.drew U B M F A K u n cs s k kc) := HE9.out.later hT0
              have HX10 : Hid (KyAt wq.drew X e) := HKQ.out.later hT0
              clear HE9 HKQ hHeld hT0
              generalize wq.drew = wz at *
              go_upto_region 16 with (fail)
              have hkK := HE10.out.e2.ky
              obtain ⟨q0, q1⟩ := hkK.cells
              have y0 := Rt.row_frozen hkK 0
              have y1 := Rt.row_frozen hkK 1
              have HES : Hid (F2 w ((wz.setCell ⟨K, 0, none⟩ (.int .i64 e.bas)).setCell ⟨K, 1, none⟩ (.int .i64 e.stp)).drew U B M F A K u n cs s k e) := (HE10.out.set e.bas e.stp).later (drew_below _)
              have HXS : Hid (KyAt ((wz.setCell ⟨K, 0, none⟩ (.int .i64 e.bas)).setCell ⟨K, 1, none⟩ (.int .i64 e.stp)).drew X e) := KyAt.later ((Rt.set2_other HXN.out _ _ _ _).trans HX10.out) (drew_below _)
              have hT0 : Pa3 wz.drew A (pn s 0) (pn s 1) (pn s 2) ∧ KyAt wz.drew X e := ⟨(HE10.out.later (drew_below _)).e2.pa, HX10.out.later (drew_below _)⟩
              clear HE10 HX10
              refine wp_region_held_drew (S := fun Y => Pa3 Y A (pn s 0) (pn s 1) (pn s 2) ∧ KyAt Y X e) (by kernel_rfl) hT0 (fun hHeld => ?_)
              refine wpAnyH_take (i := 0) (oi := { dst := some 83, op := Op.move (Operand.tmp 16), type := _, pos := _, after := _, guard := none }) (v := .int .i64 (j : Int)) rfl (by kernel_rfl) (by kernel_rfl) (by kernel_rfl) (fun _ _ _ h => h) (Or.inl ⟨by rfl, fun w hSw => by (try dsimp only at hSw); go_simp⟩) (by assumption) ?_
              simp only [Act.put, List.setIfInBounds_toArray, List.set_cons_zero, List.set_cons_succ]
              refine wpAnyH_take (i := 1) (oi := { dst := some 84, op := Op.indexAddr 61 (Operand.tmp 11) (Operand.tmp 83), type := _, pos := _, after := _, guard := none }) (v := .pointer (some ⟨A, j, none⟩)) rfl (by kernel_rfl) (by kernel_rfl) (by kernel_rfl) (fun _ _ _ h => h) (Or.inl ⟨by rfl, fun w hSw => by (try dsimp only at hSw); go_simp⟩) (by assumption) ?_
              simp only [Act.put, List.setIfInBounds_toArray, List.set_cons_zero, List.set_cons_succ]
              refine wpAnyH_take (i := 2) (oi := { dst := some 85, op := Op.load 3 (Operand.tmp 84), type := _, pos := _, after := _, guard := none }) (v := .int .i64 (v : Int)) rfl (by kernel_rfl) (by kernel_rfl) (by kernel_rfl) (fun _ _ _ h => h) (Or.inl ⟨by rfl, fun w hSw => by have x0 := pa_at hSw.1 hj3; rw [HV.out] at x0; clear hSw; go_simp⟩) (by assumption) ?_
              simp only [Act.put, List.setIfInBounds_toArray, List.set_cons_zero, List.set_cons_succ]
              refine wpAnyH_take (i := 3) (oi := { dst := some 86, op := Op.load 23 (Operand.tmp 17), type := _, pos := _, after := _, guard := none }) (v := .agg #[.int .i64 e.bas, .int .i64 e.stp]) rfl (by kernel_rfl) (by kernel_rfl) (by kernel_rfl) (fun _ _ _ h => h) (Or.inl ⟨by rfl, fun w hSw => by obtain ⟨x0, x1⟩ := hSw.2.cells; clear hSw; go_simp⟩) (by assumption) ?_
              simp only [Act.put, List.setIfInBounds_toArray, List.set_cons_zero, List.set_cons_succ]
              refine wpAnyH_take (i := 4) (oi := { dst := some 14, op := Op.assign (Operand.tmp 85), type := _, pos := _, after := _, guard := none }) (v := .int .i64 (v : Int)) rfl (by kernel_rfl) (by kernel_rfl) (by kernel_rfl) (fun _ _ _ h => h) (Or.inl ⟨by rfl, fun w hSw => by (try dsimp only at hSw); go_simp⟩) (by assumption) ?_
              simp only [Act.put, List.setIfInBounds_toArray, List.set_cons_zero, List.set_cons_succ]
              refine wpAnyH_ready (rs := [5]) (by kernel_rfl) (by simp) ?_
              refine AllReadyH.cons rfl (fun K hK => ?_) AllReadyH.nil
              go_simp
              refine hK.out _ _ ⟨HES.out.e2.pa, HXS.out⟩ (fun hHeld9 => ?_)
              clear hK K
              try simp only [Act.put, List.setIfInBounds_toArray, List.set_cons_zero, List.set_cons_succ]
              refine wpAnyH_done (by kernel_rfl) ?_ _
              clear hHeld9 hHeld hT0 hkK q0 q1 y0 y1 HXS
              go_wp2_with fail
              go_roundw
              case rel => exact ⟨j + 1, by omega, by go_num, by rw [HNX.out], by rw [HEK.out]; exact HES.out⟩
              case measure => simp [intOf]; omega
        · obtain rfl : j = 3 := by omega
          rw [show ((3 : Nat) : Int) = 3 from rfl]
          go_wp2_with fail
          go_ret
          exact ⟨rfl, HE7.out.e2.eh.bel⟩
end Go.Proofs.YtedbnamekfgmhaaDoor
