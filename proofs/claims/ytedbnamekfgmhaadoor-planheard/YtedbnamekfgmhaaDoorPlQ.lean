/- Contract: who joined gets its path's keys. -/
import Derived.Test.YtedbnamekfgmhaaDoorPlP
namespace Go.Proofs.YtedbnamekfgmhaaDoor
open Go.RowKit Go.Maps
open Rt (Ky zK KyAt Gd gv)
open Rs (En zE tkn RdS RdI ps evl)
set_option linter.unusedVariables false
set_option linter.unusedSimpArgs false

theorem RkAt.whole {w : World} {B : Nat} {cs : Array Value} (h : RkAt w B cs) (hc : cs.size = 4) : (Instr.loadAt 39 (.pointer (some ⟨B, 0, none⟩))).run Tryd.prog w = .ok (.agg cs) w :=
  part_run h Tryd.underlying39 rfl infoRk 0 hc fun j hj => by rw [Nat.zero_add]
theorem pa_at {w : World} {A s j : Nat} (h : Pa3 w A (pn s 0) (pn s 1) (pn s 2)) (hj : j < 3) : w.cell? ⟨A, j, none⟩ = some (.int .i64 ((pn s j : Nat) : Int)) := by
  obtain ⟨x0, x1, x2⟩ := Pa3.cells h
  have : j = 0 ∨ j = 1 ∨ j = 2 := by omega
  rcases this with rfl | rfl | rfl <;> assumption
/- All items for a node from another one are the same one. -/
def Uni (n : Tr) (li : List It) : Prop := ∀ x ∈ li, ∃ v c, x = mkI n v c ∧ v < 21 ∧ c < 85 ∧ koE n (c : Int) = 0
theorem gv_self {b s : Int} (h : Gd b s) : gv b s b s = true := by
  unfold gv
  rw [Rt.gd_yes h]
  simp
theorem Uni.at {n : Tr} {li : List It} (h : Uni n li) (htn : tck n = true) (v c : Nat) : ∀ x ∈ li, x.nd = (v : Int) → x.fm = (c : Int) → x = mkI n v c ∧ Gd (mkI n v c).un.bas (mkI n v c).un.stp ∧ Gd (mkI n v c).ld.bas (mkI n v c).ld.stp ∧ Gd (kyA n c).bas (kyA n c).stp ∧ gv (kyA n c).bas (kyA n c).stp (mkI n v c).un.bas (mkI n v c).un.stp = true := fun x hx h1 h2 => by
  obtain ⟨v', c', rfl, hv, hc, h0⟩ := h x hx
  have e1 : v' = v := by have : ((v' : Nat) : Int) = (v : Int) := h1; omega
  have e2 : c' = c := by have : ((c' : Nat) : Int) = (c : Int) := h2; omega
  subst e1
  subst e2
  have g := ko_gd htn hc h0
  refine ⟨rfl, g, ?_, g, gv_self g⟩
  show Gd (kyA n v').bas (kyA n v').stp
  rw [kyA_in hv]
  exact ks_gd htn hv
structure EH (w W : World) (B M : Nat) (n : Tr) (cs : Array Value) : Prop where
  tr : TrAt W B n
  rk : RkAt W M cs
  bel : Below w.heap.size w W
theorem EH.later {w W W' : World} {B M : Nat} {n : Tr} {cs : Array Value} (h : EH w W B M n cs) (hb : Below W.heap.size W W') : EH w W' B M n cs := ⟨h.tr.later hb, h.rk.later hb, h.bel.trans (hb.mono h.bel.size)⟩
theorem EH.new (w : World) (n : Tr) (cs : Array Value) : EH w ((w.alloc (.cells (tcs n) 31)).alloc (.cells cs 39)) w.heap.size (w.heap.size + 1) n cs := by
  have h1 := TrAt.new w n
  have b1 := alloc_tr w n
  have h2 : RkAt ((w.alloc (.cells (tcs n) 31)).alloc (.cells cs 39)) (w.heap.size + 1) cs := by
    have h := heap_alloc_last (w.alloc (.cells (tcs n) 31)) (.cells cs 39)
    rw [World.size_alloc] at h
    exact h
  have b2 := below_alloc (w.alloc (.cells (tcs n) 31)) (.cells cs 39)
  exact ⟨h1.later b2, h2, b1.trans (b2.mono b1.size)⟩
structure E2 (w W : World) (B M F A K : Nat) (n : Tr) (cs : Array Value) (s : Nat) (lf k : Ky) : Prop where
  eh : EH w W B M n cs
  lf : KyAt W F lf
  pa : Pa3 W A (pn s 0) (pn s 1) (pn s 2)
  ky : KyAt W K k
  fk : F ≠ K
  ge : w.heap.size ≤ K
theorem E2.later {w W W' : World} {B M F A K : Nat} {n : Tr} {cs : Array Value} {s : Nat} {lf k : Ky} (h : E2 w W B M F A K n cs s lf k) (hb : Below W.heap.size W W') : E2 w W' B M F A K n cs s lf k := ⟨h.eh.later hb, h.lf.later hb, (hb.block A (Array.getElem?_eq_some_iff.1 h.pa).1).trans h.pa, h.ky.later hb, h.fk, h.ge⟩
theorem E2.set {w W : World} {B M F A K : Nat} {n : Tr} {cs : Array Value} {s : Nat} {lf k : Ky} (h : E2 w W B M F A K n cs s lf k) (a b : Int) : E2 w ((W.setCell ⟨K, 0, none⟩ (.int .i64 a)).setCell ⟨K, 1, none⟩ (.int .i64 b)) B M F A K n cs s lf ⟨a, b⟩ :=
  ⟨⟨(Rt.set2_other (block_ne h.eh.tr h.ky (by decide)) _ _ _ _).trans h.eh.tr, (Rt.set2_other (block_ne h.eh.rk h.ky (by decide)) _ _ _ _).trans h.eh.rk, Rt.set2_below h.eh.bel h.ge _ _ _ _⟩, (Rt.set2_other h.fk _ _ _ _).trans h.lf, (Rt.set2_other (block_ne h.pa h.ky (by decide)) _ _ _ _).trans h.pa, KyAt.set h.ky a b, h.fk, h.ge⟩
set_option maxRecDepth 100000 in
set_option maxHeartbeats 4000000 in
theorem enters_any (n : Tr) (htn : tck n = true) (p : Int) (a1 a2 a : Option Addr) (n1 n2 c1 c2 ca : Nat) (li : List It) (s : Nat) (hs8 : s < 64) (hts : tkn (n.ro s) = true) (w : World) (hl : li.length ≤ 4096) (hr : RdT w a li) (hu : Uni n li) (hj : ∀ j, j < 3 → hasI li ((pn s j : Nat) : Int) ((21 + s : Nat) : Int) = true ∨ hasI li ((pn s j : Nat) : Int) ((bel s j : Nat) : Int) = true) :
    Calls Tryd.prog 18 #[.agg (tcs n), .agg #[.int .i64 p, .slice a1 n1 c1, .slice a2 n2 c2, .slice a li.length ca], .int .i64 (s : Int)] w fun e w' => e = .returned (.bool true) ∧ Below w.heap.size w w' := by
  have hE := EH.new w n #[.int .i64 p, .slice a1 n1 c1, .slice a2 n2 c2, .slice a li.length ca]
  obtain ⟨ct, hct⟩ : ∃ c, tcs n = c := ⟨_, rfl⟩
  have HT : Hid (tcs n = ct) := hct
  clear hct
  have HOP : Hid (∀ (v c : Nat) (W : World), Below w.heap.size w W → Calls Tryd.prog 38 #[.agg #[.int .i64 p, .slice a1 n1 c1, .slice a2 n2 c2, .slice a li.length ca], .int .i64 (v : Int), .int .i64 (c : Int), .agg #[.int .i64 (kyA n c).bas, .int .i64 (kyA n c).stp] ] W fun e w' => e = OpE li (v : Int) (c : Int) (mkI n v c) ∧ Below W.heap.size W w') := fun v c W hW => opened_any p a1 a2 a n1 n2 c1 c2 ca li v c (kyA n c) (mkI n v c) W hl (hr.later hW) (hu.at htn v c)
  have HJ : Hid (∀ j, j < 3 → hasI li ((pn s j : Nat) : Int) ((21 + s : Nat) : Int) = true ∨ hasI li ((pn s j : Nat) : Int) ((bel s j : Nat) : Int) = true) := hj
  clear hj hu hr
  obtain ⟨cs, hcs⟩ : ∃ cs : Array Value, #[.int .i64 p, .slice a1 n1 c1, .slice a2 n2 c2, .slice a li.length ca] = cs := ⟨_, rfl⟩
  have HCS : Hid (cs.size = 4) := by rw [← hcs]; rfl
  have hone : cs.all (·.oneCell') = true := by rw [← hcs]; exact rk_one _ _ _ _ _ _ _ _ _ _
  rw [hcs] at hE HOP ⊢
  clear hcs
  go_enter Tryd.func18, Tryd.ntmps18
  go_upto_region 1 with (fail)
  generalize (w.alloc (.cells (tcs n) 31)).alloc (.cells cs 39) = w1 at *
  rw [HT.out]
  obtain ⟨M, hM⟩ : ∃ C, w.heap.size + 1 = C := ⟨_, rfl⟩
  obtain ⟨B, hB⟩ : ∃ C, w.heap.size = C := ⟨_, rfl⟩
  rw [hM, hB] at hE
  rw [hM, hB]
  have HE : Hid (EH w w1 B M n cs) := hE
  clear hM hB hE
  have hks := koK_leaf htn hs8 hts
  have hof := rOf_any n htn ((21 + s : Nat) : Int)
  unfold KeyA at hof
  rw [hks.1, HT.out, ← kyA_ko htn (by omega) hks.1] at hof
  obtain ⟨k, hk⟩ : ∃ k, kyA n (21 + s) = k := ⟨_, rfl⟩
  have HKE : Hid (kyA n (21 + s) = k) := hk
  rw [hk] at hof
  rw [show (((21 + s : Nat) : Int)) = 21 + (s : Int) by push_cast; rfl] at hof
  have hlf := Sh.rLeaf_any (s : Int)
  rw [Sh.lef_yes (by omega) (by omega)] at hlf
  obtain ⟨z, hz⟩ : ∃ z, 21 + (s : Int) = z := ⟨_, rfl⟩
  have HZ : Hid (21 + (s : Int) = z) := hz
  rw [hz] at hof hlf
  clear hk hks hz
  go_cut [7, 8] (fun s7 s8 wx => ∃ F, s7 = .pointer (some ⟨F, 0, none⟩) ∧ s8 = .int .i64 0 ∧ Below w1.heap.size w1 wx ∧ KyAt wx F k)
  case first =>
    have hS0 : Below w1.heap.size w1 w1.drew := drew_below _
    refine wp_region_held_drew (S := fun X => Below w1.heap.size w1 X) (by kernel_rfl) hS0 (fun hHeld => ?_)
    refine wpAnyH_take (i := 0) (oi := { dst := some 17, op := Op.load 31 (Operand.tmp 3), type := _, pos := _, after := _, guard := none }) (v := .agg ct) rfl (by kernel_rfl) (by kernel_rfl) (by kernel_rfl) (fun _ _ _ h => h) (Or.inl ⟨by rfl, fun w hSw => ld_exec (HT.out ▸ (HE.out.tr.later hSw).whole) rfl rfl⟩) (by assumption) ?_
    simp only [Act.put, List.setIfInBounds_toArray, List.set_cons_zero, List.set_cons_succ]
    refine wpAnyH_take (i := 1) (oi := { dst := some 18, op := Op.move (Operand.tmp 2), type := _, pos := _, after := _, guard := none }) (v := .int .i64 (s : Int)) rfl (by kernel_rfl) (by kernel_rfl) (by kernel_rfl) (fun _ _ _ h => h) (Or.inl ⟨by rfl, fun w hSw => by (try dsimp only at hSw); go_simp⟩) (by assumption) ?_
    simp only [Act.put, List.setIfInBounds_toArray, List.set_cons_zero, List.set_cons_succ]
    refine wpAnyH_ready (rs := [2, 7]) (by kernel_rfl) (by simp) ?_
    refine (AllReadyH.cons rfl (fun K hK => ?_) (AllReadyH.cons rfl (fun K hK => ?_) AllReadyH.nil))
    · go_simp
      refine (hlf _).mono ?_
      rintro r w6 ⟨rfl, rfl⟩
      go_wp2_with fail
      refine hK.out _ _ hHeld (fun hHd1 => ?_)
      clear hHeld
      clear hK K
      try simp only [Act.put, List.setIfInBounds_toArray, List.set_cons_zero, List.set_cons_succ]
      refine wpAnyH_ready (rs := [3, 7]) (by kernel_rfl) (by simp) ?_
      refine (AllReadyH.cons rfl (fun K hK => ?_) (AllReadyH.cons rfl (fun K hK => ?_) AllReadyH.nil))
      · go_simp
        refine (hof _).mono ?_
        rintro r w7 ⟨rfl, hb7⟩
        go_wp2_with fail
        refine hK.out _ _ (hHd1.trans (hb7.mono hHd1.size)) (fun hHd2 => ?_)
        clear hHd1 hb7
        clear hK K
        try simp only [Act.put, List.setIfInBounds_toArray, List.set_cons_zero, List.set_cons_succ]
        refine wpAnyH_take (i := 4) (oi := { dst := some 16, op := Op.move (Operand.tmp 20), type := _, pos := _, after := _, guard := none }) (v := .tuple #[.agg #[.int .i64 k.bas, .int .i64 k.stp], .int .i64 0]) rfl (by kernel_rfl) (by kernel_rfl) (by kernel_rfl) (fun _ _ _ h => h) (Or.inl ⟨by rfl, fun w hSw => by (try dsimp only at hSw); go_simp⟩) (by assumption) ?_
        simp only [Act.put, List.setIfInBounds_toArray, List.set_cons_zero, List.set_cons_succ]
        refine wpAnyH_take (i := 5) (oi := { dst := some 21, op := Op.extract (Operand.tmp 16) 0, type := _, pos := _, after := _, guard := none }) (v := .agg #[.int .i64 k.bas, .int .i64 k.stp]) rfl (by kernel_rfl) (by kernel_rfl) (by kernel_rfl) (fun _ _ _ h => h) (Or.inl ⟨by rfl, fun w hSw => by (try dsimp only at hSw); go_simp⟩) (by assumption) ?_
        simp only [Act.put, List.setIfInBounds_toArray, List.set_cons_zero, List.set_cons_succ]
        refine wpAnyH_take (i := 6) (oi := { dst := some 22, op := Op.extract (Operand.tmp 16) 1, type := _, pos := _, after := _, guard := none }) (v := .int .i64 0) rfl (by kernel_rfl) (by kernel_rfl) (by kernel_rfl) (fun _ _ _ h => h) (Or.inl ⟨by rfl, fun w hSw => by (try dsimp only at hSw); go_simp⟩) (by assumption) ?_
        simp only [Act.put, List.setIfInBounds_toArray, List.set_cons_zero, List.set_cons_succ]
        refine wpAnyH_ready (rs := [7]) (by kernel_rfl) (by simp) ?_
        refine AllReadyH.cons rfl (fun K hK => ?_) AllReadyH.nil
        go_simp
        have hpre := hHd2
        refine hK.out _ _ (hHd2.trans ((below_alloc _ _).mono hHd2.size)) (fun hHd3 => ?_)
        clear hK K
        try simp only [Act.put, List.setIfInBounds_toArray, List.set_cons_zero, List.set_cons_succ]
        refine wpAnyH_ready (rs := [8]) (by kernel_rfl) (by simp) ?_
        refine AllReadyH.cons rfl (fun K hK => ?_) AllReadyH.nil
        go_simp
        first | (refine hK.out _ _ (hpre.trans ((below_alloc _ _).mono hpre.size)) (fun hHd4 => ?_); have hkyZ := Rt.KyAt.new w7 k) | (refine hK.out _ _ (Rt.set2_below hHd3 (Nat.le_refl _) _ _ _ _) (fun hHd4 => ?_); have hkyZ := KyAt.set hky2 k.bas k.stp)
        clear hK K
        try simp only [Act.put, List.setIfInBounds_toArray, List.set_cons_zero, List.set_cons_succ]
        refine wpAnyH_take (i := 9) (oi := { dst := some 8, op := Op.assign (Operand.tmp 22), type := _, pos := _, after := _, guard := none }) (v := .int .i64 0) rfl (by kernel_rfl) (by kernel_rfl) (by kernel_rfl) (fun _ _ _ h => h) (Or.inl ⟨by rfl, fun w hSw => by (try dsimp only at hSw); go_simp⟩) (by assumption) ?_
        simp only [Act.put, List.setIfInBounds_toArray, List.set_cons_zero, List.set_cons_succ]
        refine wpAnyH_done (by kernel_rfl) ?_ _
        go_wp2_with fail
        go_meet
        case rel => exact ⟨_, rfl, rfl, hHd4, hkyZ⟩
      · go_simp
        have hky : KyAt (w1.drew.alloc (.cells #[.int .i64 0, .int .i64 0] 23)) w1.heap.size Rt.zK := Rt.KyAt.new w1.drew Rt.zK
        refine hK.out _ _ (hHd1.trans ((below_alloc _ _).mono hHd1.size)) (fun hHd2 => ?_)
        clear hHd1
        clear hK K
        try simp only [Act.put, List.setIfInBounds_toArray, List.set_cons_zero, List.set_cons_succ]
        refine wpAnyH_ready (rs := [3]) (by kernel_rfl) (by simp) ?_
        refine AllReadyH.cons rfl (fun K hK => ?_) AllReadyH.nil
        go_simp
        refine (hof _).mono ?_
        rintro r w7 ⟨rfl, hb7⟩
        go_wp2_with fail
        have hky2 := hky.later hb7
        obtain ⟨x0, x1⟩ := hky2.cells
        have y0 := Rt.row_frozen hky2 0
        have y1 := Rt.row_frozen hky2 1
        refine hK.out _ _ (hHd2.trans (hb7.mono hHd2.size)) (fun hHd3 => ?_)
        clear hHd2 hb7 hky
        clear hK K
        try simp only [Act.put, List.setIfInBounds_toArray, List.set_cons_zero, List.set_cons_succ]
        refine wpAnyH_take (i := 4) (oi := { dst := some 16, op := Op.move (Operand.tmp 20), type := _, pos := _, after := _, guard := none }) (v := .tuple #[.agg #[.int .i64 k.bas, .int .i64 k.stp], .int .i64 0]) rfl (by kernel_rfl) (by kernel_rfl) (by kernel_rfl) (fun _ _ _ h => h) (Or.inl ⟨by rfl, fun w hSw => by (try dsimp only at hSw); go_simp⟩) (by assumption) ?_
        simp only [Act.put, List.setIfInBounds_toArray, List.set_cons_zero, List.set_cons_succ]
        refine wpAnyH_take (i := 5) (oi := { dst := some 21, op := Op.extract (Operand.tmp 16) 0, type := _, pos := _, after := _, guard := none }) (v := .agg #[.int .i64 k.bas, .int .i64 k.stp]) rfl (by kernel_rfl) (by kernel_rfl) (by kernel_rfl) (fun _ _ _ h => h) (Or.inl ⟨by rfl, fun w hSw => by (try dsimp only at hSw); go_simp⟩) (by assumption) ?_
        simp only [Act.put, List.setIfInBounds_toArray, List.set_cons_zero, List.set_cons_succ]
        refine wpAnyH_take (i := 6) (oi := { dst := some 22, op := Op.extract (Operand.tmp 16) 1, type := _, pos := _, after := _, guard := none }) (v := .int .i64 0) rfl (by kernel_rfl) (by kernel_rfl) (by kernel_rfl) (fun _ _ _ h => h) (Or.inl ⟨by rfl, fun w hSw => by (try dsimp only at hSw); go_simp⟩) (by assumption) ?_
        simp only [Act.put, List.setIfInBounds_toArray, List.set_cons_zero, List.set_cons_succ]
        refine wpAnyH_ready (rs := [8]) (by kernel_rfl) (by simp) ?_
        refine AllReadyH.cons rfl (fun K hK => ?_) AllReadyH.nil
        go_simp
        first | (refine hK.out _ _ (hpre.trans ((below_alloc _ _).mono hpre.size)) (fun hHd4 => ?_); have hkyZ := Rt.KyAt.new w7 k) | (refine hK.out _ _ (Rt.set2_below hHd3 (Nat.le_refl _) _ _ _ _) (fun hHd4 => ?_); have hkyZ := KyAt.set hky2 k.bas k.stp)
        clear hK K
        try simp only [Act.put, List.setIfInBounds_toArray, List.set_cons_zero, List.set_cons_succ]
        refine wpAnyH_take (i := 9) (oi := { dst := some 8, op := Op.assign (Operand.tmp 22), type := _, pos := _, after := _, guard := none }) (v := .int .i64 0) rfl (by kernel_rfl) (by kernel_rfl) (by kernel_rfl) (fun _ _ _ h => h) (Or.inl ⟨by rfl, fun w hSw => by (try dsimp only at hSw); go_simp⟩) (by assumption) ?_
        simp only [Act.put, List.setIfInBounds_toArray, List.set_cons_zero, List.set_cons_succ]
        refine wpAnyH_done (by kernel_rfl) ?_ _
        go_wp2_with fail
        go_meet
        case rel => exact ⟨_, rfl, rfl, hHd4, hkyZ⟩
    · go_simp
      have hky : KyAt (w1.drew.alloc (.cells #[.int .i64 0, .int .i64 0] 23)) w1.heap.size Rt.zK := Rt.KyAt.new w1.drew Rt.zK
      refine hK.out _ _ (hHeld.trans ((below_alloc _ _).mono hHeld.size)) (fun hHd1 => ?_)
      clear hHeld
      clear hK K
      try simp only [Act.put, List.setIfInBounds_toArray, List.set_cons_zero, List.set_cons_succ]
      refine wpAnyH_ready (rs := [2]) (by kernel_rfl) (by simp) ?_
      refine AllReadyH.cons rfl (fun K hK => ?_) AllReadyH.nil
      go_simp
      refine (hlf _).mono ?_
      rintro r w6 ⟨rfl, rfl⟩
      go_wp2_with fail
      refine hK.out _ _ hHd1 (fun hHd2 => ?_)
      clear hHd1
      clear hK K
      try simp only [Act.put, List.setIfInBounds_toArray, List.set_cons_zero, List.set_cons_succ]
      refine wpAnyH_ready (rs := [3]) (by kernel_rfl) (by simp) ?_
      refine AllReadyH.cons rfl (fun K hK => ?_) AllReadyH.nil
      go_simp
      refine (hof _).mono ?_
      rintro r w7 ⟨rfl, hb7⟩
      go_wp2_with fail
      have hky2 := hky.later hb7
      obtain ⟨x0, x1⟩ := hky2.cells
      have y0 := Rt.row_frozen hky2 0
      have y1 := Rt.row_frozen hky2 1
      refine hK.out _ _ (hHd2.trans (hb7.mono hHd2.size)) (fun hHd3 => ?_)
      clear hHd2 hb7 hky
      clear hK K
      try simp only [Act.put, List.setIfInBounds_toArray, List.set_cons_zero, List.set_cons_succ]
      refine wpAnyH_take (i := 4) (oi := { dst := some 16, op := Op.move (Operand.tmp 20), type := _, pos := _, after := _, guard := none }) (v := .tuple #[.agg #[.int .i64 k.bas, .int .i64 k.stp], .int .i64 0]) rfl (by kernel_rfl) (by kernel_rfl) (by kernel_rfl) (fun _ _ _ h => h) (Or.inl ⟨by rfl, fun w hSw => by (try dsimp only at hSw); go_simp⟩) (by assumption) ?_
      simp only [Act.put, List.setIfInBounds_toArray, List.set_cons_zero, List.set_cons_succ]
      refine wpAnyH_take (i := 5) (oi := { dst := some 21, op := Op.extract (Operand.tmp 16) 0, type := _, pos := _, after := _, guard := none }) (v := .agg #[.int .i64 k.bas, .int .i64 k.stp]) rfl (by kernel_rfl) (by kernel_rfl) (by kernel_rfl) (fun _ _ _ h => h) (Or.inl ⟨by rfl, fun w hSw => by (try dsimp only at hSw); go_simp⟩) (by assumption) ?_
      simp only [Act.put, List.setIfInBounds_toArray, List.set_cons_zero, List.set_cons_succ]
      refine wpAnyH_take (i := 6) (oi := { dst := some 22, op := Op.extract (Operand.tmp 16) 1, type := _, pos := _, after := _, guard := none }) (v := .int .i64 0) rfl (by kernel_rfl) (by kernel_rfl) (by kernel_rfl) (fun _ _ _ h => h) (Or.inl ⟨by rfl, fun w hSw => by (try dsimp only at hSw); go_simp⟩) (by assumption) ?_
      simp only [Act.put, List.setIfInBounds_toArray, List.set_cons_zero, List.set_cons_succ]
      refine wpAnyH_ready (rs := [8]) (by kernel_rfl) (by simp) ?_
      refine AllReadyH.cons rfl (fun K hK => ?_) AllReadyH.nil
      go_simp
      first | (refine hK.out _ _ (hpre.trans ((below_alloc _ _).mono hpre.size)) (fun hHd4 => ?_); have hkyZ := Rt.KyAt.new w7 k) | (refine hK.out _ _ (Rt.set2_below hHd3 (Nat.le_refl _) _ _ _ _) (fun hHd4 => ?_); have hkyZ := KyAt.set hky2 k.bas k.stp)
      clear hK K
      try simp only [Act.put, List.setIfInBounds_toArray, List.set_cons_zero, List.set_cons_succ]
      refine wpAnyH_take (i := 9) (oi := { dst := some 8, op := Op.assign (Operand.tmp 22), type := _, pos := _, after := _, guard := none }) (v := .int .i64 0) rfl (by kernel_rfl) (by kernel_rfl) (by kernel_rfl) (fun _ _ _ h => h) (Or.inl ⟨by rfl, fun w hSw => by (try dsimp only at hSw); go_simp⟩) (by assumption) ?_
      simp only [Act.put, List.setIfInBounds_toArray, List.set_cons_zero, List.set_cons_succ]
      refine wpAnyH_done (by kernel_rfl) ?_ _
      go_wp2_with fail
      go_meet
      case rel => exact ⟨_, rfl, rfl, hHd4, hkyZ⟩
  case rest =>
    obtain ⟨F, rfl, rfl, hbc, hkF⟩ := hcut
    have HE2 : Hid (EH w wc B M n cs) := HE.out.later hbc
    have HF : Hid (KyAt wc F k) := hkF
    have hpa := rPath_pn s hs8
    clear hbc hkF HE hof
    go_wp2_with fail
    refine (hpa _).mono ?_
    rintro r' w4 ⟨rfl, hb4⟩
    have hb5 := hb4.trans ((below_alloc w4 (.cells #[.int .i64 (pn s 0 : Nat), .int .i64 (pn s 1 : Nat), .int .i64 (pn s 2 : Nat)] 61)).mono hb4.size)
    have HE5 : Hid (EH w (w4.alloc (.cells #[.int .i64 (pn s 0 : Nat), .int .i64 (pn s 1 : Nat), .int .i64 (pn s 2 : Nat)] 61)) B M n cs) := HE2.out.later hb5
    have HF5 : Hid (KyAt (w4.alloc (.cells #[.int .i64 (pn s 0 : Nat), .int .i64 (pn s 1 : Nat), .int .i64 (pn s 2 : Nat)] 61)) F k) := HF.out.later hb5
    have HP5 : Hid (Pa3 (w4.alloc (.cells #[.int .i64 (pn s 0 : Nat), .int .i64 (pn s 1 : Nat), .int .i64 (pn s 2 : Nat)] 61)) w4.heap.size (pn s 0) (pn s 1) (pn s 2)) := heap_alloc_last w4 _
    clear hpa hb4 hb5 HE2 HF
    go_upto_region 5 with (fail)
    generalize w4.alloc (.cells #[.int .i64 (pn s 0 : Nat), .int .i64 (pn s 1 : Nat), .int .i64 (pn s 2 : Nat)] 61) = w5 at *
    generalize w4.heap.size = A at *
    go_cut [11, 12] (fun s11 s12 wx => ∃ K, s11 = .int .i64 z ∧ s12 = .pointer (some ⟨K, 0, none⟩) ∧ Below w5.heap.size w5 wx ∧ KyAt wx K k ∧ w5.heap.size ≤ K)
    case first =>
      have hS0 : Below w5.heap.size w5 w5.drew := drew_below _
      have hpre : Below w5.heap.size w5 (w5.drew.alloc (.cells #[.int .i64 k.bas, .int .i64 k.stp] 23)) := hS0.trans ((below_alloc _ _).mono hS0.size)
      have hkyZ : KyAt (w5.drew.alloc (.cells #[.int .i64 k.bas, .int .i64 k.stp] 23)) w5.heap.size k := Rt.KyAt.new w5.drew k
      refine wp_region_held_drew (S := fun X => Below w5.heap.size w5 X) (by kernel_rfl) hS0 (fun hHeld => ?_)
      refine wpAnyH_take (i := 0) (oi := { dst := some 30, op := Op.move (Operand.tmp 2), type := _, pos := _, after := _, guard := none }) (v := .int .i64 (s : Int)) rfl (by kernel_rfl) (by kernel_rfl) (by kernel_rfl) (fun _ _ _ h => h) (Or.inl ⟨by rfl, fun w hSw => by (try dsimp only at hSw); go_simp⟩) (by assumption) ?_
      simp only [Act.put, List.setIfInBounds_toArray, List.set_cons_zero, List.set_cons_succ]
      refine wpAnyH_take (i := 2) (oi := { dst := some 32, op := Op.load 23 (Operand.tmp 7), type := _, pos := _, after := _, guard := none }) (v := .agg #[.int .i64 k.bas, .int .i64 k.stp]) rfl (by kernel_rfl) (by kernel_rfl) (by kernel_rfl) (fun _ _ _ h => h) (Or.inl ⟨by rfl, fun w hSw => by obtain ⟨x0, x1⟩ := (HF5.out.later hSw).cells; clear hSw; go_simp⟩) (by assumption) ?_
      simp only [Act.put, List.setIfInBounds_toArray, List.set_cons_zero, List.set_cons_succ]
      refine wpAnyH_ready (rs := [1, 3]) (by kernel_rfl) (by simp) ?_
      refine (AllReadyH.cons rfl (fun K hK => ?_) (AllReadyH.cons rfl (fun K hK => ?_) AllReadyH.nil))
      · go_simp
        refine (hlf _).mono ?_
        rintro r w6 ⟨rfl, rfl⟩
        go_wp2_with fail
        refine hK.out _ _ hHeld (fun hHd1 => ?_)
        clear hHeld
        clear hK K
        try simp only [Act.put, List.setIfInBounds_toArray, List.set_cons_zero, List.set_cons_succ]
        refine wpAnyH_ready (rs := [3]) (by kernel_rfl) (by simp) ?_
        refine AllReadyH.cons rfl (fun K hK => ?_) AllReadyH.nil
        go_simp
        refine hK.out _ _ (hHd1.trans ((below_alloc _ _).mono hHd1.size)) (fun hHd2 => ?_)
        clear hHd1
        clear hK K
        try simp only [Act.put, List.setIfInBounds_toArray, List.set_cons_zero, List.set_cons_succ]
        refine wpAnyH_take (i := 4) (oi := { dst := some 11, op := Op.assign (Operand.tmp 31), type := _, pos := _, after := _, guard := none }) (v := .int .i64 z) rfl (by kernel_rfl) (by kernel_rfl) (by kernel_rfl) (fun _ _ _ h => h) (Or.inl ⟨by rfl, fun w hSw => by (try dsimp only at hSw); go_simp⟩) (by assumption) ?_
        simp only [Act.put, List.setIfInBounds_toArray, List.set_cons_zero, List.set_cons_succ]
        refine wpAnyH_ready (rs := [5]) (by kernel_rfl) (by simp) ?_
        refine AllReadyH.cons rfl (fun K hK => ?_) AllReadyH.nil
        go_simp
        refine hK.out _ _ hpre (fun hHd3 => ?_)
        clear hK K
        try simp only [Act.put, List.setIfInBounds_toArray, List.set_cons_zero, List.set_cons_succ]
        refine wpAnyH_done (by kernel_rfl) ?_ _
        go_wp2_with fail
        go_meet
        case rel => exact ⟨_, rfl, rfl, hHd3, hkyZ, Nat.le_refl _⟩
      · go_simp
        refine hK.out _ _ (hHeld.trans ((below_alloc _ _).mono hHeld.size)) (fun hHd1 => ?_)
        clear hHeld
        clear hK K
        try simp only [Act.put, List.setIfInBounds_toArray, List.set_cons_zero, List.set_cons_succ]
        refine wpAnyH_ready (rs := [1]) (by kernel_rfl) (by simp) ?_
        refine AllReadyH.cons rfl (fun K hK => ?_) AllReadyH.nil
        go_simp
        refine (hlf _).mono ?_
        rintro r w6 ⟨rfl, rfl⟩
        go_wp2_with fail
        refine hK.out _ _ hHd1 (fun hHd2 => ?_)
        clear hHd1
        clear hK K
        try simp only [Act.put, List.setIfInBounds_toArray, List.set_cons_zero, List.set_cons_succ]
        refine wpAnyH_take (i := 4) (oi := { dst := some 11, op := Op.assign (Operand.tmp 31), type := _, pos := _, after := _, guard := none }) (v := .int .i64 z) rfl (by kernel_rfl) (by kernel_rfl) (by kernel_rfl) (fun _ _ _ h => h) (Or.inl ⟨by rfl, fun w hSw => by (try dsimp only at hSw); go_simp⟩) (by assumption) ?_
        simp only [Act.put, List.setIfInBounds_toArray, List.set_cons_zero, List.set_cons_succ]
        refine wpAnyH_ready (rs := [5]) (by kernel_rfl) (by simp) ?_
        refine AllReadyH.cons rfl (fun K hK => ?_) AllReadyH.nil
        go_simp
        refine hK.out _ _ hpre (fun hHd3 => ?_)
        clear hK K
        try simp only [Act.put, List.setIfInBounds_toArray, List.set_cons_zero, List.set_cons_succ]
        refine wpAnyH_done (by kernel_rfl) ?_ _
        go_wp2_with fail
        go_meet
        case rel => exact ⟨_, rfl, rfl, hHd3, hkyZ, Nat.le_refl _⟩
    case rest =>
      obtain ⟨K, rfl, rfl, hbc, hkK, hKg⟩ := hcut
      have HE6 : Hid (E2 w wc B M F A K n cs s k k) := ⟨HE5.out.later hbc, HF5.out.later hbc, (hbc.block A (Array.getElem?_eq_some_iff.1 HP5.out).1).trans HP5.out, hkK, by have := (Array.getElem?_eq_some_iff.1 HF5.out).1; omega, by have := HE5.out.bel.size; omega⟩
      clear HE5 HF5 HP5 hbc hkK hKg
      go_wp2_with fail
      go_loopw [11, 13] (fun b i wx => ∃ j : Nat, j ≤ 3 ∧ i = .int .i64 (j : Int) ∧ b = .int .i64 ((bel s j : Nat) : Int) ∧ E2 w wx B M F A K n cs s k (kyA n (bel s j))) (fun _ i _ => 3 - (intOf i).toNat)
      case atStart => exact ⟨0, by omega, rfl, by rw [← HZ.out]; rfl, by rw [show bel s 0 = 21 + s from rfl, HKE.out]; exact HE6.out⟩
      case round =>
        obtain ⟨j, hj, rfl, rfl, hE2⟩ := hrel
        have HE7 : Hid (E2 w wr B M F A K n cs s k (kyA n (bel s j))) := hE2
        clear hE2 HE6
        by_cases hj3 : j < 3
        · have j0 : (0 : Int) ≤ (j : Int) := by omega
          have j1 : (j : Int) < 3 := by omega
          have hv21 : pn s j < 21 := pn_lt hs8 j
          have HJ2 := HJ.out j hj3
          have h1 := fun W (hW : Below wr.heap.size wr W) => HOP.out (pn s j) (21 + s) W (HE7.out.eh.bel.trans (hW.mono HE7.out.eh.bel.size))
          have h2 := fun W (hW : Below wr.heap.size wr W) => HOP.out (pn s j) (bel s j) W (HE7.out.eh.bel.trans (hW.mono HE7.out.eh.bel.size))
          have HEV : Hid (n.ks (pn s j) = kyA n (pn s j)) := (kyA_in hv21).symm
          have HNX : Hid (bel s (j + 1) = pn s j) := rfl
          unfold OpE at h1 h2
          simp only [show ∀ v c, (mkI n v c).ld = kyA n v from fun _ _ => rfl] at h1 h2
          rw [HKE.out, show (((21 + s : Nat) : Int)) = 21 + (s : Int) by push_cast; rfl, HZ.out] at h1
          rw [show (((21 + s : Nat) : Int)) = 21 + (s : Int) by push_cast; rfl, HZ.out] at HJ2
          obtain ⟨v, hv⟩ : ∃ v, pn s j = v := ⟨_, rfl⟩
          have HV : Hid (pn s j = v) := hv
          obtain ⟨e, he⟩ : ∃ e, kyA n (pn s j) = e := ⟨_, rfl⟩
          rw [he] at h1 h2 HEV
          rw [hv] at h1 h2 HJ2 hv21 HEV HNX
          have HEK : Hid (kyA n (bel s (j + 1)) = e) := by unfold Hid; rw [HNX.out, ← he, hv]
          obtain ⟨kc, hkc⟩ : ∃ e, kyA n (bel s j) = e := ⟨_, rfl⟩
          rw [hkc] at h2 HE7
          obtain ⟨c, hc⟩ : ∃ c, bel s j = c := ⟨_, rfl⟩
          rw [hc] at h2 HJ2
          rw [hc]
          clear hv he hkc hc
          have v0 : (0 : Int) ≤ (v : Int) := by omega
          have v1 : (v : Int) < 21 := by omega
          obtain ⟨xk, ok, hxk, hok, h1'⟩ : ∃ (xk : Ky) (ok : Bool), xk = (if hasI li v z then e else zK) ∧ ok = hasI li v z ∧ ∀ W, Below wr.heap.size wr W → Calls Tryd.prog 38 #[.agg cs, .int .i64 (v : Int), .int .i64 z, .agg #[.int .i64 k.bas, .int .i64 k.stp] ] W fun e' w' => e' = .returned (.tuple #[.agg #[.int .i64 xk.bas, .int .i64 xk.stp], .bool ok]) ∧ Below W.heap.size W w' := by
            cases hh : hasI li (v : Int) z with
            | true => exact ⟨e, true, rfl, rfl, fun W hW => by have := h1 W hW; rw [hh] at this; exact this⟩
            | false => exact ⟨zK, false, rfl, rfl, fun W hW => by have := h1 W hW; rw [hh] at this; exact this⟩
          have HXK : Hid (ok = true → xk = e) := fun h => by rw [hxk, ← hok, h]; rfl
          have HH2 : Hid (ok = false → hasI li (v : Int) (c : Int) = true) := fun h => by
            rcases HJ2 with h' | h'
            · rw [← hok, h] at h'; cases h'
            · exact h'
          clear h1 hxk hok HJ2
          go_upto_region 9 with (fail)
          go_cut [14, 15] (fun s14 s15 wx => ∃ X, s14 = .pointer (some ⟨X, 0, none⟩) ∧ s15 = .bool ok ∧ Below wr.heap.size wr wx ∧ KyAt wx X xk ∧ wr.heap.size ≤ X)
          case first =>
            have hS0 : Below wr.heap.size wr wr.drew := drew_below _
            refine wp_region_held_drew (S := fun X => Below wr.heap.size wr X) (by kernel_rfl) hS0 (fun hHeld => ?_)
            refine wpAnyH_take (i := 0) (oi := { dst := some 38, op := Op.load 39 (Operand.tmp 4), type := _, pos := _, after := _, guard := none }) (v := .agg cs) rfl (by kernel_rfl) (by kernel_rfl) (by kernel_rfl) (fun _ _ _ h => h) (Or.inl ⟨by rfl, fun w hSw => ld_exec ((HE7.out.later hSw).eh.rk.whole HCS.out) rfl rfl⟩) (by assumption) ?_
            simp only [Act.put, List.setIfInBounds_toArray, List.set_cons_zero, List.set_cons_succ]
            refine wpAnyH_take (i := 1) (oi := { dst := some 39, op := Op.move (Operand.tmp 13), type := _, pos := _, after := _, guard := none }) (v := .int .i64 (j : Int)) rfl (by kernel_rfl) (by kernel_rfl) (by kernel_rfl) (fun _ _ _ h => h) (Or.inl ⟨by rfl, fun w hSw => by (try dsimp only at hSw); go_simp⟩) (by assumption) ?_
            simp only [Act.put, List.setIfInBounds_toArray, List.set_cons_zero, List.set_cons_succ]
            refine wpAnyH_take (i := 2) (oi := { dst := some 40, op := Op.indexAddr 61 (Operand.tmp 9) (Operand.tmp 39), type := _, pos := _, after := _, guard := none }) (v := .pointer (some ⟨A, j, none⟩)) rfl (by kernel_rfl) (by kernel_rfl) (by kernel_rfl) (fun _ _ _ h => h) (Or.inl ⟨by rfl, fun w hSw => by (try dsimp only at hSw); go_simp⟩) (by assumption) ?_
            simp only [Act.put, List.setIfInBounds_toArray, List.set_cons_zero, List.set_cons_succ]
            refine wpAnyH_take (i := 3) (oi := { dst := some 41, op := Op.load 3 (Operand.tmp 40), type := _, pos := _, after := _, guard := none }) (v := .int .i64 (v : Int)) rfl (by kernel_rfl) (by kernel_rfl) (by kernel_rfl) (fun _ _ _ h => h) (Or.inl ⟨by rfl, fun w hSw => by have x0 := pa_at (HE7.out.later hSw).pa hj3; rw [HV.out] at x0; clear hSw; go_simp⟩) (by assumption) ?_
            simp only [Act.put, List.setIfInBounds_toArray, List.set_cons_zero, List.set_cons_succ]
            refine wpAnyH_take (i := 4) (oi := { dst := some 42, op := Op.move (Operand.tmp 2), type := _, pos := _, after := _, guard := none }) (v := .int .i64 (s : Int)) rfl (by kernel_rfl) (by kernel_rfl) (by kernel_rfl) (fun _ _ _ h => h) (Or.inl ⟨by rfl, fun w hSw => by (try dsimp only at hSw); go_simp⟩) (by assumption) ?_
            simp only [Act.put, List.setIfInBounds_toArray, List.set_cons_zero, List.set_cons_succ]
            refine wpAnyH_take (i := 6) (oi := { dst := some 44, op := Op.load 23 (Operand.tmp 7), type := _, pos := _, after := _, guard := none }) (v := .agg #[.int .i64 k.bas, .int .i64 k.stp]) rfl (by kernel_rfl) (by kernel_rfl) (by kernel_rfl) (fun _ _ _ h => h) (Or.inl ⟨by rfl, fun w hSw => by obtain ⟨x0, x1⟩ := (HE7.out.later hSw).lf.cells; clear hSw; go_simp⟩) (by assumption) ?_
            simp only [Act.put, List.setIfInBounds_toArray, List.set_cons_zero, List.set_cons_succ]
            refine wpAnyH_ready (rs := [5, 11]) (by kernel_rfl) (by simp) ?_
            refine (AllReadyH.cons rfl (fun K hK => ?_) (AllReadyH.cons rfl (fun K hK => ?_) AllReadyH.nil))
            · go_simp
              refine (hlf _).mono ?_
              rintro r w6 ⟨rfl, rfl⟩
              go_wp2_with fail
              refine hK.out _ _ hHeld (fun hHd1 => ?_)
              clear hHeld
              clear hK K
              try simp only [Act.put, List.setIfInBounds_toArray, List.set_cons_zero, List.set_cons_succ]
              refine wpAnyH_ready (rs := [7, 11]) (by kernel_rfl) (by simp) ?_
              refine (AllReadyH.cons rfl (fun K hK => ?_) (AllReadyH.cons rfl (fun K hK => ?_) AllReadyH.nil))
              · go_simp
                refine (h1' _ hHd1).mono ?_
                rintro r w7 ⟨rfl, hb7⟩
                go_wp2_with fail
                have hw7 : wr.heap.size ≤ w7.heap.size := Nat.le_trans hHd1.size hb7.size
                refine hK.out _ _ (hHd1.trans (hb7.mono hHd1.size)) (fun hHd2 => ?_)
                clear hHd1 hb7
                clear hK K
                try simp only [Act.put, List.setIfInBounds_toArray, List.set_cons_zero, List.set_cons_succ]
                refine wpAnyH_take (i := 8) (oi := { dst := some 37, op := Op.move (Operand.tmp 45), type := _, pos := _, after := _, guard := none }) (v := .tuple #[.agg #[.int .i64 xk.bas, .int .i64 xk.stp], .bool ok]) rfl (by kernel_rfl) (by kernel_rfl) (by kernel_rfl) (fun _ _ _ h => h) (Or.inl ⟨by rfl, fun w hSw => by (try dsimp only at hSw); go_simp⟩) (by assumption) ?_
                simp only [Act.put, List.setIfInBounds_toArray, List.set_cons_zero, List.set_cons_succ]
                refine wpAnyH_take (i := 9) (oi := { dst := some 46, op := Op.extract (Operand.tmp 37) 0, type := _, pos := _, after := _, guard := none }) (v := .agg #[.int .i64 xk.bas, .int .i64 xk.stp]) rfl (by kernel_rfl) (by kernel_rfl) (by kernel_rfl) (fun _ _ _ h => h) (Or.inl ⟨by rfl, fun w hSw => by (try dsimp only at hSw); go_simp⟩) (by assumption) ?_
                simp only [Act.put, List.setIfInBounds_toArray, List.set_cons_zero, List.set_cons_succ]
                refine wpAnyH_take (i := 10) (oi := { dst := some 47, op := Op.extract (Operand.tmp 37) 1, type := _, pos := _, after := _, guard := none }) (v := .bool ok) rfl (by kernel_rfl) (by kernel_rfl) (by kernel_rfl) (fun _ _ _ h => h) (Or.inl ⟨by rfl, fun w hSw => by (try dsimp only at hSw); go_simp⟩) (by assumption) ?_
                simp only [Act.put, List.setIfInBounds_toArray, List.set_cons_zero, List.set_cons_succ]
                refine wpAnyH_ready (rs := [11]) (by kernel_rfl) (by simp) ?_
                refine AllReadyH.cons rfl (fun K hK => ?_) AllReadyH.nil
                go_simp
                have hpre := hHd2
                refine hK.out _ _ (hHd2.trans ((below_alloc _ _).mono hHd2.size)) (fun hHd3 => ?_)
                clear hK K
                try simp only [Act.put, List.setIfInBounds_toArray, List.set_cons_zero, List.set_cons_succ]
                refine wpAnyH_ready (rs := [12]) (by kernel_rfl) (by simp) ?_
                refine AllReadyH.cons rfl (fun K hK => ?_) AllReadyH.nil
                go_simp
                first | (refine hK.out _ _ (hpre.trans ((below_alloc _ _).mono hpre.size)) (fun hHd4 => ?_); have hkyZ := Rt.KyAt.new w7 xk) | (refine hK.out _ _ (Rt.set2_below hHd3 (Nat.le_refl _) _ _ _ _) (fun hHd4 => ?_); have hkyZ := KyAt.set hky2 xk.bas xk.stp)
                clear hK K
                try simp only [Act.put, List.setIfInBounds_toArray, List.set_cons_zero, List.set_cons_succ]
                refine wpAnyH_take (i := 13) (oi := { dst := some 15, op := Op.assign (Operand.tmp 47), type := _, pos := _, after := _, guard := none }) (v := .bool ok) rfl (by kernel_rfl) (by kernel_rfl) (by kernel_rfl) (fun _ _ _ h => h) (Or.inl ⟨by rfl, fun w hSw => by (try dsimp only at hSw); go_simp⟩) (by assumption) ?_
                simp only [Act.put, List.setIfInBounds_toArray, List.set_cons_zero, List.set_cons_succ]
                refine wpAnyH_done (by kernel_rfl) ?_ _
                go_wp2_with fail
                go_meet
                case rel => exact ⟨_, rfl, rfl, hHd4, hkyZ, hw7⟩
              · go_simp
                have hky : KyAt (wr.drew.alloc (.cells #[.int .i64 0, .int .i64 0] 23)) wr.heap.size Rt.zK := Rt.KyAt.new wr.drew Rt.zK
                have hw7 : wr.heap.size ≤ wr.heap.size := Nat.le_refl _
                refine hK.out _ _ (hHd1.trans ((below_alloc _ _).mono hHd1.size)) (fun hHd2 => ?_)
                clear hHd1
                clear hK K
                try simp only [Act.put, List.setIfInBounds_toArray, List.set_cons_zero, List.set_cons_succ]
                refine wpAnyH_ready (rs := [7]) (by kernel_rfl) (by simp) ?_
                refine AllReadyH.cons rfl (fun K hK => ?_) AllReadyH.nil
                go_simp
                refine (h1' _ hHd2).mono ?_
                rintro r w7 ⟨rfl, hb7⟩
                go_wp2_with fail
                have hky2 := hky.later hb7
                obtain ⟨x0, x1⟩ := hky2.cells
                have y0 := Rt.row_frozen hky2 0
                have y1 := Rt.row_frozen hky2 1
                refine hK.out _ _ (hHd2.trans (hb7.mono hHd2.size)) (fun hHd3 => ?_)
                clear hHd2 hb7 hky
                clear hK K
                try simp only [Act.put, List.setIfInBounds_toArray, List.set_cons_zero, List.set_cons_succ]
                refine wpAnyH_take (i := 8) (oi := { dst := some 37, op := Op.move (Operand.tmp 45), type := _, pos := _, after := _, guard := none }) (v := .tuple #[.agg #[.int .i64 xk.bas, .int .i64 xk.stp], .bool ok]) rfl (by kernel_rfl) (by kernel_rfl) (by kernel_rfl) (fun _ _ _ h => h) (Or.inl ⟨by rfl, fun w hSw => by (try dsimp only at hSw); go_simp⟩) (by assumption) ?_
                simp only [Act.put, List.setIfInBounds_toArray, List.set_cons_zero, List.set_cons_succ]
                refine wpAnyH_take (i := 9) (oi := { dst := some 46, op := Op.extract (Operand.tmp 37) 0, type := _, pos := _, after := _, guard := none }) (v := .agg #[.int .i64 xk.bas, .int .i64 xk.stp]) rfl (by kernel_rfl) (by kernel_rfl) (by kernel_rfl) (fun _ _ _ h => h) (Or.inl ⟨by rfl, fun w hSw => by (try dsimp only at hSw); go_simp⟩) (by assumption) ?_
                simp only [Act.put, List.setIfInBounds_toArray, List.set_cons_zero, List.set_cons_succ]
                refine wpAnyH_take (i := 10) (oi := { dst := some 47, op := Op.extract (Operand.tmp 37) 1, type := _, pos := _, after := _, guard := none }) (v := .bool ok) rfl (by kernel_rfl) (by kernel_rfl) (by kernel_rfl) (fun _ _ _ h => h) (Or.inl ⟨by rfl, fun w hSw => by (try dsimp only at hSw); go_simp⟩) (by assumption) ?_
                simp only [Act.put, List.setIfInBounds_toArray, List.set_cons_zero, List.set_cons_succ]
                refine wpAnyH_ready (rs := [12]) (by kernel_rfl) (by simp) ?_
                refine AllReadyH.cons rfl (fun K hK => ?_) AllReadyH.nil
                go_simp
                first | (refine hK.out _ _ (hpre.trans ((below_alloc _ _).mono hpre.size)) (fun hHd4 => ?_); have hkyZ := Rt.KyAt.new w7 xk) | (refine hK.out _ _ (Rt.set2_below hHd3 (Nat.le_refl _) _ _ _ _) (fun hHd4 => ?_); have hkyZ := KyAt.set hky2 xk.bas xk.stp)
                clear hK K
                try simp only [Act.put, List.setIfInBounds_toArray, List.set_cons_zero, List.set_cons_succ]
                refine wpAnyH_take (i := 13) (oi := { dst := some 15, op := Op.assign (Operand.tmp 47), type := _, pos := _, after := _, guard := none }) (v := .bool ok) rfl (by kernel_rfl) (by kernel_rfl) (by kernel_rfl) (fun _ _ _ h => h) (Or.inl ⟨by rfl, fun w hSw => by (try dsimp only at hSw); go_simp⟩) (by assumption) ?_
                simp only [Act.put, List.setIfInBounds_toArray, List.set_cons_zero, List.set_cons_succ]
                refine wpAnyH_done (by kernel_rfl) ?_ _
                go_wp2_with fail
                go_meet
                case rel => exact ⟨_, rfl, rfl, hHd4, hkyZ, hw7⟩
            · go_simp
              have hky : KyAt (wr.drew.alloc (.cells #[.int .i64 0, .int .i64 0] 23)) wr.heap.size Rt.zK := Rt.KyAt.new wr.drew Rt.zK
              have hw7 : wr.heap.size ≤ wr.heap.size := Nat.le_refl _
              refine hK.out _ _ (hHeld.trans ((below_alloc _ _).mono hHeld.size)) (fun hHd1 => ?_)
              clear hHeld
              clear hK K
              try simp only [Act.put, List.setIfInBounds_toArray, List.set_cons_zero, List.set_cons_succ]
              refine wpAnyH_ready (rs := [5]) (by kernel_rfl) (by simp) ?_
              refine AllReadyH.cons rfl (fun K hK => ?_) AllReadyH.nil
              go_simp
              refine (hlf _).mono ?_
              rintro r w6 ⟨rfl, rfl⟩
              go_wp2_with fail
              refine hK.out _ _ hHd1 (fun hHd2 => ?_)
              clear hHd1
              clear hK K
              try simp only [Act.put, List.setIfInBounds_toArray, List.set_cons_zero, List.set_cons_succ]
              refine wpAnyH_ready (rs := [7]) (by kernel_rfl) (by simp) ?_
              refine AllReadyH.cons rfl (fun K hK => ?_) AllReadyH.nil
              go_simp
              refine (h1' _ hHd2).mono ?_
              rintro r w7 ⟨rfl, hb7⟩
              go_wp2_with fail
              have hky2 := hky.later hb7
              obtain ⟨x0, x1⟩ := hky2.cells
              have y0 := Rt.row_frozen hky2 0
              have y1 := Rt.row_frozen hky2 1
              refine hK.out _ _ (hHd2.trans (hb7.mono hHd2.size)) (fun hHd3 => ?_)
              clear hHd2 hb7 hky
              clear hK K
              try simp only [Act.put, List.setIfInBounds_toArray, List.set_cons_zero, List.set_cons_succ]
              refine wpAnyH_take (i := 8) (oi := { dst := some 37, op := Op.move (Operand.tmp 45), type := _, pos := _, after := _, guard := none }) (v := .tuple #[.agg #[.int .i64 xk.bas, .int .i64 xk.stp], .bool ok]) rfl (by kernel_rfl) (by kernel_rfl) (by kernel_rfl) (fun _ _ _ h => h) (Or.inl ⟨by rfl, fun w hSw => by (try dsimp only at hSw); go_simp⟩) (by assumption) ?_
              simp only [Act.put, List.setIfInBounds_toArray, List.set_cons_zero, List.set_cons_succ]
              refine wpAnyH_take (i := 9) (oi := { dst := some 46, op := Op.extract (Operand.tmp 37) 0, type := _, pos := _, after := _, guard := none }) (v := .agg #[.int .i64 xk.bas, .int .i64 xk.stp]) rfl (by kernel_rfl) (by kernel_rfl) (by kernel_rfl) (fun _ _ _ h => h) (Or.inl ⟨by rfl, fun w hSw => by (try dsimp only at hSw); go_simp⟩) (by assumption) ?_
              simp only [Act.put, List.setIfInBounds_toArray, List.set_cons_zero, List.set_cons_succ]
              refine wpAnyH_take (i := 10) (oi := { dst := some 47, op := Op.extract (Operand.tmp 37) 1, type := _, pos := _, after := _, guard := none }) (v := .bool ok) rfl (by kernel_rfl) (by kernel_rfl) (by kernel_rfl) (fun _ _ _ h => h) (Or.inl ⟨by rfl, fun w hSw => by (try dsimp only at hSw); go_simp⟩) (by assumption) ?_
              simp only [Act.put, List.setIfInBounds_toArray, List.set_cons_zero, List.set_cons_succ]
              refine wpAnyH_ready (rs := [12]) (by kernel_rfl) (by simp) ?_
              refine AllReadyH.cons rfl (fun K hK => ?_) AllReadyH.nil
              go_simp
              first | (refine hK.out _ _ (hpre.trans ((below_alloc _ _).mono hpre.size)) (fun hHd4 => ?_); have hkyZ := Rt.KyAt.new w7 xk) | (refine hK.out _ _ (Rt.set2_below hHd3 (Nat.le_refl _) _ _ _ _) (fun hHd4 => ?_); have hkyZ := KyAt.set hky2 xk.bas xk.stp)
              clear hK K
              try simp only [Act.put, List.setIfInBounds_toArray, List.set_cons_zero, List.set_cons_succ]
              refine wpAnyH_take (i := 13) (oi := { dst := some 15, op := Op.assign (Operand.tmp 47), type := _, pos := _, after := _, guard := none }) (v := .bool ok) rfl (by kernel_rfl) (by kernel_rfl) (by kernel_rfl) (fun _ _ _ h => h) (Or.inl ⟨by rfl, fun w hSw => by (try dsimp only at hSw); go_simp⟩) (by assumption) ?_
              simp only [Act.put, List.setIfInBounds_toArray, List.set_cons_zero, List.set_cons_succ]
              refine wpAnyH_done (by kernel_rfl) ?_ _
              go_wp2_with fail
              go_meet
              case rel => exact ⟨_, rfl, rfl, hHd4, hkyZ, hw7⟩
          case rest =>
            obtain ⟨X, rfl, rfl, hbc, hkX, hXg⟩ := hcut
            have HBC : Hid (Below wr.heap.size wr wc) := hbc
            have HKX : Hid (KyAt wc X xk) := hkX
            have HXG : Hid (wr.heap.size ≤ X) := hXg
            clear hbc hkX hXg h1'
            cases ok with
            | true =>
                have HBQ := HBC
                have HKQ : Hid (KyAt wc X e) := HXK.out rfl ▸ HKX.out
                clear HBC HKX HXK HH2
                generalize wc = wq at *
                have HE9 : Hid (E2 w wq B M F A K n cs s k kc) := HE7.out.later HBQ.out
                have HXN : Hid (X ≠ K) := by unfold Hid; have h1 := (Array.getElem?_eq_some_iff.1 HE7.out.ky).1; have h2 := HXG.out; omega
                clear HE7 HBQ h2
                go_upto_region 12 with (fail)
                have hT0 : Below wq.heap.size wq wq.drew := drew_below _
                refine wp_region_held_drew (S := fun Y => Below wq.heap.size wq Y) (by kernel_rfl) hT0 (fun hHeld => ?_)
                refine wpAnyH_take (i := 0) (oi := { dst := some 60, op := Op.move (Operand.tmp 15), type := _, pos := _, after := _, guard := none }) (v := .bool true) rfl (by kernel_rfl) (by kernel_rfl) (by kernel_rfl) (fun _ _ _ h => h) (Or.inl ⟨by rfl, fun w hSw => by (try dsimp only at hSw); go_simp⟩) (by assumption) ?_
                simp only [Act.put, List.setIfInBounds_toArray, List.set_cons_zero, List.set_cons_succ]
                refine wpAnyH_take (i := 1) (oi := { dst := some 61, op := Op.unOp UnOp.not 4 (Operand.tmp 60), type := _, pos := _, after := _, guard := none }) (v := .bool false) rfl (by kernel_rfl) (by kernel_rfl) (by kernel_rfl) (fun _ _ _ h => h) (Or.inl ⟨by rfl, fun w hSw => by (try dsimp only at hSw); go_simp⟩) (by assumption) ?_
                simp only [Act.put, List.setIfInBounds_toArray, List.set_cons_zero, List.set_cons_succ]
                refine wpAnyH_take (i := 2) (oi := { dst := some 62, op := Op.move (Operand.tmp 61), type := _, pos := _, after := _, guard := none }) (v := .bool false) rfl (by kernel_rfl) (by kernel_rfl) (by kernel_rfl) (fun _ _ _ h => h) (Or.inl ⟨by rfl, fun w hSw => by (try dsimp only at hSw); go_simp⟩) (by assumption) ?_
                simp only [Act.put, List.setIfInBounds_toArray, List.set_cons_zero, List.set_cons_succ]
                refine wpAnyH_take (i := 3) (oi := { dst := some 63, op := Op.load 23 (Operand.tmp 14), type := _, pos := _, after := _, guard := some (2, false) }) (v := .agg #[.int .i64 e.bas, .int .i64 e.stp]) rfl (by kernel_rfl) (by kernel_rfl) (by kernel_rfl) (fun _ _ _ h => h) (Or.inl ⟨by rfl, fun w hSw => by obtain ⟨x0, x1⟩ := (HKQ.out.later hSw).cells; clear hSw; go_simp⟩) (by assumption) ?_
                simp only [Act.put, List.setIfInBounds_toArray, List.set_cons_zero, List.set_cons_succ]
                refine wpAnyH_take (i := 4) (oi := { dst := some 64, op := Op.move (Operand.tmp 13), type := _, pos := _, after := _, guard := some (2, false) }) (v := .int .i64 (j : Int)) rfl (by kernel_rfl) (by kernel_rfl) (by kernel_rfl) (fun _ _ _ h => h) (Or.inl ⟨by rfl, fun w hSw => by (try dsimp only at hSw); go_simp⟩) (by assumption) ?_
                simp only [Act.put, List.setIfInBounds_toArray, List.set_cons_zero, List.set_cons_succ]
                refine wpAnyH_take (i := 5) (oi := { dst := some 65, op := Op.indexAddr 61 (Operand.tmp 9) (Operand.tmp 64), type := _, pos := _, after := _, guard := some (2, false) }) (v := .pointer (some ⟨A, j, none⟩)) rfl (by kernel_rfl) (by kernel_rfl) (by kernel_rfl) (fun _ _ _ h => h) (Or.inl ⟨by rfl, fun w hSw => by (try dsimp only at hSw); go_simp⟩) (by assumption) ?_
                simp only [Act.put, List.setIfInBounds_toArray, List.set_cons_zero, List.set_cons_succ]
                refine wpAnyH_take (i := 6) (oi := { dst := some 66, op := Op.load 3 (Operand.tmp 65), type := _, pos := _, after := _, guard := some (2, false) }) (v := .int .i64 (v : Int)) rfl (by kernel_rfl) (by kernel_rfl) (by kernel_rfl) (fun _ _ _ h => h) (Or.inl ⟨by rfl, fun w hSw => by have x0 := pa_at (HE9.out.later hSw).pa hj3; rw [HV.out] at x0; clear hSw; go_simp⟩) (by assumption) ?_
                simp only [Act.put, List.setIfInBounds_toArray, List.set_cons_zero, List.set_cons_succ]
                refine wpAnyH_take (i := 7) (oi := { dst := some 67, op := Op.fieldAddr 31 (Operand.tmp 3) 2, type := _, pos := _, after := _, guard := some (2, false) }) (v := .pointer (some ⟨B, 2, none⟩)) rfl (by kernel_rfl) (by kernel_rfl) (by kernel_rfl) (fun _ _ _ h => h) (Or.inl ⟨by rfl, fun w hSw => by (try dsimp only at hSw); go_simp⟩) (by assumption) ?_
                simp only [Act.put, List.setIfInBounds_toArray, List.set_cons_zero, List.set_cons_succ]
                refine wpAnyH_take (i := 8) (oi := { dst := some 68, op := Op.indexAddr 25 (Operand.tmp 67) (Operand.tmp 66), type := _, pos := _, after := _, guard := some (2, false) }) (v := .pointer (some ⟨B, 2 + v * 2, none⟩)) rfl (by kernel_rfl) (by kernel_rfl) (by kernel_rfl) (fun _ _ _ h => h) (Or.inl ⟨by rfl, fun w hSw => by (try dsimp only at hSw); go_simp⟩) (by assumption) ?_
                simp only [Act.put, List.setIfInBounds_toArray, List.set_cons_zero, List.set_cons_succ]
                refine wpAnyH_take (i := 9) (oi := { dst := some 69, op := Op.load 23 (Operand.tmp 68), type := _, pos := _, after := _, guard := some (2, false) }) (v := .agg #[.int .i64 e.bas, .int .i64 e.stp]) rfl (by kernel_rfl) (by kernel_rfl) (by kernel_rfl) (fun _ _ _ h => h) (Or.inl ⟨by rfl, fun w hSw => by obtain ⟨x0, x1⟩ := (HE9.out.later hSw).eh.tr.key v hv21; rw [HEV.out] at x0 x1; clear hSw; go_simp⟩) (by assumption) ?_
                simp only [Act.put, List.setIfInBounds_toArray, List.set_cons_zero, List.set_cons_succ]
                refine wpAnyH_take (i := 10) (oi := { dst := some 70, op := Op.binOp BinOp.neq 23 (Operand.tmp 63) (Operand.tmp 69) 23, type := _, pos := _, after := _, guard := some (2, false) }) (v := .bool false) rfl (by kernel_rfl) (by kernel_rfl) (by kernel_rfl) (fun _ _ _ h => h) (Or.inl ⟨by rfl, fun w hSw => by (try dsimp only at hSw); go_simp⟩) (by assumption) ?_
                simp only [Act.put, List.setIfInBounds_toArray, List.set_cons_zero, List.set_cons_succ]
                refine wpAnyH_take (i := 11) (oi := { dst := some 71, op := Op.pick (Operand.tmp 62) (Operand.const (Value.bool true)) (Operand.tmp 70), type := _, pos := _, after := _, guard := none }) (v := .bool false) rfl (by kernel_rfl) (by kernel_rfl) (by kernel_rfl) (fun _ _ _ h => h) (Or.inl ⟨by rfl, fun w hSw => by (try dsimp only at hSw); go_simp⟩) (by assumption) ?_
                simp only [Act.put, List.setIfInBounds_toArray, List.set_cons_zero, List.set_cons_succ]
                refine wpAnyH_done (by kernel_rfl) ?_ _
                have HE10 : Hid (E2 w wq.drew B M F A K n cs s k kc) := HE9.out.later hT0
                have HX10 : Hid (KyAt wq.drew X e) := HKQ.out.later hT0
                clear HE9 HKQ hHeld hT0
                generalize wq.drew = wz at *
                go_upto_region 14 with (fail)
                have hkK := HE10.out.ky
                obtain ⟨q0, q1⟩ := hkK.cells
                have y0 := Rt.row_frozen hkK 0
                have y1 := Rt.row_frozen hkK 1
                have HES : Hid (E2 w ((wz.setCell ⟨K, 0, none⟩ (.int .i64 e.bas)).setCell ⟨K, 1, none⟩ (.int .i64 e.stp)).drew B M F A K n cs s k e) := (HE10.out.set e.bas e.stp).later (drew_below _)
                have HXS : Hid (KyAt ((wz.setCell ⟨K, 0, none⟩ (.int .i64 e.bas)).setCell ⟨K, 1, none⟩ (.int .i64 e.stp)).drew X e) := KyAt.later ((Rt.set2_other HXN.out _ _ _ _).trans HX10.out) (drew_below _)
                have hT0 : Pa3 wz.drew A (pn s 0) (pn s 1) (pn s 2) ∧ KyAt wz.drew X e := ⟨(HE10.out.later (drew_below _)).pa, HX10.out.later (drew_below _)⟩
                clear HE10 HX10
                refine wp_region_held_drew (S := fun Y => Pa3 Y A (pn s 0) (pn s 1) (pn s 2) ∧ KyAt Y X e) (by kernel_rfl) hT0 (fun hHeld => ?_)
                refine wpAnyH_take (i := 0) (oi := { dst := some 72, op := Op.move (Operand.tmp 13), type := _, pos := _, after := _, guard := none }) (v := .int .i64 (j : Int)) rfl (by kernel_rfl) (by kernel_rfl) (by kernel_rfl) (fun _ _ _ h => h) (Or.inl ⟨by rfl, fun w hSw => by (try dsimp only at hSw); go_simp⟩) (by assumption) ?_
                simp only [Act.put, List.setIfInBounds_toArray, List.set_cons_zero, List.set_cons_succ]
                refine wpAnyH_take (i := 1) (oi := { dst := some 73, op := Op.indexAddr 61 (Operand.tmp 9) (Operand.tmp 72), type := _, pos := _, after := _, guard := none }) (v := .pointer (some ⟨A, j, none⟩)) rfl (by kernel_rfl) (by kernel_rfl) (by kernel_rfl) (fun _ _ _ h => h) (Or.inl ⟨by rfl, fun w hSw => by (try dsimp only at hSw); go_simp⟩) (by assumption) ?_
                simp only [Act.put, List.setIfInBounds_toArray, List.set_cons_zero, List.set_cons_succ]
                refine wpAnyH_take (i := 2) (oi := { dst := some 74, op := Op.load 3 (Operand.tmp 73), type := _, pos := _, after := _, guard := none }) (v := .int .i64 (v : Int)) rfl (by kernel_rfl) (by kernel_rfl) (by kernel_rfl) (fun _ _ _ h => h) (Or.inl ⟨by rfl, fun w hSw => by have x0 := pa_at hSw.1 hj3; rw [HV.out] at x0; clear hSw; go_simp⟩) (by assumption) ?_
                simp only [Act.put, List.setIfInBounds_toArray, List.set_cons_zero, List.set_cons_succ]
                refine wpAnyH_take (i := 3) (oi := { dst := some 75, op := Op.load 23 (Operand.tmp 14), type := _, pos := _, after := _, guard := none }) (v := .agg #[.int .i64 e.bas, .int .i64 e.stp]) rfl (by kernel_rfl) (by kernel_rfl) (by kernel_rfl) (fun _ _ _ h => h) (Or.inl ⟨by rfl, fun w hSw => by obtain ⟨x0, x1⟩ := hSw.2.cells; clear hSw; go_simp⟩) (by assumption) ?_
                simp only [Act.put, List.setIfInBounds_toArray, List.set_cons_zero, List.set_cons_succ]
                refine wpAnyH_take (i := 4) (oi := { dst := some 11, op := Op.assign (Operand.tmp 74), type := _, pos := _, after := _, guard := none }) (v := .int .i64 (v : Int)) rfl (by kernel_rfl) (by kernel_rfl) (by kernel_rfl) (fun _ _ _ h => h) (Or.inl ⟨by rfl, fun w hSw => by (try dsimp only at hSw); go_simp⟩) (by assumption) ?_
                simp only [Act.put, List.setIfInBounds_toArray, List.set_cons_zero, List.set_cons_succ]
                refine wpAnyH_ready (rs := [5]) (by kernel_rfl) (by simp) ?_
                refine AllReadyH.cons rfl (fun K hK => ?_) AllReadyH.nil
                go_simp
                refine hK.out _ _ ⟨HES.out.pa, HXS.out⟩ (fun hHeld9 => ?_)
                clear hK K
                try simp only [Act.put, List.setIfInBounds_toArray, List.set_cons_zero, List.set_cons_succ]
                refine wpAnyH_done (by kernel_rfl) ?_ _
                clear hHeld9 hHeld hT0 hkK q0 q1 y0 y1 HXS
                go_wp2_with fail
                go_roundw
                case rel => exact ⟨j + 1, by omega, by go_num, by rw [HNX.out], by rw [HEK.out]; exact HES.out⟩
                case measure => simp [intOf]; omega
            | false =>
                have HHI : Hid (hasI li (v : Int) (c : Int) = true) := HH2.out rfl
                clear HH2 HXK
                go_upto_region 11 with (fail)
                have hS0 : Below wr.heap.size wr wc.drew := HBC.out.trans ((drew_below _).mono HBC.out.size)
                have hkX2 : KyAt wc.drew X xk := HKX.out.later (drew_below _)
                refine wp_region_held_drew (S := fun Y => Below wr.heap.size wr Y) (by kernel_rfl) hS0 (fun hHeld => ?_)
                refine wpAnyH_take (i := 0) (oi := { dst := some 51, op := Op.load 39 (Operand.tmp 4), type := _, pos := _, after := _, guard := none }) (v := .agg cs) rfl (by kernel_rfl) (by kernel_rfl) (by kernel_rfl) (fun _ _ _ h => h) (Or.inl ⟨by rfl, fun w hSw => ld_exec ((HE7.out.later hSw).eh.rk.whole HCS.out) rfl rfl⟩) (by assumption) ?_
                simp only [Act.put, List.setIfInBounds_toArray, List.set_cons_zero, List.set_cons_succ]
                refine wpAnyH_take (i := 1) (oi := { dst := some 52, op := Op.move (Operand.tmp 13), type := _, pos := _, after := _, guard := none }) (v := .int .i64 (j : Int)) rfl (by kernel_rfl) (by kernel_rfl) (by kernel_rfl) (fun _ _ _ h => h) (Or.inl ⟨by rfl, fun w hSw => by (try dsimp only at hSw); go_simp⟩) (by assumption) ?_
                simp only [Act.put, List.setIfInBounds_toArray, List.set_cons_zero, List.set_cons_succ]
                refine wpAnyH_take (i := 2) (oi := { dst := some 53, op := Op.indexAddr 61 (Operand.tmp 9) (Operand.tmp 52), type := _, pos := _, after := _, guard := none }) (v := .pointer (some ⟨A, j, none⟩)) rfl (by kernel_rfl) (by kernel_rfl) (by kernel_rfl) (fun _ _ _ h => h) (Or.inl ⟨by rfl, fun w hSw => by (try dsimp only at hSw); go_simp⟩) (by assumption) ?_
                simp only [Act.put, List.setIfInBounds_toArray, List.set_cons_zero, List.set_cons_succ]
                refine wpAnyH_take (i := 3) (oi := { dst := some 54, op := Op.load 3 (Operand.tmp 53), type := _, pos := _, after := _, guard := none }) (v := .int .i64 (v : Int)) rfl (by kernel_rfl) (by kernel_rfl) (by kernel_rfl) (fun _ _ _ h => h) (Or.inl ⟨by rfl, fun w hSw => by have x0 := pa_at (HE7.out.later hSw).pa hj3; rw [HV.out] at x0; clear hSw; go_simp⟩) (by assumption) ?_
                simp only [Act.put, List.setIfInBounds_toArray, List.set_cons_zero, List.set_cons_succ]
                refine wpAnyH_take (i := 4) (oi := { dst := some 55, op := Op.move (Operand.tmp 11), type := _, pos := _, after := _, guard := none }) (v := .int .i64 (c : Int)) rfl (by kernel_rfl) (by kernel_rfl) (by kernel_rfl) (fun _ _ _ h => h) (Or.inl ⟨by rfl, fun w hSw => by (try dsimp only at hSw); go_simp⟩) (by assumption) ?_
                simp only [Act.put, List.setIfInBounds_toArray, List.set_cons_zero, List.set_cons_succ]
                refine wpAnyH_take (i := 5) (oi := { dst := some 56, op := Op.load 23 (Operand.tmp 12), type := _, pos := _, after := _, guard := none }) (v := .agg #[.int .i64 kc.bas, .int .i64 kc.stp]) rfl (by kernel_rfl) (by kernel_rfl) (by kernel_rfl) (fun _ _ _ h => h) (Or.inl ⟨by rfl, fun w hSw => by obtain ⟨x0, x1⟩ := (HE7.out.later hSw).ky.cells; clear hSw; go_simp⟩) (by assumption) ?_
                simp only [Act.put, List.setIfInBounds_toArray, List.set_cons_zero, List.set_cons_succ]
                refine wpAnyH_ready (rs := [6]) (by kernel_rfl) (by simp) ?_
                refine AllReadyH.cons rfl (fun K hK => ?_) AllReadyH.nil
                go_simp
                have h3 := h2 _ hHeld
                rw [HHI.out] at h3
                refine h3.mono ?_
                rintro r w7 ⟨rfl, hb7⟩
                go_wp2_with fail
                have hky2 := hkX2.later hb7
                obtain ⟨x0, x1⟩ := hky2.cells
                have y0 := Rt.row_frozen hky2 0
                have y1 := Rt.row_frozen hky2 1
                refine hK.out _ _ (hHeld.trans (hb7.mono hHeld.size)) (fun hHeld2 => ?_)
                clear hHeld hb7
                clear hK K
                try simp only [Act.put, List.setIfInBounds_toArray, List.set_cons_zero, List.set_cons_succ]
                refine wpAnyH_take (i := 7) (oi := { dst := some 50, op := Op.move (Operand.tmp 57), type := _, pos := _, after := _, guard := none }) (v := .tuple #[.agg #[.int .i64 e.bas, .int .i64 e.stp], .bool true]) rfl (by kernel_rfl) (by kernel_rfl) (by kernel_rfl) (fun _ _ _ h => h) (Or.inl ⟨by rfl, fun w hSw => by (try dsimp only at hSw); go_simp⟩) (by assumption) ?_
                simp only [Act.put, List.setIfInBounds_toArray, List.set_cons_zero, List.set_cons_succ]
                refine wpAnyH_take (i := 8) (oi := { dst := some 58, op := Op.extract (Operand.tmp 50) 0, type := _, pos := _, after := _, guard := none }) (v := .agg #[.int .i64 e.bas, .int .i64 e.stp]) rfl (by kernel_rfl) (by kernel_rfl) (by kernel_rfl) (fun _ _ _ h => h) (Or.inl ⟨by rfl, fun w hSw => by (try dsimp only at hSw); go_simp⟩) (by assumption) ?_
                simp only [Act.put, List.setIfInBounds_toArray, List.set_cons_zero, List.set_cons_succ]
                refine wpAnyH_take (i := 9) (oi := { dst := some 59, op := Op.extract (Operand.tmp 50) 1, type := _, pos := _, after := _, guard := none }) (v := .bool true) rfl (by kernel_rfl) (by kernel_rfl) (by kernel_rfl) (fun _ _ _ h => h) (Or.inl ⟨by rfl, fun w hSw => by (try dsimp only at hSw); go_simp⟩) (by assumption) ?_
                simp only [Act.put, List.setIfInBounds_toArray, List.set_cons_zero, List.set_cons_succ]
                refine wpAnyH_ready (rs := [10]) (by kernel_rfl) (by simp) ?_
                refine AllReadyH.cons rfl (fun K hK => ?_) AllReadyH.nil
                go_simp
                refine hK.out _ _ (Rt.set2_below hHeld2 HXG.out _ _ _ _) (fun hHeld3 => ?_)
                have hkyZ := KyAt.set hky2 e.bas e.stp
                clear hK K
                try simp only [Act.put, List.setIfInBounds_toArray, List.set_cons_zero, List.set_cons_succ]
                refine wpAnyH_take (i := 11) (oi := { dst := some 15, op := Op.assign (Operand.tmp 59), type := _, pos := _, after := _, guard := none }) (v := .bool true) rfl (by kernel_rfl) (by kernel_rfl) (by kernel_rfl) (fun _ _ _ h => h) (Or.inl ⟨by rfl, fun w hSw => by (try dsimp only at hSw); go_simp⟩) (by assumption) ?_
                simp only [Act.put, List.setIfInBounds_toArray, List.set_cons_zero, List.set_cons_succ]
                refine wpAnyH_done (by kernel_rfl) ?_ _
                have HBQ : Hid (Below wr.heap.size wr ((w7.setCell ⟨X, 0, none⟩ (.int .i64 e.bas)).setCell ⟨X, 1, none⟩ (.int .i64 e.stp))) := hHeld3
                have HKQ : Hid (KyAt ((w7.setCell ⟨X, 0, none⟩ (.int .i64 e.bas)).setCell ⟨X, 1, none⟩ (.int .i64 e.stp)) X e) := hkyZ
                clear hHeld3 hHeld2 hkyZ hky2 x0 x1 y0 y1 hS0 HBC HKX h3 hkX2
                generalize (w7.setCell ⟨X, 0, none⟩ (.int .i64 e.bas)).setCell ⟨X, 1, none⟩ (.int .i64 e.stp) = wq at *
                have HE9 : Hid (E2 w wq B M F A K n cs s k kc) := HE7.out.later HBQ.out
                have HXN : Hid (X ≠ K) := by unfold Hid; have h1 := (Array.getElem?_eq_some_iff.1 HE7.out.ky).1; have h2 := HXG.out; omega
                clear HE7 HBQ h2
                go_upto_region 12 with (fail)
                have hT0 : Below wq.heap.size wq wq.drew := drew_below _
                refine wp_region_held_drew (S := fun Y => Below wq.heap.size wq Y) (by kernel_rfl) hT0 (fun hHeld => ?_)
                refine wpAnyH_take (i := 0) (oi := { dst := some 60, op := Op.move (Operand.tmp 15), type := _, pos := _, after := _, guard := none }) (v := .bool true) rfl (by kernel_rfl) (by kernel_rfl) (by kernel_rfl) (fun _ _ _ h => h) (Or.inl ⟨by rfl, fun w hSw => by (try dsimp only at hSw); go_simp⟩) (by assumption) ?_
                simp only [Act.put, List.setIfInBounds_toArray, List.set_cons_zero, List.set_cons_succ]
                refine wpAnyH_take (i := 1) (oi := { dst := some 61, op := Op.unOp UnOp.not 4 (Operand.tmp 60), type := _, pos := _, after := _, guard := none }) (v := .bool false) rfl (by kernel_rfl) (by kernel_rfl) (by kernel_rfl) (fun _ _ _ h => h) (Or.inl ⟨by rfl, fun w hSw => by (try dsimp only at hSw); go_simp⟩) (by assumption) ?_
                simp only [Act.put, List.setIfInBounds_toArray, List.set_cons_zero, List.set_cons_succ]
                refine wpAnyH_take (i := 2) (oi := { dst := some 62, op := Op.move (Operand.tmp 61), type := _, pos := _, after := _, guard := none }) (v := .bool false) rfl (by kernel_rfl) (by kernel_rfl) (by kernel_rfl) (fun _ _ _ h => h) (Or.inl ⟨by rfl, fun w hSw => by (try dsimp only at hSw); go_simp⟩) (by assumption) ?_
                simp only [Act.put, List.setIfInBounds_toArray, List.set_cons_zero, List.set_cons_succ]
                refine wpAnyH_take (i := 3) (oi := { dst := some 63, op := Op.load 23 (Operand.tmp 14), type := _, pos := _, after := _, guard := some (2, false) }) (v := .agg #[.int .i64 e.bas, .int .i64 e.stp]) rfl (by kernel_rfl) (by kernel_rfl) (by kernel_rfl) (fun _ _ _ h => h) (Or.inl ⟨by rfl, fun w hSw => by obtain ⟨x0, x1⟩ := (HKQ.out.later hSw).cells; clear hSw; go_simp⟩) (by assumption) ?_
                simp only [Act.put, List.setIfInBounds_toArray, List.set_cons_zero, List.set_cons_succ]
                refine wpAnyH_take (i := 4) (oi := { dst := some 64, op := Op.move (Operand.tmp 13), type := _, pos := _, after := _, guard := some (2, false) }) (v := .int .i64 (j : Int)) rfl (by kernel_rfl) (by kernel_rfl) (by kernel_rfl) (fun _ _ _ h => h) (Or.inl ⟨by rfl, fun w hSw => by (try dsimp only at hSw); go_simp⟩) (by assumption) ?_
                simp only [Act.put, List.setIfInBounds_toArray, List.set_cons_zero, List.set_cons_succ]
                refine wpAnyH_take (i := 5) (oi := { dst := some 65, op := Op.indexAddr 61 (Operand.tmp 9) (Operand.tmp 64), type := _, pos := _, after := _, guard := some (2, false) }) (v := .pointer (some ⟨A, j, none⟩)) rfl (by kernel_rfl) (by kernel_rfl) (by kernel_rfl) (fun _ _ _ h => h) (Or.inl ⟨by rfl, fun w hSw => by (try dsimp only at hSw); go_simp⟩) (by assumption) ?_
                simp only [Act.put, List.setIfInBounds_toArray, List.set_cons_zero, List.set_cons_succ]
                refine wpAnyH_take (i := 6) (oi := { dst := some 66, op := Op.load 3 (Operand.tmp 65), type := _, pos := _, after := _, guard := some (2, false) }) (v := .int .i64 (v : Int)) rfl (by kernel_rfl) (by kernel_rfl) (by kernel_rfl) (fun _ _ _ h => h) (Or.inl ⟨by rfl, fun w hSw => by have x0 := pa_at (HE9.out.later hSw).pa hj3; rw [HV.out] at x0; clear hSw; go_simp⟩) (by assumption) ?_
                simp only [Act.put, List.setIfInBounds_toArray, List.set_cons_zero, List.set_cons_succ]
                refine wpAnyH_take (i := 7) (oi := { dst := some 67, op := Op.fieldAddr 31 (Operand.tmp 3) 2, type := _, pos := _, after := _, guard := some (2, false) }) (v := .pointer (some ⟨B, 2, none⟩)) rfl (by kernel_rfl) (by kernel_rfl) (by kernel_rfl) (fun _ _ _ h => h) (Or.inl ⟨by rfl, fun w hSw => by (try dsimp only at hSw); go_simp⟩) (by assumption) ?_
                simp only [Act.put, List.setIfInBounds_toArray, List.set_cons_zero, List.set_cons_succ]
                refine wpAnyH_take (i := 8) (oi := { dst := some 68, op := Op.indexAddr 25 (Operand.tmp 67) (Operand.tmp 66), type := _, pos := _, after := _, guard := some (2, false) }) (v := .pointer (some ⟨B, 2 + v * 2, none⟩)) rfl (by kernel_rfl) (by kernel_rfl) (by kernel_rfl) (fun _ _ _ h => h) (Or.inl ⟨by rfl, fun w hSw => by (try dsimp only at hSw); go_simp⟩) (by assumption) ?_
                simp only [Act.put, List.setIfInBounds_toArray, List.set_cons_zero, List.set_cons_succ]
                refine wpAnyH_take (i := 9) (oi := { dst := some 69, op := Op.load 23 (Operand.tmp 68), type := _, pos := _, after := _, guard := some (2, false) }) (v := .agg #[.int .i64 e.bas, .int .i64 e.stp]) rfl (by kernel_rfl) (by kernel_rfl) (by kernel_rfl) (fun _ _ _ h => h) (Or.inl ⟨by rfl, fun w hSw => by obtain ⟨x0, x1⟩ := (HE9.out.later hSw).eh.tr.key v hv21; rw [HEV.out] at x0 x1; clear hSw; go_simp⟩) (by assumption) ?_
                simp only [Act.put, List.setIfInBounds_toArray, List.set_cons_zero, List.set_cons_succ]
                refine wpAnyH_take (i := 10) (oi := { dst := some 70, op := Op.binOp BinOp.neq 23 (Operand.tmp 63) (Operand.tmp 69) 23, type := _, pos := _, after := _, guard := some (2, false) }) (v := .bool false) rfl (by kernel_rfl) (by kernel_rfl) (by kernel_rfl) (fun _ _ _ h => h) (Or.inl ⟨by rfl, fun w hSw => by (try dsimp only at hSw); go_simp⟩) (by assumption) ?_
                simp only [Act.put, List.setIfInBounds_toArray, List.set_cons_zero, List.set_cons_succ]
                refine wpAnyH_take (i := 11) (oi := { dst := some 71, op := Op.pick (Operand.tmp 62) (Operand.const (Value.bool true)) (Operand.tmp 70), type := _, pos := _, after := _, guard := none }) (v := .bool false) rfl (by kernel_rfl) (by kernel_rfl) (by kernel_rfl) (fun _ _ _ h => h) (Or.inl ⟨by rfl, fun w hSw => by (try dsimp only at hSw); go_simp⟩) (by assumption) ?_
                simp only [Act.put, List.setIfInBounds_toArray, List.set_cons_zero, List.set_cons_succ]
                refine wpAnyH_done (by kernel_rfl) ?_ _
                have HE10 : Hid (E2 w wq.drew B M F A K n cs s k kc) := HE9.out.later hT0
                have HX10 : Hid (KyAt wq.drew X e) := HKQ.out.later hT0
                clear HE9 HKQ hHeld hT0
                generalize wq.drew = wz at *
                go_upto_region 14 with (fail)
                have hkK := HE10.out.ky
                obtain ⟨q0, q1⟩ := hkK.cells
                have y0 := Rt.row_frozen hkK 0
                have y1 := Rt.row_frozen hkK 1
                have HES : Hid (E2 w ((wz.setCell ⟨K, 0, none⟩ (.int .i64 e.bas)).setCell ⟨K, 1, none⟩ (.int .i64 e.stp)).drew B M F A K n cs s k e) := (HE10.out.set e.bas e.stp).later (drew_below _)
                have HXS : Hid (KyAt ((wz.setCell ⟨K, 0, none⟩ (.int .i64 e.bas)).setCell ⟨K, 1, none⟩ (.int .i64 e.stp)).drew X e) := KyAt.later ((Rt.set2_other HXN.out _ _ _ _).trans HX10.out) (drew_below _)
                have hT0 : Pa3 wz.drew A (pn s 0) (pn s 1) (pn s 2) ∧ KyAt wz.drew X e := ⟨(HE10.out.later (drew_below _)).pa, HX10.out.later (drew_below _)⟩
                clear HE10 HX10
                refine wp_region_held_drew (S := fun Y => Pa3 Y A (pn s 0) (pn s 1) (pn s 2) ∧ KyAt Y X e) (by kernel_rfl) hT0 (fun hHeld => ?_)
                refine wpAnyH_take (i := 0) (oi := { dst := some 72, op := Op.move (Operand.tmp 13), type := _, pos := _, after := _, guard := none }) (v := .int .i64 (j : Int)) rfl (by kernel_rfl) (by kernel_rfl) (by kernel_rfl) (fun _ _ _ h => h) (Or.inl ⟨by rfl, fun w hSw => by (try dsimp only at hSw); go_simp⟩) (by assumption) ?_
                simp only [Act.put, List.setIfInBounds_toArray, List.set_cons_zero, List.set_cons_succ]
                refine wpAnyH_take (i := 1) (oi := { dst := some 73, op := Op.indexAddr 61 (Operand.tmp 9) (Operand.tmp 72), type := _, pos := _, after := _, guard := none }) (v := .pointer (some ⟨A, j, none⟩)) rfl (by kernel_rfl) (by kernel_rfl) (by kernel_rfl) (fun _ _ _ h => h) (Or.inl ⟨by rfl, fun w hSw => by (try dsimp only at hSw); go_simp⟩) (by assumption) ?_
                simp only [Act.put, List.setIfInBounds_toArray, List.set_cons_zero, List.set_cons_succ]
                refine wpAnyH_take (i := 2) (oi := { dst := some 74, op := Op.load 3 (Operand.tmp 73), type := _, pos := _, after := _, guard := none }) (v := .int .i64 (v : Int)) rfl (by kernel_rfl) (by kernel_rfl) (by kernel_rfl) (fun _ _ _ h => h) (Or.inl ⟨by rfl, fun w hSw => by have x0 := pa_at hSw.1 hj3; rw [HV.out] at x0; clear hSw; go_simp⟩) (by assumption) ?_
                simp only [Act.put, List.setIfInBounds_toArray, List.set_cons_zero, List.set_cons_succ]
                refine wpAnyH_take (i := 3) (oi := { dst := some 75, op := Op.load 23 (Operand.tmp 14), type := _, pos := _, after := _, guard := none }) (v := .agg #[.int .i64 e.bas, .int .i64 e.stp]) rfl (by kernel_rfl) (by kernel_rfl) (by kernel_rfl) (fun _ _ _ h => h) (Or.inl ⟨by rfl, fun w hSw => by obtain ⟨x0, x1⟩ := hSw.2.cells; clear hSw; go_simp⟩) (by assumption) ?_
                simp only [Act.put, List.setIfInBounds_toArray, List.set_cons_zero, List.set_cons_succ]
                refine wpAnyH_take (i := 4) (oi := { dst := some 11, op := Op.assign (Operand.tmp 74), type := _, pos := _, after := _, guard := none }) (v := .int .i64 (v : Int)) rfl (by kernel_rfl) (by kernel_rfl) (by kernel_rfl) (fun _ _ _ h => h) (Or.inl ⟨by rfl, fun w hSw => by (try dsimp only at hSw); go_simp⟩) (by assumption) ?_
                simp only [Act.put, List.setIfInBounds_toArray, List.set_cons_zero, List.set_cons_succ]
                refine wpAnyH_ready (rs := [5]) (by kernel_rfl) (by simp) ?_
                refine AllReadyH.cons rfl (fun K hK => ?_) AllReadyH.nil
                go_simp
                refine hK.out _ _ ⟨HES.out.pa, HXS.out⟩ (fun hHeld9 => ?_)
                clear hK K
                try simp only [Act.put, List.setIfInBounds_toArray, List.set_cons_zero, List.set_cons_succ]
                refine wpAnyH_done (by kernel_rfl) ?_ _
                clear hHeld9 hHeld hT0 hkK q0 q1 y0 y1 HXS
                go_wp2_with fail
                go_roundw
                case rel => exact ⟨j + 1, by omega, by go_num, by rw [HNX.out], by rw [HEK.out]; exact HES.out⟩
                case measure => simp [intOf]; omega
        · obtain rfl : j = 3 := by omega
          rw [show ((3 : Nat) : Int) = 3 from rfl]
          go_wp2_with fail
          go_ret
          exact ⟨rfl, HE7.out.eh.bel⟩
end Go.Proofs.YtedbnamekfgmhaaDoor
