/- For every tree and every number n: with the slot n modulo 64, PathOf is refused just of a tree that isn't right; else the path's keys are those of its nodes, the root's at the end; a free seat has no leaf key and isn't held; whoever sits there has just the leaf's key and the path's keys: TreePaths, with no condition. -/
import Derived.Test.YtpkfpckljpffgaaRows
import Derived.Test.YtpkfpckljpffgaaOpenTr
import Derived.Test.YtpkfpckljpffgaaTrL
import Derived.Test.YtpkfpckljpffgaaTrH
import Derived.Test.YtpkfpckljpffgaaTrM
import Derived.Test.YtpkfpckljpffgaaTrQ
import Derived.Test.YtpkfpckljpffgaaTrR
namespace Go.Proofs.Ytpkfpckljpffgaa.treePaths
open Go.ChangeShapes Go.WideShapes Go.ChangeAt Go.RowKit
open Rt (Ky zK pcs KyAt PaAt)
open Rs (En zE EnAt tkn fnd)
set_option linter.unusedVariables false
set_option linter.unusedSimpArgs false

structure SX (w W : World) (B P : Nat) (t : Tr) (f : Nat → Ky) : Prop where
  tr : TrAt W B t
  pa : PaAt W P f
  bel : Below w.heap.size w W
theorem SX.later {w W W' : World} {B P : Nat} {t : Tr} {f : Nat → Ky} (h : SX w W B P t f) (hb : Below W.heap.size W W') : SX w W' B P t f := ⟨h.tr.later hb, h.pa.later hb, h.bel.trans (hb.mono h.bel.size)⟩
theorem SX.two {w W : World} {B P : Nat} {t : Tr} {f : Nat → Ky} (h : SX w W B P t f) {A : Nat} (h1 : B ≠ A) (h2 : P ≠ A) (h3 : w.heap.size ≤ A) (a b : Int) : SX w ((W.setCell ⟨A, 0, none⟩ (.int .i64 a)).setCell ⟨A, 1, none⟩ (.int .i64 b)) B P t f :=
  ⟨(Rt.set2_other h1 _ _ _ _).trans h.tr, (Rt.set2_other h2 _ _ _ _).trans h.pa, Rt.set2_below h.bel h3 _ _ _ _⟩
structure SY (w W : World) (B P N s : Nat) (t : Tr) (f : Nat → Ky) : Prop where
  sx : SX w W B P t f
  nd : W.heap[N]? = some (.cells (ncs s) 54 (0, 0))
theorem SY.later {w W W' : World} {B P N s : Nat} {t : Tr} {f : Nat → Ky} (h : SY w W B P N s t f) (hb : Below W.heap.size W W') : SY w W' B P N s t f := ⟨h.sx.later hb, row_later h.nd hb⟩
theorem SY.two {w W : World} {B P N s : Nat} {t : Tr} {f : Nat → Ky} (h : SY w W B P N s t f) {A : Nat} (h1 : B ≠ A) (h2 : P ≠ A) (h4 : N ≠ A) (h3 : w.heap.size ≤ A) (a b : Int) : SY w ((W.setCell ⟨A, 0, none⟩ (.int .i64 a)).setCell ⟨A, 1, none⟩ (.int .i64 b)) B P N s t f :=
  ⟨h.sx.two h1 h2 h3 a b, (Rt.set2_other h4 _ _ _ _).trans h.nd⟩
set_option maxRecDepth 100000 in
set_option maxHeartbeats 4000000 in
theorem walk (t : Tr) (n : Int) (wf1 : (Lit.int .i64 n).wf = true) (w : World) :
    Calls Try.prog 6 #[.agg (tcs t), .int .i64 n] w fun e w' => e = .returned (.bool true) ∧ Below w.heap.size w w' := by
  clear wf1
  obtain ⟨sl, hsl, sl0, sl1⟩ := Sh.mod_of n 64 (by omega) (by omega)
  obtain ⟨s, rfl, hs8⟩ : ∃ s : Nat, sl = (s : Int) ∧ s < 64 := ⟨sl.toNat, by omega, by omega⟩
  clear sl0 sl1
  have hT := TrAt.new w t
  have hB := alloc_tr w t
  have h1 := pathOf_any t (s : Int)
  have h2 := rCheck_any t
  have h3 := fun v => keyOf_any t v
  have h4 := group_any t
  have h5 := held_any t (21 + (s : Int))
  have h6 := fun x => stand_any t x
  have h7 := fun x => card_any t x
  unfold PathA at h1
  obtain ⟨ct, hct⟩ : ∃ c, tcs t = c := ⟨_, rfl⟩
  simp only [hct] at h1 h2 h3 h4 h5 h6 h7
  have HT : Hid (tcs t = ct) := hct
  clear hct
  obtain ⟨f, hf⟩ : ∃ f, poP t (s : Int) = f := ⟨_, rfl⟩
  obtain ⟨E, hE⟩ : ∃ E, poE t (s : Int) = E := ⟨_, rfl⟩
  simp only [hf, hE] at h1
  have HF : Hid (poP t (s : Int) = f) := hf
  have HE : Hid (poE t (s : Int) = E) := hE
  clear hf hE
  go_enter Try.func6, Try.ntmps6
  go_upto_region 1 with (fail)
  generalize w.alloc (.cells (tcs t) 31) = wa at *
  rw [HT.out]
  obtain ⟨B, hBB⟩ : ∃ B, w.heap.size = B := ⟨_, rfl⟩
  rw [hBB] at hT ⊢
  clear hBB
  go_wp2_with fail
  refine (lives_any _).mono ?_
  rintro r wb ⟨rfl, hbb⟩
  have hTb := hT.later hbb
  have hBb := hB.trans (hbb.mono hB.size)
  clear hT hB hbb
  go_wp2_with (refine rdT hTb HT.out _ rfl rfl rfl ?_)
  clear hsl
  refine (h1 _).mono ?_
  rintro r wc ⟨rfl, hbc⟩
  have hTc := hTb.later hbc
  have hBc := hBb.trans (hbc.mono hBb.size)
  have hz := Rt.new_zeroP wc
  clear h1 hTb hBb hbc
  go_upto_region 5 with (refine Rt.stP (g := f) hz rfl _ _ rfl rfl rfl ?_)
  rw [Rt.alloc_zeroP, World.setRow_alloc_new]
  have hXd : SX w (wc.alloc (.cells (pcs f) 39)) B wc.heap.size t f := ⟨hTc.later (Rt.alloc_pa wc f), PaAt.new wc f, hBc.trans ((Rt.alloc_pa wc f).mono hBc.size)⟩
  clear hz hTc hBc
  generalize wc.alloc (.cells (pcs f) 39) = wd at *
  generalize wc.heap.size = P at *
  obtain ⟨cp, hcp⟩ : ∃ c, pcs f = c := ⟨_, rfl⟩
  rw [hcp]
  have HP : Hid (pcs f = cp) := hcp
  clear hcp
  have hTd := hXd.tr
  go_wp2_with (refine rdT hTd HT.out _ rfl rfl rfl ?_)
  refine (h2 _).mono ?_
  rintro r we ⟨rfl, hbe⟩
  have hXe := hXd.later hbe
  clear h2 hXd hTd hbe
  cases hck : tck t with
  | false =>
    rw [tckE_ff hck]
    have hE1 : E = 31 := by rw [← HE.out]; exact poE_bad hck
    have hf1 : f = fun _ => zK := by rw [← HF.out]; exact funext fun i => poP_no (by rw [poE_bad hck]; decide) i
    subst hE1
    have HQ : Hid (Rt.eqP f (fun _ => zK) = true) := by rw [hf1]; exact Rt.eqP_refl _
    clear hf1
    go_wp2_with (first
      | (refine rd_guard (v := .agg (pcs f)) (by rfl) (Rt.ldP_exec hXe.pa rfl rfl) ?_)
      | (refine rd_guard (v := .bool true) (by rfl) (eqPa_exec (f := f) (g := fun _ => zK) HQ.out rfl rfl Rt.zero6') ?_))
    go_ret
    exact ⟨ret_bool (by simp), hXe.bel⟩
  | true =>
    rw [tckE_tt hck]
    have hE1 : E = 0 := by rw [← HE.out]; exact poE_ok hck hs8
    subst hE1
    have HFK : Hid (∀ i, f i = t.ks (pn s i)) := fun i => by rw [← HF.out]; exact poP_ok hck hs8 i
    have hp := rPath_is s hs8
    unfold ncs at hp
    go_wp2_with fail
    refine (hp _).mono ?_
    rintro r w3 ⟨rfl, hb3⟩
    have hb4 := hb3.trans ((below_alloc w3 (.cells (ncs s) 54)).mono hb3.size)
    have hY4 : SY w (w3.alloc (.cells (ncs s) 54)) B P w3.heap.size s t f := ⟨hXe.later hb4, heap_alloc_last w3 _⟩
    clear hp hXe hb3 hb4
    go_upto_region 8 with (fail)
    rw [show (#[.int .i64 ((pn s 0 : Nat) : Int), .int .i64 ((pn s 1 : Nat) : Int), .int .i64 ((pn s 2 : Nat) : Int)] : Array Value) = ncs s from rfl]
    generalize w3.alloc (.cells (ncs s) 54) = w5 at *
    generalize w3.heap.size = N at *
    have HY : Hid (SY w w5 B P N s t f) := hY4
    obtain ⟨cn, hcn⟩ : ∃ c, ncs s = c := ⟨_, rfl⟩
    rw [hcn]
    clear hcn hY4
    go_wp2_with fail
    go_loopw [10] (fun i wx => ∃ k : Nat, k ≤ 3 ∧ i = .int .i64 (k : Int) ∧ SY w wx B P N s t f) (fun i _ => 3 - (intOf i).toNat)
    case atStart => exact ⟨0, by omega, rfl, HY.out⟩
    case round =>
      obtain ⟨k, hk, rfl, hY⟩ := hrel
      clear HY
      by_cases hk8 : k < 3
      · have k8 : (k : Int) < 3 := by omega
        have k0 : (0 : Int) ≤ (k : Int) := by omega
        have h8 := h3 ((pn s k : Nat) : Int)
        have hnl := pn_lt hs8 k
        have hKI := KeyA.inner (t := t) (v := pn s k) (koE_inner hck (by omega) (by omega)) hnl
        rw [← hKI] at h8
        clear hKI
        obtain ⟨e, he⟩ : ∃ e, t.ks (pn s k) = e := ⟨_, rfl⟩
        rw [he] at h8
        have HKE : Hid (f k = e) := by rw [HFK.out k]; exact he
        obtain ⟨m, hm⟩ : ∃ m, pn s k = m := ⟨_, rfl⟩
        rw [hm] at h8
        have HM : Hid (pn s k = m) := hm
        clear he hm hnl
        go_upto_region 11 with (fail)
        go_cut [11, 12] (fun s11 s12 wx => ∃ A, s11 = .pointer (some ⟨A, 0, none⟩) ∧ s12 = .int .i64 0 ∧ SY w wx B P N s t f ∧ KyAt wx A e)
        case first =>
          have hS0 : SY w wr.drew B P N s t f := hY.later (drew_below _)
          have HN : Hid (B ≠ wr.heap.size ∧ P ≠ wr.heap.size ∧ N ≠ wr.heap.size ∧ w.heap.size ≤ wr.heap.size) := ⟨Nat.ne_of_lt hY.sx.tr.lt, Nat.ne_of_lt hY.sx.pa.lt, Nat.ne_of_lt (Array.getElem?_eq_some_iff.1 hY.nd).1, hY.sx.bel.size⟩
          clear hY
          refine wp_region_held_drew (S := fun W => SY w W B P N s t f) (by kernel_rfl) hS0 (fun hHeld => ?_)
          refine wpAnyH_take (i := 0) (oi := { dst := some 52, op := Op.load 31 (Operand.tmp 2), type := _, pos := _, after := _, guard := none }) (v := .agg ct) rfl (by kernel_rfl) (by kernel_rfl) (by kernel_rfl) (fun _ _ _ h => h) (Or.inl ⟨by rfl, fun w hSw => ld_exec (HT.out ▸ hSw.sx.tr.whole) rfl rfl⟩) (by assumption) ?_
          simp only [Act.put, List.setIfInBounds_toArray, List.set_cons_zero, List.set_cons_succ]
          refine wpAnyH_take (i := 1) (oi := { dst := some 53, op := Op.move (Operand.tmp 10), type := _, pos := _, after := _, guard := none }) (v := .int .i64 (k : Int)) rfl (by kernel_rfl) (by kernel_rfl) (by kernel_rfl) (fun _ _ _ h => h) (Or.inl ⟨by rfl, fun w hSw => by (try dsimp only at hSw); go_simp⟩) (by assumption) ?_
          simp only [Act.put, List.setIfInBounds_toArray, List.set_cons_zero, List.set_cons_succ]
          refine wpAnyH_take (i := 2) (oi := { dst := some 54, op := Op.indexAddr 54 (Operand.tmp 8) (Operand.tmp 53), type := _, pos := _, after := _, guard := none }) (v := .pointer (some ⟨N, k, none⟩)) rfl (by kernel_rfl) (by kernel_rfl) (by kernel_rfl) (fun _ _ _ h => h) (Or.inl ⟨by rfl, fun w hSw => by (try dsimp only at hSw); go_simp⟩) (by assumption) ?_
          simp only [Act.put, List.setIfInBounds_toArray, List.set_cons_zero, List.set_cons_succ]
          refine wpAnyH_take (i := 3) (oi := { dst := some 55, op := Op.load 3 (Operand.tmp 54), type := _, pos := _, after := _, guard := none }) (v := .int .i64 (m : Int)) rfl (by kernel_rfl) (by kernel_rfl) (by kernel_rfl) (fun _ _ _ h => h) (Or.inl ⟨by rfl, fun w hSw => by have c0 := cellN hSw.nd hk8; rw [HM.out] at c0; clear hSw; go_simp⟩) (by assumption) ?_
          simp only [Act.put, List.setIfInBounds_toArray, List.set_cons_zero, List.set_cons_succ]
          refine wpAnyH_ready (rs := [4, 8]) (by kernel_rfl) (by simp) ?_
          refine (AllReadyH.cons rfl (fun K hK => ?_) (AllReadyH.cons rfl (fun K hK => ?_) AllReadyH.nil))
          · go_simp
            refine (h8 _).mono ?_
            rintro r w5 ⟨rfl, hb5⟩
            go_wp2_with fail
            refine hK.out _ _ (hHeld.later hb5) (fun hHd1 => ?_)
            clear hHeld hb5
            clear hK K
            try simp only [Act.put, List.setIfInBounds_toArray, List.set_cons_zero, List.set_cons_succ]
            refine wpAnyH_take (i := 5) (oi := { dst := some 51, op := Op.move (Operand.tmp 56), type := _, pos := _, after := _, guard := none }) (v := .tuple #[.agg #[.int .i64 e.bas, .int .i64 e.stp], .int .i64 0]) rfl (by kernel_rfl) (by kernel_rfl) (by kernel_rfl) (fun _ _ _ h => h) (Or.inl ⟨by rfl, fun w hSw => by (try dsimp only at hSw); go_simp⟩) (by assumption) ?_
            simp only [Act.put, List.setIfInBounds_toArray, List.set_cons_zero, List.set_cons_succ]
            refine wpAnyH_take (i := 6) (oi := { dst := some 57, op := Op.extract (Operand.tmp 51) 0, type := _, pos := _, after := _, guard := none }) (v := .agg #[.int .i64 e.bas, .int .i64 e.stp]) rfl (by kernel_rfl) (by kernel_rfl) (by kernel_rfl) (fun _ _ _ h => h) (Or.inl ⟨by rfl, fun w hSw => by (try dsimp only at hSw); go_simp⟩) (by assumption) ?_
            simp only [Act.put, List.setIfInBounds_toArray, List.set_cons_zero, List.set_cons_succ]
            refine wpAnyH_take (i := 7) (oi := { dst := some 58, op := Op.extract (Operand.tmp 51) 1, type := _, pos := _, after := _, guard := none }) (v := .int .i64 0) rfl (by kernel_rfl) (by kernel_rfl) (by kernel_rfl) (fun _ _ _ h => h) (Or.inl ⟨by rfl, fun w hSw => by (try dsimp only at hSw); go_simp⟩) (by assumption) ?_
            simp only [Act.put, List.setIfInBounds_toArray, List.set_cons_zero, List.set_cons_succ]
            refine wpAnyH_ready (rs := [8]) (by kernel_rfl) (by simp) ?_
            refine AllReadyH.cons rfl (fun K hK => ?_) AllReadyH.nil
            go_simp
            have hpre := hHd1
            refine hK.out _ _ (hHd1.later (below_alloc _ _)) (fun hHd2 => ?_)
            clear hK K
            try simp only [Act.put, List.setIfInBounds_toArray, List.set_cons_zero, List.set_cons_succ]
            refine wpAnyH_ready (rs := [9]) (by kernel_rfl) (by simp) ?_
            refine AllReadyH.cons rfl (fun K hK => ?_) AllReadyH.nil
            go_simp
            first | (refine hK.out _ _ (hpre.later (below_alloc _ _)) (fun hHd3 => ?_); have hkyZ := KyAt.new w5 e) | (refine hK.out _ _ (hHd2.two HN.out.1 HN.out.2.1 HN.out.2.2.1 HN.out.2.2.2 _ _) (fun hHd3 => ?_); have hkyZ := KyAt.set hky2 e.bas e.stp)
            clear hK K
            try simp only [Act.put, List.setIfInBounds_toArray, List.set_cons_zero, List.set_cons_succ]
            refine wpAnyH_take (i := 10) (oi := { dst := some 12, op := Op.assign (Operand.tmp 58), type := _, pos := _, after := _, guard := none }) (v := .int .i64 0) rfl (by kernel_rfl) (by kernel_rfl) (by kernel_rfl) (fun _ _ _ h => h) (Or.inl ⟨by rfl, fun w hSw => by (try dsimp only at hSw); go_simp⟩) (by assumption) ?_
            simp only [Act.put, List.setIfInBounds_toArray, List.set_cons_zero, List.set_cons_succ]
            refine wpAnyH_done (by kernel_rfl) ?_ _
            go_wp2_with fail
            go_meet
            case rel => exact ⟨_, rfl, rfl, hHd3, hkyZ⟩
          · go_simp
            have hky : KyAt (wr.drew.alloc (.cells #[.int .i64 0, .int .i64 0] 23)) wr.heap.size zK := KyAt.new wr.drew zK
            refine hK.out _ _ (hHeld.later (below_alloc _ _)) (fun hHd1 => ?_)
            clear hHeld
            clear hK K
            try simp only [Act.put, List.setIfInBounds_toArray, List.set_cons_zero, List.set_cons_succ]
            refine wpAnyH_ready (rs := [4]) (by kernel_rfl) (by simp) ?_
            refine AllReadyH.cons rfl (fun K hK => ?_) AllReadyH.nil
            go_simp
            refine (h8 _).mono ?_
            rintro r w5 ⟨rfl, hb5⟩
            go_wp2_with fail
            have hky2 := hky.later hb5
            obtain ⟨k0', k1'⟩ := hky2.cells
            have f0 := Rt.row_frozen hky2 0
            have f1 := Rt.row_frozen hky2 1
            refine hK.out _ _ (hHd1.later hb5) (fun hHd2 => ?_)
            clear hHd1 hb5 hky
            clear hK K
            try simp only [Act.put, List.setIfInBounds_toArray, List.set_cons_zero, List.set_cons_succ]
            refine wpAnyH_take (i := 5) (oi := { dst := some 51, op := Op.move (Operand.tmp 56), type := _, pos := _, after := _, guard := none }) (v := .tuple #[.agg #[.int .i64 e.bas, .int .i64 e.stp], .int .i64 0]) rfl (by kernel_rfl) (by kernel_rfl) (by kernel_rfl) (fun _ _ _ h => h) (Or.inl ⟨by rfl, fun w hSw => by (try dsimp only at hSw); go_simp⟩) (by assumption) ?_
            simp only [Act.put, List.setIfInBounds_toArray, List.set_cons_zero, List.set_cons_succ]
            refine wpAnyH_take (i := 6) (oi := { dst := some 57, op := Op.extract (Operand.tmp 51) 0, type := _, pos := _, after := _, guard := none }) (v := .agg #[.int .i64 e.bas, .int .i64 e.stp]) rfl (by kernel_rfl) (by kernel_rfl) (by kernel_rfl) (fun _ _ _ h => h) (Or.inl ⟨by rfl, fun w hSw => by (try dsimp only at hSw); go_simp⟩) (by assumption) ?_
            simp only [Act.put, List.setIfInBounds_toArray, List.set_cons_zero, List.set_cons_succ]
            refine wpAnyH_take (i := 7) (oi := { dst := some 58, op := Op.extract (Operand.tmp 51) 1, type := _, pos := _, after := _, guard := none }) (v := .int .i64 0) rfl (by kernel_rfl) (by kernel_rfl) (by kernel_rfl) (fun _ _ _ h => h) (Or.inl ⟨by rfl, fun w hSw => by (try dsimp only at hSw); go_simp⟩) (by assumption) ?_
            simp only [Act.put, List.setIfInBounds_toArray, List.set_cons_zero, List.set_cons_succ]
            refine wpAnyH_ready (rs := [9]) (by kernel_rfl) (by simp) ?_
            refine AllReadyH.cons rfl (fun K hK => ?_) AllReadyH.nil
            go_simp
            first | (refine hK.out _ _ (hpre.later (below_alloc _ _)) (fun hHd3 => ?_); have hkyZ := KyAt.new w5 e) | (refine hK.out _ _ (hHd2.two HN.out.1 HN.out.2.1 HN.out.2.2.1 HN.out.2.2.2 _ _) (fun hHd3 => ?_); have hkyZ := KyAt.set hky2 e.bas e.stp)
            clear hK K
            try simp only [Act.put, List.setIfInBounds_toArray, List.set_cons_zero, List.set_cons_succ]
            refine wpAnyH_take (i := 10) (oi := { dst := some 12, op := Op.assign (Operand.tmp 58), type := _, pos := _, after := _, guard := none }) (v := .int .i64 0) rfl (by kernel_rfl) (by kernel_rfl) (by kernel_rfl) (fun _ _ _ h => h) (Or.inl ⟨by rfl, fun w hSw => by (try dsimp only at hSw); go_simp⟩) (by assumption) ?_
            simp only [Act.put, List.setIfInBounds_toArray, List.set_cons_zero, List.set_cons_succ]
            refine wpAnyH_done (by kernel_rfl) ?_ _
            go_wp2_with fail
            go_meet
            case rel => exact ⟨_, rfl, rfl, hHd3, hkyZ⟩
        case rest =>
          obtain ⟨A, rfl, rfl, hY9, hky9⟩ := hcut
          obtain ⟨a0, a1⟩ := hky9.cells
          obtain ⟨p0, p1⟩ := hY9.sx.pa.cells k hk8
          rw [HKE.out] at p0 p1
          have HY9 : Hid (SY w wc B P N s t f) := hY9
          clear hY9 hY hky9
          go_upto_region 12 with (fail)
          go_quiet (fail)
          go_wp2_with fail
          go_roundw
          case rel => exact ⟨k + 1, by omega, by go_num, HY9.out.later (dn_below _ _)⟩
          case measure => simp [intOf]; omega
      · obtain rfl : k = 3 := by omega
        have hX := hY.sx
        clear hY hk hk8
        have HKI := KeyA.inner (t := t) (v := 0) (koE_inner hck (by omega) (by omega)) (by omega)
        rw [show ((0 : Nat) : Int) = 0 from rfl] at HKI
        rw [← HKI] at h4
        clear HKI
        have hF2 : f 2 = t.ks 0 := HFK.out 2
        obtain ⟨g, hg⟩ : ∃ e, t.ks 0 = e := ⟨_, rfl⟩
        rw [hg] at h4 hF2
        clear hg
        have hT6 := hX.tr
        rw [show ((3 : Nat) : Int) = 3 from rfl]
        go_wp2_with (refine rdT hT6 HT.out _ rfl rfl rfl ?_)
        refine (h4 _).mono ?_
        rintro r w6 ⟨rfl, hb6⟩
        have hb7 := hb6.trans ((Rt.alloc_ky w6 g).mono hb6.size)
        have hX7 := hX.later hb7
        have hG7 := KyAt.new w6 g
        clear h4 hX hT6 hb6 hb7
        go_upto_region 15 with (fail)
        generalize w6.alloc (.cells #[.int .i64 g.bas, .int .i64 g.stp] 23) = w7 at *
        generalize w6.heap.size = G at *
        obtain ⟨g0, g1⟩ := hG7.cells
        obtain ⟨p4, p5⟩ := hX7.pa.cells 2 (by omega)
        rw [hF2] at p4 p5
        simp only [Nat.reduceMul, Nat.reduceAdd] at p4 p5
        have HF2 : Hid (f 2 = g) := hF2
        clear hF2 hG7
        go_upto_region 17 with (fail)
        clear g0 g1 p4 p5
        /- the leaf's key -/
        have h9 := h3 (21 + (s : Int))
        unfold KeyA at h9
        obtain ⟨e, he⟩ : ∃ e, koK t (21 + (s : Int)) = e := ⟨_, rfl⟩
        obtain ⟨L, hL⟩ : ∃ L, koE t (21 + (s : Int)) = L := ⟨_, rfl⟩
        rw [he, hL] at h9
        have HEE : Hid (koK t (21 + (s : Int)) = e) := he
        have HL : Hid (koE t (21 + (s : Int)) = L) := hL
        have hlf := Sh.rLeaf_yes (s : Int) (by omega) (by omega)
        have HV : Hid (21 + (s : Int) = 21 + (s : Int)) := rfl
        clear he hL h3
        obtain ⟨v, hv⟩ : ∃ v, 21 + (s : Int) = v := ⟨_, rfl⟩
        rw [hv] at h9 hlf h5
        have HVV : Hid (21 + (s : Int) = v) := hv
        clear hv HV
        go_cut [15, 14] (fun s15 s14 wx => ∃ A, s15 = .pointer (some ⟨A, 0, none⟩) ∧ s14 = .int .i64 L ∧ SX w wx B P t f ∧ KyAt wx A e)
        case first =>
          have hS0 : SX w w7.drew B P t f := hX7.later (drew_below _)
          have HN : Hid (B ≠ w7.heap.size ∧ P ≠ w7.heap.size ∧ w.heap.size ≤ w7.heap.size) := ⟨Nat.ne_of_lt hX7.tr.lt, Nat.ne_of_lt hX7.pa.lt, hX7.bel.size⟩
          clear hX7
          refine wp_region_held_drew (S := fun W => SX w W B P t f) (by kernel_rfl) hS0 (fun hHeld => ?_)
          refine wpAnyH_take (i := 0) (oi := { dst := some 86, op := Op.load 31 (Operand.tmp 2), type := _, pos := _, after := _, guard := none }) (v := .agg ct) rfl (by kernel_rfl) (by kernel_rfl) (by kernel_rfl) (fun _ _ _ h => h) (Or.inl ⟨by rfl, fun w hSw => ld_exec (HT.out ▸ hSw.tr.whole) rfl rfl⟩) (by assumption) ?_
          simp only [Act.put, List.setIfInBounds_toArray, List.set_cons_zero, List.set_cons_succ]
          refine wpAnyH_take (i := 1) (oi := { dst := some 87, op := Op.move (Operand.tmp 5), type := _, pos := _, after := _, guard := none }) (v := .int .i64 (s : Int)) rfl (by kernel_rfl) (by kernel_rfl) (by kernel_rfl) (fun _ _ _ h => h) (Or.inl ⟨by rfl, fun w hSw => by (try dsimp only at hSw); go_simp⟩) (by assumption) ?_
          simp only [Act.put, List.setIfInBounds_toArray, List.set_cons_zero, List.set_cons_succ]
          refine wpAnyH_ready (rs := [2, 7]) (by kernel_rfl) (by simp) ?_
          refine (AllReadyH.cons rfl (fun K hK => ?_) (AllReadyH.cons rfl (fun K hK => ?_) AllReadyH.nil))
          · go_simp
            refine (hlf _).mono ?_
            rintro r w4 ⟨rfl, rfl⟩
            go_wp2_with fail
            refine hK.out _ _ hHeld (fun hHd1 => ?_)
            clear hHeld
            clear hK K
            try simp only [Act.put, List.setIfInBounds_toArray, List.set_cons_zero, List.set_cons_succ]
            refine wpAnyH_ready (rs := [3, 7]) (by kernel_rfl) (by simp) ?_
            refine (AllReadyH.cons rfl (fun K hK => ?_) (AllReadyH.cons rfl (fun K hK => ?_) AllReadyH.nil))
            · go_simp
              refine (h9 _).mono ?_
              rintro r w5 ⟨rfl, hb5⟩
              go_wp2_with fail
              refine hK.out _ _ (hHd1.later hb5) (fun hHd2 => ?_)
              clear hHd1 hb5
              clear hK K
              try simp only [Act.put, List.setIfInBounds_toArray, List.set_cons_zero, List.set_cons_succ]
              refine wpAnyH_take (i := 4) (oi := { dst := some 85, op := Op.move (Operand.tmp 89), type := _, pos := _, after := _, guard := none }) (v := .tuple #[.agg #[.int .i64 e.bas, .int .i64 e.stp], .int .i64 L]) rfl (by kernel_rfl) (by kernel_rfl) (by kernel_rfl) (fun _ _ _ h => h) (Or.inl ⟨by rfl, fun w hSw => by (try dsimp only at hSw); go_simp⟩) (by assumption) ?_
              simp only [Act.put, List.setIfInBounds_toArray, List.set_cons_zero, List.set_cons_succ]
              refine wpAnyH_take (i := 5) (oi := { dst := some 90, op := Op.extract (Operand.tmp 85) 0, type := _, pos := _, after := _, guard := none }) (v := .agg #[.int .i64 e.bas, .int .i64 e.stp]) rfl (by kernel_rfl) (by kernel_rfl) (by kernel_rfl) (fun _ _ _ h => h) (Or.inl ⟨by rfl, fun w hSw => by (try dsimp only at hSw); go_simp⟩) (by assumption) ?_
              simp only [Act.put, List.setIfInBounds_toArray, List.set_cons_zero, List.set_cons_succ]
              refine wpAnyH_take (i := 6) (oi := { dst := some 91, op := Op.extract (Operand.tmp 85) 1, type := _, pos := _, after := _, guard := none }) (v := .int .i64 L) rfl (by kernel_rfl) (by kernel_rfl) (by kernel_rfl) (fun _ _ _ h => h) (Or.inl ⟨by rfl, fun w hSw => by (try dsimp only at hSw); go_simp⟩) (by assumption) ?_
              simp only [Act.put, List.setIfInBounds_toArray, List.set_cons_zero, List.set_cons_succ]
              refine wpAnyH_ready (rs := [7]) (by kernel_rfl) (by simp) ?_
              refine AllReadyH.cons rfl (fun K hK => ?_) AllReadyH.nil
              go_simp
              have hpre := hHd2
              refine hK.out _ _ (hHd2.later (below_alloc _ _)) (fun hHd3 => ?_)
              clear hK K
              try simp only [Act.put, List.setIfInBounds_toArray, List.set_cons_zero, List.set_cons_succ]
              refine wpAnyH_ready (rs := [8]) (by kernel_rfl) (by simp) ?_
              refine AllReadyH.cons rfl (fun K hK => ?_) AllReadyH.nil
              go_simp
              first | (refine hK.out _ _ (hpre.later (below_alloc _ _)) (fun hHd4 => ?_); have hkyZ := KyAt.new w5 e) | (refine hK.out _ _ (hHd3.two HN.out.1 HN.out.2.1 HN.out.2.2 _ _) (fun hHd4 => ?_); have hkyZ := KyAt.set hky2 e.bas e.stp)
              clear hK K
              try simp only [Act.put, List.setIfInBounds_toArray, List.set_cons_zero, List.set_cons_succ]
              refine wpAnyH_take (i := 9) (oi := { dst := some 14, op := Op.assign (Operand.tmp 91), type := _, pos := _, after := _, guard := none }) (v := .int .i64 L) rfl (by kernel_rfl) (by kernel_rfl) (by kernel_rfl) (fun _ _ _ h => h) (Or.inl ⟨by rfl, fun w hSw => by (try dsimp only at hSw); go_simp⟩) (by assumption) ?_
              simp only [Act.put, List.setIfInBounds_toArray, List.set_cons_zero, List.set_cons_succ]
              refine wpAnyH_done (by kernel_rfl) ?_ _
              go_wp2_with fail
              go_meet
              case rel => exact ⟨_, rfl, rfl, hHd4, hkyZ⟩
            · go_simp
              have hky : KyAt (w7.drew.alloc (.cells #[.int .i64 0, .int .i64 0] 23)) w7.heap.size zK := KyAt.new w7.drew zK
              refine hK.out _ _ (hHd1.later (below_alloc _ _)) (fun hHd2 => ?_)
              clear hHd1
              clear hK K
              try simp only [Act.put, List.setIfInBounds_toArray, List.set_cons_zero, List.set_cons_succ]
              refine wpAnyH_ready (rs := [3]) (by kernel_rfl) (by simp) ?_
              refine AllReadyH.cons rfl (fun K hK => ?_) AllReadyH.nil
              go_simp
              refine (h9 _).mono ?_
              rintro r w5 ⟨rfl, hb5⟩
              go_wp2_with fail
              have hky2 := hky.later hb5
              obtain ⟨k0, k1⟩ := hky2.cells
              have f0 := Rt.row_frozen hky2 0
              have f1 := Rt.row_frozen hky2 1
              refine hK.out _ _ (hHd2.later hb5) (fun hHd3 => ?_)
              clear hHd2 hb5 hky
              clear hK K
              try simp only [Act.put, List.setIfInBounds_toArray, List.set_cons_zero, List.set_cons_succ]
              refine wpAnyH_take (i := 4) (oi := { dst := some 85, op := Op.move (Operand.tmp 89), type := _, pos := _, after := _, guard := none }) (v := .tuple #[.agg #[.int .i64 e.bas, .int .i64 e.stp], .int .i64 L]) rfl (by kernel_rfl) (by kernel_rfl) (by kernel_rfl) (fun _ _ _ h => h) (Or.inl ⟨by rfl, fun w hSw => by (try dsimp only at hSw); go_simp⟩) (by assumption) ?_
              simp only [Act.put, List.setIfInBounds_toArray, List.set_cons_zero, List.set_cons_succ]
              refine wpAnyH_take (i := 5) (oi := { dst := some 90, op := Op.extract (Operand.tmp 85) 0, type := _, pos := _, after := _, guard := none }) (v := .agg #[.int .i64 e.bas, .int .i64 e.stp]) rfl (by kernel_rfl) (by kernel_rfl) (by kernel_rfl) (fun _ _ _ h => h) (Or.inl ⟨by rfl, fun w hSw => by (try dsimp only at hSw); go_simp⟩) (by assumption) ?_
              simp only [Act.put, List.setIfInBounds_toArray, List.set_cons_zero, List.set_cons_succ]
              refine wpAnyH_take (i := 6) (oi := { dst := some 91, op := Op.extract (Operand.tmp 85) 1, type := _, pos := _, after := _, guard := none }) (v := .int .i64 L) rfl (by kernel_rfl) (by kernel_rfl) (by kernel_rfl) (fun _ _ _ h => h) (Or.inl ⟨by rfl, fun w hSw => by (try dsimp only at hSw); go_simp⟩) (by assumption) ?_
              simp only [Act.put, List.setIfInBounds_toArray, List.set_cons_zero, List.set_cons_succ]
              refine wpAnyH_ready (rs := [8]) (by kernel_rfl) (by simp) ?_
              refine AllReadyH.cons rfl (fun K hK => ?_) AllReadyH.nil
              go_simp
              first | (refine hK.out _ _ (hpre.later (below_alloc _ _)) (fun hHd4 => ?_); have hkyZ := KyAt.new w5 e) | (refine hK.out _ _ (hHd3.two HN.out.1 HN.out.2.1 HN.out.2.2 _ _) (fun hHd4 => ?_); have hkyZ := KyAt.set hky2 e.bas e.stp)
              clear hK K
              try simp only [Act.put, List.setIfInBounds_toArray, List.set_cons_zero, List.set_cons_succ]
              refine wpAnyH_take (i := 9) (oi := { dst := some 14, op := Op.assign (Operand.tmp 91), type := _, pos := _, after := _, guard := none }) (v := .int .i64 L) rfl (by kernel_rfl) (by kernel_rfl) (by kernel_rfl) (fun _ _ _ h => h) (Or.inl ⟨by rfl, fun w hSw => by (try dsimp only at hSw); go_simp⟩) (by assumption) ?_
              simp only [Act.put, List.setIfInBounds_toArray, List.set_cons_zero, List.set_cons_succ]
              refine wpAnyH_done (by kernel_rfl) ?_ _
              go_wp2_with fail
              go_meet
              case rel => exact ⟨_, rfl, rfl, hHd4, hkyZ⟩
          · go_simp
            have hky : KyAt (w7.drew.alloc (.cells #[.int .i64 0, .int .i64 0] 23)) w7.heap.size zK := KyAt.new w7.drew zK
            refine hK.out _ _ (hHeld.later (below_alloc _ _)) (fun hHd1 => ?_)
            clear hHeld
            clear hK K
            try simp only [Act.put, List.setIfInBounds_toArray, List.set_cons_zero, List.set_cons_succ]
            refine wpAnyH_ready (rs := [2]) (by kernel_rfl) (by simp) ?_
            refine AllReadyH.cons rfl (fun K hK => ?_) AllReadyH.nil
            go_simp
            refine (hlf _).mono ?_
            rintro r w4 ⟨rfl, rfl⟩
            go_wp2_with fail
            refine hK.out _ _ hHd1 (fun hHd2 => ?_)
            clear hHd1
            clear hK K
            try simp only [Act.put, List.setIfInBounds_toArray, List.set_cons_zero, List.set_cons_succ]
            refine wpAnyH_ready (rs := [3]) (by kernel_rfl) (by simp) ?_
            refine AllReadyH.cons rfl (fun K hK => ?_) AllReadyH.nil
            go_simp
            refine (h9 _).mono ?_
            rintro r w5 ⟨rfl, hb5⟩
            go_wp2_with fail
            have hky2 := hky.later hb5
            obtain ⟨k0, k1⟩ := hky2.cells
            have f0 := Rt.row_frozen hky2 0
            have f1 := Rt.row_frozen hky2 1
            refine hK.out _ _ (hHd2.later hb5) (fun hHd3 => ?_)
            clear hHd2 hb5 hky
            clear hK K
            try simp only [Act.put, List.setIfInBounds_toArray, List.set_cons_zero, List.set_cons_succ]
            refine wpAnyH_take (i := 4) (oi := { dst := some 85, op := Op.move (Operand.tmp 89), type := _, pos := _, after := _, guard := none }) (v := .tuple #[.agg #[.int .i64 e.bas, .int .i64 e.stp], .int .i64 L]) rfl (by kernel_rfl) (by kernel_rfl) (by kernel_rfl) (fun _ _ _ h => h) (Or.inl ⟨by rfl, fun w hSw => by (try dsimp only at hSw); go_simp⟩) (by assumption) ?_
            simp only [Act.put, List.setIfInBounds_toArray, List.set_cons_zero, List.set_cons_succ]
            refine wpAnyH_take (i := 5) (oi := { dst := some 90, op := Op.extract (Operand.tmp 85) 0, type := _, pos := _, after := _, guard := none }) (v := .agg #[.int .i64 e.bas, .int .i64 e.stp]) rfl (by kernel_rfl) (by kernel_rfl) (by kernel_rfl) (fun _ _ _ h => h) (Or.inl ⟨by rfl, fun w hSw => by (try dsimp only at hSw); go_simp⟩) (by assumption) ?_
            simp only [Act.put, List.setIfInBounds_toArray, List.set_cons_zero, List.set_cons_succ]
            refine wpAnyH_take (i := 6) (oi := { dst := some 91, op := Op.extract (Operand.tmp 85) 1, type := _, pos := _, after := _, guard := none }) (v := .int .i64 L) rfl (by kernel_rfl) (by kernel_rfl) (by kernel_rfl) (fun _ _ _ h => h) (Or.inl ⟨by rfl, fun w hSw => by (try dsimp only at hSw); go_simp⟩) (by assumption) ?_
            simp only [Act.put, List.setIfInBounds_toArray, List.set_cons_zero, List.set_cons_succ]
            refine wpAnyH_ready (rs := [8]) (by kernel_rfl) (by simp) ?_
            refine AllReadyH.cons rfl (fun K hK => ?_) AllReadyH.nil
            go_simp
            first | (refine hK.out _ _ (hpre.later (below_alloc _ _)) (fun hHd4 => ?_); have hkyZ := KyAt.new w5 e) | (refine hK.out _ _ (hHd3.two HN.out.1 HN.out.2.1 HN.out.2.2 _ _) (fun hHd4 => ?_); have hkyZ := KyAt.set hky2 e.bas e.stp)
            clear hK K
            try simp only [Act.put, List.setIfInBounds_toArray, List.set_cons_zero, List.set_cons_succ]
            refine wpAnyH_take (i := 9) (oi := { dst := some 14, op := Op.assign (Operand.tmp 91), type := _, pos := _, after := _, guard := none }) (v := .int .i64 L) rfl (by kernel_rfl) (by kernel_rfl) (by kernel_rfl) (fun _ _ _ h => h) (Or.inl ⟨by rfl, fun w hSw => by (try dsimp only at hSw); go_simp⟩) (by assumption) ?_
            simp only [Act.put, List.setIfInBounds_toArray, List.set_cons_zero, List.set_cons_succ]
            refine wpAnyH_done (by kernel_rfl) ?_ _
            go_wp2_with fail
            go_meet
            case rel => exact ⟨_, rfl, rfl, hHd4, hkyZ⟩
        case rest =>
          obtain ⟨A, rfl, rfl, hX9, hky9⟩ := hcut
          clear hX7 h9
          obtain ⟨c0, c1, c2⟩ := hX9.tr.ent s hs8
          have s0 : (0 : Int) ≤ (s : Int) := by omega
          have s1 : (s : Int) < 64 := by omega
          obtain ⟨y, hy⟩ : ∃ y, t.ro s = y := ⟨_, rfl⟩
          rw [hy] at c0 c1 c2
          have HYY : Hid (t.ro s = y) := hy
          clear hy
          go_upto_region 19 with (fail)
          have hbz := Rs.alloc_en wc y
          have hXz := hX9.later hbz
          have hkyz := hky9.later hbz
          have hEz := EnAt.new wc y
          clear c0 c1 c2 hbz hX9 hky9 s0 s1
          generalize wc.alloc (.cells #[.int .i64 y.who, .int .i64 y.bas, .int .i64 y.snc] 27) = wz at *
          generalize wc.heap.size = Z at *
          obtain ⟨z0, z1, z2⟩ := hEz.cells
          cases hty : tkn y with
          | false =>
            have hb0 := Rs.tkn_neg hty
            have HL16 : L = 16 := by rw [← HL.out, koE_leaf hck hs8]; exact leaf_free (by rw [HYY.out]; exact hty)
            have hHd : hdB t v = false := by
              unfold hdB
              rw [← HVV.out, hld_leaf _ hs8, HYY.out, hty, Bool.and_false]
            rw [hHd] at h5
            subst HL16
            have q1 : (y.bas == 0) = true := by simp [hb0]
            clear hb0 hHd
            go_upto_region 20 with (fail)
            have hS0 : SX w wz.drew B P t f := hXz.later (drew_below _)
            clear hXz hkyz hEz z0 z1 z2
            refine wp_region_held_drew (S := fun W => SX w W B P t f) (by kernel_rfl) hS0 (fun hHeld => ?_)
            refine wpAnyH_take (i := 0) (oi := { dst := some 99, op := Op.move (Operand.tmp 14), type := _, pos := _, after := _, guard := none }) (v := .int .i64 16) rfl (by kernel_rfl) (by kernel_rfl) (by kernel_rfl) (fun _ _ _ h => h) (Or.inl ⟨by rfl, fun w hSw => by (try dsimp only at hSw); go_simp⟩) (by assumption) ?_
            simp only [Act.put, List.setIfInBounds_toArray, List.set_cons_zero, List.set_cons_succ]
            refine wpAnyH_take (i := 1) (oi := { dst := some 100, op := Op.binOp BinOp.eql 33 (Operand.tmp 99) (Operand.const (Value.int IntKind.i64 16)) 33, type := _, pos := _, after := _, guard := none }) (v := .bool true) rfl (by kernel_rfl) (by kernel_rfl) (by kernel_rfl) (fun _ _ _ h => h) (Or.inl ⟨by rfl, fun w hSw => by (try dsimp only at hSw); go_simp⟩) (by assumption) ?_
            simp only [Act.put, List.setIfInBounds_toArray, List.set_cons_zero, List.set_cons_succ]
            refine wpAnyH_take (i := 2) (oi := { dst := some 101, op := Op.move (Operand.tmp 100), type := _, pos := _, after := _, guard := none }) (v := .bool true) rfl (by kernel_rfl) (by kernel_rfl) (by kernel_rfl) (fun _ _ _ h => h) (Or.inl ⟨by rfl, fun w hSw => by (try dsimp only at hSw); go_simp⟩) (by assumption) ?_
            simp only [Act.put, List.setIfInBounds_toArray, List.set_cons_zero, List.set_cons_succ]
            refine wpAnyH_take (i := 3) (oi := { dst := some 102, op := Op.load 31 (Operand.tmp 2), type := _, pos := _, after := _, guard := some (2, true) }) (v := .agg ct) rfl (by kernel_rfl) (by kernel_rfl) (by kernel_rfl) (fun _ _ _ h => h) (Or.inl ⟨by rfl, fun w hSw => ld_exec (HT.out ▸ hSw.tr.whole) rfl rfl⟩) (by assumption) ?_
            simp only [Act.put, List.setIfInBounds_toArray, List.set_cons_zero, List.set_cons_succ]
            refine wpAnyH_take (i := 4) (oi := { dst := some 103, op := Op.move (Operand.tmp 5), type := _, pos := _, after := _, guard := some (2, true) }) (v := .int .i64 (s : Int)) rfl (by kernel_rfl) (by kernel_rfl) (by kernel_rfl) (fun _ _ _ h => h) (Or.inl ⟨by rfl, fun w hSw => by (try dsimp only at hSw); go_simp⟩) (by assumption) ?_
            simp only [Act.put, List.setIfInBounds_toArray, List.set_cons_zero, List.set_cons_succ]
            refine wpAnyH_ready (rs := [5]) (by kernel_rfl) (by simp) ?_
            refine AllReadyH.cons rfl (fun K hK => ?_) AllReadyH.nil
            go_simp
            refine (hlf _).mono ?_
            rintro r w4 ⟨rfl, rfl⟩
            go_wp2_with fail
            refine hK.out _ _ hHeld (fun hHeld2 => ?_)
            clear hHeld
            clear hK K
            try simp only [Act.put, List.setIfInBounds_toArray, List.set_cons_zero, List.set_cons_succ]
            refine wpAnyH_ready (rs := [6]) (by kernel_rfl) (by simp) ?_
            refine AllReadyH.cons rfl (fun K hK => ?_) AllReadyH.nil
            go_simp
            refine (h5 _).mono ?_
            rintro r w5 ⟨rfl, hb5⟩
            go_wp2_with fail
            refine hK.out _ _ (hHeld2.later hb5) (fun hHeld3 => ?_)
            clear hHeld2 hb5
            clear hK K
            try simp only [Act.put, List.setIfInBounds_toArray, List.set_cons_zero, List.set_cons_succ]
            refine wpAnyH_take (i := 7) (oi := { dst := some 106, op := Op.unOp UnOp.not 4 (Operand.tmp 105), type := _, pos := _, after := _, guard := some (2, true) }) (v := .bool true) rfl (by kernel_rfl) (by kernel_rfl) (by kernel_rfl) (fun _ _ _ h => h) (Or.inl ⟨by rfl, fun w hSw => by (try dsimp only at hSw); go_simp⟩) (by assumption) ?_
            simp only [Act.put, List.setIfInBounds_toArray, List.set_cons_zero, List.set_cons_succ]
            refine wpAnyH_take (i := 8) (oi := { dst := some 107, op := Op.pick (Operand.tmp 101) (Operand.tmp 106) (Operand.const (Value.bool false)), type := _, pos := _, after := _, guard := none }) (v := .bool true) rfl (by kernel_rfl) (by kernel_rfl) (by kernel_rfl) (fun _ _ _ h => h) (Or.inl ⟨by rfl, fun w hSw => by (try dsimp only at hSw); go_simp⟩) (by assumption) ?_
            simp only [Act.put, List.setIfInBounds_toArray, List.set_cons_zero, List.set_cons_succ]
            refine wpAnyH_take (i := 9) (oi := { dst := some 4, op := Op.assign (Operand.tmp 107), type := _, pos := _, after := _, guard := none }) (v := .bool true) rfl (by kernel_rfl) (by kernel_rfl) (by kernel_rfl) (fun _ _ _ h => h) (Or.inl ⟨by rfl, fun w hSw => by (try dsimp only at hSw); go_simp⟩) (by assumption) ?_
            simp only [Act.put, List.setIfInBounds_toArray, List.set_cons_zero, List.set_cons_succ]
            refine wpAnyH_done (by kernel_rfl) ?_ _
            go_wp2_with fail
            go_ret
            exact ⟨rfl, hHeld3.bel⟩
          | true =>
            have q1 : (y.bas == 0) = false := by simp [Rs.tkn_pos hty]
            have HL0 : L = 0 := by rw [← HL.out]; exact found (x := 0) hck hs8 (by rw [HYY.out]; exact hty)
            have hfn : fnd t.ro y.who = (s : Int) := by have := (tck_right hck).find hs8 (by rw [HYY.out]; exact hty); rw [HYY.out] at this; exact this
            subst HL0
            have h10 := h6 y.who
            have h11 := h7 y.who
            rw [← StandA.yes hck hfn] at h10
            rw [← CardA.yes hck hfn] at h11
            rw [HEE.out, ← HFK.out 0, ← HFK.out 1, ← HFK.out 2] at h10
            rw [HEE.out] at h11
            unfold mcs at h10
            unfold ccs at h11
            have HP6 : Hid (pcs f = p6 (f 0) (f 1) (f 2)) := pcs_p6 f
            obtain ⟨p, hp⟩ : ∃ e, f 0 = e := ⟨_, rfl⟩
            obtain ⟨q, hq⟩ : ∃ e, f 1 = e := ⟨_, rfl⟩
            obtain ⟨u, hu⟩ : ∃ e, f 2 = e := ⟨_, rfl⟩
            rw [hp, hq, hu] at h10 HP6
            clear hp hq hu h5 h6 h7 hlf hfn
            have hTz := hXz.tr
            go_wp2_with (refine rdT hTz HT.out _ rfl rfl rfl ?_)
            refine (h10 _).mono ?_
            rintro r wi ⟨rfl, hbi⟩
            have hbj := hbi.trans ((below_alloc wi (.cells (mcs y.who s t.ep e p q u true) 50)).mono hbi.size)
            have hXj := hXz.later hbj
            have hkyj := hkyz.later hbj
            have hEj := hEz.later hbj
            have hMj := MbAt.new wi y.who s t.ep e p q u true
            clear h10 hTz hXz hkyz hEz hbi hbj z0 z1 z2
            go_upto_region 22 with (fail)
            rw [show (#[.int .i64 y.who, .int .i64 (s : Int), .int .i64 t.ep, .int .i64 e.bas, .int .i64 e.stp, .int .i64 p.bas, .int .i64 p.stp, .int .i64 q.bas, .int .i64 q.stp, .int .i64 u.bas, .int .i64 u.stp, .bool true, .bool false, .int .i64 0] : Array Value) = mcs y.who s t.ep e p q u true from rfl]
            generalize wi.alloc (.cells (mcs y.who s t.ep e p q u true) 50) = wj at *
            generalize wi.heap.size = M at *
            obtain ⟨z0, z1, z2⟩ := hEj.cells
            have hTj := hXj.tr
            go_wp2_with (refine rdT hTj HT.out _ rfl rfl rfl ?_)
            refine (h11 _).mono ?_
            rintro r wk ⟨rfl, hbk⟩
            have hbl := hbk.trans ((below_alloc wk (.cells (ccs y.who s t.ep e) 46)).mono hbk.size)
            have hXl := hXj.later hbl
            have hkyl := hkyj.later hbl
            have hEl := hEj.later hbl
            have hMl := hMj.later hbl
            have hCl := CdAt.new wk y.who s t.ep e
            clear h11 hTj hXj hkyj hEj hMj hbk hbl z0 z1 z2
            go_upto_region 23 with (fail)
            rw [show (#[.int .i64 y.who, .int .i64 (s : Int), .int .i64 t.ep, .int .i64 e.bas, .int .i64 e.stp] : Array Value) = ccs y.who s t.ep e from rfl]
            generalize wk.alloc (.cells (ccs y.who s t.ep e) 46) = wl at *
            generalize wk.heap.size = C at *
            obtain ⟨z0, z1, z2⟩ := hEl.cells
            obtain ⟨e0, e1⟩ := hkyl.cells
            obtain ⟨t0, t1⟩ := hXl.tr.cells
            have hPl : (Instr.loadAt 39 (.pointer (some ⟨P, 0, none⟩))).run Try.prog wl = .ok (.agg (p6 p q u)) wl := by rw [← HP6.out]; exact Rt.ldP_run hXl.pa
            have HBl : Hid (Below w.heap.size w wl) := hXl.bel
            unfold p6 at hPl
            clear hXl hkyl hEl
            go_wp2_with (first
              | (refine rd_guard (v := .agg (mcs y.who s t.ep e p q u true)) (by rfl) (ld_exec hMl.run rfl rfl) ?_)
              | (refine rd_guard (v := .agg (ccs y.who s t.ep e)) (by rfl) (ld_exec hCl.run rfl rfl) ?_)
              | (refine rd_guard (v := .agg #[.int .i64 p.bas, .int .i64 p.stp, .int .i64 q.bas, .int .i64 q.stp, .int .i64 u.bas, .int .i64 u.stp]) (by rfl) (ld_exec hPl rfl rfl) ?_)
              | (refine rd_guard (v := .bool true) (by rfl) (eqMb_exec (W := y.who) (S := s) (P := t.ep) (k := e) (p := p) (q := q) (r := u) (b := true) rfl rfl rfl) ?_)
              | (refine rd_guard (v := .bool true) (by rfl) (eqCd_exec (W := y.who) (S := s) (P := t.ep) (k := e) rfl rfl rfl) ?_))
            go_ret
            exact ⟨ret_bool (by simp), HBl.out⟩
theorem own : ownKnob Try.prog.godebug = none := by kernel_rfl
theorem laidOut : laidOutB Try.prog = true := by kernel_rfl
set_option maxRecDepth 100000 in
theorem lifted (os : Os) (started : os.Started) (H : Type) (enc : TypeId × Value → H) :
    ReturnsInHanded {} Try.checked os 6 .any (Rows.treePathsSpec.pre6 enc Try.prog Try.f6 Rows.treePathsRow.domain false) (Rows.treePathsSpec.post enc Try.prog Try.f6 false true false false) := by
  refine returnsInHanded_of_change (C := Try.checked) own started (by kernel_rfl) Try.func6
    (ChangeSpec.witness6 (enc := enc) (C := Try.checked) false ⟨#[], #[.agg (List.replicate 236 (Value.int .i64 0)).toArray, .int .i64 0], []⟩ 8 (by kernel_rfl) (by kernel_rfl) (by kernel_rfl) (by kernel_rfl)) ?_
  intro W base args ds gs before hval0 hW hcnd _
  have hval : ∀ (j : Nat) t v, Try.f6.params[j]? = some t → args[j]? = some v → Value.okWide Try.prog W .any base t v := hval0
  have hW' := hW
  obtain ⟨p, q, hA0, hV, rfl, hfz, hnd⟩ := hW
  have hA : DataW.TrodAll enc Try.prog W 0 (fun _ => true) true Try.f6.params.toList args.toList ds p := hA0
  rw [Try.params6] at hA hval
  obtain ⟨v0, vs0, d0, ds0, p0, q0, hargs, rfl, rfl, h0, r0⟩ := trodAll_cons hA
  obtain ⟨v1, vs1, d1, ds1, p1, q1, rfl, rfl, rfl, h1, r1⟩ := trodAll_cons r0
  obtain ⟨rfl, rfl, rfl⟩ := trodAll_nil r1
  obtain rfl : args = #[v0, v1] := by cases args; simp_all
  obtain ⟨rfl, rfl⟩ := trodVars_none hV
  have k0 := h0
  have lt0 : ∀ x ∈ p0, x.block < W.heap.size := by obtain ⟨m, hm⟩ := k0; exact DataW.trod_lt m _ _ _ hm
  obtain ⟨f0, rfl⟩ := open_tr (hval 0 31 v0 rfl rfl) h0
  obtain ⟨a1, rfl, rfl, rfl, w1⟩ := open_int Try.underlying3 (hval 1 3 v1 rfl rfl) h1
  clear hA0 hval0
  refine (walk f0 a1 w1 W).mono fun e W' ⟨he, bel⟩ => ?_
  subst he
  exact ⟨_, rfl, _, _, _, [], _, [], hW', trodAll_mk1 (shut_bool Try.underlying4 _), (trodAll_cons_mk (Below.trod laidOut (by kernel_rfl) (of_decide_eq_true (by kernel_rfl)) k0 bel lt0) (trodAll_cons_mk (shut_int Try.underlying3 w1) trodAll_mk0)), rfl, bel.frame _, fun h => by cases h⟩
theorem over : Rows.treePathsRow.holds Try.pinned (OpenSpec.ofChange Rows.treePathsSpec) :=
  OpenClaim.holds_of_wide 6 Try.f6 rfl rfl rfl rfl rfl rfl rfl ⟨rfl, rfl, rfl, rfl, rfl⟩ rfl rfl rfl rfl rfl (by kernel_rfl) Try.func6 (by kernel_rfl)
    (of_decide_eq_true (by kernel_rfl)) (by unfold Func.isWrapper; first | (rw [if_pos (by decide +kernel)]; kernel_rfl) | (rw [if_neg (by decide +kernel)]; exact ⟨rfl, rfl⟩))
    (fun os started H enc _ => lifted os started H enc)
end Go.Proofs.Ytpkfpckljpffgaa.treePaths
namespace Go.Proofs.Ytpkfpckljpffgaa
theorem treePaths_holds : Rows.TreePathsSaid := treePaths.over
#print axioms treePaths_holds
end Go.Proofs.Ytpkfpckljpffgaa
