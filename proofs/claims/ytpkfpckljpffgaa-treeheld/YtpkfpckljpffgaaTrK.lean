/- Contracts: Card. -/
import Derived.Test.YtpkfpckljpffgaaTrF
import Derived.Test.YtpkfpckljpffgaaTrP
namespace Go.Proofs.Ytpkfpckljpffgaa
open Go.RowKit
open Rt (Ky zK kcs KyAt pcs PaAt)
open Rs (En zE rcs RoAt EnAt tkn fnd)
set_option linter.unusedVariables false
set_option linter.unusedSimpArgs false

/- A whole row, stored and answered. -/
theorem stRow {T : TypeId} {n : Nat} (hi : (Try.prog.info? T).map (·.size) = some n) {ops : Array Oper} {rest : List Oper} {o : Oper} {a : Act} {w : World} {Q : Exit → Act → World → Prop} {B : Nat} {cs : Array Value} (hs : cs.size = n) (h : w.heap[B]? = some (.cells cs T (0, 0))) (ds : Array Value) (hd : ds.size = n) (h1 : ds.all (·.oneCell') = true)
    (hgd : o.guard = none) (x y : Operand) (ho : o.op = .store T x y) (hx : a.eval x = .pointer (some ⟨B, 0, none⟩)) (hy : a.eval y = .agg ds) (k : wpList Try.prog ops Q rest (a.put o.dst undef) (w.setRow B ds)) : wpList Try.prog ops Q (o :: rest) a w :=
  wpList_store_row hgd T x y ho B ds hx hy T cs h (by rw [hd]; exact hi) (by rw [hs, hd]) h1 k
theorem resRow {T : TypeId} {fn : Func} {p t : Tmp} (hf : fn.results = #[.cell p T, .tmp t]) (tmps : Array Value) (W : World) (B : Nat) (cs : Array Value) (hp : tmps[p]? = some (.pointer (some ⟨B, 0, none⟩))) (h : (loadVar T ⟨B, 0, none⟩).run Try.prog W = .ok (.agg cs) W) :
    (results fn tmps).run Try.prog W = .ok (.tuple #[.agg cs, tmps.getD t undef]) W := by
  simp [results, hf, hp, asAddr, h]
theorem infoCd : (Try.prog.info? 46).map (·.size) = some 5 := by kernel_rfl
theorem infoMb : (Try.prog.info? 50).map (·.size) = some 14 := by kernel_rfl
def ccs (W S P : Int) (k : Ky) : Array Value := #[.int .i64 W, .int .i64 S, .int .i64 P, .int .i64 k.bas, .int .i64 k.stp]
def mcs (W S P : Int) (k p q r : Ky) (h : Bool) : Array Value := #[.int .i64 W, .int .i64 S, .int .i64 P, .int .i64 k.bas, .int .i64 k.stp, .int .i64 p.bas, .int .i64 p.stp, .int .i64 q.bas, .int .i64 q.stp, .int .i64 r.bas, .int .i64 r.stp, .bool h, .bool false, .int .i64 0]
theorem ccs_one (W S P : Int) (k : Ky) : (ccs W S P k).all (·.oneCell') = true := by simp [ccs, Value.oneCell']
theorem mcs_one (W S P : Int) (k p q r : Ky) (h : Bool) : (mcs W S P k p q r h).all (·.oneCell') = true := by simp [mcs, Value.oneCell']
def CdAt (w : World) (B : Nat) (W S P : Int) (k : Ky) : Prop := w.heap[B]? = some (.cells (ccs W S P k) 46 (0, 0))
def MbAt (w : World) (B : Nat) (W S P : Int) (k p q r : Ky) (h : Bool) : Prop := w.heap[B]? = some (.cells (mcs W S P k p q r h) 50 (0, 0))
theorem CdAt.var {w : World} {B : Nat} {W S P : Int} {k : Ky} (h : CdAt w B W S P k) : (loadVar 46 ⟨B, 0, none⟩).run Try.prog w = .ok (.agg (ccs W S P k)) w := run_loadVar_row w B _ 46 _ _ _ h Try.underlying46 rfl infoCd
theorem MbAt.var {w : World} {B : Nat} {W S P : Int} {k p q r : Ky} {b : Bool} (h : MbAt w B W S P k p q r b) : (loadVar 50 ⟨B, 0, none⟩).run Try.prog w = .ok (.agg (mcs W S P k p q r b)) w := run_loadVar_row w B _ 50 _ _ _ h Try.underlying50 rfl infoMb
theorem CdAt.row {w : World} {B : Nat} {W S P : Int} {k : Ky} (h : CdAt w B W S P k) (W' S' P' : Int) (k' : Ky) : CdAt (w.setRow B (ccs W' S' P' k')) B W' S' P' k' := Rt.heap_setRow_same h _
theorem MbAt.row {w : World} {B : Nat} {W S P : Int} {k p q r : Ky} {b : Bool} (h : MbAt w B W S P k p q r b) (W' S' P' : Int) (k' p' q' r' : Ky) (b' : Bool) : MbAt (w.setRow B (mcs W' S' P' k' p' q' r' b')) B W' S' P' k' p' q' r' b' := Rt.heap_setRow_same h _
theorem row_later {w w' : World} {B : Nat} {o : Obj} (h : w.heap[B]? = some o) (hb : Below w.heap.size w w') : w'.heap[B]? = some o := (hb.block B (Array.getElem?_eq_some_iff.1 h).1).trans h
def CardA (t : Tr) (x : Int) : Ending := .returned (.tuple #[.agg (ccs (caW t x) (caS t x) (caP t x) (caK t x)), .int .i64 (caE t x)])
theorem CardA.no {t : Tr} {x e : Int} (h : caE t x = e) (he : e ≠ 0) : Ending.returned (.tuple #[.agg (ccs 0 0 0 zK), .int .i64 e]) = CardA t x := by
  unfold CardA caW caS caP caK
  rw [h, if_neg he, if_neg he, if_neg he, if_neg he]
theorem CardA.yes {t : Tr} {x : Int} {s : Nat} (h : tck t = true) (h2 : fnd t.ro x = (s : Int)) : Ending.returned (.tuple #[.agg (ccs x s t.ep (koK t (21 + (s : Int)))), .int .i64 0]) = CardA t x := by
  unfold CardA caW caS caP caK
  rw [caE_ok h h2, if_pos rfl, if_pos rfl, if_pos rfl, if_pos rfl, h2]
/- A found person's leaf. -/
theorem found {t : Tr} {x : Int} {s : Nat} (h : tck t = true) (hs : s < 64) (ht : tkn (t.ro s) = true) : koE t (21 + (s : Int)) = 0 := (koE_leaf h hs).trans ((tck_right h).leaf hs ht)
structure SC (w W : World) (B K : Nat) (t : Tr) : Prop where
  tr : TrAt W B t
  cd : CdAt W K 0 0 0 zK
  bel : Below w.heap.size w W
  ne : B ≠ K
  ge : w.heap.size ≤ K
theorem SC.later {w W W' : World} {B K : Nat} {t : Tr} (h : SC w W B K t) (hb : Below W.heap.size W W') : SC w W' B K t := ⟨h.tr.later hb, row_later h.cd hb, h.bel.trans (hb.mono h.bel.size), h.ne, h.ge⟩
theorem SC.two {w W : World} {B K : Nat} {t : Tr} (h : SC w W B K t) {A : Nat} (h1 : B ≠ A) (h2 : K ≠ A) (h3 : w.heap.size ≤ A) (a b : Int) : SC w ((W.setCell ⟨A, 0, none⟩ (.int .i64 a)).setCell ⟨A, 1, none⟩ (.int .i64 b)) B K t :=
  ⟨(Rt.set2_other h1 _ _ _ _).trans h.tr, (Rt.set2_other h2 _ _ _ _).trans h.cd, Rt.set2_below h.bel h3 _ _ _ _, h.ne, h.ge⟩
theorem SC.new (w : World) (t : Tr) : SC w ((w.alloc (.cells (tcs t) 31)).alloc (.cells #[.int .i64 0, .int .i64 0, .int .i64 0, .int .i64 0, .int .i64 0] 46)) w.heap.size (w.heap.size + 1) t := by
  have h1 := TrAt.new w t
  have hb1 := alloc_tr w t
  have h2 := heap_alloc_last (w.alloc (.cells (tcs t) 31)) (.cells #[.int .i64 0, .int .i64 0, .int .i64 0, .int .i64 0, .int .i64 0] 46)
  have hb2 := below_alloc (w.alloc (.cells (tcs t) 31)) (.cells #[.int .i64 0, .int .i64 0, .int .i64 0, .int .i64 0, .int .i64 0] 46)
  rw [World.size_alloc] at h2
  exact ⟨h1.later hb2, h2, hb1.trans (hb2.mono hb1.size), by omega, by omega⟩
set_option maxRecDepth 100000 in
set_option maxHeartbeats 2000000 in
theorem card_any (t : Tr) (x : Int) (w : World) : Calls Try.prog 19 #[.agg (tcs t), .int .i64 x] w fun e w' => e = CardA t x ∧ Below w.heap.size w w' := by
  have hS := SC.new w t
  have h1 := check_any t
  have h2 := Rs.find_any t.ro x
  have h3 := fun v => keyOf_any t v
  unfold KeyA at h3
  obtain ⟨ct, hct⟩ : ∃ c, tcs t = c := ⟨_, rfl⟩
  obtain ⟨cr, hcr⟩ : ∃ c, rcs t.ro = c := ⟨_, rfl⟩
  simp only [hct] at h1 h3
  simp only [hcr] at h2
  have HT : Hid (tcs t = ct) := hct
  have HR : Hid (rcs t.ro = cr) := hcr
  clear hct hcr
  go_enter Try.func19, Try.ntmps19
  go_upto_region 1 with (fail)
  generalize (w.alloc (.cells (tcs t) 31)).alloc (.cells #[.int .i64 0, .int .i64 0, .int .i64 0, .int .i64 0, .int .i64 0] 46) = w1 at *
  rw [HT.out]
  have hT1 := hS.tr
  obtain ⟨K, hK⟩ : ∃ K, w.heap.size + 1 = K := ⟨_, rfl⟩
  rw [hK] at hS ⊢
  obtain ⟨B, hB⟩ : ∃ B, w.heap.size = B := ⟨_, rfl⟩
  rw [hB] at hS hT1 ⊢
  clear hK hB
  go_wp2_with (refine rdT hT1 HT.out _ rfl rfl rfl ?_)
  refine (h1 _).mono ?_
  rintro r w2 ⟨rfl, hb2⟩
  have hS2 := hS.later hb2
  clear h1 hS hT1 hb2
  cases hck : tck t with
  | false =>
    rw [tckE_ff hck]
    go_wp2_with (refine stRow infoCd (cs := ccs 0 0 0 zK) rfl hS2.cd (ccs 0 0 0 zK) rfl (ccs_one _ _ _ _) rfl _ _ rfl rfl rfl ?_)
    refine bodyPost_ret (resRow (p := 4) (t := 5) rfl _ _ K (ccs 0 0 0 zK) rfl (CdAt.row hS2.cd 0 0 0 zK).var) rfl ?_
    exact ⟨CardA.no (caE_bad hck) (by decide), Rt.setRow_below hS2.ge hS2.bel _⟩
  | true =>
    rw [tckE_tt hck]
    have hT2 := hS2.tr
    go_wp2_with (refine rdR hT2 HR.out _ rfl rfl rfl ?_)
    refine (h2 _).mono ?_
    rintro r w3 ⟨rfl, hb3⟩
    have hS3 := hS2.later hb3
    clear h2 hS2 hT2 hb3
    rcases fnd_at t.ro x with hf | ⟨s, hs8, hf, ht, hw⟩
    · rw [hf]
      go_wp2_with (refine stRow infoCd (cs := ccs 0 0 0 zK) rfl hS3.cd (ccs 0 0 0 zK) rfl (ccs_one _ _ _ _) rfl _ _ rfl rfl rfl ?_)
      refine bodyPost_ret (resRow (p := 4) (t := 5) rfl _ _ K (ccs 0 0 0 zK) rfl (CdAt.row hS3.cd 0 0 0 zK).var) rfl ?_
      exact ⟨CardA.no (caE_off hck hf) (by decide), Rt.setRow_below hS3.ge hS3.bel _⟩
    · rw [hf]
      have h4 := h3 (21 + (s : Int))
      rw [found (x := x) hck hs8 ht] at h4
      have hl := Sh.leaf_any (s : Int)
      rw [Sh.lef_yes (by omega) (by omega)] at hl
      have HA := CardA.yes (x := x) hck hf
      obtain ⟨e, he⟩ : ∃ e, koK t (21 + (s : Int)) = e := ⟨_, rfl⟩
      rw [he] at h4 HA
      have HA2 : Hid (Ending.returned (.tuple #[.agg (ccs x s t.ep e), .int .i64 0]) = CardA t x) := HA
      clear he HA hw ht hf h3
      have s2 : decide ((s : Int) < 0) = false := decide_eq_false (by omega)
      obtain ⟨v, hv⟩ : ∃ v, 21 + (s : Int) = v := ⟨_, rfl⟩
      rw [hv] at hl h4
      clear hv
      go_upto_region 7 with (fail)
      go_cut [8, 9] (fun s8 s9 wx => ∃ A, s8 = .pointer (some ⟨A, 0, none⟩) ∧ s9 = .int .i64 0 ∧ SC w wx B K t ∧ KyAt wx A e)
      case first =>
        have hS0 : SC w w3.drew B K t := hS3.later (drew_below _)
        have hB3 : B ≠ w3.heap.size := Nat.ne_of_lt hS3.tr.lt
        have hK3 : K ≠ w3.heap.size := Nat.ne_of_lt (Array.getElem?_eq_some_iff.1 hS3.cd).1
        have hW3 : w.heap.size ≤ w3.heap.size := hS3.bel.size
        have HN : Hid (B ≠ w3.heap.size ∧ K ≠ w3.heap.size ∧ w.heap.size ≤ w3.heap.size) := ⟨hB3, hK3, hW3⟩
        clear hS3 s2 hB3 hK3 hW3
        refine wp_region_held_drew (S := fun W => SC w W B K t) (by kernel_rfl) hS0 (fun hHeld => ?_)
        refine wpAnyH_take (i := 0) (oi := { dst := some 24, op := Op.load 31 (Operand.tmp 2), type := _, pos := _, after := _, guard := none }) (v := .agg ct) rfl (by kernel_rfl) (by kernel_rfl) (by kernel_rfl) (fun _ _ _ h => h) (Or.inl ⟨by rfl, fun w hSw => ld_exec (HT.out ▸ hSw.tr.whole) rfl rfl⟩) (by assumption) ?_
        simp only [Act.put, List.setIfInBounds_toArray, List.set_cons_zero, List.set_cons_succ]
        refine wpAnyH_take (i := 1) (oi := { dst := some 25, op := Op.move (Operand.tmp 7), type := _, pos := _, after := _, guard := none }) (v := .int .i64 (s : Int)) rfl (by kernel_rfl) (by kernel_rfl) (by kernel_rfl) (fun _ _ _ h => h) (Or.inl ⟨by rfl, fun w hSw => by (try dsimp only at hSw); go_simp⟩) (by assumption) ?_
        simp only [Act.put, List.setIfInBounds_toArray, List.set_cons_zero, List.set_cons_succ]
        refine wpAnyH_ready (rs := [2, 7]) (by kernel_rfl) (by simp) ?_
        refine (AllReadyH.cons rfl (fun K hK => ?_) (AllReadyH.cons rfl (fun K hK => ?_) AllReadyH.nil))
        · go_simp
          refine (hl _).mono ?_
          rintro r w4 ⟨rfl, rfl⟩
          go_wp2_with fail
          refine hK.out _ _ hHeld (fun hHd1 => ?_)
          clear hHeld
          clear hK K
          try simp only [Act.put, List.setIfInBounds_toArray, List.set_cons_zero, List.set_cons_succ]
          refine wpAnyH_ready (rs := [3, 7]) (by kernel_rfl) (by simp) ?_
          refine (AllReadyH.cons rfl (fun K hK => ?_) (AllReadyH.cons rfl (fun K hK => ?_) AllReadyH.nil))
          · go_simp
            refine (h4 _).mono ?_
            rintro r w5 ⟨rfl, hb5⟩
            go_wp2_with fail
            refine hK.out _ _ (hHd1.later hb5) (fun hHd2 => ?_)
            clear hHd1 hb5
            clear hK K
            try simp only [Act.put, List.setIfInBounds_toArray, List.set_cons_zero, List.set_cons_succ]
            refine wpAnyH_take (i := 4) (oi := { dst := some 23, op := Op.move (Operand.tmp 27), type := _, pos := _, after := _, guard := none }) (v := .tuple #[.agg #[.int .i64 e.bas, .int .i64 e.stp], .int .i64 0]) rfl (by kernel_rfl) (by kernel_rfl) (by kernel_rfl) (fun _ _ _ h => h) (Or.inl ⟨by rfl, fun w hSw => by (try dsimp only at hSw); go_simp⟩) (by assumption) ?_
            simp only [Act.put, List.setIfInBounds_toArray, List.set_cons_zero, List.set_cons_succ]
            refine wpAnyH_take (i := 5) (oi := { dst := some 28, op := Op.extract (Operand.tmp 23) 0, type := _, pos := _, after := _, guard := none }) (v := .agg #[.int .i64 e.bas, .int .i64 e.stp]) rfl (by kernel_rfl) (by kernel_rfl) (by kernel_rfl) (fun _ _ _ h => h) (Or.inl ⟨by rfl, fun w hSw => by (try dsimp only at hSw); go_simp⟩) (by assumption) ?_
            simp only [Act.put, List.setIfInBounds_toArray, List.set_cons_zero, List.set_cons_succ]
            refine wpAnyH_take (i := 6) (oi := { dst := some 29, op := Op.extract (Operand.tmp 23) 1, type := _, pos := _, after := _, guard := none }) (v := .int .i64 0) rfl (by kernel_rfl) (by kernel_rfl) (by kernel_rfl) (fun _ _ _ h => h) (Or.inl ⟨by rfl, fun w hSw => by (try dsimp only at hSw); go_simp⟩) (by assumption) ?_
            simp only [Act.put, List.setIfInBounds_toArray, List.set_cons_zero, List.set_cons_succ]
            refine wpAnyH_ready (rs := [7]) (by kernel_rfl) (by simp) ?_
            refine AllReadyH.cons rfl (fun K hK => ?_) AllReadyH.nil
            go_simp
            have hpre := hHd2
            refine hK.out _ _ (hHd2.later (below_alloc _ _)) (fun hHd3 => ?_)
            clear hK K
            try simp only [Act.put, List.setIfInBounds_toArray, List.set_cons_zero, List.set_cons_succ]
            refine wpAnyH_ready (rs := [8]) (by kernel_rfl) (by simp) ?_
            refine AllReadyH.cons rfl (fun K hK => ?_) AllReadyH.nil
            go_simp
            first | (refine hK.out _ _ (hpre.later (below_alloc _ _)) (fun hHd4 => ?_); have hkyZ := KyAt.new w5 e) | (refine hK.out _ _ (hHd3.two HN.out.1 HN.out.2.1 HN.out.2.2 _ _) (fun hHd4 => ?_); have hkyZ := KyAt.set hky2 e.bas e.stp)
            clear hK K
            try simp only [Act.put, List.setIfInBounds_toArray, List.set_cons_zero, List.set_cons_succ]
            refine wpAnyH_take (i := 9) (oi := { dst := some 9, op := Op.assign (Operand.tmp 29), type := _, pos := _, after := _, guard := none }) (v := .int .i64 0) rfl (by kernel_rfl) (by kernel_rfl) (by kernel_rfl) (fun _ _ _ h => h) (Or.inl ⟨by rfl, fun w hSw => by (try dsimp only at hSw); go_simp⟩) (by assumption) ?_
            simp only [Act.put, List.setIfInBounds_toArray, List.set_cons_zero, List.set_cons_succ]
            refine wpAnyH_done (by kernel_rfl) ?_ _
            go_wp2_with fail
            go_meet
            case rel => exact ⟨_, rfl, rfl, hHd4, hkyZ⟩
          · go_simp
            have hky : KyAt (w3.drew.alloc (.cells #[.int .i64 0, .int .i64 0] 23)) w3.heap.size zK := KyAt.new w3.drew zK
            refine hK.out _ _ (hHd1.later (below_alloc _ _)) (fun hHd2 => ?_)
            clear hHd1
            clear hK K
            try simp only [Act.put, List.setIfInBounds_toArray, List.set_cons_zero, List.set_cons_succ]
            refine wpAnyH_ready (rs := [3]) (by kernel_rfl) (by simp) ?_
            refine AllReadyH.cons rfl (fun K hK => ?_) AllReadyH.nil
            go_simp
            refine (h4 _).mono ?_
            rintro r w5 ⟨rfl, hb5⟩
            go_wp2_with fail
            have hky2 := hky.later hb5
            obtain ⟨k0, k1⟩ := hky2.cells
            have f0 := Rt.row_frozen hky2 0
            have f1 := Rt.row_frozen hky2 1
            refine hK.out _ _ (hHd2.later hb5) (fun hHd3 => ?_)
            clear hHd2 hb5 hky
            clear hK K
            try simp only [Act.put, List.setIfInBounds_toArray, List.set_cons_zero, List.set_cons_succ]
            refine wpAnyH_take (i := 4) (oi := { dst := some 23, op := Op.move (Operand.tmp 27), type := _, pos := _, after := _, guard := none }) (v := .tuple #[.agg #[.int .i64 e.bas, .int .i64 e.stp], .int .i64 0]) rfl (by kernel_rfl) (by kernel_rfl) (by kernel_rfl) (fun _ _ _ h => h) (Or.inl ⟨by rfl, fun w hSw => by (try dsimp only at hSw); go_simp⟩) (by assumption) ?_
            simp only [Act.put, List.setIfInBounds_toArray, List.set_cons_zero, List.set_cons_succ]
            refine wpAnyH_take (i := 5) (oi := { dst := some 28, op := Op.extract (Operand.tmp 23) 0, type := _, pos := _, after := _, guard := none }) (v := .agg #[.int .i64 e.bas, .int .i64 e.stp]) rfl (by kernel_rfl) (by kernel_rfl) (by kernel_rfl) (fun _ _ _ h => h) (Or.inl ⟨by rfl, fun w hSw => by (try dsimp only at hSw); go_simp⟩) (by assumption) ?_
            simp only [Act.put, List.setIfInBounds_toArray, List.set_cons_zero, List.set_cons_succ]
            refine wpAnyH_take (i := 6) (oi := { dst := some 29, op := Op.extract (Operand.tmp 23) 1, type := _, pos := _, after := _, guard := none }) (v := .int .i64 0) rfl (by kernel_rfl) (by kernel_rfl) (by kernel_rfl) (fun _ _ _ h => h) (Or.inl ⟨by rfl, fun w hSw => by (try dsimp only at hSw); go_simp⟩) (by assumption) ?_
            simp only [Act.put, List.setIfInBounds_toArray, List.set_cons_zero, List.set_cons_succ]
            refine wpAnyH_ready (rs := [8]) (by kernel_rfl) (by simp) ?_
            refine AllReadyH.cons rfl (fun K hK => ?_) AllReadyH.nil
            go_simp
            first | (refine hK.out _ _ (hpre.later (below_alloc _ _)) (fun hHd4 => ?_); have hkyZ := KyAt.new w5 e) | (refine hK.out _ _ (hHd3.two HN.out.1 HN.out.2.1 HN.out.2.2 _ _) (fun hHd4 => ?_); have hkyZ := KyAt.set hky2 e.bas e.stp)
            clear hK K
            try simp only [Act.put, List.setIfInBounds_toArray, List.set_cons_zero, List.set_cons_succ]
            refine wpAnyH_take (i := 9) (oi := { dst := some 9, op := Op.assign (Operand.tmp 29), type := _, pos := _, after := _, guard := none }) (v := .int .i64 0) rfl (by kernel_rfl) (by kernel_rfl) (by kernel_rfl) (fun _ _ _ h => h) (Or.inl ⟨by rfl, fun w hSw => by (try dsimp only at hSw); go_simp⟩) (by assumption) ?_
            simp only [Act.put, List.setIfInBounds_toArray, List.set_cons_zero, List.set_cons_succ]
            refine wpAnyH_done (by kernel_rfl) ?_ _
            go_wp2_with fail
            go_meet
            case rel => exact ⟨_, rfl, rfl, hHd4, hkyZ⟩
        · go_simp
          have hky : KyAt (w3.drew.alloc (.cells #[.int .i64 0, .int .i64 0] 23)) w3.heap.size zK := KyAt.new w3.drew zK
          refine hK.out _ _ (hHeld.later (below_alloc _ _)) (fun hHd1 => ?_)
          clear hHeld
          clear hK K
          try simp only [Act.put, List.setIfInBounds_toArray, List.set_cons_zero, List.set_cons_succ]
          refine wpAnyH_ready (rs := [2]) (by kernel_rfl) (by simp) ?_
          refine AllReadyH.cons rfl (fun K hK => ?_) AllReadyH.nil
          go_simp
          refine (hl _).mono ?_
          rintro r w4 ⟨rfl, rfl⟩
          go_wp2_with fail
          refine hK.out _ _ hHd1 (fun hHd2 => ?_)
          clear hHd1
          clear hK K
          try simp only [Act.put, List.setIfInBounds_toArray, List.set_cons_zero, List.set_cons_succ]
          refine wpAnyH_ready (rs := [3]) (by kernel_rfl) (by simp) ?_
          refine AllReadyH.cons rfl (fun K hK => ?_) AllReadyH.nil
          go_simp
          refine (h4 _).mono ?_
          rintro r w5 ⟨rfl, hb5⟩
          go_wp2_with fail
          have hky2 := hky.later hb5
          obtain ⟨k0, k1⟩ := hky2.cells
          have f0 := Rt.row_frozen hky2 0
          have f1 := Rt.row_frozen hky2 1
          refine hK.out _ _ (hHd2.later hb5) (fun hHd3 => ?_)
          clear hHd2 hb5 hky
          clear hK K
          try simp only [Act.put, List.setIfInBounds_toArray, List.set_cons_zero, List.set_cons_succ]
          refine wpAnyH_take (i := 4) (oi := { dst := some 23, op := Op.move (Operand.tmp 27), type := _, pos := _, after := _, guard := none }) (v := .tuple #[.agg #[.int .i64 e.bas, .int .i64 e.stp], .int .i64 0]) rfl (by kernel_rfl) (by kernel_rfl) (by kernel_rfl) (fun _ _ _ h => h) (Or.inl ⟨by rfl, fun w hSw => by (try dsimp only at hSw); go_simp⟩) (by assumption) ?_
          simp only [Act.put, List.setIfInBounds_toArray, List.set_cons_zero, List.set_cons_succ]
          refine wpAnyH_take (i := 5) (oi := { dst := some 28, op := Op.extract (Operand.tmp 23) 0, type := _, pos := _, after := _, guard := none }) (v := .agg #[.int .i64 e.bas, .int .i64 e.stp]) rfl (by kernel_rfl) (by kernel_rfl) (by kernel_rfl) (fun _ _ _ h => h) (Or.inl ⟨by rfl, fun w hSw => by (try dsimp only at hSw); go_simp⟩) (by assumption) ?_
          simp only [Act.put, List.setIfInBounds_toArray, List.set_cons_zero, List.set_cons_succ]
          refine wpAnyH_take (i := 6) (oi := { dst := some 29, op := Op.extract (Operand.tmp 23) 1, type := _, pos := _, after := _, guard := none }) (v := .int .i64 0) rfl (by kernel_rfl) (by kernel_rfl) (by kernel_rfl) (fun _ _ _ h => h) (Or.inl ⟨by rfl, fun w hSw => by (try dsimp only at hSw); go_simp⟩) (by assumption) ?_
          simp only [Act.put, List.setIfInBounds_toArray, List.set_cons_zero, List.set_cons_succ]
          refine wpAnyH_ready (rs := [8]) (by kernel_rfl) (by simp) ?_
          refine AllReadyH.cons rfl (fun K hK => ?_) AllReadyH.nil
          go_simp
          first | (refine hK.out _ _ (hpre.later (below_alloc _ _)) (fun hHd4 => ?_); have hkyZ := KyAt.new w5 e) | (refine hK.out _ _ (hHd3.two HN.out.1 HN.out.2.1 HN.out.2.2 _ _) (fun hHd4 => ?_); have hkyZ := KyAt.set hky2 e.bas e.stp)
          clear hK K
          try simp only [Act.put, List.setIfInBounds_toArray, List.set_cons_zero, List.set_cons_succ]
          refine wpAnyH_take (i := 9) (oi := { dst := some 9, op := Op.assign (Operand.tmp 29), type := _, pos := _, after := _, guard := none }) (v := .int .i64 0) rfl (by kernel_rfl) (by kernel_rfl) (by kernel_rfl) (fun _ _ _ h => h) (Or.inl ⟨by rfl, fun w hSw => by (try dsimp only at hSw); go_simp⟩) (by assumption) ?_
          simp only [Act.put, List.setIfInBounds_toArray, List.set_cons_zero, List.set_cons_succ]
          refine wpAnyH_done (by kernel_rfl) ?_ _
          go_wp2_with fail
          go_meet
          case rel => exact ⟨_, rfl, rfl, hHd4, hkyZ⟩
      case rest =>
        obtain ⟨A, rfl, rfl, hS9, hky9⟩ := hcut
        obtain ⟨c0, c1⟩ := hS9.tr.cells
        obtain ⟨k0, k1⟩ := hky9.cells
        go_wp2_with (refine stRow infoCd (cs := ccs 0 0 0 zK) rfl hS9.cd (ccs x s t.ep e) rfl (ccs_one _ _ _ _) rfl _ _ rfl rfl rfl ?_)
        refine bodyPost_ret (resRow (p := 4) (t := 5) rfl _ _ K (ccs x s t.ep e) rfl (CdAt.row hS9.cd x s t.ep e).var) rfl ?_
        exact ⟨HA2.out, Rt.setRow_below hS9.ge hS9.bel _⟩
end Go.Proofs.Ytpkfpckljpffgaa
