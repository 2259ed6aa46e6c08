/- For every tree, every number of a node and every number of a person: Held, Card and Stand of package keytree answer what the document says: TreeStands, with no condition. -/
import Derived.Test.YtpkfpckljpffgaaRows
import Derived.Test.YtpkfpckljpffgaaOpenTr
import Derived.Test.YtpkfpckljpffgaaTrL
import Derived.Test.YtpkfpckljpffgaaTrH
import Derived.Test.YtpkfpckljpffgaaTrN
import Derived.Test.YtpkfpckljpffgaaTrQ
namespace Go.Proofs.Ytpkfpckljpffgaa.treeStands
open Go.ChangeShapes Go.WideShapes Go.ChangeAt Go.RowKit
open Rt (Ky zK pcs KyAt PaAt)
set_option linter.unusedVariables false
set_option linter.unusedSimpArgs false

structure ST (w W : World) (B : Nat) (t : Tr) : Prop where
  tr : TrAt W B t
  bel : Below w.heap.size w W
theorem ST.later {w W W' : World} {B : Nat} {t : Tr} (h : ST w W B t) (hb : Below W.heap.size W W') : ST w W' B t := ⟨h.tr.later hb, h.bel.trans (hb.mono h.bel.size)⟩
set_option maxRecDepth 100000 in
set_option maxHeartbeats 2000000 in
theorem walk (t : Tr) (v x : Int) (wf1 : (Lit.int .i64 v).wf = true) (wf2 : (Lit.int .i64 x).wf = true) (w : World) :
    Calls Try.prog 5 #[.agg (tcs t), .int .i64 v, .int .i64 x] w fun e w' => e = .returned (.bool true) ∧ Below w.heap.size w w' := by
  clear wf1 wf2
  have hS : ST w (w.alloc (.cells (tcs t) 31)) w.heap.size t := ⟨TrAt.new w t, alloc_tr w t⟩
  have h0 := lives_any
  have h1 := held_any t v
  have h2 := rHeld_any t v
  have h3 := card_any t x
  have h4 := rCard_any t x
  have h5 := stand_any t x
  have h6 := rStand_any t x
  unfold CardA at h3 h4
  unfold StandA at h5 h6
  obtain ⟨ct, hct⟩ : ∃ c, tcs t = c := ⟨_, rfl⟩
  simp only [hct] at h1 h2 h3 h4 h5 h6
  have HT : Hid (tcs t = ct) := hct
  clear hct
  obtain ⟨b, hb⟩ : ∃ b, decide (caE t x = 0) = b := ⟨_, rfl⟩
  simp only [hb] at h5 h6
  clear hb
  generalize hdB t v = hb at *
  generalize caW t x = W at *
  generalize caS t x = S at *
  generalize caP t x = P at *
  generalize caK t x = k at *
  generalize caQ t x 0 = p at *
  generalize caQ t x 1 = q at *
  generalize caQ t x 2 = r at *
  generalize caE t x = E at *
  unfold ccs at h3 h4
  unfold mcs at h5 h6
  go_enter Try.func5, Try.ntmps5
  go_upto_region 1 with (fail)
  generalize w.alloc (.cells (tcs t) 31) = w1 at *
  rw [HT.out]
  obtain ⟨B, hBB⟩ : ∃ B, w.heap.size = B := ⟨_, rfl⟩
  rw [hBB] at hS ⊢
  clear hBB
  have hS0 : ST w w1.drew B t := hS.later (drew_below _)
  clear hS
  refine wp_region_held_drew (S := fun W => ST w W B t) (by kernel_rfl) hS0 (fun hHeld => ?_)
  refine wpAnyH_ready (rs := [0]) (by kernel_rfl) (by simp) ?_
  refine AllReadyH.cons rfl (fun K hK => ?_) AllReadyH.nil
  go_simp
  refine (h0 _).mono ?_
  rintro r5 w5 ⟨rfl, hb5⟩
  go_wp2_with fail
  refine hK.out _ _ (hHeld.later hb5) (fun hHeld2 => ?_)
  clear hHeld hb5
  clear hK K
  try simp only [Act.put, List.setIfInBounds_toArray, List.set_cons_zero, List.set_cons_succ]
  refine wpAnyH_take (i := 1) (oi := { dst := some 14, op := Op.unOp UnOp.not 4 (Operand.tmp 13), type := _, pos := _, after := _, guard := none }) (v := .bool false) rfl (by kernel_rfl) (by kernel_rfl) (by kernel_rfl) (fun _ _ _ h => h) (Or.inl ⟨by rfl, fun w hSw => by (try dsimp only at hSw); go_simp⟩) (by assumption) ?_
  simp only [Act.put, List.setIfInBounds_toArray, List.set_cons_zero, List.set_cons_succ]
  refine wpAnyH_take (i := 2) (oi := { dst := some 15, op := Op.move (Operand.tmp 14), type := _, pos := _, after := _, guard := none }) (v := .bool false) rfl (by kernel_rfl) (by kernel_rfl) (by kernel_rfl) (fun _ _ _ h => h) (Or.inl ⟨by rfl, fun w hSw => by (try dsimp only at hSw); go_simp⟩) (by assumption) ?_
  simp only [Act.put, List.setIfInBounds_toArray, List.set_cons_zero, List.set_cons_succ]
  refine wpAnyH_take (i := 3) (oi := { dst := some 16, op := Op.load 31 (Operand.tmp 3), type := _, pos := _, after := _, guard := some (2, false) }) (v := .agg ct) rfl (by kernel_rfl) (by kernel_rfl) (by kernel_rfl) (fun _ _ _ h => h) (Or.inl ⟨by rfl, fun w hSw => ld_exec (HT.out ▸ hSw.tr.whole) rfl rfl⟩) (by assumption) ?_
  simp only [Act.put, List.setIfInBounds_toArray, List.set_cons_zero, List.set_cons_succ]
  refine wpAnyH_take (i := 4) (oi := { dst := some 17, op := Op.move (Operand.tmp 1), type := _, pos := _, after := _, guard := some (2, false) }) (v := .int .i64 v) rfl (by kernel_rfl) (by kernel_rfl) (by kernel_rfl) (fun _ _ _ h => h) (Or.inl ⟨by rfl, fun w hSw => by (try dsimp only at hSw); go_simp⟩) (by assumption) ?_
  simp only [Act.put, List.setIfInBounds_toArray, List.set_cons_zero, List.set_cons_succ]
  refine wpAnyH_take (i := 6) (oi := { dst := some 19, op := Op.load 31 (Operand.tmp 3), type := _, pos := _, after := _, guard := some (2, false) }) (v := .agg ct) rfl (by kernel_rfl) (by kernel_rfl) (by kernel_rfl) (fun _ _ _ h => h) (Or.inl ⟨by rfl, fun w hSw => ld_exec (HT.out ▸ hSw.tr.whole) rfl rfl⟩) (by assumption) ?_
  simp only [Act.put, List.setIfInBounds_toArray, List.set_cons_zero, List.set_cons_succ]
  refine wpAnyH_take (i := 7) (oi := { dst := some 20, op := Op.move (Operand.tmp 1), type := _, pos := _, after := _, guard := some (2, false) }) (v := .int .i64 v) rfl (by kernel_rfl) (by kernel_rfl) (by kernel_rfl) (fun _ _ _ h => h) (Or.inl ⟨by rfl, fun w hSw => by (try dsimp only at hSw); go_simp⟩) (by assumption) ?_
  simp only [Act.put, List.setIfInBounds_toArray, List.set_cons_zero, List.set_cons_succ]
  refine wpAnyH_ready (rs := [5]) (by kernel_rfl) (by simp) ?_
  refine AllReadyH.cons rfl (fun K hK => ?_) AllReadyH.nil
  go_simp
  refine (h1 _).mono ?_
  rintro r6 w6 ⟨rfl, hb6⟩
  go_wp2_with fail
  refine hK.out _ _ (hHeld2.later hb6) (fun hHeld3 => ?_)
  clear hHeld2 hb6
  clear hK K
  try simp only [Act.put, List.setIfInBounds_toArray, List.set_cons_zero, List.set_cons_succ]
  refine wpAnyH_ready (rs := [8]) (by kernel_rfl) (by simp) ?_
  refine AllReadyH.cons rfl (fun K hK => ?_) AllReadyH.nil
  go_simp
  refine (h2 _).mono ?_
  rintro r7 w7 ⟨rfl, hb7⟩
  go_wp2_with fail
  refine hK.out _ _ (hHeld3.later hb7) (fun hHeld4 => ?_)
  clear hHeld3 hb7
  clear hK K
  try simp only [Act.put, List.setIfInBounds_toArray, List.set_cons_zero, List.set_cons_succ]
  refine wpAnyH_take (i := 9) (oi := { dst := some 22, op := Op.binOp BinOp.neq 4 (Operand.tmp 18) (Operand.tmp 21) 4, type := _, pos := _, after := _, guard := some (2, false) }) (v := .bool false) rfl (by kernel_rfl) (by kernel_rfl) (by kernel_rfl) (fun _ _ _ h => h) (Or.inl ⟨by rfl, fun w hSw => by (try dsimp only at hSw); go_simp⟩) (by assumption) ?_
  simp only [Act.put, List.setIfInBounds_toArray, List.set_cons_zero, List.set_cons_succ]
  refine wpAnyH_take (i := 10) (oi := { dst := some 23, op := Op.pick (Operand.tmp 15) (Operand.const (Value.bool true)) (Operand.tmp 22), type := _, pos := _, after := _, guard := none }) (v := .bool false) rfl (by kernel_rfl) (by kernel_rfl) (by kernel_rfl) (fun _ _ _ h => h) (Or.inl ⟨by rfl, fun w hSw => by (try dsimp only at hSw); go_simp⟩) (by assumption) ?_
  simp only [Act.put, List.setIfInBounds_toArray, List.set_cons_zero, List.set_cons_succ]
  refine wpAnyH_done (by kernel_rfl) ?_ _
  clear h0 h1 h2
  have hTa := hHeld4.tr
  have hBa := hHeld4.bel
  clear hHeld4
  /- the card, twice -/
  go_wp2_with (refine rdT hTa HT.out _ rfl rfl rfl ?_)
  refine (h3 _).mono ?_
  rintro r8 wa ⟨rfl, hba⟩
  have hbb := hba.trans ((below_alloc wa (.cells (ccs W S P k) 46)).mono hba.size)
  have hTb := hTa.later hbb
  have hBb := hBa.trans (hbb.mono hBa.size)
  have hCb := CdAt.new wa W S P k
  clear h3 hTa hBa hba hbb
  go_upto_region 4 with (fail)
  rw [show (#[.int .i64 W, .int .i64 S, .int .i64 P, .int .i64 k.bas, .int .i64 k.stp] : Array Value) = ccs W S P k from rfl]
  generalize wa.alloc (.cells (ccs W S P k) 46) = wb at *
  generalize wa.heap.size = C at *
  go_wp2_with (refine rdT hTb HT.out _ rfl rfl rfl ?_)
  refine (h4 _).mono ?_
  rintro r9 wc ⟨rfl, hbc⟩
  have hbd := hbc.trans ((below_alloc wc (.cells (ccs W S P k) 46)).mono hbc.size)
  have hTd := hTb.later hbd
  have hBd := hBb.trans (hbd.mono hBb.size)
  have hCd := hCb.later hbd
  have hDd := CdAt.new wc W S P k
  clear h4 hTb hBb hCb hbc hbd
  go_upto_region 5 with (fail)
  rw [show (#[.int .i64 W, .int .i64 S, .int .i64 P, .int .i64 k.bas, .int .i64 k.stp] : Array Value) = ccs W S P k from rfl]
  generalize wc.alloc (.cells (ccs W S P k) 46) = wd at *
  generalize wc.heap.size = D at *
  go_upto_region 7 with (first
    | (refine rd_guard (v := .agg (ccs W S P k)) (by rfl) (ld_exec hCd.run rfl rfl) ?_)
    | (refine rd_guard (v := .agg (ccs W S P k)) (by rfl) (ld_exec hDd.run rfl rfl) ?_)
    | (refine rd_guard (v := .bool false) (by rfl) (neCd_exec (W := W) (S := S) (P := P) (k := k) rfl rfl rfl) ?_))
  clear hCd hDd
  obtain ⟨cc, hcc⟩ : ∃ c, ccs W S P k = c := ⟨_, rfl⟩
  rw [hcc]
  clear hcc
  /- the state, twice -/
  go_wp2_with (refine rdT hTd HT.out _ rfl rfl rfl ?_)
  refine (h5 _).mono ?_
  rintro r10 we ⟨rfl, hbe⟩
  have hbf := hbe.trans ((below_alloc we (.cells (mcs W S P k p q r b) 50)).mono hbe.size)
  have hTf := hTd.later hbf
  have hBf := hBd.trans (hbf.mono hBd.size)
  have hMf := MbAt.new we W S P k p q r b
  clear h5 hTd hBd hbe hbf
  go_upto_region 8 with (fail)
  rw [show (#[.int .i64 W, .int .i64 S, .int .i64 P, .int .i64 k.bas, .int .i64 k.stp, .int .i64 p.bas, .int .i64 p.stp, .int .i64 q.bas, .int .i64 q.stp, .int .i64 r.bas, .int .i64 r.stp, .bool b, .bool false, .int .i64 0] : Array Value) = mcs W S P k p q r b from rfl]
  generalize we.alloc (.cells (mcs W S P k p q r b) 50) = wf at *
  generalize we.heap.size = M at *
  go_wp2_with (refine rdT hTf HT.out _ rfl rfl rfl ?_)
  refine (h6 _).mono ?_
  rintro r11 wg ⟨rfl, hbg⟩
  have hbh := hbg.trans ((below_alloc wg (.cells (mcs W S P k p q r b) 50)).mono hbg.size)
  have hBh := hBf.trans (hbh.mono hBf.size)
  have hMh := hMf.later hbh
  have hNh := MbAt.new wg W S P k p q r b
  clear h6 hTf hBf hMf hbg hbh
  go_upto_region 9 with (fail)
  rw [show (#[.int .i64 W, .int .i64 S, .int .i64 P, .int .i64 k.bas, .int .i64 k.stp, .int .i64 p.bas, .int .i64 p.stp, .int .i64 q.bas, .int .i64 q.stp, .int .i64 r.bas, .int .i64 r.stp, .bool b, .bool false, .int .i64 0] : Array Value) = mcs W S P k p q r b from rfl]
  generalize wg.alloc (.cells (mcs W S P k p q r b) 50) = wh at *
  generalize wg.heap.size = N at *
  go_wp2_with (first
    | (refine rd_guard (v := .agg (mcs W S P k p q r b)) (by rfl) (ld_exec hMh.run rfl rfl) ?_)
    | (refine rd_guard (v := .agg (mcs W S P k p q r b)) (by rfl) (ld_exec hNh.run rfl rfl) ?_)
    | (refine rd_guard (v := .bool true) (by rfl) (eqMb_exec (W := W) (S := S) (P := P) (k := k) (p := p) (q := q) (r := r) (b := b) rfl rfl rfl) ?_))
  go_ret
  exact ⟨ret_bool (by simp), hBh⟩
theorem own : ownKnob Try.prog.godebug = none := by kernel_rfl
theorem laidOut : laidOutB Try.prog = true := by kernel_rfl
set_option maxRecDepth 100000 in
theorem lifted (os : Os) (started : os.Started) (H : Type) (enc : TypeId × Value → H) :
    ReturnsInHanded {} Try.checked os 5 .any (Rows.treeStandsSpec.pre6 enc Try.prog Try.f5 Rows.treeStandsRow.domain false) (Rows.treeStandsSpec.post enc Try.prog Try.f5 false true false false) := by
  refine returnsInHanded_of_change (C := Try.checked) own started (by kernel_rfl) Try.func5
    (ChangeSpec.witness6 (enc := enc) (C := Try.checked) false ⟨#[], #[.agg (List.replicate 236 (Value.int .i64 0)).toArray, .int .i64 0, .int .i64 0], []⟩ 8 (by kernel_rfl) (by kernel_rfl) (by kernel_rfl) (by kernel_rfl)) ?_
  intro W base args ds gs before hval0 hW hcnd _
  have hval : ∀ (j : Nat) t v, Try.f5.params[j]? = some t → args[j]? = some v → Value.okWide Try.prog W .any base t v := hval0
  have hW' := hW
  obtain ⟨p, q, hA0, hV, rfl, hfz, hnd⟩ := hW
  have hA : DataW.TrodAll enc Try.prog W 0 (fun _ => true) true Try.f5.params.toList args.toList ds p := hA0
  rw [Try.params5] at hA hval
  obtain ⟨v0, vs0, d0, ds0, p0, q0, hargs, rfl, rfl, h0, r0⟩ := trodAll_cons hA
  obtain ⟨v1, vs1, d1, ds1, p1, q1, rfl, rfl, rfl, h1, r1⟩ := trodAll_cons r0
  obtain ⟨v2, vs2, d2, ds2, p2, q2, rfl, rfl, rfl, h2, r2⟩ := trodAll_cons r1
  obtain ⟨rfl, rfl, rfl⟩ := trodAll_nil r2
  obtain rfl : args = #[v0, v1, v2] := by cases args; simp_all
  obtain ⟨rfl, rfl⟩ := trodVars_none hV
  have k0 := h0
  have lt0 : ∀ x ∈ p0, x.block < W.heap.size := by obtain ⟨m, hm⟩ := k0; exact DataW.trod_lt m _ _ _ hm
  obtain ⟨f0, rfl⟩ := open_tr (hval 0 31 v0 rfl rfl) h0
  obtain ⟨a1, rfl, rfl, rfl, w1⟩ := open_int Try.underlying3 (hval 1 3 v1 rfl rfl) h1
  obtain ⟨a2, rfl, rfl, rfl, w2⟩ := open_int Try.underlying3 (hval 2 3 v2 rfl rfl) h2
  clear hA0 hval0
  refine (walk f0 a1 a2 w1 w2 W).mono fun e W' ⟨he, bel⟩ => ?_
  subst he
  exact ⟨_, rfl, _, _, _, [], _, [], hW', trodAll_mk1 (shut_bool Try.underlying4 _), (trodAll_cons_mk (Below.trod laidOut (by kernel_rfl) (of_decide_eq_true (by kernel_rfl)) k0 bel lt0) (trodAll_cons_mk (shut_int Try.underlying3 w1) (trodAll_cons_mk (shut_int Try.underlying3 w2) trodAll_mk0))), rfl, bel.frame _, fun h => by cases h⟩
theorem over : Rows.treeStandsRow.holds Try.pinned (OpenSpec.ofChange Rows.treeStandsSpec) :=
  OpenClaim.holds_of_wide 5 Try.f5 rfl rfl rfl rfl rfl rfl rfl ⟨rfl, rfl, rfl, rfl, rfl⟩ rfl rfl rfl rfl rfl (by kernel_rfl) Try.func5 (by kernel_rfl)
    (of_decide_eq_true (by kernel_rfl)) (by unfold Func.isWrapper; first | (rw [if_pos (by decide +kernel)]; kernel_rfl) | (rw [if_neg (by decide +kernel)]; exact ⟨rfl, rfl⟩))
    (fun os started H enc _ => lifted os started H enc)
end Go.Proofs.Ytpkfpckljpffgaa.treeStands
namespace Go.Proofs.Ytpkfpckljpffgaa
theorem treeStands_holds : Rows.TreeStandsSaid := treeStands.over
#print axioms treeStands_holds
end Go.Proofs.Ytpkfpckljpffgaa
