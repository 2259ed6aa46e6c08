/- For every tree and every record: Play of package record answers what the document says, and a record is played on a tree of the epoch below its own alone: RecordPlays, in its first form (the listed variable as the program's text lays it), and the card. -/
import Derived.Test.YteocfmimgoocnaaGreatDoorCards
import Derived.Test.YteocfmimgoocnaaGreatDoorTie
import Derived.Test.YteocfmimgoocnaaGreatDoorRcJ5
import Derived.Test.YteocfmimgoocnaaGreatDoorOpJ
import Derived.Test.YteocfmimgoocnaaGreatDoorOpenTr
import Derived.WalkKit
import Derived.ProofKit
import Derived.OpenShut
import Derived.Deep.DeepHandedRow
import Derived.Deep.DeepWitnessRowRef
import Derived.SizedLaws
namespace Go.Proofs.YteocfmimgoocnaaGreatDoor.recordPlays
open Go.ChangeShapes Go.WideShapes Go.ChangeAt Go.RowKit Go.Maps Go.Shelf
open Rs (En zE rcs RdI RdS ps Tb tb_of laidWorld open_bt sized_agg roD bytesI open_sl i64s owns_later owns_slice)
open Rc
set_option linter.unusedVariables false
set_option linter.unusedSimpArgs false

theorem vs_of {W : World} (hL : laidMetH Tryz.prog Rows.recordPlaysRow.laid W) : Tb W := tb_of (show laidMet Tryz.prog Rows.recordPlaysRow.laid W from hL)
def trD {H : Type} : DataW H := .agg [.lit (.int .i64 0), .lit (.int .i64 0), .agg (List.replicate 21 (.agg [.lit (.int .i64 0), .lit (.int .i64 0)])), roD]
structure TC (w W : World) (B C : Nat) (t : Tr) (rc : Array Value) : Prop where
  tr : TrAt W B t
  rc : RcAt W C rc
  bel : Below w.heap.size w W
theorem TC.later {w W W' : World} {B C : Nat} {t : Tr} {rc : Array Value} (h : TC w W B C t rc) (hb : Below W.heap.size W W') : TC w W' B C t rc := ⟨h.tr.later hb, h.rc.later hb, h.bel.trans (hb.mono h.bel.size)⟩
theorem TC.new (w : World) (t : Tr) (rc : Array Value) : TC w ((w.alloc (.cells (tcs t) 31)).alloc (.cells rc 38)) w.heap.size (w.heap.size + 1) t rc := by
  have h1 := TrAt.new w t
  have hb1 := alloc_tr w t
  have h2 := RcAt.new (w.alloc (.cells (tcs t) 31)) rc
  have hb2 := below_alloc (w.alloc (.cells (tcs t) 31)) (.cells rc 38)
  rw [World.size_alloc] at h2
  exact ⟨h1.later hb2, h2, hb1.trans (hb2.mono hb1.size)⟩
set_option maxRecDepth 100000 in
set_option maxHeartbeats 2000000 in
theorem walk (t : Tr) (e f : Int) (aL aJ : Option Addr) (cL cJ : Nat) (L : List Int) (J : List (Int × Int)) (w : World) (rL : RdI w aL L) (rJ : RdP w aJ J) (lL : L.length * 8 ≤ 140737488351232) (lJ : J.length * 16 ≤ 140737488351232) (hTb : Tb w) :
    Calls Tryz.prog 4 #[.agg (tcs t), .agg #[.int .i64 e, .int .i64 f, .slice aL L.length cL, .slice aJ J.length cJ] ] w fun r w' => r = .returned (.bool true) ∧ Below w.heap.size w w' := by
  have hX := TC.new w t #[.int .i64 e, .int .i64 f, .slice aL L.length cL, .slice aJ J.length cJ]
  obtain ⟨ct, hct⟩ : ∃ c, tcs t = c := ⟨_, rfl⟩
  have HT : Hid (tcs t = ct) := hct
  have HP1 : Hid (∀ W, Below w.heap.size w W → Calls Tryz.prog 11 #[.agg (tcs t), .agg #[.int .i64 e, .int .i64 f, .slice aL L.length cL, .slice aJ J.length cJ] ] W fun r w' => PlayA W w' t e f L J r ∧ Below W.heap.size W w') := fun W hW => play_any t e f aL aJ cL cJ L J W (hTb.later hW) (rL.later hW) (rJ.later hW) lL lJ
  have HP2 : Hid (∀ W, Below w.heap.size w W → Calls Tryz.prog 14 #[.agg (tcs t), .agg #[.int .i64 e, .int .i64 f, .slice aL L.length cL, .slice aJ J.length cJ] ] W fun r w' => PlayA W w' t e f L J r ∧ Below W.heap.size W w') := fun W hW => rPlay_any t e f aL aJ cL cJ L J W (rL.later hW) (rJ.later hW) lL lJ
  have hl := lives_any _ (hTb.later hX.bel)
  have HLEN := ply_len t e f L J
  have HEP : Hid (plyE t e f L J = 0 → (plyT t e f L J).ep = e ∧ e = t.ep + 1 ∧ 0 ≤ t.ep ∧ t.ep ≤ 199) := ply_ep
  unfold PlayA at HP1 HP2
  obtain ⟨nL, hnl⟩ : ∃ n, L.length = n := ⟨_, rfl⟩
  obtain ⟨nJ, hnj⟩ : ∃ n, J.length = n := ⟨_, rfl⟩
  rw [hnl, hnj, hct] at HP1 HP2
  simp only [hnl, hnj] at hX hl
  rw [hnl, hnj]
  obtain ⟨n, hn⟩ : ∃ x, plyT t e f L J = x := ⟨_, rfl⟩
  obtain ⟨cn, hcn⟩ : ∃ x, tcs n = x := ⟨_, rfl⟩
  have HC : Hid (tcs n = cn) := hcn
  obtain ⟨x, hx⟩ : ∃ x, plyE t e f L J = x := ⟨_, rfl⟩
  obtain ⟨p, hp⟩ : ∃ x, plyP t e f L J = x := ⟨_, rfl⟩
  obtain ⟨ll, hll⟩ : ∃ x, plyL t e f L J = x := ⟨_, rfl⟩
  obtain ⟨lj, hlj⟩ : ∃ x, plyJ t e f L J = x := ⟨_, rfl⟩
  obtain ⟨li, hli⟩ : ∃ x, plyI t e f L J = x := ⟨_, rfl⟩
  rw [hll, hlj, hli] at HLEN
  rw [hx, hn] at HEP
  simp only [hn, hcn, hx, hp, hll, hlj, hli] at HP1 HP2
  have HL2 : Hid (ll.length ≤ 4096 ∧ lj.length ≤ 4096 ∧ li.length ≤ 4096) := HLEN
  clear HLEN hct hnl hnj hn hx hp hll hlj hli rL rJ lL lJ
  go_enter Tryz.func4, Tryz.ntmps4
  go_upto_region 1 with (fail)
  generalize (w.alloc (.cells (tcs t) 31)).alloc (.cells #[.int .i64 e, .int .i64 f, .slice aL nL cL, .slice aJ nJ cJ] 38) = w0 at *
  rw [HT.out]
  obtain ⟨C, hC⟩ : ∃ C, w.heap.size + 1 = C := ⟨_, rfl⟩
  obtain ⟨B, hB⟩ : ∃ B, w.heap.size = B := ⟨_, rfl⟩
  rw [hC, hB] at hX
  rw [hC, hB]
  clear hC hB
  go_wp2_with fail
  refine hl.mono ?_
  rintro r w1 ⟨rfl, hb1⟩
  have hX1 := hX.later hb1
  clear hl hX hb1
  have h1 := HP1.out w1 hX1.bel
  have hT1 := hX1.tr
  obtain ⟨d0, d1, d2, d3⟩ := hX1.rc.cells
  go_wp2_with (refine rdT hT1 HT.out _ rfl rfl rfl ?_)
  refine h1.mono ?_
  rintro r w2 ⟨⟨vl, vj, vi, rfl, hP⟩, hb2⟩
  have hX2 := hX1.later hb2
  have g1 := hP.left
  have g2 := hP.join
  have g3 := hP.item
  obtain ⟨a1, k1, rfl⟩ := owns_slice g1
  obtain ⟨a2, k2, rfl⟩ := owns_slice g2
  obtain ⟨a3, k3, rfl⟩ := owns_slice g3
  obtain ⟨t1, t2, W, hW, tT, tR, tB⟩ := two_boxes w2 n cn #[.int .i64 p, .slice a1 ll.length k1, .slice a2 lj.length k2, .slice a3 li.length k3] HC.out
  have hX3 := hX2.later tB
  have HM : Hid (RdS W a1 ll ∧ RdS W a2 lj ∧ RdT W a3 li) := ⟨(rds_of g1).later tB, (rds_of g2).later tB, (owns_rdT g3).later tB⟩
  clear h1 hX1 hX2 hT1 hb2 d0 d1 d2 d3 hP g1 g2 g3 tB hcn
  go_upto_region 4 with (first | (show wpList _ _ _ ({ dst := _, op := Op.store 31 _ _, type := _, pos := _, after := _, guard := _ } :: _) _ _; refine stTc t1 HC.out rfl _ _ rfl rfl rfl ?_) | (show wpList _ _ _ ({ dst := _, op := Op.store 45 _ _, type := _, pos := _, after := _, guard := _ } :: _) _ _; refine stRw infoRk (cs := rkz) rkz_size t2 _ rfl (rk_one _ _ _ _ _ _ _ _ _ _) rfl _ _ rfl rfl rfl ?_))
  clear t1 t2 hW
  obtain ⟨G, hG⟩ : ∃ A, w2.heap.size + 1 = A := ⟨_, rfl⟩
  rw [hG] at tR ⊢
  clear hG
  generalize w2.heap.size = N at *
  have h1 := HP2.out W hX3.bel
  have hT1 := hX3.tr
  obtain ⟨d0, d1, d2, d3⟩ := hX3.rc.cells
  go_wp2_with (refine rdT hT1 HT.out _ rfl rfl rfl ?_)
  refine h1.mono ?_
  rintro r w4 ⟨⟨vl, vj, vi, rfl, hP⟩, hb4⟩
  have hX4 := hX3.later hb4
  have tT4 := tT.later hb4
  have tR4 := RkLater tR hb4
  have g1 := hP.left
  have g2 := hP.join
  have g3 := hP.item
  obtain ⟨b1, j1, rfl⟩ := owns_slice g1
  obtain ⟨b2, j2, rfl⟩ := owns_slice g2
  obtain ⟨b3, j3, rfl⟩ := owns_slice g3
  obtain ⟨t1, t2, V, hW, vT, vR, tB⟩ := two_boxes w4 n cn #[.int .i64 p, .slice b1 ll.length j1, .slice b2 lj.length j2, .slice b3 li.length j3] HC.out
  have hX5 := hX4.later tB
  have hT5 := tT4.later tB
  have hR5 := RkLater tR4 tB
  have HM2 : Hid ((RdS V a1 ll ∧ RdS V a2 lj ∧ RdT V a3 li) ∧ (RdS V b1 ll ∧ RdS V b2 lj ∧ RdT V b3 li)) := ⟨⟨(HM.out.1.later hb4).later tB, (HM.out.2.1.later hb4).later tB, (HM.out.2.2.later hb4).later tB⟩, (rds_of g1).later tB, (rds_of g2).later tB, (owns_rdT g3).later tB⟩
  clear h1 hX3 hX4 hT1 hb4 d0 d1 d2 d3 hP g1 g2 g3 tB HM tT tR tT4 tR4
  go_upto_region 5 with (first | (show wpList _ _ _ ({ dst := _, op := Op.store 31 _ _, type := _, pos := _, after := _, guard := _ } :: _) _ _; refine stTc t1 HC.out rfl _ _ rfl rfl rfl ?_) | (show wpList _ _ _ ({ dst := _, op := Op.store 45 _ _, type := _, pos := _, after := _, guard := _ } :: _) _ _; refine stRw infoRk (cs := rkz) rkz_size t2 _ rfl (rk_one _ _ _ _ _ _ _ _ _ _) rfl _ _ rfl rfl rfl ?_))
  clear t1 t2 hW
  obtain ⟨G', hG⟩ : ∃ A, w4.heap.size + 1 = A := ⟨_, rfl⟩
  rw [hG] at vR ⊢
  clear hG
  generalize w4.heap.size = M at *
  have hsm := same_any p a1 a2 a3 b1 b2 b3 k1 k2 k3 j1 j2 j3 ll lj li V HL2.out.1 HL2.out.2.1 HL2.out.2.2 HM2.out.1.1 HM2.out.1.2.1 HM2.out.1.2.2 HM2.out.2.1 HM2.out.2.2.1 HM2.out.2.2.2
  obtain ⟨r0, r1, r2, r3⟩ := RkCells hR5
  obtain ⟨s0, s1, s2, s3⟩ := RkCells vR
  clear HM2
  go_wp2_with (first | (refine rdT hT5 HC.out _ rfl rfl rfl ?_) | (refine rdT vT HC.out _ rfl rfl rfl ?_) | (refine neTr HC.out _ _ rfl rfl rfl rfl ?_))
  refine hsm.mono ?_
  rintro r w6 ⟨rfl, hb6⟩
  have hX6 := hX5.later hb6
  have hT6 := hT5.later hb6
  clear hsm hX5 hT5 hR5 vT vR r0 r1 r2 r3 s0 s1 s2 s3 hb6
  have HB6 : Hid (Below w.heap.size w w6) := hX6.bel
  by_cases hx0 : x = 0
  · subst hx0
    obtain ⟨q1, q2, q3, q4⟩ := HEP.out rfl
    obtain ⟨c0, c1⟩ := hT6.cells
    obtain ⟨c2, c3⟩ := hX6.tr.cells
    obtain ⟨d0, d1, d2, d3⟩ := hX6.rc.cells
    rw [q1, q2] at c0
    rw [q2] at d0
    have hwr : IntKind.i64.wrap (t.ep + 1 - 1) = t.ep := by rw [Bt.wrap_fit _ (by omega) (by omega)]; omega
    generalize t.ep = ep at *
    clear hX6 hT6 q1 q2
    go_wp2_with fail
    go_ret
    exact ⟨rfl, HB6.out⟩
  · have hd2 : (x != 0) = true := by simpa using hx0
    clear hX6 hT6 hx0
    go_wp2_with fail
    go_ret
    exact ⟨rfl, HB6.out⟩
theorem own : ownKnob Tryz.prog.godebug = none := by kernel_rfl
theorem laidOut : laidOutB Tryz.prog = true := by kernel_rfl
set_option maxRecDepth 20000 in
theorem contract (H : Type) (enc : TypeId × Value → H) (W : World) (base : Nat) (args : Array Value) (ds gs : List (DataW H)) (before : List MemPlace)
    (hval : ∀ (j : Nat) t v, Tryz.f4.params[j]? = some t → args[j]? = some v → Value.okWide Tryz.prog W .any base t v)
    (hW : DataW.Whole enc Tryz.prog Tryz.f4.params.toList Rows.recordPlaysSpec.vars false W args.toList ds gs before)
    (hsz : (DataW.weightsEach Tryz.prog (Tryz.f4.params.toList ++ Rows.recordPlaysSpec.plain.varTypes Tryz.prog) (ds ++ gs)).all (· ≤ reachBytes) = true)
    (hL : laidMetH Tryz.prog Rows.recordPlaysRow.laid W) :
    Calls Tryz.prog 4 args W fun e W' => ∃ v, e = .returned v ∧ Rows.recordPlaysSpec.post enc Tryz.prog Tryz.f4 false true false false W args v W' := by
  have hv := vs_of hL
  have hW' := hW
  obtain ⟨p, q, hA0, hV, rfl, hfz, hnd⟩ := hW
  have hA : DataW.TrodAll enc Tryz.prog W 0 (fun _ => true) true Tryz.f4.params.toList args.toList ds p := hA0
  rw [Tryz.params4] at hA hval hsz
  obtain ⟨v0, vs0, d0, ds0, p0, q0, hargs, rfl, rfl, h0, r0⟩ := trodAll_cons hA
  obtain ⟨v1, vs1, d1, ds1, p1, q1, rfl, rfl, rfl, h1, r1⟩ := trodAll_cons r0
  obtain ⟨rfl, rfl, rfl⟩ := trodAll_nil r1
  obtain rfl : args = #[v0, v1] := by cases args; simp_all
  obtain ⟨rfl, rfl⟩ := trodVars_none hV
  have k0 := h0
  have lt0 : ∀ x ∈ p0, x.block < W.heap.size := by obtain ⟨m, hm⟩ := k0; exact DataW.trod_lt m _ _ _ hm
  obtain ⟨f0, rfl⟩ := open_tr (hval 0 31 v0 rfl rfl) h0
  have k1 := h1
  have lt1 : ∀ x ∈ p1, x.block < W.heap.size := by obtain ⟨m, hm⟩ := k1; exact DataW.trod_lt m _ _ _ hm
  obtain ⟨e1, f1, aL1, aJ1, cL1, cJ1, L1, J1, rfl, rL1, rJ1, lL1, lJ1⟩ := open_rc (fun parts e => sized_agg hsz (j := 1) (t := 38) rfl (by rw [← e]; rfl) Tryz.underlying38) (hval 1 38 v1 rfl rfl) h1
  clear hA0
  refine (walk f0 e1 f1 aL1 aJ1 cL1 cJ1 L1 J1 W rL1 rJ1 lL1 lJ1 hv).mono fun e W' ⟨he, bel⟩ => ?_
  subst he
  exact ⟨_, rfl, _, _, _, [], _, [], hW', trodAll_mk1 (shut_bool Tryz.underlying4 _), (trodAll_cons_mk (Below.trod laidOut (by kernel_rfl) (of_decide_eq_true (by kernel_rfl)) k0 bel lt0) (trodAll_cons_mk (Below.trod laidOut (by kernel_rfl) (of_decide_eq_true (by kernel_rfl)) k1 bel lt1) trodAll_mk0)), rfl, bel.frame _, fun h => by cases h⟩
set_option maxRecDepth 100000 in
theorem laid_met (os : Os) : laidMet Tryz.prog Rows.recordPlaysRow.laid ((laidWorld os).forCall (fun _ _ => 0) ⟨#[], #[.agg (tcs (tz 0)), .agg #[.int .i64 0, .int .i64 0, .slice none 0 0, .slice none 0 0]], []⟩).memory :=
  laidMet_of_run' 8 (by kernel_rfl) (by kernel_rfl)
set_option maxRecDepth 100000 in
theorem reads (os : Os) {H : Type} (enc : TypeId × Value → H) : ∃ places, DataW.whole enc Tryz.prog ((laidWorld os).forCall (fun _ _ => 0) ⟨#[], #[.agg (tcs (tz 0)), .agg #[.int .i64 0, .int .i64 0, .slice none 0 0, .slice none 0 0]], []⟩).memory Tryz.f4.params.toList Rows.recordPlaysSpec.vars false (#[.agg (tcs (tz 0)), .agg #[.int .i64 0, .int .i64 0, .slice none 0 0, .slice none 0 0]] : Array Value).toList 8 = some ([trD, .agg [.lit (.int .i64 0), .lit (.int .i64 0), .nil, .nil]], [], places) :=
  ⟨[], by kernel_rfl⟩
set_option maxRecDepth 100000 in
theorem lifted (os : Os) (started : os.Started) (H : Type) (enc : TypeId × Value → H) (F : Stop.Interp) :
    ReturnsInHanded {} Tryz.checked os 4 .any ((OpenSpec.ofChange Rows.recordPlaysSpec).preRow enc Tryz.prog Tryz.f4 Rows.recordPlaysRow.domain false Rows.recordPlaysRow.laid) (((OpenSpec.ofChange Rows.recordPlaysSpec).at F).post enc Tryz.prog Tryz.f4 false true false false) := by
  obtain ⟨places, hx⟩ := reads os enc
  refine returnsInHanded_of_row (C := Tryz.checked) (s := (OpenSpec.ofChange Rows.recordPlaysSpec)) own started (by kernel_rfl) Tryz.func4
    (witness_row_at (enc := enc) (C := Tryz.checked) false (laidWorld os) #[.agg (tcs (tz 0)), .agg #[.int .i64 0, .int .i64 0, .slice none 0 0, .slice none 0 0]] rfl (by kernel_rfl) (by kernel_rfl) (by kernel_rfl)
      (OpenSpec.preRow_of_cond 8 hx (by kernel_rfl) (fun k hk => by cases hk) (by kernel_rfl) (laid_met os))) ?_
  intro W base args ds gs before hval hW hc1 hc2 hsz hL hsh _
  exact contract H enc W base args ds gs before hval hW hsz hL
theorem said : Rows.RecordPlaysSaid :=
  OpenClaim.holds_of_cond 4 Tryz.f4 rfl rfl rfl rfl rfl rfl rfl ⟨rfl, rfl, rfl, rfl, rfl⟩ rfl rfl rfl rfl rfl (by kernel_rfl) Tryz.func4 (by kernel_rfl)
    (of_decide_eq_true (by kernel_rfl)) (by unfold Func.isWrapper; first | (rw [if_pos (by decide +kernel)]; kernel_rfl) | (rw [if_neg (by decide +kernel)]; exact ⟨rfl, rfl⟩))
    (fun os started H enc _ F => by rw [OpenClaim.pre_eq_preRow]; exact lifted os started H enc F)
theorem plain (f : FuncId) (fn : Func) (hf : Tryz.pinned.checked.prog.funcNamed "coterie/coterielaw13.RecordPlays" = some f) (hfn : Tryz.pinned.checked.prog.funcs[f]? = some fn) :
    false = Tryz.pinned.checked.prog.looks [] ∧ ∀ (j : Nat) t, fn.params[j]? = some t → Tryz.pinned.checked.prog.wantsStandIn t = false := by
  obtain rfl : f = 4 := Option.some.inj ((show Tryz.prog.funcNamed "coterie/coterielaw13.RecordPlays" = some 4 by kernel_rfl).symm.trans hf) |>.symm
  obtain rfl : fn = Tryz.f4 := (Option.some.inj (Tryz.func4.symm.trans hfn)).symm
  refine ⟨by kernel_rfl, fun j t ht => ?_⟩
  rw [Tryz.params4] at ht
  have h31 : Tryz.prog.wantsStandIn 31 = false := by kernel_rfl
  have h38 : Tryz.prog.wantsStandIn 38 = false := by kernel_rfl
  have hm := Array.mem_of_getElem? ht
  simp at hm
  rcases hm with rfl | rfl
  · exact h31
  · exact h38
end Go.Proofs.YteocfmimgoocnaaGreatDoor.recordPlays
namespace Go.Proofs.YteocfmimgoocnaaGreatDoor
theorem recordPlays_holds : Rows.RecordPlaysCardSaid :=
  Claim7.holds_tied_plain_at .later [] _ _ _ _ recordPlays.said (fun _ h => by cases h) (by kernel_rfl) (fun _ h => by cases h) recordPlays_row_tie rfl ⟨rfl, rfl⟩ (by kernel_rfl) rfl recordPlays.plain (by kernel_rfl)
#print axioms recordPlays_holds
end Go.Proofs.YteocfmimgoocnaaGreatDoor
