/- PlA, PlB, PlC, joined. -/
import Derived.Test.YtdkfifnhmfbagaaGreatDoorPlJ1
import Derived.Test.YtdkfifnhmfbagaaGreatDoorTrJ3
import Derived.Test.YtdkfifnhmfbagaaGreatDoorRsJ5
import Derived.Test.YtdkfifnhmfbagaaGreatDoorShK
import Derived.Deep.DeepCutAuto
import Derived.Test.YtdkfifnhmfbagaaGreatDoorKeyJ
import Derived.Test.YtdkfifnhmfbagaaGreatDoorTrJ
namespace Go.Proofs.YtdkfifnhmfbagaaGreatDoor
open Go.RowKit Go.Maps
open Rt (Ky zK kcs KyAt lfE lfB lfS)
open Rs (En zE rcs RoAt tkn ft RdI RdS ps sl put putR)
open Sh (lef abvTo)
set_option linter.unusedVariables false
set_option linter.unusedSimpArgs false
set_option maxRecDepth 100000 in
theorem isIn_any (r v : Nat) (hr : r < 4294967296) (hv : v < 21) (w : World) :
  Calls Tryz.prog 70 #[.int .u32 (r : Int), .int .i64 (v : Int)] w fun e w' => e = .returned (.bool (r.testBit v)) ∧ w' = w := by
 have hand := Rt.and1 r v hr
 have v0 : (0 : Int) ≤ (v : Int) := by omega
 have v1 : IntKind.u64.wrap (v : Int) = (v : Int) := Rs.u64_fit _ (by omega) (by omega)
 cases hb : r.testBit v with
 | false =>
  rw [hb] at hand
  go_enter Tryz.func70, Tryz.ntmps70
  go_wp2_with fail
  go_ret
  exact ⟨rfl, rfl⟩
 | true =>
  rw [hb] at hand
  go_enter Tryz.func70, Tryz.ntmps70
  go_wp2_with fail
  go_ret
  exact ⟨rfl, rfl⟩
theorem results_ky1 {fn : Func} {p : Tmp} (hf : fn.results = #[.cell p 38 ]) (tmps : Array Value) (W : World) (B : Nat) (e : Ky) (hp : tmps[p]? = some (.pointer (some ⟨B, 0, none⟩))) (hb : KyAt W B e) :
  (results fn tmps).run Tryz.prog W = .ok (.agg #[.int .i64 e.bas, .int .i64 e.stp]) W := by
 have h := run_loadVar_row W B _ 38 _ _ _ hb Tryz.underlying38 rfl infoKy
 simp [results, hf, hp, asAddr, h]
theorem SK.two {w W : World} {B K : Nat} {t : Tr} (h : SK w W B K t) {A : Nat} (h1 : B ≠ A) (h2 : K ≠ A) (h3 : w.heap.size ≤ A) (a b : Int) : SK w ((W.setCell ⟨A, 0, none⟩ (.int .i64 a)).setCell ⟨A, 1, none⟩ (.int .i64 b)) B K t :=
 ⟨(Rt.set2_other h1 _ _ _ _).trans h.tr, h.ky.elim fun e he => ⟨e, (Rt.set2_other h2 _ _ _ _).trans he⟩, Rt.set2_below h.bel h3 _ _ _ _, h.ne, h.ge⟩
theorem take_snoc2 {l : List (Int × Int)} {k : Nat} (h : k < l.length) : l.take (k + 1) = l.take k ++ [l.getD k (0, 0)] := by
 rw [List.take_add_one, List.getD_eq_getElem?_getD, List.getElem?_eq_getElem h]
 rfl
def KyE (k : Ky) : Ending := .returned (.agg #[.int .i64 k.bas, .int .i64 k.stp])
set_option maxRecDepth 100000 in
set_option maxHeartbeats 1000000 in
theorem keyAt_any (t : Tr) (v : Nat) (hv : v < 85) (he : t.ep < 9223372036854775808) (w : World) : Calls Tryz.prog 68 #[.agg (tcs t), .int .i64 (v : Int)] w fun e w' => e = KyE (kyA t v) ∧ Below w.heap.size w w' := by
 have hS := SK.new w t
 have hs := Sh.slot_any (v : Int)
 obtain ⟨ct, hct⟩ : ∃ c, tcs t = c := ⟨_, rfl⟩
 have HT : Hid (tcs t = ct) := hct
 clear hct
 go_enter Tryz.func68, Tryz.ntmps68
 go_upto_region 1 with (fail)
 generalize (w.alloc (.cells (tcs t) 62)).alloc (.cells #[.int .i64 0, .int .i64 0] 38) = w1 at *
 rw [HT.out]
 obtain ⟨K, hK⟩ : ∃ K, w.heap.size + 1 = K := ⟨_, rfl⟩
 rw [hK] at hS ⊢
 obtain ⟨B, hB⟩ : ∃ B, w.heap.size = B := ⟨_, rfl⟩
 rw [hB] at hS ⊢
 clear hK hB
 rcases Nat.lt_or_ge v 21 with hn | hn
 ·rw [Sh.slo_no (by omega)] at hs
  obtain ⟨k, hk⟩ := hS.ky
  have n0 : (0 : Int) ≤ (v : Int) := by omega
  have n1 : (v : Int) < 21 := by omega
  obtain ⟨c0, c1⟩ := hS.tr.key v hn
  have HA : Hid (kyA t v = t.ks v) := kyA_in hn
  obtain ⟨e, he⟩ : ∃ e, t.ks v = e := ⟨_, rfl⟩
  rw [he] at c0 c1 HA
  clear he
  go_wp2_with (first | (go_at_call 118; refine (hs _).mono ?_; rintro r w' ⟨rfl, rfl⟩) | (refine stKy hk e rfl _ _ rfl rfl rfl ?_))
  refine bodyPost_ret (results_ky1 (p := 4) rfl _ _ K e rfl (KyAt.row hk _)) rfl ?_
  exact ⟨by rw [HA.out]; rfl, Rt.setRow_below hS.ge hS.bel _⟩
 ·obtain ⟨s, rfl⟩ : ∃ s, v = 21 + s := ⟨v - 21, by omega⟩
  have hs8 : s < 64 := by omega
  rw [show (((21 + s : Nat) : Int)) = 21 + (s : Int) by push_cast; rfl] at hs ⊢
  rw [Sh.slo_yes (by omega) (by omega), show 21 + (s : Int) - 21 = (s : Int) by omega] at hs
  have hlf := Rt.leafAt_any (t.ro s).who (t.ro s).bas (t.ro s).snc t.ep he
  unfold Rt.LeafA at hlf
  have HA : Hid (kyA t (21 + s) = ⟨lfB (t.ro s).bas (t.ro s).snc t.ep, lfS (t.ro s).bas (t.ro s).snc t.ep⟩) := kyA_leaf
  obtain ⟨X, hX⟩ : ∃ X, lfB (t.ro s).bas (t.ro s).snc t.ep = X := ⟨_, rfl⟩
  obtain ⟨Y, hY⟩ : ∃ Y, lfS (t.ro s).bas (t.ro s).snc t.ep = Y := ⟨_, rfl⟩
  obtain ⟨E, hE⟩ : ∃ E, lfE (t.ro s).bas (t.ro s).snc t.ep = E := ⟨_, rfl⟩
  simp only [hX, hY, hE] at hlf
  rw [hX, hY] at HA
  clear hX hY hE
  have s2 : decide ((s : Int) < 0) = false := decide_eq_false (by omega)
  obtain ⟨v, hv⟩ : ∃ v, 21 + (s : Int) = v := ⟨_, rfl⟩
  rw [hv] at hs ⊢
  clear hv
  go_upto_region 4 with (go_at_call 118; refine (hs _).mono ?_; rintro r w1 ⟨rfl, rfl⟩)
  go_cut [6] (fun s6 wx => ∃ A, s6 = .pointer (some ⟨A, 0, none⟩) ∧ SK w wx B K t ∧ KyAt wx A ⟨X, Y⟩)
  case first =>
   have hS0 : SK w w1.drew B K t := hS.later (drew_below _)
   have HN : Hid (B ≠ w1.heap.size ∧ K ≠ w1.heap.size ∧ w.heap.size ≤ w1.heap.size) := ⟨Nat.ne_of_lt hS.tr.lt, hS.ky.elim fun e he => Nat.ne_of_lt he.lt, hS.bel.size⟩
   clear hS s2 hs
   have s0 : (0 : Int) ≤ (s : Int) := by omega
   have s1 : (s : Int) < 64 := by omega
   obtain ⟨e, he⟩ : ∃ e, t.ro s = e := ⟨_, rfl⟩
   rw [he] at hlf
   have HE : Hid (t.ro s = e) := he
   clear he
   refine wp_region_held_drew (S := fun W => SK w W B K t) (by kernel_rfl) hS0 (fun hHeld => ?_)
   refine wpAnyH_take (i := 0) (oi := ⟨some 17, Op.move (.tmp 5), _, _, _, none⟩) (v := .int .i64 (s : Int)) rfl (by kernel_rfl) (by kernel_rfl) (by kernel_rfl) (fun _ _ _ h => h) (Or.inl ⟨by rfl, fun w hSw => by (try dsimp only at hSw); go_simp⟩) (by assumption) ?_
   simp only [Act.put, List.setIfInBounds_toArray, List.set_cons_zero, List.set_cons_succ]
   refine wpAnyH_take (i := 1) (oi := ⟨some 18, Op.fieldAddr 62 (.tmp 2) 3, _, _, _, none⟩) (v := .pointer (some ⟨B, 44, none⟩)) rfl (by kernel_rfl) (by kernel_rfl) (by kernel_rfl) (fun _ _ _ h => h) (Or.inl ⟨by rfl, fun w hSw => by (try dsimp only at hSw); go_simp⟩) (by assumption) ?_
   simp only [Act.put, List.setIfInBounds_toArray, List.set_cons_zero, List.set_cons_succ]
   refine wpAnyH_take (i := 2) (oi := ⟨some 19, Op.indexAddr 60 (.tmp 18) (.tmp 17), _, _, _, none⟩) (v := .pointer (some ⟨B, 44 + s * 3, none⟩)) rfl (by kernel_rfl) (by kernel_rfl) (by kernel_rfl) (fun _ _ _ h => h) (Or.inl ⟨by rfl, fun w hSw => by (try dsimp only at hSw); go_simp⟩) (by assumption) ?_
   simp only [Act.put, List.setIfInBounds_toArray, List.set_cons_zero, List.set_cons_succ]
   refine wpAnyH_take (i := 3) (oi := ⟨some 20, Op.load 58 (.tmp 19), _, _, _, none⟩) (v := .agg #[.int .i64 e.who, .int .i64 e.bas, .int .i64 e.snc]) rfl (by kernel_rfl) (by kernel_rfl) (by kernel_rfl) (fun _ _ _ h => h) (Or.inl ⟨by rfl, fun w hSw => by obtain ⟨c0, c1, c2⟩ := hSw.tr.ent s hs8; rw [HE.out] at c0 c1 c2; clear hSw; go_simp⟩) (by assumption) ?_
   simp only [Act.put, List.setIfInBounds_toArray, List.set_cons_zero, List.set_cons_succ]
   refine wpAnyH_take (i := 4) (oi := ⟨some 21, Op.fieldAddr 62 (.tmp 2) 0, _, _, _, none⟩) (v := .pointer (some ⟨B, 0, none⟩)) rfl (by kernel_rfl) (by kernel_rfl) (by kernel_rfl) (fun _ _ _ h => h) (Or.inl ⟨by rfl, fun w hSw => by (try dsimp only at hSw); go_simp⟩) (by assumption) ?_
   simp only [Act.put, List.setIfInBounds_toArray, List.set_cons_zero, List.set_cons_succ]
   refine wpAnyH_take (i := 5) (oi := ⟨some 22, Op.load 3 (.tmp 21), _, _, _, none⟩) (v := .int .i64 t.ep) rfl (by kernel_rfl) (by kernel_rfl) (by kernel_rfl) (fun _ _ _ h => h) (Or.inl ⟨by rfl, fun w hSw => by obtain ⟨c0, c1⟩ := hSw.tr.cells; clear hSw; go_simp⟩) (by assumption) ?_
   simp only [Act.put, List.setIfInBounds_toArray, List.set_cons_zero, List.set_cons_succ]
   refine wpAnyH_ready (rs := [6, 10]) (by kernel_rfl) (by simp) ?_
   refine (AllReadyH.cons rfl (fun K hK => ?_) (AllReadyH.cons rfl (fun K hK => ?_) AllReadyH.nil))
   ·go_simp
    refine (hlf _).mono ?_
    rintro r w5 ⟨rfl, hb5⟩
    go_wp2_with fail
    refine hK.out _ _ (hHeld.later hb5) (fun hHd1 => ?_)
    clear hHeld hb5
    clear hK K
    try simp only [Act.put, List.setIfInBounds_toArray, List.set_cons_zero, List.set_cons_succ]
    refine wpAnyH_take (i := 7) (oi := ⟨some 16, Op.move (.tmp 23), _, _, _, none⟩) (v := .tuple #[.agg #[.int .i64 X, .int .i64 Y], .int .i64 E]) rfl (by kernel_rfl) (by kernel_rfl) (by kernel_rfl) (fun _ _ _ h => h) (Or.inl ⟨by rfl, fun w hSw => by (try dsimp only at hSw); go_simp⟩) (by assumption) ?_
    simp only [Act.put, List.setIfInBounds_toArray, List.set_cons_zero, List.set_cons_succ]
    refine wpAnyH_take (i := 8) (oi := ⟨some 24, Op.extract (.tmp 16) 0, _, _, _, none⟩) (v := .agg #[.int .i64 X, .int .i64 Y]) rfl (by kernel_rfl) (by kernel_rfl) (by kernel_rfl) (fun _ _ _ h => h) (Or.inl ⟨by rfl, fun w hSw => by (try dsimp only at hSw); go_simp⟩) (by assumption) ?_
    simp only [Act.put, List.setIfInBounds_toArray, List.set_cons_zero, List.set_cons_succ]
    refine wpAnyH_take (i := 9) (oi := ⟨some 25, Op.extract (.tmp 16) 1, _, _, _, none⟩) (v := .int .i64 E) rfl (by kernel_rfl) (by kernel_rfl) (by kernel_rfl) (fun _ _ _ h => h) (Or.inl ⟨by rfl, fun w hSw => by (try dsimp only at hSw); go_simp⟩) (by assumption) ?_
    simp only [Act.put, List.setIfInBounds_toArray, List.set_cons_zero, List.set_cons_succ]
    refine wpAnyH_ready (rs := [10]) (by kernel_rfl) (by simp) ?_
    refine AllReadyH.cons rfl (fun K hK => ?_) AllReadyH.nil
    go_simp
    have hpre := hHd1
    refine hK.out _ _ (hHd1.later (below_alloc _ _)) (fun hHd2 => ?_)
    clear hK K
    try simp only [Act.put, List.setIfInBounds_toArray, List.set_cons_zero, List.set_cons_succ]
    refine wpAnyH_ready (rs := [11]) (by kernel_rfl) (by simp) ?_
    refine AllReadyH.cons rfl (fun K hK => ?_) AllReadyH.nil
    go_simp
    first | (refine hK.out _ _ (hpre.later (below_alloc _ _)) (fun hHd3 => ?_); have hkyZ : KyAt (w5.alloc (.cells #[.int .i64 X, .int .i64 Y] 38)) w5.heap.size ⟨X, Y⟩ := KyAt.new w5 ⟨X, Y⟩) | (refine hK.out _ _ (hHd2.two HN.out.1 HN.out.2.1 HN.out.2.2 _ _) (fun hHd3 => ?_); have hkyZ := KyAt.set hky2 X Y)
    clear hK K
    try simp only [Act.put, List.setIfInBounds_toArray, List.set_cons_zero, List.set_cons_succ]
    refine wpAnyH_take (i := 12) (oi := ⟨some 7, Op.assign (.tmp 25), _, _, _, none⟩) (v := .int .i64 E) rfl (by kernel_rfl) (by kernel_rfl) (by kernel_rfl) (fun _ _ _ h => h) (Or.inl ⟨by rfl, fun w hSw => by (try dsimp only at hSw); go_simp⟩) (by assumption) ?_
    simp only [Act.put, List.setIfInBounds_toArray, List.set_cons_zero, List.set_cons_succ]
    refine wpAnyH_done (by kernel_rfl) ?_ _
    go_wp2_with fail
    go_meet
    case rel => exact ⟨_, rfl, hHd3, hkyZ⟩
   ·go_simp
    have hky : KyAt (w1.drew.alloc (.cells #[.int .i64 0, .int .i64 0] 38)) w1.heap.size zK := KyAt.new w1.drew zK
    refine hK.out _ _ (hHeld.later (below_alloc _ _)) (fun hHd1 => ?_)
    clear hHeld
    clear hK K
    try simp only [Act.put, List.setIfInBounds_toArray, List.set_cons_zero, List.set_cons_succ]
    refine wpAnyH_ready (rs := [6]) (by kernel_rfl) (by simp) ?_
    refine AllReadyH.cons rfl (fun K hK => ?_) AllReadyH.nil
    go_simp
    refine (hlf _).mono ?_
    rintro r w5 ⟨rfl, hb5⟩
    go_wp2_with fail
    have hky2 := hky.later hb5
    obtain ⟨k0, k1⟩ := hky2.cells
    have f0 := Rt.row_frozen hky2 0
    have f1 := Rt.row_frozen hky2 1
    refine hK.out _ _ (hHd1.later hb5) (fun hHd2 => ?_)
    clear hHd1 hb5 hky
    clear hK K
    try simp only [Act.put, List.setIfInBounds_toArray, List.set_cons_zero, List.set_cons_succ]
    refine wpAnyH_take (i := 7) (oi := ⟨some 16, Op.move (.tmp 23), _, _, _, none⟩) (v := .tuple #[.agg #[.int .i64 X, .int .i64 Y], .int .i64 E]) rfl (by kernel_rfl) (by kernel_rfl) (by kernel_rfl) (fun _ _ _ h => h) (Or.inl ⟨by rfl, fun w hSw => by (try dsimp only at hSw); go_simp⟩) (by assumption) ?_
    simp only [Act.put, List.setIfInBounds_toArray, List.set_cons_zero, List.set_cons_succ]
    refine wpAnyH_take (i := 8) (oi := ⟨some 24, Op.extract (.tmp 16) 0, _, _, _, none⟩) (v := .agg #[.int .i64 X, .int .i64 Y]) rfl (by kernel_rfl) (by kernel_rfl) (by kernel_rfl) (fun _ _ _ h => h) (Or.inl ⟨by rfl, fun w hSw => by (try dsimp only at hSw); go_simp⟩) (by assumption) ?_
    simp only [Act.put, List.setIfInBounds_toArray, List.set_cons_zero, List.set_cons_succ]
    refine wpAnyH_take (i := 9) (oi := ⟨some 25, Op.extract (.tmp 16) 1, _, _, _, none⟩) (v := .int .i64 E) rfl (by kernel_rfl) (by kernel_rfl) (by kernel_rfl) (fun _ _ _ h => h) (Or.inl ⟨by rfl, fun w hSw => by (try dsimp only at hSw); go_simp⟩) (by assumption) ?_
    simp only [Act.put, List.setIfInBounds_toArray, List.set_cons_zero, List.set_cons_succ]
    refine wpAnyH_ready (rs := [11]) (by kernel_rfl) (by simp) ?_
    refine AllReadyH.cons rfl (fun K hK => ?_) AllReadyH.nil
    go_simp
    first | (refine hK.out _ _ (hpre.later (below_alloc _ _)) (fun hHd3 => ?_); have hkyZ : KyAt (w5.alloc (.cells #[.int .i64 X, .int .i64 Y] 38)) w5.heap.size ⟨X, Y⟩ := KyAt.new w5 ⟨X, Y⟩) | (refine hK.out _ _ (hHd2.two HN.out.1 HN.out.2.1 HN.out.2.2 _ _) (fun hHd3 => ?_); have hkyZ := KyAt.set hky2 X Y)
    clear hK K
    try simp only [Act.put, List.setIfInBounds_toArray, List.set_cons_zero, List.set_cons_succ]
    refine wpAnyH_take (i := 12) (oi := ⟨some 7, Op.assign (.tmp 25), _, _, _, none⟩) (v := .int .i64 E) rfl (by kernel_rfl) (by kernel_rfl) (by kernel_rfl) (fun _ _ _ h => h) (Or.inl ⟨by rfl, fun w hSw => by (try dsimp only at hSw); go_simp⟩) (by assumption) ?_
    simp only [Act.put, List.setIfInBounds_toArray, List.set_cons_zero, List.set_cons_succ]
    refine wpAnyH_done (by kernel_rfl) ?_ _
    go_wp2_with fail
    go_meet
    case rel => exact ⟨_, rfl, hHd3, hkyZ⟩
  case rest =>
   obtain ⟨A, rfl, hS9, hky9⟩ := hcut
   obtain ⟨k0, k1⟩ := hky9.cells
   dsimp only at k0 k1
   obtain ⟨k, hk⟩ := hS9.ky
   go_wp2_with (refine stKy hk ⟨X, Y⟩ rfl _ _ rfl rfl rfl ?_)
   refine bodyPost_ret (results_ky1 (p := 4) rfl _ _ K ⟨X, Y⟩ rfl (KyAt.row hk ⟨X, Y⟩)) rfl ?_
   exact ⟨by rw [HA.out]; rfl, Rt.setRow_below hS9.ge hS9.bel _⟩
/- The tree and the batch, boxed. -/
def BtAt (w : World) (B : Nat) (aL aJ : Option Addr) (nL nJ cL cJ : Nat) : Prop := w.heap[B]? = some (.cells #[.slice aL nL cL, .slice aJ nJ cJ] 54 (0, 0))
theorem BtAt.cells {w : World} {B : Nat} {aL aJ : Option Addr} {nL nJ cL cJ : Nat} (h : BtAt w B aL aJ nL nJ cL cJ) : w.cell? ⟨B, 0, none⟩ = some (.slice aL nL cL) ∧ w.cell? ⟨B, 1, none⟩ = some (.slice aJ nJ cJ) :=
 ⟨cell_of_row w B 0 _ _ _ h, cell_of_row w B 1 _ _ _ h⟩
theorem BtAt.later {w w' : World} {B : Nat} {aL aJ : Option Addr} {nL nJ cL cJ : Nat} (h : BtAt w B aL aJ nL nJ cL cJ) (hb : Below w.heap.size w w') : BtAt w' B aL aJ nL nJ cL cJ := (hb.block B (Array.getElem?_eq_some_iff.1 h).1).trans h
structure TB (w W : World) (B C : Nat) (t : Tr) (aL aJ : Option Addr) (nL nJ cL cJ : Nat) : Prop where
 tr : TrAt W B t
 bt : BtAt W C aL aJ nL nJ cL cJ
 bel : Below w.heap.size w W
theorem TB.later {w W W' : World} {B C : Nat} {t : Tr} {aL aJ : Option Addr} {nL nJ cL cJ : Nat} (h : TB w W B C t aL aJ nL nJ cL cJ) (hb : Below W.heap.size W W') : TB w W' B C t aL aJ nL nJ cL cJ := ⟨h.tr.later hb, h.bt.later hb, h.bel.trans (hb.mono h.bel.size)⟩
theorem TB.new (w : World) (t : Tr) (aL aJ : Option Addr) (nL nJ cL cJ : Nat) : TB w ((w.alloc (.cells (tcs t) 62)).alloc (.cells #[.slice aL nL cL, .slice aJ nJ cJ] 54)) w.heap.size (w.heap.size + 1) t aL aJ nL nJ cL cJ := by
 have h1 := TrAt.new w t
 have hb1 := alloc_tr w t
 have h2 := heap_alloc_last (w.alloc (.cells (tcs t) 62)) (.cells #[.slice aL nL cL, .slice aJ nJ cJ] 54)
 have hb2 := below_alloc (w.alloc (.cells (tcs t) 62)) (.cells #[.slice aL nL cL, .slice aJ nJ cJ] 54)
 rw [World.size_alloc] at h2
 exact ⟨h1.later hb2, h2, hb1.trans (hb2.mono hb1.size)⟩
def alE (t : Tr) (L J : List Int) : Int := if tck t then (if t.ep = 200 then 19 else ft t.ro L J) else 31
set_option maxRecDepth 100000 in
set_option maxHeartbeats 1000000 in
theorem allowed_any (t : Tr) (aL aJ : Option Addr) (cL cJ : Nat) (L J : List Int) (w : World) (lL : L.length < 1152921504606846976) (lJ : J.length < 1152921504606846976) (hL : RdI w aL L) (hJ : RdI w aJ J) :
  Calls Tryz.prog 24 #[.agg (tcs t), .agg #[.slice aL L.length cL, .slice aJ J.length cJ] ] w fun e w' => e = .returned (.int .i64 (alE t L J)) ∧ Below w.heap.size w w' := by
 have hS := TB.new w t aL aJ L.length J.length cL cJ
 have h1 := check_any t
 have h2 : ∀ W, Below w.heap.size w W → _ := fun W hW => Rs.fits_any t.ro aL aJ cL cJ L J W lL lJ (hL.later hW) (hJ.later hW)
 obtain ⟨ct, hct⟩ : ∃ c, tcs t = c := ⟨_, rfl⟩
 obtain ⟨cr, hcr⟩ : ∃ c, rcs t.ro = c := ⟨_, rfl⟩
 simp only [hct] at h1
 simp only [hcr] at h2
 have HT : Hid (tcs t = ct) := hct
 have HR : Hid (rcs t.ro = cr) := hcr
 clear hct hcr
 go_enter Tryz.func24, Tryz.ntmps24
 go_upto_region 1 with (fail)
 generalize (w.alloc (.cells (tcs t) 62)).alloc (.cells #[.slice aL L.length cL, .slice aJ J.length cJ] 54) = w1 at *
 rw [HT.out]
 have hT1 := hS.tr
 obtain ⟨C, hC⟩ : ∃ C, w.heap.size + 1 = C := ⟨_, rfl⟩
 rw [hC] at hS ⊢
 obtain ⟨B, hB⟩ : ∃ B, w.heap.size = B := ⟨_, rfl⟩
 rw [hB] at hS hT1 ⊢
 have HBB : Hid (w.heap.size = B) := hB
 clear hC hB
 go_wp2_with (refine rdT hT1 HT.out _ rfl rfl rfl ?_)
 refine (h1 _).mono ?_
 rintro r w2 ⟨rfl, hb2⟩
 have hS2 := hS.later hb2
 clear h1 hS hT1 hb2
 cases hck : tck t with
 | false =>
  rw [tckE_ff hck]
  go_wp2_with fail
  go_ret
  exact ⟨ret_int (by unfold alE; rw [hck]; rfl), hS2.bel⟩
 | true =>
  rw [tckE_tt hck]
  obtain ⟨c0, c1⟩ := hS2.tr.cells
  obtain ⟨e, he⟩ : ∃ e, t.ep = e := ⟨_, rfl⟩
  rw [he] at c0
  by_cases hp : e = 200
  ·subst hp
   go_wp2_with fail
   go_ret
   exact ⟨ret_int (by unfold alE; rw [hck, if_pos rfl, if_pos he]), hS2.bel⟩
  ·have hd : (e == 200) = false := by simpa using hp
   have HE : Hid (alE t L J = ft t.ro L J) := by show alE t L J = _; unfold alE; rw [hck, if_pos rfl, if_neg (by rw [he]; exact hp)]
   have hT2 := hS2.tr
   obtain ⟨d0, d1⟩ := hS2.bt.cells
   have h3 := h2 w2 hS2.bel
   clear he hp h2
   go_wp2_with (refine rdR hT2 HR.out _ rfl rfl rfl ?_)
   refine h3.mono ?_
   rintro r w3 ⟨rfl, hb3⟩
   have hS3 := hS2.later hb3
   clear h3 hb3 hS2 hT2 c0 c1 d0 d1
   go_wp2_with fail
   go_ret
   exact ⟨ret_int HE.out.symm, hS3.bel⟩
/- The seats' slots. -/
set_option maxRecDepth 100000 in
set_option maxHeartbeats 1000000 in
theorem replaced_any (a : Option Addr) (c : Nat) (l : List (Int × Int)) (w : World) (hl : l.length < 1152921504606846976) (hr : RdS w a l) :
  Calls Tryz.prog 26 #[.slice a l.length c] w fun e w' => e = .returned (.int .u32 ((rp l : Nat) : Int)) ∧ Below w.heap.size w w' := by
 have h1 := fun s (hs : s < 18446744073709551616) n => Rs.put_any s hs n
 have h2 := Sh.above_any ((sw l : Nat) : Int) (by omega) (by have := sw_lt l; omega)
 rw [abv_rp] at h2
 go_enter Tryz.func26, Tryz.ntmps26
 go_wp2_with fail
 go_loopw [3, 10] (fun s i wx => ∃ k : Nat, k ≤ l.length ∧ i = .int .i64 (k : Int) ∧ s = .int .u64 ((sw (l.take k) : Nat) : Int) ∧ Below w.heap.size w wx) (fun _ i _ => l.length - (intOf i).toNat)
 case atStart => exact ⟨0, by omega, rfl, by simp [sw], Below.refl _ _⟩
 case round =>
  obtain ⟨k, hk, rfl, rfl, hb⟩ := hrel
  have HB : Hid (Below w.heap.size w wr) := hb
  clear hb
  by_cases hkN : k < l.length
  ·have i1 : (0 : Int) ≤ (k : Int) := by omega
   have i2 : (k : Int) < (l.length : Int) := by omega
   obtain ⟨b, hal, hc0, hc1⟩ := (hr.later HB.out) k hkN
   have HT : Hid (sw (l.take (k + 1)) = sw1 (sw (l.take k)) (l.getD k (0, 0))) := by
    show sw (l.take (k + 1)) = _
    rw [take_snoc2 hkN, sw_snoc]
   have hlt := sw_lt (l.take k)
   obtain ⟨s, hs⟩ : ∃ s, sw (l.take k) = s := ⟨_, rfl⟩
   obtain ⟨p, hp⟩ : ∃ p, l.getD k (0, 0) = p := ⟨_, rfl⟩
   rw [hs] at hlt HT
   rw [hs]
   rw [hp] at hc0 hc1 HT
   have h3 := h1 s hlt p.2
   clear hs hp h1 h2
   subst hal
   have HB2 : Hid (Below w.heap.size w (wr.alloc (.cells #[.int .i64 p.1, .int .i64 p.2] 108))) := HB.out.alloc HB.out.size _
   unfold sw1 at HT
   cases hsl : sl p.2 with
   | false =>
    rw [hsl] at HT
    rw [Rs.putR_no hsl] at h3
    go_wp2_with (go_at_call 60; refine (h3 _).mono ?_; rintro r w' ⟨rfl, rfl⟩)
    go_roundw
    case rel => exact ⟨k + 1, by omega, by go_num, by rw [HT.out]; rfl, HB2.out⟩
    case measure => simp [intOf]; omega
   | true =>
    obtain ⟨n, hn, hn64⟩ := Rs.sl_nat hsl
    rw [hsl, hn, if_pos rfl, Int.toNat_natCast] at HT
    rw [hn, Rs.putR_sl hn64] at h3
    rw [hn] at hc1
    obtain ⟨z, hz⟩ : ∃ z, put s n = z := ⟨_, rfl⟩
    rw [hz] at HT h3
    clear hz
    rw [hn] at HB2
    go_wp2_with (go_at_call 60; refine (h3 _).mono ?_; rintro r w' ⟨rfl, rfl⟩)
    go_roundw
    case rel => exact ⟨k + 1, by omega, by go_num, by rw [HT.out], HB2.out⟩
    case measure => simp [intOf]; omega
  ·obtain rfl : k = l.length := by omega
   have hdk : decide ((l.length : Int) < (l.length : Int)) = false := by simp
   rw [List.take_length]
   clear h1
   go_wp2_with (go_at_call 61; refine (h2 _).mono ?_; rintro r w' ⟨rfl, hb'⟩)
   go_ret
   exact ⟨rfl, by first | exact HB.out | exact HB.out.trans (hb'.mono HB.out.size)⟩
open Rt (Ky zK kcs KyAt Gd)
open Rs (En zE rcs RoAt tkn)
/- Items as cells. -/
def ics (x : It) : List Value := [.int .i64 x.nd, .int .i64 x.fm, .int .i64 x.un.bas, .int .i64 x.un.stp, .int .i64 x.ld.bas, .int .i64 x.ld.stp]
def isl (l : List It) : List Value := l.flatMap ics
theorem isl_snoc (l : List It) (x : It) : isl (l ++ [x]) = isl l ++ ics x := by simp [isl]
theorem infoItem : (Tryz.prog.info? 112).map (fun i => (i.zero, i.size, i.bytes)) = some (some (.agg #[.int .i64 0, .int .i64 0, .int .i64 0, .int .i64 0, .int .i64 0, .int .i64 0]), 6, 48) := by kernel_rfl
theorem infoItem_parts : ∃ i, Tryz.prog.info? 112 = some i ∧ i.zero = some (.agg #[.int .i64 0, .int .i64 0, .int .i64 0, .int .i64 0, .int .i64 0, .int .i64 0]) ∧ i.size = 6 ∧ i.bytes = 48 := by
 have h := infoItem
 cases hq : Tryz.prog.info? 112 with
 | none => rw [hq] at h; cases h
 | some i =>
  rw [hq] at h
  simp at h
  exact ⟨i, rfl, h.1, h.2.1, h.2.2⟩
theorem cell_row_new (w : World) (cs : Array Value) (t : TypeId) : ∀ j u, cs.toList[j]? = some u → (w.alloc (.cells cs t)).cell? ((⟨w.heap.size, 0, none⟩ : Addr).add j) = some u := by
 intro j u hu
 have hadd : (⟨w.heap.size, 0, none⟩ : Addr).add j = ⟨w.heap.size, j, none⟩ := by
  unfold Addr.add
  simp
  intro h
  exact h.symm
 rw [hadd, cell_of_row _ _ j _ _ _ (heap_alloc_last w _)]
 simpa using hu
/- What other blocks there are stays. -/
theorem block_ne {w : World} {A B : Nat} {cs ds : Array Value} {T S : TypeId} {fz gz : Nat × Nat} (h : w.heap[A]? = some (.cells cs T fz)) (h2 : w.heap[B]? = some (.cells ds S gz)) (hne : T ≠ S) : A ≠ B := by
 rintro rfl
 rw [h] at h2
 simp at h2
 exact hne h2.2.1
def KeptT (W W' : World) : Prop := ∀ (k : Nat) (cs : Array Value) (T : TypeId), W.heap[k]? = some (.cells cs T (0, 0)) → T ≠ 112 → T ≠ 29 → W'.heap[k]? = some (.cells cs T (0, 0))
theorem KeptT.refl (W : World) : KeptT W W := fun k cs T h _ _ => h
theorem KeptT.trans {W W' W2 : World} (h : KeptT W W') (h2 : KeptT W' W2) : KeptT W W2 := fun k cs T hk h3 h4 => h2 k cs T (h k cs T hk h3 h4) h3 h4
theorem KeptT.below {W W' : World} (hb : Below W.heap.size W W') : KeptT W W' := fun k cs T h _ _ => (hb.block k (Array.getElem?_eq_some_iff.1 h).1).trans h
/- The tree, boxed, and the list that is gathered. -/
structure GL (w W : World) (BT BL n0 : Nat) (t : Tr) (vl : Value) (l : List It) : Prop where
 tr : TrAt W BT t
 li : W.heap[BL]? = some (.cells #[vl] 29 (0, 0))
 row : W.ownsRow n0 112 6 vl l.length (isl l)
 bel : Below w.heap.size w W
 bt : BT < n0
 bl : BL < n0
 ne : BT ≠ BL
 wl : w.heap.size ≤ BL
 sz : n0 ≤ W.heap.size
theorem GL.later {w W W' : World} {BT BL n0 : Nat} {t : Tr} {vl : Value} {l : List It} (h : GL w W BT BL n0 t vl l) (hb : Below W.heap.size W W') : GL w W' BT BL n0 t vl l :=
 ⟨h.tr.later hb, (hb.block BL (Array.getElem?_eq_some_iff.1 h.li).1).trans h.li, Rs.owns_later h.row hb, h.bel.trans (hb.mono h.bel.size), h.bt, h.bl, h.ne, h.wl, Nat.le_trans h.sz hb.size⟩
theorem GL.cell {w W : World} {BT BL n0 : Nat} {t : Tr} {vl : Value} {l : List It} (h : GL w W BT BL n0 t vl l) : W.cell? ⟨BL, 0, none⟩ = some vl := cell_of_row W BL 0 _ _ _ h.li
structure GH (w W W' : World) (BT BL n0 : Nat) (t : Tr) (vl : Value) (l : List It) : Prop where
 g : GL w W' BT BL n0 t vl l
 k : KeptT W W'
 sz : W.heap.size ≤ W'.heap.size
theorem GH.later {w W W' W2 : World} {BT BL n0 : Nat} {t : Tr} {vl : Value} {l : List It} (h : GH w W W' BT BL n0 t vl l) (hb : Below W'.heap.size W' W2) : GH w W W2 BT BL n0 t vl l :=
 ⟨h.g.later hb, h.k.trans (KeptT.below hb), Nat.le_trans h.sz hb.size⟩
def BxAt (w : World) (B : Nat) (a b : Ky) : Prop := w.heap[B]? = some (.cells #[.int .i64 a.bas, .int .i64 a.stp, .int .i64 b.bas, .int .i64 b.stp] 40 (0, 0))
theorem BxAt.cells {w : World} {B : Nat} {a b : Ky} (h : BxAt w B a b) : w.cell? ⟨B, 0, none⟩ = some (.int .i64 a.bas) ∧ w.cell? ⟨B, 1, none⟩ = some (.int .i64 a.stp) ∧ w.cell? ⟨B, 2, none⟩ = some (.int .i64 b.bas) ∧ w.cell? ⟨B, 3, none⟩ = some (.int .i64 b.stp) :=
 ⟨cell_of_row w B 0 _ _ _ h, cell_of_row w B 1 _ _ _ h, cell_of_row w B 2 _ _ _ h, cell_of_row w B 3 _ _ _ h⟩
theorem BxAt.later {w w' : World} {B : Nat} {a b : Ky} (h : BxAt w B a b) (hb : Below w.heap.size w w') : BxAt w' B a b := (hb.block B (Array.getElem?_eq_some_iff.1 h).1).trans h
theorem BxAt.set {w : World} {B : Nat} {a b : Ky} (h : BxAt w B a b) (c d : Ky) : BxAt ((((w.setCell ⟨B, 0, none⟩ (.int .i64 c.bas)).setCell ⟨B, 1, none⟩ (.int .i64 c.stp)).setCell ⟨B, 2, none⟩ (.int .i64 d.bas)).setCell ⟨B, 3, none⟩ (.int .i64 d.stp)) B c d := by
 have h3 := Rt.row_setCell (Rt.row_setCell (Rt.row_setCell (Rt.row_setCell h 0 (.int .i64 c.bas)) 1 (.int .i64 c.stp)) 2 (.int .i64 d.bas)) 3 (.int .i64 d.stp)
 exact h3
theorem set4_other {w : World} {B C : Nat} (h : C ≠ B) (v0 v1 v2 v3 : Value) : ((((w.setCell ⟨B, 0, none⟩ v0).setCell ⟨B, 1, none⟩ v1).setCell ⟨B, 2, none⟩ v2).setCell ⟨B, 3, none⟩ v3).heap[C]? = w.heap[C]? := by
 rw [Rt.other_setCell h, Rt.other_setCell h, Rt.other_setCell h, Rt.other_setCell h]
theorem set4_below {n : Nat} {w W : World} (h : Below n w W) {B : Nat} (hB : n ≤ B) (v0 v1 v2 v3 : Value) : Below n w ((((W.setCell ⟨B, 0, none⟩ v0).setCell ⟨B, 1, none⟩ v1).setCell ⟨B, 2, none⟩ v2).setCell ⟨B, 3, none⟩ v3) :=
 (((h.setCell (p := ⟨B, 0, none⟩) hB v0).setCell (p := ⟨B, 1, none⟩) hB v1).setCell (p := ⟨B, 2, none⟩) hB v2).setCell (p := ⟨B, 3, none⟩) hB v3
/- A box of its own is written. -/
theorem GH.four {w W W' : World} {BT BL n0 : Nat} {t : Tr} {vl : Value} {l : List It} (h : GH w W W' BT BL n0 t vl l) {A : Nat} {a b : Ky} (hx : BxAt W' A a b) (hA : W.heap.size ≤ A) (hw : w.heap.size ≤ W.heap.size) (v0 v1 v2 v3 : Value) :
  GH w W ((((W'.setCell ⟨A, 0, none⟩ v0).setCell ⟨A, 1, none⟩ v1).setCell ⟨A, 2, none⟩ v2).setCell ⟨A, 3, none⟩ v3) BT BL n0 t vl l := by
 have n1 : BT ≠ A := block_ne h.g.tr hx (by decide)
 have n2 : BL ≠ A := block_ne h.g.li hx (by decide)
 refine ⟨⟨(set4_other n1 _ _ _ _).trans h.g.tr, (set4_other n2 _ _ _ _).trans h.g.li, ?_, set4_below h.g.bel (by omega) _ _ _ _, h.g.bt, h.g.bl, h.g.ne, h.g.wl, by have := h.g.sz; simpa using this⟩, fun k cs T hk h1 h2 => ?_, ?_⟩
 ·obtain ⟨q1, q2⟩ := h.g.row
  refine ⟨q1, ?_⟩
  rcases q2 with q2 | ⟨g, cap, cur, rfl, h3, h4, r⟩
  ·exact .inl q2
  ·exact .inr ⟨g, cap, cur, rfl, h3, (set4_other (block_ne h4 hx (by decide)) _ _ _ _).trans h4, r⟩
 ·have hkl := (Array.getElem?_eq_some_iff.1 hk).1
  rw [set4_other (by omega)]
  exact h.k k cs T hk h1 h2
 ·have := h.sz
  simpa using this
theorem GL.app {w W W1 : World} {BT BL n0 : Nat} {t : Tr} {vl v' : Value} {l : List It} {o : Obj} {x : It} (h : GL w W BT BL n0 t vl l) (hown : W1.ownsRow n0 112 6 v' (l.length + 1) (isl l ++ ics x)) (hg : (W.alloc o).grownBy W1 vl.ownBlock) :
  W1.heap[BL]? = some (.cells #[vl] 29 (0, 0)) ∧ GL w (W1.setCell ⟨BL, 0, none⟩ v') BT BL n0 t v' (l ++ [x]) := by
 have hs1 := h.tr.lt
 have hs2 := (Array.getElem?_eq_some_iff.1 h.li).1
 have blk : ∀ k, k < n0 → k < W.heap.size → W1.heap[k]? = W.heap[k]? := fun k hk hk2 => by
  rw [hg.block k (by simp; omega) (Rs.row_far h.row hk)]
  exact ((Below.refl _ W).alloc (Nat.le_refl _) o).block k (by omega)
 have hli : W1.heap[BL]? = some (.cells #[vl] 29 (0, 0)) := (blk _ h.bl hs2).trans h.li
 have hwl := h.wl
 have hbl := h.bl
 have hsz : n0 ≤ W1.heap.size := by have h1 := hg.size; have h2 := h.sz; simp at h1; omega
 refine ⟨hli, ⟨?_, ?_, ?_, ?_, h.bt, h.bl, h.ne, h.wl, by simpa using hsz⟩⟩
 ·exact (Rt.other_setCell h.ne _ _).trans ((blk _ h.bt hs1).trans h.tr)
 ·exact Rt.row_setCell hli 0 v'
 ·rw [isl_snoc, List.length_append]
  exact Rs.owns_block hown fun j hj _ => Rt.other_setCell (by omega) _ _
 ·refine Below.setCell (p := ⟨BL, 0, none⟩) ?_ h.wl _
  have b1 := h.bel.alloc h.bel.size o
  exact Below.grown b1 hg (by have := h.bel.size; simp; omega) fun j hj => by
   rcases Nat.lt_or_ge j n0 with hlt | hge
   ·exact absurd hj.symm (Rs.row_far h.row hlt)
   ·omega
theorem own_type {W : World} {b : Nat} {e : TypeId} {sz : Nat} {v : Value} {n : Nat} {xs : List Value} (h : W.ownsRow b e sz v n xs) {k : Nat} {cs : Array Value} {T : TypeId} {fz : Nat × Nat} (hk : W.heap[k]? = some (.cells cs T fz)) (hT : T ≠ e) : some k ≠ v.ownBlock := by
 intro he
 rcases h.2 with ⟨rfl, _⟩ | ⟨g, cap, cur, rfl, h3, h4, _⟩
 ·simp [Value.ownBlock] at he
 ·simp [Value.ownBlock] at he
  subst he
  rw [hk] at h4
  simp at h4
  exact hT h4.2.1
theorem GL.appK {w W W1 : World} {BT BL n0 : Nat} {t : Tr} {vl v' : Value} {l : List It} {o : Obj} (h : GL w W BT BL n0 t vl l) (hg : (W.alloc o).grownBy W1 vl.ownBlock) : KeptT W (W1.setCell ⟨BL, 0, none⟩ v') := fun k cs T hk h1 h2 => by
 have hkl := (Array.getElem?_eq_some_iff.1 hk).1
 have hne : k ≠ BL := block_ne hk h.li h2
 rw [Rt.other_setCell hne, hg.block k (by simp; omega) (own_type h.row hk h1)]
 exact (((Below.refl _ W).alloc (Nat.le_refl _) o).block k (by omega)).trans hk
def GiveP (w W W' : World) (BT BL n0 : Nat) (t : Tr) (l : List It) : Prop := ∃ vl', GL w W' BT BL n0 t vl' l ∧ KeptT W W'
theorem GiveP.of {w W W' : World} {BT BL n0 : Nat} {t : Tr} {l : List It} {v : Value} (h : GL w W' BT BL n0 t v l) (k : KeptT W W') : GiveP w W W' BT BL n0 t l := ⟨v, h, k⟩
set_option maxRecDepth 100000 in
set_option maxHeartbeats 2000000 in
theorem give_any (t : Tr) (v c : Nat) (hv : v < 21) (hc : c < 85) (he : t.ep < 9223372036854775808) (g1 : Gd (kyA t c).bas (kyA t c).stp) (g2 : Gd (t.ks v).bas (t.ks v).stp) {w W : World} {BT BL n0 : Nat} {vl : Value} {l : List It} (hG : GL w W BT BL n0 t vl l) (hlen : l.length ≤ 4096) :
  Calls Tryz.prog 66 #[.int .i64 (v : Int), .int .i64 (c : Int), .pointer (some ⟨BT, 0, none⟩), .pointer (some ⟨BL, 0, none⟩)] W fun e W' => e = .returned (.tuple #[]) ∧ GiveP w W W' BT BL n0 t (l ++ [mkI t v c]) := by
 have h1 := keyAt_any t c hc he
 have h2 := Rt.seal_yes (kyA t c).bas (kyA t c).stp (t.ks v).bas (t.ks v).stp g1 g2
 unfold KyE at h1
 have HI : Hid (mkI t v c = ⟨v, c, kyA t c, t.ks v⟩) := by show mkI t v c = _; unfold mkI; rw [kyA_in hv]
 obtain ⟨a, ha⟩ : ∃ a, kyA t c = a := ⟨_, rfl⟩
 obtain ⟨b, hb⟩ : ∃ b, t.ks v = b := ⟨_, rfl⟩
 rw [ha] at HI h2
 simp only [ha] at h1
 rw [hb] at HI h2
 have HB : Hid (t.ks v = b) := hb
 obtain ⟨ct, hct⟩ : ∃ c, tcs t = c := ⟨_, rfl⟩
 simp only [hct] at h1
 have HT : Hid (tcs t = ct) := hct
 obtain ⟨i0, hi, hz0, hz1, hz2⟩ := infoItem_parts
 have HL : Hid (l.length ≤ 4096) := hlen
 clear hct ha hb g1 g2 hlen
 have v0 : (0 : Int) ≤ (v : Int) := by omega
 have v1 : (v : Int) < 21 := by omega
 have hWw : w.heap.size ≤ W.heap.size := hG.bel.size
 have hG0 : GH w W W BT BL n0 t vl l := ⟨hG, KeptT.refl _, Nat.le_refl _⟩
 clear hG
 go_enter Tryz.func66, Tryz.ntmps66
 go_upto_region 0 with (fail)
 go_cut [6] (fun s6 wx => ∃ A, s6 = .pointer (some ⟨A, 0, none⟩) ∧ GH w W wx BT BL n0 t vl l ∧ BxAt wx A a b)
 case first =>
  have hS0 : GH w W W.drew BT BL n0 t vl l := hG0.later (drew_below _)
  clear hG0
  refine wp_region_held_drew (S := fun X => GH w W X BT BL n0 t vl l) (by kernel_rfl) hS0 (fun hHeld => ?_)
  refine wpAnyH_take (i := 0) (oi := ⟨some 9, Op.load 62 (.tmp 2), _, _, _, none⟩) (v := .agg ct) rfl (by kernel_rfl) (by kernel_rfl) (by kernel_rfl) (fun _ _ _ h => h) (Or.inl ⟨by rfl, fun w hSw => ld_exec (HT.out ▸ hSw.g.tr.whole) rfl rfl⟩) (by assumption) ?_
  simp only [Act.put, List.setIfInBounds_toArray, List.set_cons_zero, List.set_cons_succ]
  refine wpAnyH_take (i := 1) (oi := ⟨some 10, Op.move (.tmp 1), _, _, _, none⟩) (v := .int .i64 (c : Int)) rfl (by kernel_rfl) (by kernel_rfl) (by kernel_rfl) (fun _ _ _ h => h) (Or.inl ⟨by rfl, fun w hSw => by (try dsimp only at hSw); go_simp⟩) (by assumption) ?_
  simp only [Act.put, List.setIfInBounds_toArray, List.set_cons_zero, List.set_cons_succ]
  refine wpAnyH_take (i := 3) (oi := ⟨some 12, Op.move (.tmp 0), _, _, _, none⟩) (v := .int .i64 (v : Int)) rfl (by kernel_rfl) (by kernel_rfl) (by kernel_rfl) (fun _ _ _ h => h) (Or.inl ⟨by rfl, fun w hSw => by (try dsimp only at hSw); go_simp⟩) (by assumption) ?_
  simp only [Act.put, List.setIfInBounds_toArray, List.set_cons_zero, List.set_cons_succ]
  refine wpAnyH_take (i := 4) (oi := ⟨some 13, Op.fieldAddr 62 (.tmp 2) 2, _, _, _, none⟩) (v := .pointer (some ⟨BT, 2, none⟩)) rfl (by kernel_rfl) (by kernel_rfl) (by kernel_rfl) (fun _ _ _ h => h) (Or.inl ⟨by rfl, fun w hSw => by (try dsimp only at hSw); go_simp⟩) (by assumption) ?_
  simp only [Act.put, List.setIfInBounds_toArray, List.set_cons_zero, List.set_cons_succ]
  refine wpAnyH_take (i := 5) (oi := ⟨some 14, Op.indexAddr 56 (.tmp 13) (.tmp 12), _, _, _, none⟩) (v := .pointer (some ⟨BT, 2 + v * 2, none⟩)) rfl (by kernel_rfl) (by kernel_rfl) (by kernel_rfl) (fun _ _ _ h => h) (Or.inl ⟨by rfl, fun w hSw => by (try dsimp only at hSw); go_simp⟩) (by assumption) ?_
  simp only [Act.put, List.setIfInBounds_toArray, List.set_cons_zero, List.set_cons_succ]
  refine wpAnyH_take (i := 6) (oi := ⟨some 15, Op.load 38 (.tmp 14), _, _, _, none⟩) (v := .agg #[.int .i64 b.bas, .int .i64 b.stp]) rfl (by kernel_rfl) (by kernel_rfl) (by kernel_rfl) (fun _ _ _ h => h) (Or.inl ⟨by rfl, fun w hSw => by obtain ⟨c0, c1⟩ := hSw.g.tr.key v hv; rw [HB.out] at c0 c1; clear hSw; go_simp⟩) (by assumption) ?_
  simp only [Act.put, List.setIfInBounds_toArray, List.set_cons_zero, List.set_cons_succ]
  refine wpAnyH_ready (rs := [2, 11]) (by kernel_rfl) (by simp) ?_
  refine (AllReadyH.cons rfl (fun K hK => ?_) (AllReadyH.cons rfl (fun K hK => ?_) AllReadyH.nil))
  ·go_simp
   refine (h1 _).mono ?_
   rintro r w5 ⟨rfl, hb5⟩
   go_wp2_with fail
   refine hK.out _ _ (hHeld.later hb5) (fun hHd1 => ?_)
   clear hHeld hb5
   clear hK K
   try simp only [Act.put, List.setIfInBounds_toArray, List.set_cons_zero, List.set_cons_succ]
   refine wpAnyH_ready (rs := [7, 11]) (by kernel_rfl) (by simp) ?_
   refine (AllReadyH.cons rfl (fun K hK => ?_) (AllReadyH.cons rfl (fun K hK => ?_) AllReadyH.nil))
   ·go_simp
    refine (h2 _).mono ?_
    rintro r w6 ⟨rfl, hb6⟩
    go_wp2_with fail
    refine hK.out _ _ (hHd1.later hb6) (fun hHd2 => ?_)
    clear hHd1 hb6
    clear hK K
    try simp only [Act.put, List.setIfInBounds_toArray, List.set_cons_zero, List.set_cons_succ]
    refine wpAnyH_take (i := 8) (oi := ⟨some 8, Op.move (.tmp 16), _, _, _, none⟩) (v := .tuple #[.agg #[.int .i64 a.bas, .int .i64 a.stp, .int .i64 b.bas, .int .i64 b.stp], .int .i64 0]) rfl (by kernel_rfl) (by kernel_rfl) (by kernel_rfl) (fun _ _ _ h => h) (Or.inl ⟨by rfl, fun w hSw => by (try dsimp only at hSw); go_simp⟩) (by assumption) ?_
    simp only [Act.put, List.setIfInBounds_toArray, List.set_cons_zero, List.set_cons_succ]
    refine wpAnyH_take (i := 9) (oi := ⟨some 17, Op.extract (.tmp 8) 0, _, _, _, none⟩) (v := .agg #[.int .i64 a.bas, .int .i64 a.stp, .int .i64 b.bas, .int .i64 b.stp]) rfl (by kernel_rfl) (by kernel_rfl) (by kernel_rfl) (fun _ _ _ h => h) (Or.inl ⟨by rfl, fun w hSw => by (try dsimp only at hSw); go_simp⟩) (by assumption) ?_
    simp only [Act.put, List.setIfInBounds_toArray, List.set_cons_zero, List.set_cons_succ]
    refine wpAnyH_take (i := 10) (oi := ⟨some 18, Op.extract (.tmp 8) 1, _, _, _, none⟩) (v := .int .i64 0) rfl (by kernel_rfl) (by kernel_rfl) (by kernel_rfl) (fun _ _ _ h => h) (Or.inl ⟨by rfl, fun w hSw => by (try dsimp only at hSw); go_simp⟩) (by assumption) ?_
    simp only [Act.put, List.setIfInBounds_toArray, List.set_cons_zero, List.set_cons_succ]
    refine wpAnyH_ready (rs := [11]) (by kernel_rfl) (by simp) ?_
    refine AllReadyH.cons rfl (fun K hK => ?_) AllReadyH.nil
    go_simp
    have hpre := hHd2
    refine hK.out _ _ (hHd2.later (below_alloc _ _)) (fun hHd3 => ?_)
    clear hK K
    try simp only [Act.put, List.setIfInBounds_toArray, List.set_cons_zero, List.set_cons_succ]
    refine wpAnyH_ready (rs := [12]) (by kernel_rfl) (by simp) ?_
    refine AllReadyH.cons rfl (fun K hK => ?_) AllReadyH.nil
    go_simp
    first | (refine hK.out _ _ (hpre.later (below_alloc _ _)) (fun hHd4 => ?_); have hbxZ : BxAt (w6.alloc (.cells #[.int .i64 a.bas, .int .i64 a.stp, .int .i64 b.bas, .int .i64 b.stp] 40)) w6.heap.size a b := heap_alloc_last w6 _) | (refine hK.out _ _ (hHd3.four hbx6 hA hWw _ _ _ _) (fun hHd4 => ?_); have hbxZ := BxAt.set hbx6 a b)
    clear hK K
    try simp only [Act.put, List.setIfInBounds_toArray, List.set_cons_zero, List.set_cons_succ]
    refine wpAnyH_take (i := 13) (oi := ⟨some 7, Op.assign (.tmp 18), _, _, _, none⟩) (v := .int .i64 0) rfl (by kernel_rfl) (by kernel_rfl) (by kernel_rfl) (fun _ _ _ h => h) (Or.inl ⟨by rfl, fun w hSw => by (try dsimp only at hSw); go_simp⟩) (by assumption) ?_
    simp only [Act.put, List.setIfInBounds_toArray, List.set_cons_zero, List.set_cons_succ]
    refine wpAnyH_done (by kernel_rfl) ?_ _
    go_wp2_with fail
    go_meet
    case rel => exact ⟨_, rfl, hHd4, hbxZ⟩
   ·go_simp
    have hbx5 : BxAt (w5.alloc (.cells #[.int .i64 0, .int .i64 0, .int .i64 0, .int .i64 0] 40)) w5.heap.size zK zK := heap_alloc_last w5 _
    have hA : W.heap.size ≤ w5.heap.size := hHd1.sz
    refine hK.out _ _ (hHd1.later (below_alloc _ _)) (fun hHd2 => ?_)
    clear hHd1
    clear hK K
    try simp only [Act.put, List.setIfInBounds_toArray, List.set_cons_zero, List.set_cons_succ]
    refine wpAnyH_ready (rs := [7]) (by kernel_rfl) (by simp) ?_
    refine AllReadyH.cons rfl (fun K hK => ?_) AllReadyH.nil
    go_simp
    refine (h2 _).mono ?_
    rintro r w6 ⟨rfl, hb6⟩
    go_wp2_with fail
    have hbx6 := hbx5.later hb6
    obtain ⟨k0, k1, k2, k3⟩ := hbx6.cells
    have f0 := Rt.row_frozen hbx6 0
    have f1 := Rt.row_frozen hbx6 1
    have f2 := Rt.row_frozen hbx6 2
    have f3 := Rt.row_frozen hbx6 3
    refine hK.out _ _ (hHd2.later hb6) (fun hHd3 => ?_)
    clear hHd2 hb6 hbx5
    clear hK K
    try simp only [Act.put, List.setIfInBounds_toArray, List.set_cons_zero, List.set_cons_succ]
    refine wpAnyH_take (i := 8) (oi := ⟨some 8, Op.move (.tmp 16), _, _, _, none⟩) (v := .tuple #[.agg #[.int .i64 a.bas, .int .i64 a.stp, .int .i64 b.bas, .int .i64 b.stp], .int .i64 0]) rfl (by kernel_rfl) (by kernel_rfl) (by kernel_rfl) (fun _ _ _ h => h) (Or.inl ⟨by rfl, fun w hSw => by (try dsimp only at hSw); go_simp⟩) (by assumption) ?_
    simp only [Act.put, List.setIfInBounds_toArray, List.set_cons_zero, List.set_cons_succ]
    refine wpAnyH_take (i := 9) (oi := ⟨some 17, Op.extract (.tmp 8) 0, _, _, _, none⟩) (v := .agg #[.int .i64 a.bas, .int .i64 a.stp, .int .i64 b.bas, .int .i64 b.stp]) rfl (by kernel_rfl) (by kernel_rfl) (by kernel_rfl) (fun _ _ _ h => h) (Or.inl ⟨by rfl, fun w hSw => by (try dsimp only at hSw); go_simp⟩) (by assumption) ?_
    simp only [Act.put, List.setIfInBounds_toArray, List.set_cons_zero, List.set_cons_succ]
    refine wpAnyH_take (i := 10) (oi := ⟨some 18, Op.extract (.tmp 8) 1, _, _, _, none⟩) (v := .int .i64 0) rfl (by kernel_rfl) (by kernel_rfl) (by kernel_rfl) (fun _ _ _ h => h) (Or.inl ⟨by rfl, fun w hSw => by (try dsimp only at hSw); go_simp⟩) (by assumption) ?_
    simp only [Act.put, List.setIfInBounds_toArray, List.set_cons_zero, List.set_cons_succ]
    refine wpAnyH_ready (rs := [12]) (by kernel_rfl) (by simp) ?_
    refine AllReadyH.cons rfl (fun K hK => ?_) AllReadyH.nil
    go_simp
    first | (refine hK.out _ _ (hpre.later (below_alloc _ _)) (fun hHd4 => ?_); have hbxZ : BxAt (w6.alloc (.cells #[.int .i64 a.bas, .int .i64 a.stp, .int .i64 b.bas, .int .i64 b.stp] 40)) w6.heap.size a b := heap_alloc_last w6 _) | (refine hK.out _ _ (hHd3.four hbx6 hA hWw _ _ _ _) (fun hHd4 => ?_); have hbxZ := BxAt.set hbx6 a b)
    clear hK K
    try simp only [Act.put, List.setIfInBounds_toArray, List.set_cons_zero, List.set_cons_succ]
    refine wpAnyH_take (i := 13) (oi := ⟨some 7, Op.assign (.tmp 18), _, _, _, none⟩) (v := .int .i64 0) rfl (by kernel_rfl) (by kernel_rfl) (by kernel_rfl) (fun _ _ _ h => h) (Or.inl ⟨by rfl, fun w hSw => by (try dsimp only at hSw); go_simp⟩) (by assumption) ?_
    simp only [Act.put, List.setIfInBounds_toArray, List.set_cons_zero, List.set_cons_succ]
    refine wpAnyH_done (by kernel_rfl) ?_ _
    go_wp2_with fail
    go_meet
    case rel => exact ⟨_, rfl, hHd4, hbxZ⟩
  ·go_simp
   have hbx : BxAt (W.drew.alloc (.cells #[.int .i64 0, .int .i64 0, .int .i64 0, .int .i64 0] 40)) W.heap.size zK zK := heap_alloc_last W.drew _
   have hA : W.heap.size ≤ W.heap.size := Nat.le_refl _
   refine hK.out _ _ (hHeld.later (below_alloc _ _)) (fun hHd1 => ?_)
   clear hHeld
   clear hK K
   try simp only [Act.put, List.setIfInBounds_toArray, List.set_cons_zero, List.set_cons_succ]
   refine wpAnyH_ready (rs := [2]) (by kernel_rfl) (by simp) ?_
   refine AllReadyH.cons rfl (fun K hK => ?_) AllReadyH.nil
   go_simp
   refine (h1 _).mono ?_
   rintro r w5 ⟨rfl, hb5⟩
   go_wp2_with fail
   have hbx5 := hbx.later hb5
   refine hK.out _ _ (hHd1.later hb5) (fun hHd2 => ?_)
   clear hHd1 hb5 hbx
   clear hK K
   try simp only [Act.put, List.setIfInBounds_toArray, List.set_cons_zero, List.set_cons_succ]
   refine wpAnyH_ready (rs := [7]) (by kernel_rfl) (by simp) ?_
   refine AllReadyH.cons rfl (fun K hK => ?_) AllReadyH.nil
   go_simp
   refine (h2 _).mono ?_
   rintro r w6 ⟨rfl, hb6⟩
   go_wp2_with fail
   have hbx6 := hbx5.later hb6
   obtain ⟨k0, k1, k2, k3⟩ := hbx6.cells
   have f0 := Rt.row_frozen hbx6 0
   have f1 := Rt.row_frozen hbx6 1
   have f2 := Rt.row_frozen hbx6 2
   have f3 := Rt.row_frozen hbx6 3
   refine hK.out _ _ (hHd2.later hb6) (fun hHd3 => ?_)
   clear hHd2 hb6 hbx5
   clear hK K
   try simp only [Act.put, List.setIfInBounds_toArray, List.set_cons_zero, List.set_cons_succ]
   refine wpAnyH_take (i := 8) (oi := ⟨some 8, Op.move (.tmp 16), _, _, _, none⟩) (v := .tuple #[.agg #[.int .i64 a.bas, .int .i64 a.stp, .int .i64 b.bas, .int .i64 b.stp], .int .i64 0]) rfl (by kernel_rfl) (by kernel_rfl) (by kernel_rfl) (fun _ _ _ h => h) (Or.inl ⟨by rfl, fun w hSw => by (try dsimp only at hSw); go_simp⟩) (by assumption) ?_
   simp only [Act.put, List.setIfInBounds_toArray, List.set_cons_zero, List.set_cons_succ]
   refine wpAnyH_take (i := 9) (oi := ⟨some 17, Op.extract (.tmp 8) 0, _, _, _, none⟩) (v := .agg #[.int .i64 a.bas, .int .i64 a.stp, .int .i64 b.bas, .int .i64 b.stp]) rfl (by kernel_rfl) (by kernel_rfl) (by kernel_rfl) (fun _ _ _ h => h) (Or.inl ⟨by rfl, fun w hSw => by (try dsimp only at hSw); go_simp⟩) (by assumption) ?_
   simp only [Act.put, List.setIfInBounds_toArray, List.set_cons_zero, List.set_cons_succ]
   refine wpAnyH_take (i := 10) (oi := ⟨some 18, Op.extract (.tmp 8) 1, _, _, _, none⟩) (v := .int .i64 0) rfl (by kernel_rfl) (by kernel_rfl) (by kernel_rfl) (fun _ _ _ h => h) (Or.inl ⟨by rfl, fun w hSw => by (try dsimp only at hSw); go_simp⟩) (by assumption) ?_
   simp only [Act.put, List.setIfInBounds_toArray, List.set_cons_zero, List.set_cons_succ]
   refine wpAnyH_ready (rs := [12]) (by kernel_rfl) (by simp) ?_
   refine AllReadyH.cons rfl (fun K hK => ?_) AllReadyH.nil
   go_simp
   first | (refine hK.out _ _ (hpre.later (below_alloc _ _)) (fun hHd4 => ?_); have hbxZ : BxAt (w6.alloc (.cells #[.int .i64 a.bas, .int .i64 a.stp, .int .i64 b.bas, .int .i64 b.stp] 40)) w6.heap.size a b := heap_alloc_last w6 _) | (refine hK.out _ _ (hHd3.four hbx6 hA hWw _ _ _ _) (fun hHd4 => ?_); have hbxZ := BxAt.set hbx6 a b)
   clear hK K
   try simp only [Act.put, List.setIfInBounds_toArray, List.set_cons_zero, List.set_cons_succ]
   refine wpAnyH_take (i := 13) (oi := ⟨some 7, Op.assign (.tmp 18), _, _, _, none⟩) (v := .int .i64 0) rfl (by kernel_rfl) (by kernel_rfl) (by kernel_rfl) (fun _ _ _ h => h) (Or.inl ⟨by rfl, fun w hSw => by (try dsimp only at hSw); go_simp⟩) (by assumption) ?_
   simp only [Act.put, List.setIfInBounds_toArray, List.set_cons_zero, List.set_cons_succ]
   refine wpAnyH_done (by kernel_rfl) ?_ _
   go_wp2_with fail
   go_meet
   case rel => exact ⟨_, rfl, hHd4, hbxZ⟩
 case rest =>
  obtain ⟨A, rfl, hG9, hbx9⟩ := hcut
  obtain ⟨k0, k1, k2, k3⟩ := hbx9.cells
  have hcl := hG9.g.cell
  have hrow := hG9.g.row
  obtain ⟨a1, cap1, rfl⟩ := Rs.owns_slice hrow
  have HG : Hid (GH w W wc BT BL n0 t (.slice a1 l.length cap1) l) := hG9
  have hlen := HL.out
  have hn0 : n0 ≤ wc.heap.size := HG.out.g.sz
  clear hG9 hbx9 h1 h2 hG0 hWw he hv hc v0 v1
  go_wp2_with (at_builtin; (refine wpList_append_own _ rfl _ _ 29 rfl n0 112 i0 (.agg #[.int .i64 0, .int .i64 0, .int .i64 0, .int .i64 0, .int .i64 0, .int .i64 0]) 6 48 Tryz.underlying29 hi hz0 hz1 hz2 rfl (by decide) (.slice a1 l.length cap1) l.length (isl l) rfl (hrow.alloc _) ⟨wc.heap.size, 0, none⟩ 1 1 [.int .i64 (v : Int), .int .i64 (c : Int), .int .i64 a.bas, .int .i64 a.stp, .int .i64 b.bas, .int .i64 b.stp] rfl rfl (cell_row_new _ _ _) (by simp [Value.oneCell']) (by unfold maxLen; omega) (by omega) (by simp; omega) ?_); intro v' w3 hown' hg3 _; obtain ⟨a2, cap2, hv2⟩ := Rs.owns_slice hown'; subst hv2; have HAP : Hid (w3.heap[BL]? = some (.cells #[.slice a1 l.length cap1] 29 (0, 0)) ∧ GL w (w3.setCell ⟨BL, 0, none⟩ (.slice a2 (l.length + 1) cap2)) BT BL n0 t (.slice a2 (l.length + 1) cap2) (l ++ [⟨v, c, a, b⟩])) := HG.out.g.app (x := ⟨v, c, a, b⟩) hown' hg3; have HKP : Hid (KeptT wc (w3.setCell ⟨BL, 0, none⟩ (.slice a2 (l.length + 1) cap2))) := HG.out.g.appK (v' := .slice a2 (l.length + 1) cap2) hg3; clear hown' hg3; have hcB : w3.cell? ⟨BL, 0, none⟩ = some (.slice a1 l.length cap1) := cell_of_row w3 BL 0 _ _ _ HAP.out.1; have hfB : w3.frozen? ⟨BL, 0, none⟩ = false := Rt.row_frozen HAP.out.1 0)
  go_end0
  exact ⟨rfl, GiveP.of (by rw [HI.out]; exact HAP.out.2) (HG.out.k.trans HKP.out)⟩
open Rs (En zE rcs RoAt tkn tk RdS)
open Sh (belB msk)
theorem ko_gd {t : Tr} (h : tck t = true) {c : Nat} (hc : c < 85) (h0 : koE t (c : Int) = 0) : Gd (kyA t c).bas (kyA t c).stp := by
 rw [kyA_ko h hc h0]
 have hr := tck_right h
 rcases kn h hc h0 with ⟨h1, e⟩ | ⟨s, hs, e1, ht, e⟩
 ·rw [e]
  exact ((Rt.kchk_iff.1 hr.ks).1 c h1).1
 ·rw [e]
  obtain ⟨a1, a2, a3, a4, _⟩ := hr.taken hs ht
  have a5 := (hr.fs s hs).2.1
  have a6 := hr.e1
  exact ⟨by dsimp only; omega, by dsimp only; omega, by dsimp only; omega, by dsimp only; omega⟩
theorem ks_gd {t : Tr} (h : tck t = true) {v : Nat} (hv : v < 21) : Gd (t.ks v).bas (t.ks v).stp := ((Rt.kchk_iff.1 (tck_right h).ks).1 v hv).1
def GLX (w W : World) (BT BL n0 : Nat) (t : Tr) (l : List It) : Prop := ∃ vl, GL w W BT BL n0 t vl l
def ItsP (w w' : World) (l : List It) (e : Ending) : Prop := ∃ v, e = .returned v ∧ w'.ownsRow (w.heap.size + 2) 112 6 v l.length (isl l) ∧ Below w.heap.size w w'
def StAt (w : World) (B : Nat) (p : Int × Int) : Prop := w.heap[B]? = some (.cells #[.int .i64 p.1, .int .i64 p.2] 108 (0, 0))
theorem StAt.cells {w : World} {B : Nat} {p : Int × Int} (h : StAt w B p) : w.cell? ⟨B, 0, none⟩ = some (.int .i64 p.1) ∧ w.cell? ⟨B, 1, none⟩ = some (.int .i64 p.2) := ⟨cell_of_row w B 0 _ _ _ h, cell_of_row w B 1 _ _ _ h⟩
theorem StAt.later {w w' : World} {B : Nat} {p : Int × Int} (h : StAt w B p) (hb : Below w.heap.size w w') : StAt w' B p := (hb.block B (Array.getElem?_eq_some_iff.1 h).1).trans h
theorem path_pn (s : Nat) (hs : s < 64) (w : World) : Calls Tryz.prog 73 #[.int .i64 (s : Int)] w fun e w' => e = .returned (.tuple #[.agg #[.int .i64 (pn s 0 : Nat), .int .i64 (pn s 1 : Nat), .int .i64 (pn s 2 : Nat)], .bool true]) ∧ Below w.heap.size w w' := by
 have h := Sh.path_yes (s : Int) (by omega) (by omega) w
 rw [show (5 + (s : Int) / 4) = ((pn s 0 : Nat) : Int) by unfold pn; simp, show (1 + (s : Int) / 16) = ((pn s 1 : Nat) : Int) by unfold pn; simp, show (0 : Int) = ((pn s 2 : Nat) : Int) by unfold pn; simp] at h
 exact h
theorem ix0 (x y z : Value) (w : World) : (Instr.index 150 (.agg #[x, y, z]) (.int .i64 0)).run Tryz.prog w = .ok x w := by kernel_rfl
theorem ix1 (x y z : Value) (w : World) : (Instr.index 150 (.agg #[x, y, z]) (.int .i64 1)).run Tryz.prog w = .ok y w := by kernel_rfl
theorem ix2 (x y z : Value) (w : World) : (Instr.index 150 (.agg #[x, y, z]) (.int .i64 2)).run Tryz.prog w = .ok z w := by kernel_rfl
set_option maxRecDepth 100000 in
set_option maxHeartbeats 4000000 in
theorem items_any (t : Tr) (r : Nat) (hr : r < 4294967296) (ht : tck t = true) (a : Option Addr) (c : Nat) (js : List (Int × Int)) (w : World) (hl : js.length ≤ 64) (hrd : RdS w a js) (hseat : ∀ p ∈ js, ∃ s : Nat, s < 64 ∧ p.2 = (s : Int) ∧ tkn (t.ro s) = true) :
  Calls Tryz.prog 28 #[.agg (tcs t), .int .u32 (r : Int), .slice a js.length c] w fun e w' => ItsP w w' (its t r js) e := by
 have hep : t.ep < 9223372036854775808 := by have := (tck_right ht).e1; omega
 have h1 := TrAt.new w t
 have hb1 := alloc_tr w t
 have h2 := heap_alloc_last (w.alloc (.cells (tcs t) 62)) (.cells #[.slice none 0 0] 29)
 have hb2 := below_alloc (w.alloc (.cells (tcs t) 62)) (.cells #[.slice none 0 0] 29)
 rw [World.size_alloc] at h2
 have hG0 : GL w ((w.alloc (.cells (tcs t) 62)).alloc (.cells #[.slice none 0 0] 29)) w.heap.size (w.heap.size + 1) (w.heap.size + 2) t (.slice none 0 0) [] :=
  ⟨h1.later hb2, h2, World.ownsRow_nil _ _ _ _, hb1.trans (hb2.mono hb1.size), by omega, by omega, by omega, by omega, by simp⟩
 clear h1 hb1 h2 hb2
 have htk := Rs.taken_any t.ro
 obtain ⟨cr, hcr⟩ : ∃ c, rcs t.ro = c := ⟨_, rfl⟩
 obtain ⟨ct, hct⟩ : ∃ c, tcs t = c := ⟨_, rfl⟩
 simp only [hcr] at htk
 have HR : Hid (rcs t.ro = cr) := hcr
 have HT : Hid (tcs t = ct) := hct
 clear hcr hct
 go_enter Tryz.func28, Tryz.ntmps28
 go_upto_region 3 with (fail)
 generalize (w.alloc (.cells (tcs t) 62)).alloc (.cells #[.slice none 0 0] 29) = w1 at *
 rw [HT.out]
 obtain ⟨BT, hBT⟩ : ∃ B, w.heap.size = B := ⟨_, rfl⟩
 obtain ⟨BL, hBL⟩ : ∃ B, w.heap.size + 1 = B := ⟨_, rfl⟩
 obtain ⟨n0, hn0⟩ : ∃ B, w.heap.size + 2 = B := ⟨_, rfl⟩
 rw [hn0, hBL, hBT] at hG0
 rw [hBL, hBT]
 have HN : Hid (w.heap.size + 2 = n0) := hn0
 clear hn0 hBL hBT
 have hT1 := hG0.tr
 go_wp2_with (refine rdR hT1 HR.out _ rfl rfl rfl ?_)
 refine (htk _).mono ?_
 rintro r' w2 ⟨rfl, hb2⟩
 have HG2 : Hid (GL w w2 BT BL n0 t (.slice none 0 0) []) := hG0.later hb2
 have HTK : Hid (∀ v : Int, (bits .and .u64 ((tk t.ro : Nat) : Int) (msk v) != 0) = hld t.ro v) := fun v => hld_and t.ro v
 generalize ((tk t.ro : Nat) : Int) = TK at *
 clear htk hG0 hT1 hb2
 go_wp2_with fail
 go_loopw [10] (fun i wx => ∃ j : Nat, j ≤ 21 ∧ i = .int .i64 (20 - (j : Int)) ∧ GLX w wx BT BL n0 t (dI t r j)) (fun i _ => (intOf i + 1).toNat)
 case atStart => exact ⟨0, by omega, rfl, _, HG2.out⟩
 case round =>
  obtain ⟨j, hj, rfl, hGX⟩ := hrel
  have HGX : Hid (GLX w wr BT BL n0 t (dI t r j)) := hGX
  clear hGX HG2
  by_cases hj8 : j < 21
  ·obtain ⟨v, hv⟩ : ∃ v : Nat, 20 - j = v := ⟨_, rfl⟩
   have hvi : (20 : Int) - (j : Int) = (v : Int) := by omega
   rw [hvi]
   have v0 : (0 : Int) ≤ (v : Int) := by omega
   have v1 : (v : Int) < 21 := by omega
   have hv21 : v < 21 := by omega
   have HI : Hid ((20 : Int) - ((j + 1 : Nat) : Int) = (v : Int) - 1) := by unfold Hid; omega
   have HV : Hid (20 - j = v) := hv
   have h9 := isIn_any r v hr hv21
   clear hv hvi
   cases hb : r.testBit v with
   | false =>
    rw [hb] at h9
    have HD : Hid (dI t r (j + 1) = dI t r j) := dI_no (by rw [HV.out]; exact hb)
    go_wp2_with (go_at_call 70; refine (h9 _).mono ?_; rintro r' wr ⟨rfl, rfl⟩)
    go_roundw
    case rel => exact ⟨j + 1, by omega, by rw [HI.out], by rw [HD.out]; exact HGX.out⟩
    case measure => simp [intOf]
   | true =>
    rw [hb] at h9
    have HD : Hid (dI t r (j + 1) = dI t r j ++ nI t v 4) := by rw [← HV.out]; exact dI_yes (by rw [HV.out]; exact hb)
    go_wp2_with (go_at_call 70; refine (h9 _).mono ?_; rintro r' wr ⟨rfl, rfl⟩)
    go_loopw [31] (fun i wx => ∃ k : Nat, k ≤ 4 ∧ i = .int .i64 (k : Int) ∧ GLX w wx BT BL n0 t (dI t r j ++ nI t v k)) (fun i _ => 4 - (intOf i).toNat)
    case atStart => exact ⟨0, by omega, rfl, by rw [nI_zero, List.append_nil]; exact HGX.out⟩
    case round =>
     obtain ⟨k, hk, rfl, hGX⟩ := hrel
     have HGX2 : Hid (GLX w wr BT BL n0 t (dI t r j ++ nI t v k)) := hGX
     clear hGX HGX h9
     by_cases hk4 : k < 4
     ·have k0 : (0 : Int) ≤ (k : Int) := by omega
      have k1 : (k : Int) < 4 := by omega
      have hch := Sh.child_yes (v : Int) (k : Int) v0 v1 k0 k1
      rw [show (4 * (v : Int) + 1 + (k : Int)) = ((4 * v + 1 + k : Nat) : Int) by push_cast; rfl] at hch
      have hms := Sh.mask_any ((4 * v + 1 + k : Nat) : Int)
      have hq := HTK.out ((4 * v + 1 + k : Nat) : Int)
      have hc85 : 4 * v + 1 + k < 85 := by omega
      cases hh : hld t.ro ((4 * v + 1 + k : Nat) : Int) with
      | false =>
       have HD2 : Hid (nI t v (k + 1) = nI t v k) := nI_no hh
       rw [hh] at hq
       obtain ⟨ci, hci⟩ : ∃ ci, 4 * v + 1 + k = ci := ⟨_, rfl⟩
       rw [hci] at hch hms hq
       generalize msk (ci : Int) = M at *
       clear hh hc85 hci
       go_wp2_with (first | (go_at_call 71; refine (hch _).mono ?_; rintro r' wr ⟨rfl, rfl⟩) | (go_at_call 72; refine (hms _).mono ?_; rintro r' wr ⟨rfl, rfl⟩))
       go_roundw
       case rel => exact ⟨k + 1, by omega, by go_num, by rw [HD2.out]; exact HGX2.out⟩
       case measure => simp [intOf]; omega
      | true =>
       have HD2 : Hid (nI t v (k + 1) = nI t v k ++ [mkI t v (4 * v + 1 + k)]) := nI_yes hh
       obtain ⟨vl, hG⟩ := HGX2.out
       have hgv := give_any t v (4 * v + 1 + k) hv21 hc85 hep (ko_gd ht hc85 (hld_leaf ht hc85 hh)) (ks_gd ht hv21) hG (by have h1 := dI_len t r j (by omega); have h2 := nI_len t v k; have h3 := Rt.cd_le r j; rw [List.length_append]; omega)
       rw [hh] at hq
       obtain ⟨ci, hci⟩ : ∃ ci, 4 * v + 1 + k = ci := ⟨_, rfl⟩
       rw [hci] at hch hms hq hgv HD2
       generalize msk (ci : Int) = M at *
       clear hh hc85 hci hG
       go_wp2_with (first | (go_at_call 71; refine (hch _).mono ?_; rintro r' wr ⟨rfl, rfl⟩) | (go_at_call 72; refine (hms _).mono ?_; rintro r' wr ⟨rfl, rfl⟩) | (go_at_call 66; refine hgv.mono ?_; rintro r' w8 ⟨rfl, hgp⟩))
       obtain ⟨vl8, hG8, hK8⟩ := hgp
       go_roundw
       case rel => exact ⟨k + 1, by omega, by go_num, by rw [HD2.out, ← List.append_assoc]; exact ⟨vl8, hG8⟩⟩
       case measure => simp [intOf]; omega
     ·obtain rfl : k = 4 := by omega
      rw [show ((4 : Nat) : Int) = 4 from rfl]
      go_wp2_with fail
      go_roundw
      case rel => exact ⟨j + 1, by omega, by rw [HI.out], by rw [HD.out]; exact HGX2.out⟩
      case measure => simp [intOf]
  ·obtain rfl : j = 21 := by omega
   rw [show (20 : Int) - ((21 : Nat) : Int) = -1 by omega]
   have HGX3 : Hid (GLX w wr BT BL n0 t (dI t r 21 ++ jJ t r (js.take 0))) := by have h := HGX.out; unfold Hid; rw [List.take_zero, jJ_nil, List.append_nil]; exact h
   clear HGX
   go_wp2_with fail
   go_loopw [49] (fun i wx => ∃ m : Nat, m ≤ js.length ∧ i = .int .i64 (m : Int) ∧ GLX w wx BT BL n0 t (dI t r 21 ++ jJ t r (js.take m))) (fun i _ => js.length - (intOf i).toNat)
   case atStart => exact ⟨0, by omega, rfl, HGX3.out⟩
   case round =>
    obtain ⟨m, hm, rfl, hGX⟩ := hrel
    have HGX : Hid (GLX w wr BT BL n0 t (dI t r 21 ++ jJ t r (js.take m))) := hGX
    clear hGX HGX3
    by_cases hmN : m < js.length
    ·have i1 : (0 : Int) ≤ (m : Int) := by omega
     have i2 : (m : Int) < (js.length : Int) := by omega
     obtain ⟨vl, hG⟩ := HGX.out
     obtain ⟨b, hal, hc0, hc1⟩ := (hrd.later hG.bel) m hmN
     obtain ⟨s, hs8, hps, hts⟩ := hseat (js.getD m (0, 0)) (by rw [List.getD_eq_getElem?_getD, List.getElem?_eq_getElem hmN]; exact List.getElem_mem _)
     have HT : Hid (jJ t r (js.take (m + 1)) = jJ t r (js.take m) ++ jI t r s 3) := by
      unfold Hid
      rw [take_snoc2 hmN, jJ_snoc, hps, Int.toNat_natCast]
     obtain ⟨p, hp⟩ : ∃ p, js.getD m (0, 0) = p := ⟨_, rfl⟩
     rw [hp] at hc0 hc1 hps
     clear hp
     obtain ⟨px, py⟩ := p
     dsimp only at hc0 hc1 hps
     subst hps
     subst hal
     have hpa := path_pn s hs8
     have hgs := ko_gd ht (c := 21 + s) (by omega) (koK_leaf ht hs8 hts).1
     have hlf := Sh.leaf_any (s : Int)
     rw [Sh.lef_yes (by omega) (by omega)] at hlf
     have hSE : StAt (wr.alloc (.cells #[.int .i64 px, .int .i64 (s : Int)] 108)) wr.heap.size (px, (s : Int)) := heap_alloc_last wr _
     have HG2 : Hid (GL w (wr.alloc (.cells #[.int .i64 px, .int .i64 (s : Int)] 108)) BT BL n0 t vl (dI t r 21 ++ jJ t r (js.take m))) := hG.later (below_alloc _ _)
     clear hG HGX
     go_upto_region 18 with (fail)
     generalize wr.alloc (.cells #[.int .i64 px, .int .i64 (s : Int)] 108) = w3 at *
     generalize wr.heap.size = C at *
     obtain ⟨se0, se1⟩ := hSE.cells
     dsimp only at se0 se1
     go_wp2_with fail
     refine (hpa _).mono ?_
     rintro r' w4 ⟨rfl, hb4⟩
     have hSE4 := hSE.later hb4
     have HG4 : Hid (GL w w4 BT BL n0 t vl (dI t r 21 ++ jJ t r (js.take m))) := HG2.out.later hb4
     have hSE5 := hSE4.later (below_alloc w4 (.cells #[.int .i64 (pn s 0 : Nat), .int .i64 (pn s 1 : Nat), .int .i64 (pn s 2 : Nat)] 150))
     have HG5 : Hid (GL w (w4.alloc (.cells #[.int .i64 (pn s 0 : Nat), .int .i64 (pn s 1 : Nat), .int .i64 (pn s 2 : Nat)] 150)) BT BL n0 t vl (dI t r 21 ++ jJ t r (js.take m))) := HG4.out.later (below_alloc _ _)
     clear hpa hSE hSE4 HG2 HG4 hb4 se0 se1
     go_upto_region 19 with (fail)
     have hIx0 := ix0 (.int .i64 (pn s 0 : Nat)) (.int .i64 (pn s 1 : Nat)) (.int .i64 (pn s 2 : Nat))
     have hIx1 := ix1 (.int .i64 (pn s 0 : Nat)) (.int .i64 (pn s 1 : Nat)) (.int .i64 (pn s 2 : Nat))
     have hIx2 := ix2 (.int .i64 (pn s 0 : Nat)) (.int .i64 (pn s 1 : Nat)) (.int .i64 (pn s 2 : Nat))
     obtain ⟨p0, hp0⟩ : ∃ p0, pn s 0 = p0 := ⟨_, rfl⟩
     obtain ⟨p1, hp1⟩ : ∃ p0, pn s 1 = p0 := ⟨_, rfl⟩
     obtain ⟨p2, hp2⟩ : ∃ p0, pn s 2 = p0 := ⟨_, rfl⟩
     have HP0 : Hid (pn s 0 = p0) := hp0
     have HP1 : Hid (pn s 1 = p1) := hp1
     have HP2 : Hid (pn s 2 = p2) := hp2
     rw [hp0, hp1, hp2] at hIx0 hIx1 hIx2 hSE5 HG5
     rw [hp0, hp1, hp2]
     clear hp0 hp1 hp2
     have HSE5 : Hid (StAt (w4.alloc (.cells #[.int .i64 (p0 : Int), .int .i64 (p1 : Int), .int .i64 (p2 : Int)] 150)) C (px, (s : Int))) := hSE5
     clear hSE5
     go_wp2_with fail
     go_loopw [60] (fun i wx => ∃ k : Nat, k ≤ 3 ∧ i = .int .i64 (k : Int) ∧ GLX w wx BT BL n0 t (dI t r 21 ++ jJ t r (js.take m) ++ jI t r s k) ∧ StAt wx C (px, (s : Int))) (fun i _ => 3 - (intOf i).toNat)
     case atStart => exact ⟨0, by omega, rfl, by rw [jI_zero, List.append_nil]; exact ⟨vl, HG5.out⟩, HSE5.out⟩
     case round =>
      obtain ⟨k, hk, rfl, hGX, hse⟩ := hrel
      have HGX : Hid (GLX w wr BT BL n0 t (dI t r 21 ++ jJ t r (js.take m) ++ jI t r s k)) := hGX
      have HSE : Hid (StAt wr C (px, (s : Int))) := hse
      clear hGX hse HG5 HSE5
      have hk3 : k = 0 ∨ k = 1 ∨ k = 2 ∨ k = 3 := by omega
      rcases hk3 with rfl | rfl | rfl | rfl
      ·rw [show ((0 : Nat) : Int) = 0 from rfl]
       have hv21 : p0 < 21 := by have := pn_lt hs8 0; rw [HP0.out] at this; exact this
       have h9 := isIn_any r p0 hr hv21
       cases hb : r.testBit p0 with
       | true =>
        rw [hb] at h9
        have HJ : Hid (jI t r s (0 + 1) = jI t r s 0) := jI_yes (by rw [HP0.out]; exact hb)
        clear hlf
        go_wp2_with (go_at_call 70; refine (h9 _).mono ?_; rintro r' wr ⟨rfl, rfl⟩)
        go_roundw
        case rel => exact ⟨0 + 1, by omega, by go_num, by rw [HJ.out]; exact HGX.out, HSE.out⟩
        case measure => simp [intOf]
       | false =>
        rw [hb] at h9
        have HJ : Hid (jI t r s (0 + 1) = jI t r s 0 ++ [mkI t p0 (21 + s)]) := by rw [← HP0.out]; exact jI_no (by rw [HP0.out]; exact hb)
        obtain ⟨vl', hG⟩ := HGX.out
        have hgv := give_any t p0 (21 + s) hv21 (by omega) hep hgs (ks_gd ht hv21) hG (by
         have h1 := dI_len t r 21 (by omega)
         have h2 := jJ_len t r (js.take m)
         have h3 := jI_len t r s 0
         have h4 := Rt.cd_le r 21
         have h5 : (js.take m).length ≤ 64 := by rw [List.length_take]; omega
         rw [List.length_append, List.length_append]
         omega)
        rw [show (((21 + s : Nat) : Int)) = 21 + (s : Int) by push_cast; rfl] at hgv
        obtain ⟨se0, se1⟩ := HSE.out.cells
        dsimp only at se0 se1
        clear hG
        go_wp2_with (first | (go_at_call 70; refine (h9 _).mono ?_; rintro r' wr ⟨rfl, rfl⟩) | (go_at_call 74; refine (hlf _).mono ?_; rintro r' wr ⟨rfl, rfl⟩) | (go_at_call 66; refine hgv.mono ?_; rintro r' w8 ⟨rfl, hgp⟩))
        obtain ⟨vl8, hG8, hK8⟩ := hgp
        go_roundw
        case rel => exact ⟨0 + 1, by omega, by go_num, by rw [HJ.out, ← List.append_assoc]; exact ⟨vl8, hG8⟩, hK8 _ _ _ HSE.out (by decide) (by decide)⟩
        case measure => simp [intOf]
      ·rw [show ((1 : Nat) : Int) = 1 from rfl]
       have hv21 : p1 < 21 := by have := pn_lt hs8 1; rw [HP1.out] at this; exact this
       have h9 := isIn_any r p1 hr hv21
       cases hb : r.testBit p1 with
       | true =>
        rw [hb] at h9
        have HJ : Hid (jI t r s (1 + 1) = jI t r s 1) := jI_yes (by rw [HP1.out]; exact hb)
        clear hlf
        go_wp2_with (go_at_call 70; refine (h9 _).mono ?_; rintro r' wr ⟨rfl, rfl⟩)
        go_roundw
        case rel => exact ⟨1 + 1, by omega, by go_num, by rw [HJ.out]; exact HGX.out, HSE.out⟩
        case measure => simp [intOf]
       | false =>
        rw [hb] at h9
        have HJ : Hid (jI t r s (1 + 1) = jI t r s 1 ++ [mkI t p1 (21 + s)]) := by rw [← HP1.out]; exact jI_no (by rw [HP1.out]; exact hb)
        obtain ⟨vl', hG⟩ := HGX.out
        have hgv := give_any t p1 (21 + s) hv21 (by omega) hep hgs (ks_gd ht hv21) hG (by
         have h1 := dI_len t r 21 (by omega)
         have h2 := jJ_len t r (js.take m)
         have h3 := jI_len t r s 1
         have h4 := Rt.cd_le r 21
         have h5 : (js.take m).length ≤ 64 := by rw [List.length_take]; omega
         rw [List.length_append, List.length_append]
         omega)
        rw [show (((21 + s : Nat) : Int)) = 21 + (s : Int) by push_cast; rfl] at hgv
        obtain ⟨se0, se1⟩ := HSE.out.cells
        dsimp only at se0 se1
        clear hG
        go_wp2_with (first | (go_at_call 70; refine (h9 _).mono ?_; rintro r' wr ⟨rfl, rfl⟩) | (go_at_call 74; refine (hlf _).mono ?_; rintro r' wr ⟨rfl, rfl⟩) | (go_at_call 66; refine hgv.mono ?_; rintro r' w8 ⟨rfl, hgp⟩))
        obtain ⟨vl8, hG8, hK8⟩ := hgp
        go_roundw
        case rel => exact ⟨1 + 1, by omega, by go_num, by rw [HJ.out, ← List.append_assoc]; exact ⟨vl8, hG8⟩, hK8 _ _ _ HSE.out (by decide) (by decide)⟩
        case measure => simp [intOf]
      ·rw [show ((2 : Nat) : Int) = 2 from rfl]
       have hv21 : p2 < 21 := by have := pn_lt hs8 2; rw [HP2.out] at this; exact this
       have h9 := isIn_any r p2 hr hv21
       cases hb : r.testBit p2 with
       | true =>
        rw [hb] at h9
        have HJ : Hid (jI t r s (2 + 1) = jI t r s 2) := jI_yes (by rw [HP2.out]; exact hb)
        clear hlf
        go_wp2_with (go_at_call 70; refine (h9 _).mono ?_; rintro r' wr ⟨rfl, rfl⟩)
        go_roundw
        case rel => exact ⟨2 + 1, by omega, by go_num, by rw [HJ.out]; exact HGX.out, HSE.out⟩
        case measure => simp [intOf]
       | false =>
        rw [hb] at h9
        have HJ : Hid (jI t r s (2 + 1) = jI t r s 2 ++ [mkI t p2 (21 + s)]) := by rw [← HP2.out]; exact jI_no (by rw [HP2.out]; exact hb)
        obtain ⟨vl', hG⟩ := HGX.out
        have hgv := give_any t p2 (21 + s) hv21 (by omega) hep hgs (ks_gd ht hv21) hG (by
         have h1 := dI_len t r 21 (by omega)
         have h2 := jJ_len t r (js.take m)
         have h3 := jI_len t r s 2
         have h4 := Rt.cd_le r 21
         have h5 : (js.take m).length ≤ 64 := by rw [List.length_take]; omega
         rw [List.length_append, List.length_append]
         omega)
        rw [show (((21 + s : Nat) : Int)) = 21 + (s : Int) by push_cast; rfl] at hgv
        obtain ⟨se0, se1⟩ := HSE.out.cells
        dsimp only at se0 se1
        clear hG
        go_wp2_with (first | (go_at_call 70; refine (h9 _).mono ?_; rintro r' wr ⟨rfl, rfl⟩) | (go_at_call 74; refine (hlf _).mono ?_; rintro r' wr ⟨rfl, rfl⟩) | (go_at_call 66; refine hgv.mono ?_; rintro r' w8 ⟨rfl, hgp⟩))
        obtain ⟨vl8, hG8, hK8⟩ := hgp
        go_roundw
        case rel => exact ⟨2 + 1, by omega, by go_num, by rw [HJ.out, ← List.append_assoc]; exact ⟨vl8, hG8⟩, hK8 _ _ _ HSE.out (by decide) (by decide)⟩
        case measure => simp [intOf]
      ·rw [show ((3 : Nat) : Int) = 3 from rfl]
       have HE : Hid (GLX w wr BT BL n0 t (dI t r 21 ++ jJ t r (js.take (m + 1)))) := by unfold Hid; rw [HT.out, ← List.append_assoc]; exact HGX.out
       clear hlf HGX
       go_wp2_with fail
       go_roundw
       case rel => exact ⟨m + 1, by omega, by go_num, HE.out⟩
       case measure => simp [intOf]; omega
    ·obtain rfl : m = js.length := by omega
     have hdk : decide ((js.length : Int) < (js.length : Int)) = false := by simp
     rw [List.take_length] at HGX
     obtain ⟨vl, hG⟩ := HGX.out
     obtain ⟨U, hU⟩ : ∃ U, dI t r 21 ++ jJ t r js = U := ⟨_, rfl⟩
     rw [hU] at hG
     have HU : Hid (its t r js = U) := hU
     have hcl := hG.cell
     obtain ⟨a1, cap1, rfl⟩ := Rs.owns_slice hG.row
     have HG : Hid (GL w wr BT BL n0 t (.slice a1 U.length cap1) U) := hG
     clear hG hU HGX
     go_wp2_with fail
     go_ret
     exact ⟨_, rfl, by rw [HN.out, HU.out]; exact HG.out.row, HG.out.bel⟩
end Go.Proofs.YtdkfifnhmfbagaaGreatDoor
