/- For every row of batches, every list of reveals and every list of people: TopSecretReplies, in its second form (the listed variable as the program's text lays it), and the card. MADE by wip/mk_trp.py. -/
import Derived.Test.YtpimbpfefhkojabGreatDoorCards
import Derived.Test.YtpimbpfefhkojabGreatDoorTie
import Derived.Test.YtpimbpfefhkojabGreatDoorRqD
import Derived.Test.YtpimbpfefhkojabGreatDoorPmC
import Derived.Test.YtpimbpfefhkojabGreatDoorRsK
import Derived.WalkKit
import Derived.ProofKit
import Derived.OpenShut
import Derived.Deep.DeepHandedRow
import Derived.Deep.DeepWitnessRowRef
import Derived.SizedLaws
namespace Go.Proofs.YtpimbpfefhkojabGreatDoor.topSecretRepliesUpto
open Go.ChangeShapes Go.WideShapes Go.ChangeAt Go.RowKit Go.Maps Go.Shelf
open Rt (Ky KyAt zK)
open Rs
open Rq (RA rpa zP QAt rpx rpxs rpxs_succ rpxs_len rpx_yes rpx_no all_wi secretR oneOn_any tOn on_1 answer_any rAnswer_any AnA rqa stRpn ldRp neRp anE anP)
set_option linter.unusedVariables false
set_option linter.unusedSimpArgs false

theorem vs_of {W : World} (hL : laidMetH Tryz.prog Rows.topSecretRepliesUptoRow.laid W) : Tb W := tb_of (show laidMet Tryz.prog Rows.topSecretRepliesUptoRow.laid W from hL)
structure TC (t : Tr) (c : Array Value) : Prop where
  out : tcs t = c
theorem tz_new (w : World) {t : Tr} {c : Array Value} (hc : tcs t = c) : TrAt ((w.alloc (.cells Tryz.zeroCells47 47)).setRow w.heap.size c) w.heap.size t := by subst hc; exact (TrAt.zero w).row t
theorem tz_later (w : World) (c : Array Value) : Below w.heap.size w ((w.alloc (.cells Tryz.zeroCells47 47)).setRow w.heap.size c) := Rt.setRow_below (Nat.le_refl _) (below_alloc _ _) _
theorem ra_path {w : World} {P : Nat} {p : Rq.Rp} (h : RA w P p) : ∀ j u, ((Rq.rpl p).drop 3)[j]? = some u → w.cell? ((⟨P, 3, none⟩ : Addr).add j) = some u := fun j u hu => by
  rw [Rs.add_plain]
  exact Rq.ra_of h 3 ((Rq.rpl p).drop 3) rfl j u hu
set_option maxRecDepth 100000 in
set_option maxHeartbeats 4000000 in
theorem walk (a0 : Option Addr) (c0 : Nat) (l0 : List (List Int × List Int)) (a1 : Option Addr) (c1 : Nat) (l1 : List (Int × Int)) (a2 : Option Addr) (c2 : Nat) (l2 : List Int) (w : World) (rd0 : RdB w a0 l0) (hl0 : l0.length ≤ 4194304) (hb0 : ∀ i, i < l0.length → (l0.getD i ([], [])).1.length ≤ 17592186044416 ∧ (l0.getD i ([], [])).2.length ≤ 17592186044416) (rd1 : RdP w a1 l1) (hl1 : l1.length ≤ 1048576) (rd2 : RdI w a2 l2) (hl2 : l2.length ≤ 1048576) (hv : Tb w) :
    Calls Tryz.prog 3 #[.slice a0 l0.length c0, .slice a1 l1.length c1, .slice a2 l2.length c2] w fun e w' => e = .returned (.bool true) ∧ Below w.heap.size w w' := by
  obtain ⟨ib, hbi, hbz, hbs, hbb⟩ := info_bx
  have hli := lives12_any w hv
  go_enter Tryz.func3, Tryz.ntmps3
  go_wp2_with fail
  refine hli.mono ?_
  rintro r w1 ⟨rfl, hb1⟩
  have hst := steps_any a0 c0 l0 w1 (hv.later hb1) hl0 hb0 (rd0.later hb1)
  have HB1 : Hid (Below w.heap.size w w1) := hb1
  have HRD : Hid (RdP w1 a1 l1) := rd1.later hb1
  have HRA : Hid (RdI w1 a2 l2) := rd2.later hb1
  clear hli hb1 rd1 rd0 rd2
  go_wp2_with fail
  refine hst.mono ?_
  rintro e w2 ⟨vr, vs, ms, rfl, hss⟩
  have hrow := runS_row l0
  obtain ⟨st, hst2⟩ : ∃ s, runS l0 = s := ⟨_, rfl⟩
  rw [hst2] at hss hrow
  obtain ⟨ts, bs⟩ := st
  dsimp only at hss hrow
  have HROW : Hid (RowB ts bs) := hrow
  have hle := hrow.le
  have hlen := hrow.len
  have hml := hss.ml
  clear hst hst2 hrow
  obtain ⟨ar, cr, rfl⟩ := owns_slice hss.rr
  obtain ⟨ax, cs, rfl⟩ := owns_slice hss.rs
  obtain ⟨NT, hNT⟩ : ∃ x, ts.length = x := ⟨_, rfl⟩
  have HNT : Hid (ts.length = NT) := hNT
  obtain ⟨NM, hNM⟩ : ∃ x, ms.length = x := ⟨_, rfl⟩
  have HNM : Hid (ms.length = NM) := hNM
  have HG0 : Hid (GBx w1 w2 (.slice ar ts.length cr) (.slice ax ms.length cs) (.slice none 0 0) ts bs ms (bxs ts bs 0)) := ⟨hss, World.ownsRow_nil _ _ _ _⟩
  have HNB : Hid (NM = bs.length ∧ NT ≤ 201 ∧ NM ≤ 200) := ⟨by omega, by omega, by omega⟩
  rw [hNT, hNM]
  clear hss hNT hNM hle hlen hml
  have hon := oneOn_any
  have han1 := answer_any tOn 1 1
  unfold AnA rqa at han1
  rw [on_1.1] at han1
  obtain ⟨p1_, hp1_⟩ : ∃ p, anP tOn 1 1 = p := ⟨_, rfl⟩
  have HPE : Hid (p1_.2.1 = 1) := by have h := on_1.2; rw [hp1_] at h; exact h
  rw [hp1_] at han1
  obtain ⟨cp1, hcp1⟩ : ∃ c, rpa p1_ = c := ⟨_, rfl⟩
  have HP1 : Hid (rpa p1_ = cp1) := hcp1
  simp only [hcp1] at han1
  obtain ⟨co, hco⟩ : ∃ c, tcs tOn = c := ⟨_, rfl⟩
  simp only [hco] at hon han1
  clear hp1_ hcp1 hco
  go_wp2_with fail
  refine (hon _).mono ?_
  rintro e w3 ⟨rfl, hb3⟩
  go_wp2_with fail
  refine (han1 _).mono ?_
  rintro e w4 ⟨rfl, hb4⟩
  have hb5 := Rq.Below.join (Rq.Below.join hb3 hb4) (below_alloc w4 (.cells (rpa p1_) 36))
  have hR5 := RA.new w4 p1_
  have HG0 : Hid (GBx w1 (w4.alloc (.cells (rpa p1_) 36)) (.slice ar ts.length cr) (.slice ax ms.length cs) (.slice none 0 0) ts bs ms (bxs ts bs 0)) := HG0.out.later hb5
  clear hon han1 hb3 hb4 hb5
  go_upto_region 5 with (refine stRpn (w := w4) zP p1_ rfl HP1.out rfl _ _ rfl rfl rfl ?_)
  generalize w4.alloc (.cells (rpa p1_) 36) = w5 at *
  generalize w4.heap.size = P1 at *
  have re := hR5.ep
  rw [HPE.out] at re
  clear hR5 HPE HP1
  go_wp2_with fail
  clear re
  go_loopw [12, 53] (fun y i wx => ∃ (k : Nat) (vb : Value), k ≤ NM ∧ i = .int .i64 (k : Int) ∧ vb = y ∧ GBx w1 wx (.slice ar ts.length cr) (.slice ax ms.length cs) vb ts bs ms (bxs ts bs k)) (fun _ i _ => NM - (intOf i).toNat)
  case atStart => exact ⟨0, _, by omega, rfl, rfl, HG0.out⟩
  case round =>
    obtain ⟨k, vb, hk, rfl, rfl, hgs⟩ := hrel
    have HG : Hid (GBx w1 wr (.slice ar ts.length cr) (.slice ax ms.length cs) vb ts bs ms (bxs ts bs k)) := hgs
    clear hgs HG0
    by_cases hkN : k < NM
    · have i1 : (0 : Int) ≤ (k : Int) := by omega
      have i2 : (k : Int) < (NM : Int) := by omega
      obtain ⟨g, p, p1, p2, p3, n1, n2, q1, q2, q3, eg, x0, x1, x2, x3, hit⟩ := HG.out.ss.msg (i := k) (by rw [HNM.out]; exact hkN)
      have HSH : Hid ((itB ts bs k).length ≤ 4096) := itB_short HROW.out (by have := HNB.out.1; omega)
      have HBL : Hid ((bxs ts bs k).length ≤ 819200) := by
        have h1 := bxs_len HROW.out k (by have := HNB.out.1; omega)
        have h2 := HNB.out.2.2
        unfold Hid
        omega
      have HBK : Hid (bxs ts bs (k + 1) = bxs ts bs k ++ itB ts bs k) := bxs_succ ts bs k
      obtain ⟨li, hli⟩ : ∃ l, itB ts bs k = l := ⟨_, rfl⟩
      obtain ⟨bx, hbx⟩ : ∃ l, bxs ts bs k = l := ⟨_, rfl⟩
      rw [hli] at HSH HBK x3 hit
      rw [hbx] at HBL HBK HG
      clear hli hbx
      obtain ⟨NI, hNI⟩ : ∃ n, li.length = n := ⟨_, rfl⟩
      have HNI : Hid (li.length = NI) := hNI
      rw [hNI] at x3 hit HSH
      subst eg
      have HG1 : Hid (GBx w1 (wr.alloc (.cells #[.int .i64 p, .slice p1 n1 q1, .slice p2 n2 q2, .slice p3 NI q3] 55)) (.slice ar ts.length cr) (.slice (some ⟨g, 0, none⟩) ms.length cs) vb ts bs ms bx) := HG.out.later (below_alloc _ _)
      have HIT : Hid ((wr.alloc (.cells #[.int .i64 p, .slice p1 n1 q1, .slice p2 n2 q2, .slice p3 NI q3] 55)).ownsRow w1.heap.size 57 6 (.slice p3 NI q3) NI (isl li)) := owns_later hit (below_alloc _ _)
      have hRK : RkAt (wr.alloc (.cells #[.int .i64 p, .slice p1 n1 q1, .slice p2 n2 q2, .slice p3 NI q3] 55)) wr.heap.size #[.int .i64 p, .slice p1 n1 q1, .slice p2 n2 q2, .slice p3 NI q3] := heap_alloc_last wr _
      clear hNI hit HG
      go_upto_region 11 with (fail)
      clear x0 x1 x2 x3
      generalize wr.alloc (.cells #[.int .i64 p, .slice p1 n1 q1, .slice p2 n2 q2, .slice p3 NI q3] 55) = w5 at *
      generalize wr.heap.size = C at *
      obtain ⟨x0, x1, x2, x3⟩ := hRK.cells
      clear hRK
      go_wp2_with fail
      clear x0 x1 x2 x3
      go_loopw [12, 60] (fun y i wx => ∃ (m : Nat) (vb : Value), m ≤ NI ∧ i = .int .i64 (m : Int) ∧ vb = y ∧ GBx w1 wx (.slice ar ts.length cr) (.slice (some ⟨g, 0, none⟩) ms.length cs) vb ts bs ms (bx ++ li.take m) ∧ wx.ownsRow w1.heap.size 57 6 (.slice p3 NI q3) NI (isl li)) (fun _ i _ => NI - (intOf i).toNat)
      case atStart => exact ⟨0, _, by omega, rfl, rfl, by rw [List.take_zero, List.append_nil]; exact HG1.out, HIT.out⟩
      case round =>
        obtain ⟨m, vb, hm, rfl, rfl, hgs, hit⟩ := hrel
        have HG : Hid (GBx w1 wr (.slice ar ts.length cr) (.slice (some ⟨g, 0, none⟩) ms.length cs) vb ts bs ms (bx ++ li.take m)) := hgs
        have HI : Hid (wr.ownsRow w1.heap.size 57 6 (.slice p3 NI q3) NI (isl li)) := hit
        clear hgs hit HG1 HIT
        by_cases hmN : m < NI
        · have j1 : (0 : Int) ≤ (m : Int) := by omega
          have j2 : (m : Int) < (NI : Int) := by omega
          have hrd : RdT wr p3 li := owns_rdT (cap := q3) (by rw [HNI.out]; exact HI.out)
          obtain ⟨y, hy⟩ : ∃ y, li.getD m ⟨0, 0, zK, zK⟩ = y := ⟨_, rfl⟩
          obtain ⟨gi, egi, z0, z1, z2, z3, z4, z5⟩ := hrd.cells (i := m) (by rw [HNI.out]; exact hmN) hy
          have HTK : Hid (li.take (m + 1) = li.take m ++ [y]) := by
            unfold Hid
            rw [take_it (by rw [HNI.out]; exact hmN), hy]
          have HL2 : Hid ((bx ++ li.take m).length ≤ 1000000) := by
            have h1 := HBL.out
            have h2 := HSH.out
            unfold Hid
            rw [List.length_append, List.length_take]
            omega
          clear hrd hy
          subst egi
          obtain ⟨nd, fm, ⟨ub, us⟩, ⟨lb, ls⟩⟩ := y
          dsimp only at z0 z1 z2 z3 z4 z5
          obtain ⟨ab, cb, rfl⟩ := owns_slice HG.out.rb
          obtain ⟨bl, hbl⟩ : ∃ l, bx ++ li.take m = l := ⟨_, rfl⟩
          have HBX : Hid (bx ++ li.take m = bl) := hbl
          rw [hbl] at HG HL2 ⊢
          obtain ⟨NB, hNBx⟩ : ∃ n, bl.length = n := ⟨_, rfl⟩
          have HNX : Hid (bl.length = NB) := hNBx
          rw [hNBx] at HG HL2 ⊢
          have HG2 : Hid (GBx w1 (wr.alloc (.cells #[.int .i64 nd, .int .i64 fm, .int .i64 ub, .int .i64 us, .int .i64 lb, .int .i64 ls] 57)) (.slice ar ts.length cr) (.slice (some ⟨g, 0, none⟩) ms.length cs) (.slice ab NB cb) ts bs ms bl) := HG.out.later (below_alloc _ _)
          have HI2 : Hid ((wr.alloc (.cells #[.int .i64 nd, .int .i64 fm, .int .i64 ub, .int .i64 us, .int .i64 lb, .int .i64 ls] 57)).ownsRow w1.heap.size 57 6 (.slice (some ⟨gi, 0, none⟩) NI q3) NI (isl li)) := owns_later HI.out (below_alloc _ _)
          have hIT : (wr.alloc (.cells #[.int .i64 nd, .int .i64 fm, .int .i64 ub, .int .i64 us, .int .i64 lb, .int .i64 ls] 57)).heap[wr.heap.size]? = some (.cells #[.int .i64 nd, .int .i64 fm, .int .i64 ub, .int .i64 us, .int .i64 lb, .int .i64 ls] 57 (0, 0)) := heap_alloc_last wr _
          clear hbl hNBx HG HI
          go_upto_region 14 with (fail)
          clear z0 z1 z2 z3 z4 z5
          generalize wr.alloc (.cells #[.int .i64 nd, .int .i64 fm, .int .i64 ub, .int .i64 us, .int .i64 lb, .int .i64 ls] 57) = w6 at *
          generalize wr.heap.size = D at *
          have z2 := cell_of_row w6 D 2 _ _ _ hIT
          have z3 := cell_of_row w6 D 3 _ _ _ hIT
          have z4 := cell_of_row w6 D 4 _ _ _ hIT
          have z5 := cell_of_row w6 D 5 _ _ _ hIT
          simp only [List.size_toArray, List.length_cons, List.length_nil, Nat.zero_add, Nat.reduceAdd, List.getElem?_toArray, List.getElem?_cons_zero, List.getElem?_cons_succ] at z2 z3 z4 z5
          clear hIT
          have hrb : w6.ownsRow w1.heap.size 33 4 (.slice ab NB cb) NB (bsl bl) := by have h := HG2.out.rb; rw [HNX.out] at h; exact h
          have hb6 : w1.heap.size ≤ w6.heap.size := HG2.out.ss.bel.size
          have hNB2 := HL2.out
          go_upto_region 15 with (at_builtin; (refine wpList_append_own _ rfl _ _ 51 rfl w1.heap.size 33 ib (.agg #[.int .i64 0, .int .i64 0, .int .i64 0, .int .i64 0]) 4 32 Tryz.underlying51 hbi hbz hbs hbb rfl (by decide) (.slice ab NB cb) NB (bsl bl) rfl (hrb.alloc _) ⟨w6.heap.size, 0, none⟩ 1 1 [.int .i64 ub, .int .i64 us, .int .i64 lb, .int .i64 ls] rfl rfl (cell_row_new _ #[.int .i64 ub, .int .i64 us, .int .i64 lb, .int .i64 ls] _) (by simp [Value.oneCell']) (by unfold maxLen; omega) (by omega) (by simp; omega) ?_); intro v2 w9 hown2 hg2 _; have HO2 : Hid (w9.ownsRow w1.heap.size 33 4 v2 (NB + 1) (bsl bl ++ [.int .i64 ub, .int .i64 us, .int .i64 lb, .int .i64 ls])) := hown2; have HGR : Hid ((w6.alloc (.cells #[.int .i64 ub, .int .i64 us, .int .i64 lb, .int .i64 ls] 33)).grownBy w9 (Value.slice ab NB cb).ownBlock) := hg2; clear hown2 hg2)
          have HG9 : Hid (GBx w1 w9 (.slice ar ts.length cr) (.slice (some ⟨g, 0, none⟩) ms.length cs) v2 ts bs ms (bx ++ li.take (m + 1))) := by
            have h6 := HG2.out.later (below_alloc w6 (.cells #[.int .i64 ub, .int .i64 us, .int .i64 lb, .int .i64 ls] 33))
            have h7 := h6.app (x := ⟨nd, fm, ⟨ub, us⟩, ⟨lb, ls⟩⟩) (by rw [HNX.out]; exact HO2.out) HGR.out
            unfold Hid
            rw [HTK.out, ← List.append_assoc, HBX.out]
            exact h7
          have HI9 : Hid (w9.ownsRow w1.heap.size 57 6 (.slice (some ⟨gi, 0, none⟩) NI q3) NI (isl li)) := (HG2.out.later (below_alloc w6 (.cells #[.int .i64 ub, .int .i64 us, .int .i64 lb, .int .i64 ls] 33))).item HGR.out (owns_later HI2.out (below_alloc _ _))
          clear HO2 HGR HG2 HI2 hrb hb6 hNB2 z2 z3 z4 z5 HL2
          have hN3 := HSH.out
          have hN4 : m < 4096 := by omega
          go_wp2_with fail
          go_roundw
          case rel => exact ⟨m + 1, _, by omega, by go_num, rfl, HG9.out, HI9.out⟩
          case measure => simp [intOf]; omega
        · obtain rfl : m = NI := by omega
          have HGE : Hid (GBx w1 wr (.slice ar ts.length cr) (.slice (some ⟨g, 0, none⟩) ms.length cs) vb ts bs ms (bxs ts bs (k + 1))) := by
            have h := HG.out
            rw [List.take_of_length_le (by rw [HNI.out]; exact Nat.le_refl _), ← HBK.out] at h
            exact h
          have hdk : decide ((m : Int) < (m : Int)) = false := by simp
          clear HG HI
          have hN3 := HNB.out.2.2
          have hN4 : k < 200 := by omega
          go_wp2_with fail
          go_roundw
          case rel => exact ⟨k + 1, _, by omega, by go_num, rfl, HGE.out⟩
          case measure => simp [intOf]; omega
    · obtain rfl : k = NM := by omega
      have hdk : decide ((k : Int) < (k : Int)) = false := by simp
      have HGZ : Hid (GBx w1 wr (.slice ar ts.length cr) (.slice ax ms.length cs) vb ts bs ms (bxs ts bs bs.length)) := by
        have h := HG.out
        rw [HNB.out.1] at h
        exact h
      clear HG
      obtain ⟨NQ, hNQ⟩ : ∃ n, l2.length = n := ⟨_, rfl⟩
      have HNQ : Hid (l2.length = NQ) := hNQ
      have HQ2 : Hid (NQ ≤ 1048576) := by unfold Hid; omega
      rw [hNQ]
      have hlt := HROW.out.len
      have HNZ : Hid (0 < NT ∧ NT ≤ 201) := ⟨by have := HNT.out; omega, HNB.out.2.1⟩
      have hG0 : GBx w1 wr (.slice ar ts.length cr) (.slice ax ms.length cs) vb ts bs ms (bxs ts bs bs.length ++ rpxs ts l2 0) := by
        have e : rpxs ts l2 0 = [] := rfl
        rw [e, List.append_nil]
        exact HGZ.out
      clear hNQ HGZ hlt
      go_wp2_with fail
      go_loopw [12, 73] (fun y i wx => ∃ (j : Nat) (vb : Value), j ≤ NQ ∧ i = .int .i64 (j : Int) ∧ vb = y ∧ GBx w1 wx (.slice ar ts.length cr) (.slice ax ms.length cs) vb ts bs ms (bxs ts bs bs.length ++ rpxs ts l2 j)) (fun _ i _ => NQ - (intOf i).toNat)
      case atStart => exact ⟨0, _, by omega, rfl, rfl, hG0⟩
      case round =>
        clear hG0 hdk
        obtain ⟨j, vb, hj, rfl, rfl, hgs⟩ := hrel
        have HG : Hid (GBx w1 wr (.slice ar ts.length cr) (.slice ax ms.length cs) vb ts bs ms (bxs ts bs bs.length ++ rpxs ts l2 j)) := hgs
        clear hgs
        by_cases hjn : j < NQ
        · have i1 : (0 : Int) ≤ (j : Int) := by omega
          have i2 : (j : Int) < (NQ : Int) := by omega
          have i3 : (NQ : Int) ≤ 1048576 := by have := HQ2.out; omega
          obtain ⟨bq, oq, haq, hcq⟩ := (HRA.out.later HG.out.ss.bel) j (by rw [HNQ.out]; exact hjn)
          subst haq
          have HRS : Hid (rpxs ts l2 (j + 1) = rpxs ts l2 j ++ rpx (ts.getD (j % NT) (tz 0)) (l2.getD j 0)) := by have h := rpxs_succ ts l2 j; rw [HNT.out] at h; exact h
          obtain ⟨x, hx⟩ : ∃ x, l2.getD j 0 = x := ⟨_, rfl⟩
          rw [hx] at hcq HRS
          have hm0 : j % NT < NT := Nat.mod_lt _ HNZ.out.1
          obtain ⟨T, hT⟩ : ∃ T, ts.getD (j % NT) (tz 0) = T := ⟨_, rfl⟩
          rw [hT] at HRS
          obtain ⟨gt, egt, hld, -⟩ := (owns_rdR HG.out.ss.rr).tree (i := j % NT) (by rw [HNT.out]; exact hm0) hT
          have hNE : ¬ (NT : Int) = 0 := by have := HNZ.out.1; omega
          have hNE2 : ((NT : Int) == 0) = false := by simpa using hNE
          have hNE3 : ¬ NT = 0 := by have := HNZ.out.1; omega
          have q1 : (0 : Int) ≤ (j : Int) % (NT : Int) := by omega
          have q2 : (j : Int) % (NT : Int) < (NT : Int) := by omega
          have q3 : (NT : Int) ≤ 201 := by have := HNZ.out.2; omega
          subst egt
          clear hx hT
          obtain ⟨cT, hcT⟩ : ∃ c, tcs T = c := ⟨_, rfl⟩
          have HCT : TC T cT := ⟨hcT⟩
          rw [hcT] at hld
          clear hcT
          have hz := TrAt.zero wr
          have HG5 : Hid (GBx w1 ((wr.alloc (.cells Tryz.zeroCells47 47)).setRow wr.heap.size cT) (.slice (some ⟨gt, 0, none⟩) ts.length cr) (.slice ax ms.length cs) vb ts bs ms (bxs ts bs bs.length ++ rpxs ts l2 j)) := HG.out.later (tz_later wr cT)
          have hT5 := tz_new wr HCT.out
          go_upto_region 21 with (first | (refine rd_guard (v := .agg cT) rfl (ld_exec hld rfl rfl) ?_) | (refine stTc hz HCT.out rfl _ _ rfl rfl rfl ?_))
          clear hld hz HG hcq hNE hNE2 hNE3 q1 q2 q3 hm0
          generalize (wr.alloc (.cells Tryz.zeroCells47 47)).setRow wr.heap.size cT = w5 at *
          generalize hX : wr.heap.size = X at hT5 ⊢
          clear hX
          have hA1 := answer_any T x 1
          have hA2 := rAnswer_any T x 1
          have HY : Hid (anE T x 1 = 0 → (rpx T x).length = 3 ∧ bsl (rpx T x) = (Rq.rpl (anP T x 1)).drop 3) := rpx_yes
          have HN : Hid (anE T x 1 ≠ 0 → rpx T x = []) := rpx_no
          unfold AnA rqa at hA1 hA2
          obtain ⟨p, hp⟩ : ∃ p, anP T x 1 = p := ⟨_, rfl⟩
          obtain ⟨pe, hpe⟩ : ∃ p, anE T x 1 = p := ⟨_, rfl⟩
          rw [hp, hpe] at HY
          rw [hpe] at HN
          simp only [hp, hpe] at hA1 hA2
          clear hp hpe
          obtain ⟨cp, hcp⟩ : ∃ c, rpa p = c := ⟨_, rfl⟩
          have HP : Hid (rpa p = cp) := hcp
          simp only [hcp, HCT.out] at hA1 hA2
          clear hcp
          go_wp2_with (refine rdT hT5 HCT.out _ rfl rfl rfl ?_)
          refine (hA1 _).mono ?_
          rintro e w6 ⟨rfl, hb6⟩
          have hb7 := Rq.Below.join hb6 (below_alloc w6 (.cells (rpa p) 36))
          have hR7 := RA.new w6 p
          have hT7 := hT5.later hb7
          have HG7 : Hid (GBx w1 (w6.alloc (.cells (rpa p) 36)) (.slice (some ⟨gt, 0, none⟩) ts.length cr) (.slice ax ms.length cs) vb ts bs ms (bxs ts bs bs.length ++ rpxs ts l2 j)) := HG5.out.later hb7
          clear hb6 hb7 hT5 HG5 hA1
          go_upto_region 22 with (refine stRpn (w := w6) zP p rfl HP.out rfl _ _ rfl rfl rfl ?_)
          generalize w6.alloc (.cells (rpa p) 36) = w7 at *
          generalize w6.heap.size = P at *
          go_wp2_with (refine rdT hT7 HCT.out _ rfl rfl rfl ?_)
          refine (hA2 _).mono ?_
          rintro e w8 ⟨rfl, hb8⟩
          have hb9 := Rq.Below.join hb8 (below_alloc w8 (.cells (rpa p) 36))
          have hS9 := RA.new w8 p
          have hR9 := hR7.later hb9
          have HG9 : Hid (GBx w1 (w8.alloc (.cells (rpa p) 36)) (.slice (some ⟨gt, 0, none⟩) ts.length cr) (.slice ax ms.length cs) vb ts bs ms (bxs ts bs bs.length ++ rpxs ts l2 j)) := HG7.out.later hb9
          clear hb8 hb9 hT7 hR7 HG7 hA2
          go_upto_region 23 with (refine stRpn (w := w8) zP p rfl HP.out rfl _ _ rfl rfl rfl ?_)
          generalize w8.alloc (.cells (rpa p) 36) = w9 at *
          generalize w8.heap.size = Q at *
          go_upto_region 25 with (first | (refine ldRp hR9 HP.out _ rfl rfl rfl ?_) | (refine ldRp hS9 HP.out _ rfl rfl rfl ?_) | (refine neRp HP.out _ _ rfl rfl rfl rfl ?_))
          clear hS9
          by_cases hp0 : pe = 0
          · have d0 : (pe == 0) = true := by simpa using hp0
            obtain ⟨y3, yc⟩ := HY.out hp0
            have hnw := ra_path hR9
            rw [← yc] at hnw
            have hn12 : (bsl (rpx T x)).length = 3 * 4 := by rw [yc]; rfl
            have hone : ∀ u ∈ bsl (rpx T x), u.oneCell' = true := by rw [yc]; exact Rq.rpl_one p
            have HYL : Hid ((rpx T x).length = 3) := y3
            clear y3 yc HY HN hR9
            obtain ⟨ys, hys⟩ : ∃ l, bsl (rpx T x) = l := ⟨_, rfl⟩
            have HYS : Hid (bsl (rpx T x) = ys) := hys
            rw [hys] at hnw hn12 hone
            clear hys
            obtain ⟨ab, cb, rfl⟩ := owns_slice HG9.out.rb
            obtain ⟨bl, hbl⟩ : ∃ l, bxs ts bs bs.length ++ rpxs ts l2 j = l := ⟨_, rfl⟩
            have HBX : Hid (bxs ts bs bs.length ++ rpxs ts l2 j = bl) := hbl
            have HL2 : Hid (bl.length ≤ 8000000) := by
              have h1 := bxs_len HROW.out bs.length (Nat.le_refl _)
              have h2 := HNB.out.1
              have h3 := HNB.out.2.2
              have h4 := rpxs_len ts l2 j
              have h5 := HQ2.out
              unfold Hid
              rw [← hbl, List.length_append]
              omega
            rw [hbl] at HG9 ⊢
            obtain ⟨NB, hNBx⟩ : ∃ n, bl.length = n := ⟨_, rfl⟩
            have HNX : Hid (bl.length = NB) := hNBx
            rw [hNBx] at HG9 HL2 ⊢
            clear hbl hNBx
            have hrb : w9.ownsRow w1.heap.size 33 4 (.slice ab NB cb) NB (bsl bl) := by have h := HG9.out.rb; rw [HNX.out] at h; exact h
            have hb9 : w1.heap.size ≤ w9.heap.size := HG9.out.ss.bel.size
            have hNB2 := HL2.out
            go_upto_region 27 with (at_builtin; (refine wpList_append_own _ rfl _ _ 51 rfl w1.heap.size 33 ib (.agg #[.int .i64 0, .int .i64 0, .int .i64 0, .int .i64 0]) 4 32 Tryz.underlying51 hbi hbz hbs hbb rfl (by decide) (.slice ab NB cb) NB (bsl bl) rfl hrb ⟨P, 3, none⟩ 3 3 ys rfl hn12 hnw hone (by unfold maxLen; omega) (by omega) hb9 ?_); intro v2 w10 hown2 hg2 _; have HO2 : Hid (w10.ownsRow w1.heap.size 33 4 v2 (NB + 3) (bsl bl ++ ys)) := hown2; have HGR : Hid (w9.grownBy w10 (Value.slice ab NB cb).ownBlock) := hg2; clear hown2 hg2)
            have HG11 : Hid (GBx w1 w10 (.slice (some ⟨gt, 0, none⟩) ts.length cr) (.slice ax ms.length cs) v2 ts bs ms (bxs ts bs bs.length ++ rpxs ts l2 (j + 1))) := by
              have h7 := Rq.GBx.appl HG9.out (ys := rpx T x) (v' := v2) (W' := w10) (by rw [HNX.out, HYL.out, HYS.out]; exact HO2.out) HGR.out
              unfold Hid
              rw [HRS.out, ← List.append_assoc, HBX.out]
              exact h7
            clear HO2 HGR HG9 hrb hb9 hNB2 HL2 hnw hn12 hone
            go_wp2_with fail
            go_roundw
            case rel => exact ⟨j + 1, _, by omega, by go_num, rfl, HG11.out⟩
            case measure => simp [intOf]; omega
          · have d0 : (pe == 0) = false := by simpa using hp0
            have HG11 : Hid (GBx w1 w9 (.slice (some ⟨gt, 0, none⟩) ts.length cr) (.slice ax ms.length cs) vb ts bs ms (bxs ts bs bs.length ++ rpxs ts l2 (j + 1))) := by
              unfold Hid
              rw [HRS.out, HN.out hp0, List.append_nil]
              exact HG9.out
            clear HG9 hR9 HY HN hp0
            go_wp2_with fail
            go_roundw
            case rel => exact ⟨j + 1, _, by omega, by go_num, rfl, HG11.out⟩
            case measure => simp [intOf]; omega
        · obtain rfl : j = NQ := by omega
          have hdk : decide ((j : Int) < (j : Int)) = false := by simp
          have HGZ : Hid (GBx w1 wr (.slice ar ts.length cr) (.slice ax ms.length cs) vb ts bs ms (bxs ts bs bs.length ++ rpxs ts l2 j)) := HG.out
          clear hj hjn
          have HTS : Hid (RdR wr ar ts) := owns_rdR HGZ.out.ss.rr
          have HBE : Hid (Below w.heap.size w wr) := HB1.out.trans (HGZ.out.ss.bel.mono HB1.out.size)
          have HLB : Hid ((bxs ts bs bs.length ++ rpxs ts l2 j).length ≤ 1000000000) := by
            have h1 := bxs_len HROW.out bs.length (Nat.le_refl _)
            have h2 := HNB.out.1
            have h3 := HNB.out.2.2
            have h4 := rpxs_len ts l2 j
            have h5 := HQ2.out
            unfold Hid
            rw [List.length_append]
            omega
          have hop := openedT_any ar cr ts a1 c1 l1 wr (by have := HNB.out.2.1; have := HNT.out; omega) (by omega) HTS.out (HRD.out.later HGZ.out.ss.bel)
          rw [HNT.out] at hop
          clear HG
          go_wp2_with fail
          refine hop.mono ?_
          rintro e w3 ⟨vk, vm, rfl, hopp⟩
          clear hop
          have HOP : Hid (OP wr w3 vk (l1.flatMap (opK ts)) vm (l1.flatMap (opM ts))) := hopp
          have hlk := opK_len ts l1
          have hlm := opM_len ts l1
          obtain ⟨ak, ck, rfl⟩ := owns_slice HOP.out.rk
          obtain ⟨am, cm, rfl⟩ := owns_slice HOP.out.rm
          have hgb := owns_later HGZ.out.rb HOP.out.bel
          obtain ⟨ab, cb, rfl⟩ := owns_slice hgb
          have hcl := closed_any ak ck (l1.flatMap (opK ts)) ab cb ((bxs ts bs bs.length ++ rpxs ts l2 j)) w3 (by omega) HLB.out (rdk_of HOP.out.rk) (owns_rdX hgb) (opK_wi HROW.out) (all_wi HROW.out)
          have HTS3 : Hid (RdR w3 ar ts) := HTS.out.later HOP.out.bel
          have HMT : Hid (RdS w3 am (l1.flatMap (opM ts))) := rdk_of HOP.out.rm
          have HLM : Hid ((l1.flatMap (opM ts)).length ≤ 4194304) := by unfold Hid; omega
          have HB3 : Hid (Below w.heap.size w w3) := HBE.out.trans (HOP.out.bel.mono HBE.out.size)
          obtain ⟨nk, hnk⟩ : ∃ n, (l1.flatMap (opK ts)).length = n := ⟨_, rfl⟩
          obtain ⟨nm, hnm⟩ : ∃ n, (l1.flatMap (opM ts)).length = n := ⟨_, rfl⟩
          have HNMt : Hid ((l1.flatMap (opM ts)).length = nm) := hnm
          obtain ⟨nb, hnb⟩ : ∃ n, (bxs ts bs bs.length ++ rpxs ts l2 j).length = n := ⟨_, rfl⟩
          rw [hnk, hnb] at hcl
          rw [hnk, hnm, hnb]
          clear hopp hlk hlm hgb HOP HGZ HTS HBE HLB hnk hnm hnb
          go_wp2_with fail
          refine hcl.mono ?_
          rintro e w4 ⟨bm, n, H, rfl, hdm, hclo⟩
          clear hcl
          have HCL : Hid (Clos (l1.flatMap (opK ts)) ((bxs ts bs bs.length ++ rpxs ts l2 j)) H) := hclo
          have HMH : Hid (Mh w4 bm n H) := hdm.mh
          have HTS4 : Hid (RdR w4 ar ts) := HTS3.out.later hdm.bel
          have HMT4 : Hid (RdS w4 am (l1.flatMap (opM ts))) := HMT.out.later hdm.bel
          have HB4 : Hid (Below w.heap.size w w4) := HB3.out.trans (hdm.bel.mono HB3.out.size)
          clear hdm hclo HTS3 HMT HB3
          have hkp := kept_any ar cr ts am cm (l1.flatMap (opM ts)) bm n H w4 (by have := HNB.out.2.1; have := HNT.out; omega) HLM.out HTS4.out HMH.out HMT4.out (row_wi HROW.out) (secretR HROW.out HCL.out)
          rw [HNT.out, HNMt.out] at hkp
          go_wp2_with fail
          refine hkp.mono ?_
          rintro e w5 ⟨rfl, hb5⟩
          have HB5 : Hid (Below w.heap.size w w5) := HB4.out.trans (hb5.mono HB4.out.size)
          clear hkp hb5
          go_wp2_with fail
          go_ret
          exact ⟨rfl, HB5.out⟩
theorem own : ownKnob Tryz.prog.godebug = none := by kernel_rfl
theorem laidOut : laidOutB Tryz.prog = true := by kernel_rfl
set_option maxRecDepth 20000 in
theorem contract (H : Type) (enc : TypeId × Value → H) (W : World) (base : Nat) (args : Array Value) (ds gs : List (DataW H)) (before : List MemPlace)
    (hval : ∀ (j : Nat) t v, Tryz.f3.params[j]? = some t → args[j]? = some v → Value.okWide Tryz.prog W .any base t v)
    (hW : DataW.Whole enc Tryz.prog Tryz.f3.params.toList Rows.topSecretRepliesSpec.vars false W args.toList ds gs before)
    (hsz : (DataW.weightsEach Tryz.prog (Tryz.f3.params.toList ++ Rows.topSecretRepliesSpec.plain.varTypes Tryz.prog) (ds ++ gs)).all (· ≤ reachBytes) = true)
    (hc : Rows.uptoSmall H (ds ++ gs) = true)
    (hL : laidMetH Tryz.prog Rows.topSecretRepliesUptoRow.laid W) :
    Calls Tryz.prog 3 args W fun e W' => ∃ v, e = .returned v ∧ Rows.topSecretRepliesSpec.post enc Tryz.prog Tryz.f3 false true false false W args v W' := by
  have hv := vs_of hL
  have hW' := hW
  obtain ⟨p, q, hA0, hV, rfl, hfz, hnd⟩ := hW
  have hA : DataW.TrodAll enc Tryz.prog W 0 (fun _ => true) true Tryz.f3.params.toList args.toList ds p := hA0
  rw [Tryz.params3] at hA hval hsz
  obtain ⟨v0, vs0, d0, ds0, p0, q0, hargs, rfl, rfl, h0, r0⟩ := trodAll_cons hA
  obtain ⟨v1, vs1, d1, ds1, p1, q1, rfl, rfl, rfl, h1, r1⟩ := trodAll_cons r0
  obtain ⟨v2, vs2, d2, ds2, p2, q2, rfl, rfl, rfl, h2, r2⟩ := trodAll_cons r1
  obtain ⟨rfl, rfl, rfl⟩ := trodAll_nil r2
  obtain rfl : args = #[v0, v1, v2] := by cases args; simp_all
  obtain ⟨rfl, rfl⟩ := trodVars_none hV
  have hbk : Rows.uptoBulkAll ([d0, d1, d2] ++ ([] : List (DataW H))) ≤ 1048576 := of_decide_eq_true hc
  simp only [List.cons_append, List.append_nil, List.nil_append, Rows.uptoBulkAll] at hbk
  have k0 := h0
  have lt0 : ∀ x ∈ p0, x.block < W.heap.size := by obtain ⟨m, hm⟩ := k0; exact DataW.trod_lt m _ _ _ hm
  obtain ⟨a0, c0, l0, rfl, rd0, hl0, hb0⟩ := bts_of (by omega) (okWide_slice Tryz.underlying22 (hval 0 22 v0 rfl rfl)) h0
  have k1 := h1
  have lt1 : ∀ x ∈ p1, x.block < W.heap.size := by obtain ⟨m, hm⟩ := k1; exact DataW.trod_lt m _ _ _ hm
  obtain ⟨a1, c1, l1, rfl, rd1, hl1⟩ := rvs_of (by omega) (okWide_slice Tryz.underlying23 (hval 1 23 v1 rfl rfl)) h1
  have k2 := h2
  have lt2 : ∀ x ∈ p2, x.block < W.heap.size := by obtain ⟨m, hm⟩ := k2; exact DataW.trod_lt m _ _ _ hm
  obtain ⟨a2, c2, l2, rfl, rd2, hl2⟩ := Rq.ints_up (by omega) (okWide_slice Tryz.underlying24 (hval 2 24 v2 rfl rfl)) h2
  clear hA0
  refine (walk a0 c0 l0 a1 c1 l1 a2 c2 l2 W rd0 hl0 hb0 rd1 hl1 rd2 hl2 hv).mono fun e W' ⟨he, bel⟩ => ?_
  subst he
  exact ⟨_, rfl, _, _, _, [], _, [], hW', trodAll_mk1 (shut_bool Tryz.underlying4 _), (trodAll_cons_mk (Below.trod laidOut (by kernel_rfl) (of_decide_eq_true (by kernel_rfl)) k0 bel lt0) (trodAll_cons_mk (Below.trod laidOut (by kernel_rfl) (of_decide_eq_true (by kernel_rfl)) k1 bel lt1) (trodAll_cons_mk (Below.trod laidOut (by kernel_rfl) (of_decide_eq_true (by kernel_rfl)) k2 bel lt2) trodAll_mk0))), rfl, bel.frame _, fun h => by cases h⟩
set_option maxRecDepth 100000 in
theorem laid_met (os : Os) : laidMet Tryz.prog Rows.topSecretRepliesUptoRow.laid ((laidWorld os).forCall (fun _ _ => 0) ⟨#[], #[.slice none 0 0, .slice none 0 0, .slice none 0 0], []⟩).memory :=
  laidMet_of_run' 8 (by kernel_rfl) (by kernel_rfl)
set_option maxRecDepth 100000 in
theorem reads (os : Os) {H : Type} (enc : TypeId × Value → H) : ∃ places, DataW.whole enc Tryz.prog ((laidWorld os).forCall (fun _ _ => 0) ⟨#[], #[.slice none 0 0, .slice none 0 0, .slice none 0 0], []⟩).memory Tryz.f3.params.toList Rows.topSecretRepliesSpec.vars false (#[.slice none 0 0, .slice none 0 0, .slice none 0 0] : Array Value).toList 8 = some ([.nil, .nil, .nil], [], places) :=
  ⟨[], by kernel_rfl⟩
set_option maxRecDepth 100000 in
theorem lifted (os : Os) (started : os.Started) (H : Type) (enc : TypeId × Value → H) (F : Stop.Interp) :
    ReturnsInHanded {} Tryz.checked os 3 .any ((Rows.OpenSpec.upto Rows.topSecretRepliesSpec).preRow enc Tryz.prog Tryz.f3 Rows.topSecretRepliesUptoRow.domain false Rows.topSecretRepliesUptoRow.laid) (((Rows.OpenSpec.upto Rows.topSecretRepliesSpec).at F).post enc Tryz.prog Tryz.f3 false true false false) := by
  obtain ⟨places, hx⟩ := reads os enc
  refine returnsInHanded_of_row (C := Tryz.checked) (s := (Rows.OpenSpec.upto Rows.topSecretRepliesSpec)) own started (by kernel_rfl) Tryz.func3
    (witness_row_at (enc := enc) (C := Tryz.checked) false (laidWorld os) #[.slice none 0 0, .slice none 0 0, .slice none 0 0] rfl (by kernel_rfl) (by kernel_rfl) (by kernel_rfl)
      (OpenSpec.preRow_of_cond 8 hx (by kernel_rfl) (fun k hk => by cases hk; first | rfl | decide +kernel) (by kernel_rfl) (laid_met os))) ?_
  intro W base args ds gs before hval hW hc1 hc2 hsz hL hsh _
  exact contract H enc W base args ds gs before hval hW hsz (hc2 _ rfl) hL
theorem said : Rows.TopSecretRepliesUptoSaid :=
  OpenClaim.holds_of_cond 3 Tryz.f3 rfl rfl rfl rfl rfl rfl rfl ⟨rfl, rfl, rfl, rfl, rfl⟩ rfl rfl rfl rfl rfl (by kernel_rfl) Tryz.func3 (by kernel_rfl)
    (of_decide_eq_true (by kernel_rfl)) (by unfold Func.isWrapper; first | (rw [if_pos (by decide +kernel)]; kernel_rfl) | (rw [if_neg (by decide +kernel)]; exact ⟨rfl, rfl⟩))
    (fun os started H enc _ F => by rw [OpenClaim.pre_eq_preRow]; exact lifted os started H enc F)
theorem plain (f : FuncId) (fn : Func) (hf : Tryz.pinned.checked.prog.funcNamed "coterie/coterietop.TopSecretReplies" = some f) (hfn : Tryz.pinned.checked.prog.funcs[f]? = some fn) :
    false = Tryz.pinned.checked.prog.looks [] ∧ ∀ (j : Nat) t, fn.params[j]? = some t → Tryz.pinned.checked.prog.wantsStandIn t = false := by
  obtain rfl : f = 3 := Option.some.inj ((show Tryz.prog.funcNamed "coterie/coterietop.TopSecretReplies" = some 3 by kernel_rfl).symm.trans hf) |>.symm
  obtain rfl : fn = Tryz.f3 := (Option.some.inj (Tryz.func3.symm.trans hfn)).symm
  refine ⟨by kernel_rfl, fun j t ht => ?_⟩
  rw [Tryz.params3] at ht
  have h22 : Tryz.prog.wantsStandIn 22 = false := by kernel_rfl
  have h23 : Tryz.prog.wantsStandIn 23 = false := by kernel_rfl
  have h24 : Tryz.prog.wantsStandIn 24 = false := by kernel_rfl
  have hm := Array.mem_of_getElem? ht
  simp at hm
  rcases hm with rfl | rfl | rfl
  · exact h22
  · exact h23
  · exact h24
end Go.Proofs.YtpimbpfefhkojabGreatDoor.topSecretRepliesUpto
namespace Go.Proofs.YtpimbpfefhkojabGreatDoor
theorem topSecretRepliesUpto_holds : Rows.TopSecretRepliesUptoCardSaid :=
  Claim7.holds_tied_plain_at .later [] _ _ _ _ topSecretRepliesUpto.said (fun _ h => by cases h) (by kernel_rfl) (fun _ h => by cases h) topSecretRepliesUpto_row_tie rfl ⟨rfl, rfl⟩ (by kernel_rfl) rfl topSecretRepliesUpto.plain (by kernel_rfl)
#print axioms topSecretRepliesUpto_holds
end Go.Proofs.YtpimbpfefhkojabGreatDoor
