/- For every script of batches: the records of its steps, written, read again and played from the beginning, lead to the same trees, and none plays twice: RecordRuns, in its first form (the listed variable as the program's text lays it), and the card. -/
import Derived.Test.YteocfmimgoocnaaGreatDoorCards
import Derived.Test.YteocfmimgoocnaaGreatDoorTie
import Derived.Test.YteocfmimgoocnaaGreatDoorRcR
import Derived.Test.YteocfmimgoocnaaGreatDoorRcJ3
import Derived.Test.YteocfmimgoocnaaGreatDoorRsK
import Derived.Test.YteocfmimgoocnaaGreatDoorOpenBts
import Derived.WalkKit
import Derived.ProofKit
import Derived.OpenShut
import Derived.Deep.RegionHeld3
import Derived.Deep.DeepHandedRow
import Derived.Deep.DeepWitnessRowRef
import Derived.SizedLaws
namespace Go.Proofs.YteocfmimgoocnaaGreatDoor.recordRuns
open Go.ChangeShapes Go.WideShapes Go.ChangeAt Go.RowKit Go.Maps Go.Shelf
open Rs (En zE rcs RdI RdS ps Tb tb_of laidWorld sized_agg roD bytesI i64s owns_later owns_slice Ke Slot own_other own_ge own_ne)
open Rc
set_option linter.unusedVariables false
set_option linter.unusedSimpArgs false

theorem vs_of {W : World} (hL : laidMetH Tryz.prog Rows.recordRunsRow.laid W) : Tb W := tb_of (show laidMet Tryz.prog Rows.recordRunsRow.laid W from hL)
theorem neTr_exec {w : World} {t : Tr} {c : Array Value} (hc : tcs t = c) {o : Oper} {a : Act} {x y : Operand} (ho : o.op = .binOp .neq 31 x y 31) (hx : a.eval x = .agg c) (hy : a.eval y = .agg c) : (execOp a.eval o).run Tryz.prog w = .ok (.value (.bool false)) w := by
  subst hc
  have h1 := run_eqGuard_agg (P := Tryz.prog) w .neq 31 x y (tcs t) (tcs t) Tryz.eqGuardType31
  have h2 := run_neq_struct (P := Tryz.prog) w 31 (tcs t) (tcs t)
  rw [run_eqTr, eqT_refl] at h2
  simp [execOp, ho, hx, hy, h1, h2, Sem.run_bind, Result.andThen]
theorem info_tree : ∃ i, Tryz.prog.info? 31 = some i ∧ i.zero = some (.agg (tcs (tz 0))) ∧ i.size = 236 ∧ i.bytes = 1888 := by
  have hz : (Tryz.prog.info? 31).bind (·.zero) = some (.agg (tcs (tz 0))) := by rw [← zero236]; kernel_rfl
  have hs : (Tryz.prog.info? 31).map (fun i => (i.size, i.bytes)) = some (236, 1888) := by kernel_rfl
  cases hq : Tryz.prog.info? 31 with
  | none => rw [hq] at hs; cases hs
  | some i =>
    rw [hq] at hs hz
    simp at hs hz
    exact ⟨i, rfl, hz, hs.1, hs.2⟩
theorem info_str : ∃ i, Tryz.prog.info? 9 = some i ∧ i.zero = some (.string ⟨#[]⟩) ∧ i.size = 1 ∧ i.bytes = 16 := by
  have h : (Tryz.prog.info? 9).map (fun i => (i.zero, i.size, i.bytes)) = some (some (.string ⟨#[]⟩), 1, 16) := by kernel_rfl
  cases hq : Tryz.prog.info? 9 with
  | none => rw [hq] at h; cases h
  | some i =>
    rw [hq] at h
    simp at h
    exact ⟨i, rfl, h.1, h.2.1, h.2.2⟩
theorem one_box (w : World) (u : Tr) (c : Array Value) (hc : tcs u = c) : TrAt (w.alloc (.cells Tryz.zeroCells31 31)) w.heap.size (tz 0) ∧ ∃ W, (w.alloc (.cells Tryz.zeroCells31 31)).setRow w.heap.size c = W ∧ TrAt W w.heap.size u ∧ Below w.heap.size w W := by
  subst hc
  have h1 := TrAt.zero w
  exact ⟨h1, _, rfl, Rt.heap_setRow_same h1 (tcs u), Rt.setRow_below (Nat.le_refl _) (below_alloc w _) _⟩
/- The second loop: only the tree's box is written. -/
structure R2 (w V W : World) (BT : Nat) (t : Tr) : Prop where
  ke : Ke (fun k => k = BT) V W
  bel : Below w.heap.size w W
  tr : TrAt W BT t
section
variable {w V W W1 : World} {BT : Nat} {t : Tr} {v4 v5 : Value} {ns : List Tr} {bs : List (List Int × List Int)}
theorem R2.later (h : R2 w V W BT t) (hb : Below W.heap.size W W1) : R2 w V W1 BT t :=
  ⟨⟨Nat.le_trans h.ke.size hb.size, fun k hk hn => (hb.block k (Nat.lt_of_lt_of_le hk h.ke.size)).trans (h.ke.block k hk hn)⟩, h.bel.trans (hb.mono h.bel.size), h.tr.later hb⟩
theorem R2.set (h : R2 w V W BT t) (hg : w.heap.size ≤ BT) (n : Tr) : R2 w V (W.setRow BT (tcs n)) BT n :=
  ⟨⟨Nat.le_trans h.ke.size (Rt.setRow_below (Nat.zero_le _) (Below.refl 0 W) (tcs n)).size, fun k hk hn => (Rt.row_other hn (tcs n)).trans (h.ke.block k hk hn)⟩, Rt.setRow_below hg h.bel _, Rt.heap_setRow_same h.tr (tcs n)⟩
theorem RR_back (h : RR w W BT v4 v5 ns bs) : R2 w (W.setRow BT (tcs stT)) (W.setRow BT (tcs stT)) BT stT ∧ (W.setRow BT (tcs stT)).ownsRow w.heap.size 9 1 v4 bs.length (sts (lgs ns bs)) ∧ (W.setRow BT (tcs stT)).ownsRow w.heap.size 31 236 v5 ns.length (trl ns) :=
  ⟨⟨Ke.refl _ _, Rt.setRow_below h.gT h.bel _, Rt.heap_setRow_same h.tr (tcs stT)⟩, Rs.owns_type h.lg h.tr (by decide) (tcs stT), own_other h.rr fun g hg' => Rt.row_other (fun e => h.ap (by rw [hg', e])) (tcs stT)⟩
theorem str_cell {a : Option Addr} {k4 : Nat} (h : V.ownsRow w.heap.size 9 1 (.slice a bs.length k4) bs.length (sts (lgs ns bs))) (hs : Slot V BT 31 0) (hk : Ke (fun k => k = BT) V W) {i : Nat} (hi : i < bs.length) : ∃ g, a = some ⟨g, 0, none⟩ ∧ W.cell? ⟨g, i, none⟩ = some (.string (lg ((stT :: ns).getD i (tz 0)) (bs.getD i ([], [])))) := by
  have h' : W.ownsRow w.heap.size 9 1 (.slice a bs.length k4) bs.length (sts (lgs ns bs)) := own_other h fun g hg => hk.block g (own_ge h hg).2 (fun e => own_ne h hs (by decide) (by rw [hg, e]))
  rcases h'.2 with ⟨h0, h1⟩ | ⟨g, cap, cur, e, h3, h4, h5, h6, h7, h8⟩
  · omega
  · simp at e
    obtain ⟨rfl, rfl⟩ := e
    refine ⟨g, rfl, ?_⟩
    rw [cell_of_row W g _ _ _ _ h4]
    have q : (sts (lgs ns bs))[i]? = some (.string (lg ((stT :: ns).getD i (tz 0)) (bs.getD i ([], [])))) := by unfold sts; rw [List.getElem?_map, lgs_get ns bs hi]; rfl
    rw [← q, ← h8, List.getElem?_take_of_lt (by omega)]
    simp
theorem tree_rd {a : Option Addr} {k5 : Nat} (h : V.ownsRow w.heap.size 31 236 (.slice a ns.length k5) ns.length (trl ns)) (hap : (Value.slice a ns.length k5).ownBlock ≠ some BT) (hk : Ke (fun k => k = BT) V W) : RdR W a ns :=
  owns_rdR (own_other h fun g hg => hk.block g (own_ge h hg).2 (fun e => hap (by rw [hg, e])))
end
set_option maxRecDepth 100000 in
set_option maxHeartbeats 4000000 in
theorem walk (a : Option Addr) (c : Nat) (l : List (List Int × List Int)) (w : World) (rd : RdB w a l) (hl : l.length * 48 ≤ 140737488351232) (hb : ∀ i, i < l.length → (l.getD i ([], [])).1.length * 8 ≤ 140737488351232 ∧ (l.getD i ([], [])).2.length * 8 ≤ 140737488351232) (hTb : Tb w) :
    Calls Tryz.prog 5 #[.slice a l.length c] w fun e w' => e = .returned (.bool true) ∧ Below w.heap.size w w' := by
  obtain ⟨it, hti, htz, hts, htb⟩ := info_tree
  obtain ⟨i0, hi, hz0, hz1, hz2⟩ := info_str
  obtain ⟨c0, hc0⟩ : ∃ c, tcs stT = c := ⟨_, rfl⟩
  have HC0 : Hid (tcs stT = c0) := hc0
  clear hc0
  have hlv := lives_any w hTb
  go_enter Tryz.func5, Tryz.ntmps5
  go_wp2_with fail
  refine hlv.mono ?_
  rintro r w1 ⟨rfl, hb1⟩
  have hst := rStart_any w1
  rw [HC0.out] at hst
  clear hlv
  go_wp2_with fail
  refine hst.mono ?_
  rintro r w2 ⟨rfl, hb2⟩
  have hbt := hb1.trans (hb2.mono hb1.size)
  obtain ⟨z1, W3, hW3, hT3, hB3⟩ := one_box w2 stT c0 HC0.out
  have HS0 : Hid (RR w W3 w2.heap.size (.slice none 0 0) (.slice none 0 0) [] []) := ⟨hbt.trans (hB3.mono hbt.size), hT3, hbt.size, World.ownsRow_nil _ _ _ _, World.ownsRow_nil _ _ _ _, by simp [Value.ownBlock]⟩
  clear hst hb1 hb2 hbt hB3 hT3
  go_upto_region 4 with (refine stTc z1 HC0.out rfl _ _ rfl rfl rfl ?_)
  rw [hW3]
  clear z1 hW3
  generalize w2.heap.size = BT at *
  go_wp2_with fail
  go_loopw [4, 5, 25] (fun x y i wx => ∃ (k : Nat) (v4 v5 : Value) (ns : List Tr) (bs : List (List Int × List Int)), k ≤ l.length ∧ i = .int .i64 (k : Int) ∧ v4 = x ∧ v5 = y ∧ RR w wx BT v4 v5 ns bs ∧ RowB (stT :: ns) bs) (fun _ _ i _ => l.length - (intOf i).toNat)
  case atStart => exact ⟨0, _, _, [], [], by omega, rfl, rfl, rfl, HS0.out, RowB.zero⟩
  case round =>
    obtain ⟨k, v4, v5, ns, bs, hk, rfl, rfl, rfl, hrr, hrow⟩ := hrel
    have HS : Hid (RR w wr BT v4 v5 ns bs) := hrr
    have HROW : Hid (RowB (stT :: ns) bs) := hrow
    clear hrr hrow HS0
    have hle := HROW.out.le
    have HNL : Hid (ns.length = bs.length) := by have h := HROW.out.len; simp at h; exact h
    have hnb : ns.length ≤ 200 := by have h := HNL.out; omega
    obtain ⟨a4, k4, rfl⟩ := owns_slice HS.out.lg
    obtain ⟨a5, k5, rfl⟩ := owns_slice HS.out.rr
    by_cases hkN : k < l.length
    · have i1 : (0 : Int) ≤ (k : Int) := by omega
      have i2 : (k : Int) < (l.length : Int) := by omega
      obtain ⟨b0, o0, aL, cL, aJ, cJ, hal, hc0, hc1, rL, rJ⟩ := (rd.later HS.out.bel) k hkN
      obtain ⟨hbL, hbJ⟩ := hb k hkN
      obtain ⟨q, hq⟩ : ∃ q, l.getD k ([], []) = q := ⟨_, rfl⟩
      rw [hq] at hc0 hc1 rL rJ hbL hbJ
      obtain ⟨L, J⟩ := q
      dsimp only at hc0 hc1 rL rJ hbL hbJ
      clear hq
      subst hal
      obtain ⟨t, ht⟩ : ∃ t, lastT (stT :: ns) = t := ⟨_, rfl⟩
      have HLT : Hid (lastT (stT :: ns) = t) := ht
      clear ht
      have hbA := below_alloc wr (.cells #[.slice aL L.length cL, .slice aJ J.length cJ] 34)
      have HS5 : Hid (RR w (wr.alloc (.cells #[.slice aL L.length cL, .slice aJ J.length cJ] 34)) BT (.slice a4 bs.length k4) (.slice a5 ns.length k5) ns bs) := HS.out.later hbA
      have hBT : BtAt (wr.alloc (.cells #[.slice aL L.length cL, .slice aJ J.length cJ] 34)) wr.heap.size aL aJ L.length J.length cL cJ := heap_alloc_last wr _
      have rL5 := rL.later hbA
      have rJ5 := rJ.later hbA
      clear HS rL rJ hbA
      go_upto_region 9 with (fail)
      clear hc0 hc1
      generalize wr.alloc (.cells #[.slice aL L.length cL, .slice aJ J.length cJ] 34) = w5 at *
      generalize wr.heap.size = C at *
      have h1 := rNext_any t aL aJ cL cJ L J w5 (by omega) (by omega) rL5 rJ5
      have HOF : Hid (∀ W, Below w5.heap.size w5 W → Calls Tryz.prog 8 #[.agg (tcs t), .agg #[.slice aL L.length cL, .slice aJ J.length cJ] ] W fun r w' => OfA W w' t L J r ∧ Below W.heap.size W w') := fun W hW => of_any t aL aJ cL cJ L J W ((hTb.later HS5.out.bel).later hW) (by omega) (by omega) (rL5.later hW) (rJ5.later hW)
      have HWT : Hid (∀ W a b k m, RdI W a (oLv t L J) → RdP W b (pnJ t L J) → Calls Tryz.prog 16 #[.agg #[.int .i64 (pnT t L J).ep, .int .i64 (pnT t L J).fr, .slice a (oLv t L J).length k, .slice b (pnJ t L J).length m] ] W fun r w' => r = .returned (.tuple #[.string (wrS (pnT t L J).ep (pnT t L J).fr (oLv t L J) (pnJ t L J)), .int .i64 (wrE (pnT t L J).ep (pnT t L J).fr (oLv t L J) (pnJ t L J))]) ∧ Below W.heap.size W w') := fun W a b k m ha hb => write_any _ _ a b k m _ _ W ha hb
      have HRG : Hid (plE t L J = 0 → wrS (pnT t L J).ep (pnT t L J).fr (oLv t L J) (pnJ t L J) = lg t (L, J) ∧ wrE (pnT t L J).ep (pnT t L J).fr (oLv t L J) (pnJ t L J) = 0) := fun h => by
        have e : oLv t L J = L := by unfold oLv; rw [if_pos h]
        rw [e]
        exact ⟨rfl, by unfold wrE; rw [step_rgt h]; rfl⟩
      have HPT : Hid (plE t L J = 0 → RowB (stT :: (ns ++ [pnT t L J])) (bs ++ [(L, J)])) := fun h => by
        have e : pnT t L J = nx t L J := by unfold pnT; rw [if_pos h]
        rw [e, ← HLT.out]
        exact HROW.out.snoc (b := (L, J)) (by rw [HLT.out]; exact h)
      unfold NextA at h1
      unfold OfA recA at HOF
      have HRP : Hid (∀ {X Y : World} {vL vJ : Value}, RecP X Y t L J vL vJ → Y.ownsRow X.heap.size 3 1 vL (oLv t L J).length (i64s (oLv t L J)) ∧ Y.ownsRow X.heap.size 62 2 vJ (pnJ t L J).length (ps (pnJ t L J))) := fun h => ⟨h.lv, h.jn⟩
      have HNP : Hid (∀ {X Y : World} {vl vj vi}, NextP X Y t L J vl vj vi → Y.ownsRow X.heap.size 62 2 vl (pnL t L J).length (ps (pnL t L J)) ∧ Y.ownsRow X.heap.size 62 2 vj (pnJ t L J).length (ps (pnJ t L J)) ∧ Y.ownsRow X.heap.size 98 6 vi (pnI t L J).length (isl (pnI t L J))) := fun h => ⟨h.left, h.join, h.item⟩
      obtain ⟨ct, hct⟩ : ∃ c, tcs t = c := ⟨_, rfl⟩
      have HT : Hid (tcs t = ct) := hct
      rw [hct] at h1 HOF
      obtain ⟨E2, hE2⟩ : ∃ e, wrE (pnT t L J).ep (pnT t L J).fr (oLv t L J) (pnJ t L J) = e := ⟨_, rfl⟩
      obtain ⟨s, hs⟩ : ∃ s, wrS (pnT t L J).ep (pnT t L J).fr (oLv t L J) (pnJ t L J) = s := ⟨_, rfl⟩
      simp only [hs, hE2] at HWT HRG
      obtain ⟨n, hn⟩ : ∃ n, pnT t L J = n := ⟨_, rfl⟩
      obtain ⟨cn, hcn⟩ : ∃ c, tcs n = c := ⟨_, rfl⟩
      have HC : Hid (tcs n = cn) := hcn
      obtain ⟨E, hE⟩ : ∃ e, plE t L J = e := ⟨_, rfl⟩
      obtain ⟨p, hp⟩ : ∃ e, pnP t L J = e := ⟨_, rfl⟩
      obtain ⟨ll, hll⟩ : ∃ l, pnL t L J = l := ⟨_, rfl⟩
      obtain ⟨lj, hlj⟩ : ∃ l, pnJ t L J = l := ⟨_, rfl⟩
      obtain ⟨li, hli⟩ : ∃ l, pnI t L J = l := ⟨_, rfl⟩
      obtain ⟨lo, hlo⟩ : ∃ l, oLv t L J = l := ⟨_, rfl⟩
      simp only [hn, hcn, hE, hp, hll, hlj, hli, hlo] at h1 HOF HWT HRG HPT HRP HNP
      clear hct hE2 hs hn hcn hE hp hll hlj hli hlo rL5 rJ5
      have hT1 : TrAt w5 BT t := HLT.out ▸ HS5.out.tr
      obtain ⟨d0, d1⟩ := hBT.cells
      go_wp2_with (refine rdT hT1 HT.out _ rfl rfl rfl ?_)
      refine h1.mono ?_
      rintro r w7 ⟨⟨vl, vj, vi, rfl, hNP⟩, hb7⟩
      obtain ⟨g1, g2, g3⟩ := HNP.out hNP
      obtain ⟨e1, f1, rfl⟩ := owns_slice g1
      obtain ⟨e2, f2, rfl⟩ := owns_slice g2
      obtain ⟨e3, f3, rfl⟩ := owns_slice g3
      obtain ⟨t1, t2, W8, hW, tT, tR, tB⟩ := two_boxes w7 n cn #[.int .i64 p, .slice e1 ll.length f1, .slice e2 lj.length f2, .slice e3 li.length f3] HC.out
      have hb8 := hb7.trans (tB.mono hb7.size)
      have HT8 : Hid (TrAt W8 w7.heap.size n ∧ w5.heap.size ≤ w7.heap.size) := ⟨tT, hb7.size⟩
      clear h1 hT1 d0 d1 hNP g1 g2 g3 tB hb7 tT tR
      go_upto_region 10 with (first | (show wpList _ _ _ ({ dst := _, op := Op.store 31 _ _, type := _, pos := _, after := _, guard := _ } :: _) _ _; refine stTc t1 HC.out rfl _ _ rfl rfl rfl ?_) | (show wpList _ _ _ ({ dst := _, op := Op.store 45 _ _, type := _, pos := _, after := _, guard := _ } :: _) _ _; refine stRw infoRk (cs := rkz) rkz_size t2 _ rfl (rk_one _ _ _ _ _ _ _ _ _ _) rfl _ _ rfl rfl rfl ?_))
      clear t1 t2 hW
      obtain ⟨G, hG⟩ : ∃ A, w7.heap.size + 1 = A := ⟨_, rfl⟩
      rw [hG]
      clear hG
      generalize w7.heap.size = T at *
      have HS8 : Hid (RR w W8 BT (.slice a4 bs.length k4) (.slice a5 ns.length k5) ns bs) := HS5.out.later hb8
      have hvT : (Value.slice a5 ns.length k5).ownBlock ≠ some T := fun e => by
        have q := (own_ge HS5.out.rr e).2
        have q2 := HT8.out.2
        omega
      have HVT : Hid ((Value.slice a5 ns.length k5).ownBlock ≠ some T) := hvT
      have h1 := HOF.out W8 hb8
      have hT1 : TrAt W8 BT t := HLT.out ▸ HS8.out.tr
      obtain ⟨d0, d1⟩ := (hBT.later hb8).cells
      clear hb8 hvT hBT HS5
      go_wp2_with (refine rdT hT1 HT.out _ rfl rfl rfl ?_)
      refine h1.mono ?_
      rintro r w9 ⟨⟨vL, vJ, rfl, hRP⟩, hb9⟩
      obtain ⟨g1, g2⟩ := HRP.out hRP
      obtain ⟨a6, k6, rfl⟩ := owns_slice g1
      obtain ⟨a7, k7, rfl⟩ := owns_slice g2
      have hbR := below_alloc w9 (.cells #[.int .i64 n.ep, .int .i64 n.fr, .slice a6 lo.length k6, .slice a7 lj.length k7] 38)
      have hR := RcAt.new w9 #[.int .i64 n.ep, .int .i64 n.fr, .slice a6 lo.length k6, .slice a7 lj.length k7]
      have hb10 := hb9.trans (hbR.mono hb9.size)
      have rl := (rdI_of g1).later hbR
      have rj := (rdP_of g2).later hbR
      clear h1 hT1 d0 d1 hRP hb9 g1 g2 hbR
      go_upto_region 11 with (fail)
      generalize w9.alloc (.cells #[.int .i64 n.ep, .int .i64 n.fr, .slice a6 lo.length k6, .slice a7 lj.length k7] 38) = w10 at *
      generalize w9.heap.size = R at *
      have HS10 : Hid (RR w w10 BT (.slice a4 bs.length k4) (.slice a5 ns.length k5) ns bs) := HS8.out.later hb10
      have HT10 : Hid (TrAt w10 T n) := HT8.out.1.later hb10
      clear hb10 HS8 HT8 HOF HRP HNP
      by_cases hE0 : E = 0
      · subst hE0
        obtain ⟨hs, hE2⟩ := HRG.out rfl
        have HSL : Hid (s = lg t (L, J)) := hs
        have HRN : Hid (RowB (stT :: (ns ++ [n])) (bs ++ [(L, J)])) := HPT.out rfl
        subst hE2
        clear hs HRG HPT
        have h1 := HWT.out w10 a6 a7 k6 k7 rl rj
        obtain ⟨x0, x1, x2, x3⟩ := hR.cells
        go_wp2_with fail
        refine h1.mono ?_
        rintro r w11 ⟨rfl, hb11⟩
        have HS11 : Hid (RR w w11 BT (.slice a4 bs.length k4) (.slice a5 ns.length k5) ns bs) := HS10.out.later hb11
        have HT11 : Hid (TrAt w11 T n) := HT10.out.later hb11
        clear h1 x0 x1 x2 x3 hb11 rl rj hR HS10 HT10 HWT
        have hlg := HS11.out.lg
        have hsz := HS11.out.bel.size
        go_upto_region 17 with (fail)
        go_upto_region 18 with (at_builtin; (refine wpList_append_own_at _ rfl _ _ 54 rfl w.heap.size 9 i0 (.string ⟨#[]⟩) 1 16 Tryz.underlying54 hi hz0 hz1 hz2 rfl (by decide) (.slice a4 bs.length k4) bs.length (sts (lgs ns bs)) rfl (hlg.alloc _) ⟨w11.heap.size, 0, none⟩ 1 1 [.string s] rfl rfl (cell_one_new _ _ _) (by simp [Value.oneCell']) (by unfold maxLen; omega) (by omega) (by simp; omega) ?_); intro v1 w12 hown1 hg1 _ _; obtain ⟨a4', k4', rfl⟩ := owns_slice hown1; have HO1 : Hid (w12.ownsRow w.heap.size 9 1 (.slice a4' (bs.length + 1) k4') (bs.length + 1) (sts (lgs ns bs) ++ [.string s])) := hown1; have HG1 : Hid ((w11.alloc (.cells #[.string s] 9)).grownBy w12 (Value.slice a4 bs.length k4).ownBlock) := hg1; clear hown1 hg1)
        have hrr := HS11.out.rr1 HG1.out
        have hTt := HS11.out.tr1 HG1.out HT11.out
        have hBt := HS11.out.tr1 HG1.out HS11.out.tr
        have hsz2 : w.heap.size ≤ w12.heap.size := by have h1 := HG1.out.size; simp at h1; omega
        have hc236 : cn.toList.length = 1 * 236 := by rw [Array.length_toList, ← HC.out, tcs_size]
        have hc1 : ∀ u ∈ cn.toList, u.oneCell' = true := fun u hu => by
          have := tcs_one n
          rw [HC.out, Array.all_eq_true'] at this
          exact this u (Array.mem_toList_iff.1 hu)
        clear hlg hsz
        go_upto_region 19 with (first
          | (refine rdT hTt HC.out _ rfl rfl rfl ?_)
          | (refine bsT HC.out rfl _ rfl rfl ?_)
          | (at_builtin; (refine wpList_append_own_at _ rfl _ _ 55 rfl w.heap.size 31 it (.agg (tcs (tz 0))) 236 1888 Tryz.underlying55 hti htz hts htb (by show (tcs (tz 0)).size = 236; exact tcs_size _) (by decide) (.slice a5 ns.length k5) ns.length (trl ns) rfl (hrr.alloc _) ⟨w12.heap.size, 0, none⟩ 1 1 cn.toList rfl hc236 (cell_row_new _ _ _) hc1 (by unfold maxLen; omega) (by omega) (by simp; omega) ?_); intro v2 w13 hown2 hg2 _ hat; have HO2 : Hid (w13.ownsRow w.heap.size 31 236 v2 (ns.length + 1) (trl ns ++ cn.toList)) := hown2; have HG2 : Hid ((w12.alloc (.cells cn 31)).grownBy w13 (Value.slice a5 ns.length k5).ownBlock) := hg2; have HAT : Hid (v2.ownBlock = (Value.slice a5 ns.length k5).ownBlock ∨ v2.ownBlock = some (w12.alloc (.cells cn 31)).heap.size) := hat; clear hown2 hg2 hat))
        have hT13 : TrAt w13 T n := (grown_lt HG2.out (tr_lt hTt) HVT.out).trans hTt
        have hB13 : TrAt w13 BT (lastT (stT :: ns)) := (grown_lt HG2.out (tr_lt hBt) HS11.out.ap).trans hBt
        have HF : Hid (RR w (w13.setRow BT cn) BT (.slice a4' (bs.length + 1) k4') v2 (ns ++ [n]) (bs ++ [(L, J)])) := by
          have h := HS11.out.fin (s := s) (n := n) (b := (L, J)) HROW.out (by rw [HLT.out]; exact HSL.out) HO1.out HG1.out (by rw [HC.out]; exact HO2.out) HG2.out HAT.out
          rw [HC.out] at h
          exact h
        clear hTt hBt hrr hc236 hc1 HO1 HG1 HO2 HG2 HAT HS11 HT11 hsz2
        go_wp2_with (first | (refine rdT hT13 HC.out _ rfl rfl rfl ?_) | (refine stTc hB13 HC.out rfl _ _ rfl rfl rfl ?_))
        go_roundw
        case rel => exact ⟨k + 1, _, _, _, _, by omega, by go_num, rfl, rfl, HF.out, HRN.out⟩
        case measure => simp [intOf]; omega
      · have hd : (E != 0) = true := by simpa using hE0
        clear hE0 HRG HPT rl rj hR
        go_wp2_with fail
        go_roundw
        case rel => exact ⟨k + 1, _, _, _, _, by omega, by go_num, rfl, rfl, HS10.out, HROW.out⟩
        case measure => simp [intOf]; omega
    · obtain rfl : k = l.length := by omega
      have hdk : decide ((l.length : Int) < (l.length : Int)) = false := by simp
      have hst := rStart_any wr
      rw [HC0.out] at hst
      go_wp2_with fail
      refine hst.mono ?_
      rintro r w20 ⟨rfl, hb20⟩
      have hS := HS.out.later hb20
      have hgT := hS.gT
      have hap := hS.ap
      have hB := hS.tr
      obtain ⟨h2, hlgV, hrrV⟩ := RR_back hS
      rw [HC0.out] at h2 hlgV hrrV
      clear hst hb20 hS HS
      go_upto_region 22 with (refine stTc hB HC0.out rfl _ _ rfl rfl rfl ?_)
      clear hB
      generalize w20.setRow BT c0 = V at *
      have HR0 : Hid (R2 w V V BT stT) := h2
      have HLG : Hid (∀ W, Ke (fun k => k = BT) V W → ∀ i, i < bs.length → ∃ g, a4 = some ⟨g, 0, none⟩ ∧ W.cell? ⟨g, i, none⟩ = some (.string (lg ((stT :: ns).getD i (tz 0)) (bs.getD i ([], []))))) := fun W hk i hi => str_cell hlgV (tr_slot h2.tr) hk hi
      have HTR : Hid (∀ W, Ke (fun k => k = BT) V W → RdR W a5 ns) := fun W hk => tree_rd hrrV hap hk
      clear h2 hlgV hrrV hap
      go_wp2_with fail
      go_loopw [67] (fun i wx => ∃ k : Nat, k ≤ bs.length ∧ i = .int .i64 (k : Int) ∧ R2 w V wx BT ((stT :: ns).getD k (tz 0))) (fun i _ => bs.length - (intOf i).toNat)
      case atStart => exact ⟨0, by omega, rfl, HR0.out⟩
      case round =>
        obtain ⟨k, hk, rfl, hpa⟩ := hrel
        by_cases hkN : k < bs.length
        · have i1 : (0 : Int) ≤ (k : Int) := by omega
          have i2 : (k : Int) < (bs.length : Int) := by omega
          have hkn : k < ns.length := by have h := HNL.out; omega
          have i3 : (k : Int) < (ns.length : Int) := by omega
          have hE := HROW.out.ze k hkN
          have hN := (HROW.out.stp k hkN).2
          have hG := HLG.out _ hpa.ke k hkN
          obtain ⟨t, ht⟩ : ∃ t, (stT :: ns).getD k (tz 0) = t := ⟨_, rfl⟩
          obtain ⟨⟨L, J⟩, hq⟩ : ∃ q, bs.getD k ([], []) = q := ⟨_, rfl⟩
          rw [ht, hq] at hE hN hG
          rw [ht] at hpa
          dsimp only at hE hN
          obtain ⟨g, ea, hcl⟩ := hG
          subst ea
          have hPT : pnT t L J = nx t L J := by unfold pnT; rw [if_pos hE]
          rw [← hPT] at hN
          have hrg := step_rgt hE
          obtain ⟨o1, o2, o3, o4, o5⟩ := wr_rd hrg
          have hsz := wr_size hrg
          rw [bits_flds] at hsz
          have hRg := rgt_iff.1 hrg
          have hq1 := hRg.l1
          have hq2 := hRg.j1
          have hRD := fun W => read_any (wrS (pnT t L J).ep (pnT t L J).fr L (pnJ t L J)) W (by omega)
          unfold RdRec rdE qEp qFr qLv qJn at hRD
          simp only [o1, o2, o3, o4, o5, if_true] at hRD
          have hPL := fun W (hW : Below w.heap.size w W) a b k m (ha : RdI W a L) (hb : RdP W b (pnJ t L J)) => play_any t (pnT t L J).ep (pnT t L J).fr a b k m L (pnJ t L J) W (hTb.later hW) ha hb (by omega) (by omega)
          obtain ⟨u0, u1, u2, u3, u4, u5⟩ := play_own hE
          unfold PlayA at hPL
          rw [u0, u1, u2, u3, u4, u5] at hPL
          have hck : tck (pnT t L J) = true := by rw [hPT]; exact (plE_stp hE).tckn
          have hP2 := fun W (hW : Below w.heap.size w W) a b k m (ha : RdI W a L) (hb : RdP W b (pnJ t L J)) => play_any (pnT t L J) (pnT t L J).ep (pnT t L J).fr a b k m L (pnJ t L J) W (hTb.later hW) ha hb (by omega) (by omega)
          unfold PlayA at hP2
          rw [play_again hck (by omega)] at hP2
          have hcl2 : wr.cell? ⟨g, k, none⟩ = some (.string (wrS (pnT t L J).ep (pnT t L J).fr L (pnJ t L J))) := hcl
          have hns : ns.getD k (tz 0) = pnT t L J := by rw [← hN]; rfl
          clear hcl o1 o2 o3 o4 o5 hsz hRg hq1 hq2 u0 u1 u2 u3 u4 u5 hck hrg hPT hE ht hq
          obtain ⟨s, hs⟩ : ∃ s, wrS (pnT t L J).ep (pnT t L J).fr L (pnJ t L J) = s := ⟨_, rfl⟩
          rw [hs] at hcl2 hRD
          obtain ⟨n, hn⟩ : ∃ n, pnT t L J = n := ⟨_, rfl⟩
          obtain ⟨lj, hlj⟩ : ∃ n, pnJ t L J = n := ⟨_, rfl⟩
          rw [hn] at hRD hPL hP2 hN hns
          rw [hlj] at hRD hPL hP2
          obtain ⟨cn, hcn⟩ : ∃ c, tcs n = c := ⟨_, rfl⟩
          obtain ⟨ct, hct⟩ : ∃ c, tcs t = c := ⟨_, rfl⟩
          have HC : Hid (tcs n = cn) := hcn
          have HT : Hid (tcs t = ct) := hct
          obtain ⟨b5, eb, -, -⟩ := (HTR.out _ hpa.ke).tree (i := k) hkn hns
          subst eb
          have HLN : Hid (∀ W, Ke (fun k => k = BT) V W → (Instr.loadAt 31 (.pointer (some ⟨b5, k * 236, none⟩))).run Tryz.prog W = .ok (.agg cn) W) := fun W hk => by
            obtain ⟨b', e', h2, -⟩ := (HTR.out W hk).tree (i := k) hkn hns
            simp at e'
            subst e'
            rw [hcn] at h2
            exact h2
          obtain ⟨p, hp⟩ : ∃ e, pnP t L J = e := ⟨_, rfl⟩
          obtain ⟨ll, hll⟩ : ∃ l, pnL t L J = l := ⟨_, rfl⟩
          obtain ⟨li, hli⟩ : ∃ l, pnI t L J = l := ⟨_, rfl⟩
          rw [hp, hll, hli, hcn, hct] at hPL
          rw [hcn] at hP2
          obtain ⟨cx, hcx⟩ : ∃ c, tcs (plyT n n.ep n.fr L lj) = c := ⟨_, rfl⟩
          obtain ⟨px, hpx⟩ : ∃ c, plyP n n.ep n.fr L lj = c := ⟨_, rfl⟩
          rw [hcx, hpx] at hP2
          have HRD : Hid _ := hRD
          have HPL : Hid _ := hPL
          have HP2 : Hid _ := hP2
          have HN : Hid ((stT :: ns).getD (k + 1) (tz 0) = n) := hN
          have HPA : Hid (R2 w V wr BT t) := hpa
          clear hRD hPL hP2 hN hpa hs hn hlj hcn hct hp hll hli hcx hpx hns HTR HLG HR0
          go_upto_region 25 with (fail)
          clear hcl2
          have h1 := HRD.out wr
          go_wp2_with fail
          refine h1.mono ?_
          rintro r u5 ⟨vL, vJ, rfl, g1, g2, hb2⟩
          obtain ⟨a6, k6, rfl⟩ := owns_slice g1
          obtain ⟨a7, k7, rfl⟩ := owns_slice g2
          have hbR := below_alloc u5 (.cells #[.int .i64 n.ep, .int .i64 n.fr, .slice a6 L.length k6, .slice a7 lj.length k7] 38)
          have hR := RcAt.new u5 #[.int .i64 n.ep, .int .i64 n.fr, .slice a6 L.length k6, .slice a7 lj.length k7]
          have rl := (rdI_of g1).later hbR
          have rj := (rdP_of g2).later hbR
          have hb3 := hb2.trans (hbR.mono hb2.size)
          clear h1 g1 g2 hb2 hbR
          go_upto_region 28 with (fail)
          generalize u5.alloc (.cells #[.int .i64 n.ep, .int .i64 n.fr, .slice a6 L.length k6, .slice a7 lj.length k7] 38) = w6 at *
          generalize u5.heap.size = R at *
          have HP6 : Hid (R2 w V w6 BT t) := HPA.out.later hb3
          have h1 := HPL.out w6 HP6.out.bel a6 a7 k6 k7 rl rj
          have hT1 := HP6.out.tr
          obtain ⟨x0, x1, x2, x3⟩ := hR.cells
          clear hb3 HPA HPL HRD
          go_wp2_with (refine rdT hT1 HT.out _ rfl rfl rfl ?_)
          refine h1.mono ?_
          rintro r w7 ⟨⟨vl, vj, vi, rfl, hP⟩, hb7⟩
          have g1 := hP.left
          have g2 := hP.join
          have g3 := hP.item
          obtain ⟨e1, f1, rfl⟩ := owns_slice g1
          obtain ⟨e2, f2, rfl⟩ := owns_slice g2
          obtain ⟨e3, f3, rfl⟩ := owns_slice g3
          obtain ⟨t1, t2, W8, hW, tT, tR, tB⟩ := two_boxes w7 n cn #[.int .i64 p, .slice e1 ll.length f1, .slice e2 lj.length f2, .slice e3 li.length f3] HC.out
          have hb8 := hb7.trans (tB.mono hb7.size)
          have HP8 : Hid (R2 w V W8 BT t) := HP6.out.later hb8
          have HT8 : Hid (TrAt W8 w7.heap.size n) := tT
          have HR8 : Hid (RcAt W8 R #[.int .i64 n.ep, .int .i64 n.fr, .slice a6 L.length k6, .slice a7 lj.length k7] ∧ RdI W8 a6 L ∧ RdP W8 a7 lj) := ⟨hR.later hb8, rl.later hb8, rj.later hb8⟩
          clear h1 hT1 x0 x1 x2 x3 hP g1 g2 g3 tB hb7 hb8 tT tR hR rl rj HP6
          go_upto_region 29 with (first | (show wpList _ _ _ ({ dst := _, op := Op.store 31 _ _, type := _, pos := _, after := _, guard := _ } :: _) _ _; refine stTc t1 HC.out rfl _ _ rfl rfl rfl ?_) | (show wpList _ _ _ ({ dst := _, op := Op.store 45 _ _, type := _, pos := _, after := _, guard := _ } :: _) _ _; refine stRw infoRk (cs := rkz) rkz_size t2 _ rfl (rk_one _ _ _ _ _ _ _ _ _ _) rfl _ _ rfl rfl rfl ?_))
          clear t1 t2 hW
          obtain ⟨G, hG⟩ : ∃ A, w7.heap.size + 1 = A := ⟨_, rfl⟩
          rw [hG]
          clear hG
          generalize w7.heap.size = T at *
          have hS1 : Below W8.heap.size W8 W8.drew := drew_below _
          refine wp_region_held_drew (S := fun X => Below W8.heap.size W8 X) (by kernel_rfl) hS1 (fun hHeld => ?_)
          refine wpAnyH_take (i := 0) (oi := { dst := some 86, op := Op.move (Operand.tmp 17), type := _, pos := _, after := _, guard := none }) (v := .int .i64 0) rfl (by kernel_rfl) (by kernel_rfl) (by kernel_rfl) (fun _ _ _ h => h) (Or.inl ⟨by rfl, fun w hSw => by (try dsimp only at hSw); go_simp⟩) (by assumption) ?_
          simp only [Act.put, List.setIfInBounds_toArray, List.set_cons_zero, List.set_cons_succ]
          refine wpAnyH_take (i := 1) (oi := { dst := some 87, op := Op.binOp BinOp.neq 39 (Operand.tmp 86) (Operand.const (Value.int IntKind.i64 0)) 39, type := _, pos := _, after := _, guard := none }) (v := .bool false) rfl (by kernel_rfl) (by kernel_rfl) (by kernel_rfl) (fun _ _ _ h => h) (Or.inl ⟨by rfl, fun w hSw => by (try dsimp only at hSw); go_simp⟩) (by assumption) ?_
          simp only [Act.put, List.setIfInBounds_toArray, List.set_cons_zero, List.set_cons_succ]
          refine wpAnyH_take (i := 2) (oi := { dst := some 88, op := Op.move (Operand.tmp 87), type := _, pos := _, after := _, guard := none }) (v := .bool false) rfl (by kernel_rfl) (by kernel_rfl) (by kernel_rfl) (fun _ _ _ h => h) (Or.inl ⟨by rfl, fun w hSw => by (try dsimp only at hSw); go_simp⟩) (by assumption) ?_
          simp only [Act.put, List.setIfInBounds_toArray, List.set_cons_zero, List.set_cons_succ]
          refine wpAnyH_take (i := 3) (oi := { dst := some 89, op := Op.load 31 (Operand.tmp 18), type := _, pos := _, after := _, guard := some (2, false) }) (v := .agg cn) rfl (by kernel_rfl) (by kernel_rfl) (by kernel_rfl) (fun _ _ _ h => h) (Or.inl ⟨by rfl, fun w hSw => ld_exec (HC.out ▸ (HT8.out.later hSw).whole) rfl rfl⟩) (by assumption) ?_
          simp only [Act.put, List.setIfInBounds_toArray, List.set_cons_zero, List.set_cons_succ]
          refine wpAnyH_take (i := 4) (oi := { dst := some 90, op := Op.move (Operand.tmp 5), type := _, pos := _, after := _, guard := some (2, false) }) (v := .slice (some ⟨b5, 0, none⟩) ns.length k5) rfl (by kernel_rfl) (by kernel_rfl) (by kernel_rfl) (fun _ _ _ h => h) (Or.inl ⟨by rfl, fun w hSw => by (try dsimp only at hSw); go_simp⟩) (by assumption) ?_
          simp only [Act.put, List.setIfInBounds_toArray, List.set_cons_zero, List.set_cons_succ]
          refine wpAnyH_take (i := 5) (oi := { dst := some 91, op := Op.move (Operand.tmp 14), type := _, pos := _, after := _, guard := some (2, false) }) (v := .int .i64 (k : Int)) rfl (by kernel_rfl) (by kernel_rfl) (by kernel_rfl) (fun _ _ _ h => h) (Or.inl ⟨by rfl, fun w hSw => by (try dsimp only at hSw); go_simp⟩) (by assumption) ?_
          simp only [Act.put, List.setIfInBounds_toArray, List.set_cons_zero, List.set_cons_succ]
          refine wpAnyH_take (i := 6) (oi := { dst := some 92, op := Op.indexAddr 55 (Operand.tmp 90) (Operand.tmp 91), type := _, pos := _, after := _, guard := some (2, false) }) (v := .pointer (some ⟨b5, k * 236, none⟩)) rfl (by kernel_rfl) (by kernel_rfl) (by kernel_rfl) (fun _ _ _ h => h) (Or.inl ⟨by rfl, fun w hSw => by (try dsimp only at hSw); go_simp⟩) (by assumption) ?_
          simp only [Act.put, List.setIfInBounds_toArray, List.set_cons_zero, List.set_cons_succ]
          refine wpAnyH_take (i := 7) (oi := { dst := some 93, op := Op.load 31 (Operand.tmp 92), type := _, pos := _, after := _, guard := some (2, false) }) (v := .agg cn) rfl (by kernel_rfl) (by kernel_rfl) (by kernel_rfl) (fun _ _ _ h => h) (Or.inl ⟨by rfl, fun w hSw => ld_exec (HLN.out _ (HP8.out.later hSw).ke) rfl rfl⟩) (by assumption) ?_
          simp only [Act.put, List.setIfInBounds_toArray, List.set_cons_zero, List.set_cons_succ]
          refine wpAnyH_take (i := 8) (oi := { dst := some 94, op := Op.binOp BinOp.neq 31 (Operand.tmp 89) (Operand.tmp 93) 31, type := _, pos := _, after := _, guard := some (2, false) }) (v := .bool false) rfl (by kernel_rfl) (by kernel_rfl) (by kernel_rfl) (fun _ _ _ h => h) (Or.inl ⟨by rfl, fun w hSw => neTr_exec HC.out rfl rfl rfl⟩) (by assumption) ?_
          simp only [Act.put, List.setIfInBounds_toArray, List.set_cons_zero, List.set_cons_succ]
          refine wpAnyH_take (i := 9) (oi := { dst := some 95, op := Op.pick (Operand.tmp 88) (Operand.const (Value.bool true)) (Operand.tmp 94), type := _, pos := _, after := _, guard := none }) (v := .bool false) rfl (by kernel_rfl) (by kernel_rfl) (by kernel_rfl) (fun _ _ _ h => h) (Or.inl ⟨by rfl, fun w hSw => by (try dsimp only at hSw); go_simp⟩) (by assumption) ?_
          simp only [Act.put, List.setIfInBounds_toArray, List.set_cons_zero, List.set_cons_succ]
          refine wpAnyH_done (by kernel_rfl) ?_ _
          have HP9 : Hid (R2 w V W8.drew BT t) := HP8.out.later hS1
          have hT9 := HT8.out.later hS1
          obtain ⟨hR9, rl9, rj9⟩ := HR8.out
          have h1 := HP2.out W8.drew HP9.out.bel a6 a7 k6 k7 (rl9.later hS1) (rj9.later hS1)
          obtain ⟨x0, x1, x2, x3⟩ := (hR9.later hS1).cells
          clear HP8 HT8 HR8 hS1 hR9 rl9 rj9 HP2 HLN
          generalize W8.drew = w9 at *
          go_wp2_with (refine rdT hT9 HC.out _ rfl rfl rfl ?_)
          refine h1.mono ?_
          rintro r w10 ⟨⟨vl, vj, vi, rfl, -⟩, hb10⟩
          have HP10 : Hid (R2 w V w10 BT t) := HP9.out.later hb10
          have hT10 := hT9.later hb10
          have hB10 := HP10.out.tr
          have HF : Hid (R2 w V (w10.setRow BT cn) BT n) := by
            have h := HP10.out.set hgT n
            rw [HC.out] at h
            exact h
          clear h1 x0 x1 x2 x3 hb10 HP9 hT9 HP10
          go_wp2_with (first | (refine rdT hT10 HC.out _ rfl rfl rfl ?_) | (refine stTc hB10 HC.out rfl _ _ rfl rfl rfl ?_))
          go_roundw
          case rel => exact ⟨k + 1, by omega, by go_num, by rw [HN.out]; exact HF.out⟩
          case measure => simp [intOf]; omega
        · obtain rfl : k = bs.length := by omega
          have hd9 : decide ((bs.length : Int) < (bs.length : Int)) = false := by simp
          have hB9 := hpa.bel
          clear hpa HR0
          go_wp2_with fail
          go_ret
          exact ⟨rfl, hB9⟩
theorem own : ownKnob Tryz.prog.godebug = none := by kernel_rfl
theorem laidOut : laidOutB Tryz.prog = true := by kernel_rfl
set_option maxRecDepth 20000 in
theorem contract (H : Type) (enc : TypeId × Value → H) (W : World) (base : Nat) (args : Array Value) (ds gs : List (DataW H)) (before : List MemPlace)
    (hval : ∀ (j : Nat) t v, Tryz.f5.params[j]? = some t → args[j]? = some v → Value.okWide Tryz.prog W .any base t v)
    (hW : DataW.Whole enc Tryz.prog Tryz.f5.params.toList Rows.recordRunsSpec.vars false W args.toList ds gs before)
    (hsz : (DataW.weightsEach Tryz.prog (Tryz.f5.params.toList ++ Rows.recordRunsSpec.plain.varTypes Tryz.prog) (ds ++ gs)).all (· ≤ reachBytes) = true)
    (hL : laidMetH Tryz.prog Rows.recordRunsRow.laid W) :
    Calls Tryz.prog 5 args W fun e W' => ∃ v, e = .returned v ∧ Rows.recordRunsSpec.post enc Tryz.prog Tryz.f5 false true false false W args v W' := by
  have hv := vs_of hL
  have hW' := hW
  obtain ⟨p, q, hA0, hV, rfl, hfz, hnd⟩ := hW
  have hA : DataW.TrodAll enc Tryz.prog W 0 (fun _ => true) true Tryz.f5.params.toList args.toList ds p := hA0
  rw [Tryz.params5] at hA hval hsz
  obtain ⟨v0, vs0, d0, ds0, p0, q0, hargs, rfl, rfl, h0, r0⟩ := trodAll_cons hA
  obtain ⟨rfl, rfl, rfl⟩ := trodAll_nil r0
  obtain rfl : args = #[v0] := by cases args; simp_all
  obtain ⟨rfl, rfl⟩ := trodVars_none hV
  have k0 := h0
  have lt0 : ∀ x ∈ p0, x.block < W.heap.size := by obtain ⟨m, hm⟩ := k0; exact DataW.trod_lt m _ _ _ hm
  obtain ⟨a0, c0, l0, rfl, rd0, hl0, hb0⟩ := bts_of1 (fun es sp e => by subst e; exact ⟨by have h := sized_slice hsz (j := 0) (t := 52) (e := 34) rfl rfl Tryz.underlying52; rw [bytesBt] at h; exact h, fun parts hm => sized_elems hsz (j := 0) (t := 52) (e := 34) rfl rfl Tryz.underlying52 Tryz.underlying34 hm⟩) (okWide_slice Tryz.underlying52 (hval 0 52 v0 rfl rfl)) h0
  clear hA0
  refine (walk a0 c0 l0 W rd0 hl0 hb0 hv).mono fun e W' ⟨he, bel⟩ => ?_
  subst he
  exact ⟨_, rfl, _, _, _, [], _, [], hW', trodAll_mk1 (shut_bool Tryz.underlying4 _), (trodAll_cons_mk (Below.trod laidOut (by kernel_rfl) (of_decide_eq_true (by kernel_rfl)) k0 bel lt0) trodAll_mk0), rfl, bel.frame _, fun h => by cases h⟩
set_option maxRecDepth 100000 in
theorem laid_met (os : Os) : laidMet Tryz.prog Rows.recordRunsRow.laid ((laidWorld os).forCall (fun _ _ => 0) ⟨#[], #[.slice none 0 0], []⟩).memory :=
  laidMet_of_run' 8 (by kernel_rfl) (by kernel_rfl)
set_option maxRecDepth 100000 in
theorem reads (os : Os) {H : Type} (enc : TypeId × Value → H) : ∃ places, DataW.whole enc Tryz.prog ((laidWorld os).forCall (fun _ _ => 0) ⟨#[], #[.slice none 0 0], []⟩).memory Tryz.f5.params.toList Rows.recordRunsSpec.vars false (#[.slice none 0 0] : Array Value).toList 8 = some ([.nil], [], places) :=
  ⟨[], by kernel_rfl⟩
set_option maxRecDepth 100000 in
theorem lifted (os : Os) (started : os.Started) (H : Type) (enc : TypeId × Value → H) (F : Stop.Interp) :
    ReturnsInHanded {} Tryz.checked os 5 .any ((OpenSpec.ofChange Rows.recordRunsSpec).preRow enc Tryz.prog Tryz.f5 Rows.recordRunsRow.domain false Rows.recordRunsRow.laid) (((OpenSpec.ofChange Rows.recordRunsSpec).at F).post enc Tryz.prog Tryz.f5 false true false false) := by
  obtain ⟨places, hx⟩ := reads os enc
  refine returnsInHanded_of_row (C := Tryz.checked) (s := (OpenSpec.ofChange Rows.recordRunsSpec)) own started (by kernel_rfl) Tryz.func5
    (witness_row_at (enc := enc) (C := Tryz.checked) false (laidWorld os) #[.slice none 0 0] rfl (by kernel_rfl) (by kernel_rfl) (by kernel_rfl)
      (OpenSpec.preRow_of_cond 8 hx (by kernel_rfl) (fun k hk => by cases hk) (by kernel_rfl) (laid_met os))) ?_
  intro W base args ds gs before hval hW hc1 hc2 hsz hL hsh _
  exact contract H enc W base args ds gs before hval hW hsz hL
theorem said : Rows.RecordRunsSaid :=
  OpenClaim.holds_of_cond 5 Tryz.f5 rfl rfl rfl rfl rfl rfl rfl ⟨rfl, rfl, rfl, rfl, rfl⟩ rfl rfl rfl rfl rfl (by kernel_rfl) Tryz.func5 (by kernel_rfl)
    (of_decide_eq_true (by kernel_rfl)) (by unfold Func.isWrapper; first | (rw [if_pos (by decide +kernel)]; kernel_rfl) | (rw [if_neg (by decide +kernel)]; exact ⟨rfl, rfl⟩))
    (fun os started H enc _ F => by rw [OpenClaim.pre_eq_preRow]; exact lifted os started H enc F)
theorem plain (f : FuncId) (fn : Func) (hf : Tryz.pinned.checked.prog.funcNamed "coterie/coterielaw13.RecordRuns" = some f) (hfn : Tryz.pinned.checked.prog.funcs[f]? = some fn) :
    false = Tryz.pinned.checked.prog.looks [] ∧ ∀ (j : Nat) t, fn.params[j]? = some t → Tryz.pinned.checked.prog.wantsStandIn t = false := by
  obtain rfl : f = 5 := Option.some.inj ((show Tryz.prog.funcNamed "coterie/coterielaw13.RecordRuns" = some 5 by kernel_rfl).symm.trans hf) |>.symm
  obtain rfl : fn = Tryz.f5 := (Option.some.inj (Tryz.func5.symm.trans hfn)).symm
  refine ⟨by kernel_rfl, fun j t ht => ?_⟩
  rw [Tryz.params5] at ht
  have h52 : Tryz.prog.wantsStandIn 52 = false := by kernel_rfl
  have hm := Array.mem_of_getElem? ht
  simp at hm
  subst hm
  exact h52
end Go.Proofs.YteocfmimgoocnaaGreatDoor.recordRuns
namespace Go.Proofs.YteocfmimgoocnaaGreatDoor
theorem recordRuns_holds : Rows.RecordRunsCardSaid :=
  Claim7.holds_tied_plain_at .later [] _ _ _ _ recordRuns.said (fun _ h => by cases h) (by kernel_rfl) (fun _ h => by cases h) recordRuns_row_tie rfl ⟨rfl, rfl⟩ (by kernel_rfl) rfl recordRuns.plain (by kernel_rfl)
#print axioms recordRuns_holds
end Go.Proofs.YteocfmimgoocnaaGreatDoor
