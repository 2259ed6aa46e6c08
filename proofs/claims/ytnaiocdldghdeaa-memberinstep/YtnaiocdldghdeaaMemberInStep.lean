/- For every tree and every batch: of a step's message, who stays stands at the new tree, who left is out, who joined and has the card stands there; again it is old. No conditions. -/
import Derived.Test.YtnaiocdldghdeaaRows
import Derived.Test.YtnaiocdldghdeaaMbJ5
import Derived.Test.YtnaiocdldghdeaaMbMath3
import Derived.Test.YtnaiocdldghdeaaOpJ
import Derived.Test.YtnaiocdldghdeaaOpJ2
import Derived.OpenShut
import Derived.SizedLaws
import Derived.ChangeMaps5
namespace Go.Proofs.Ytnaiocdldghdeaa.memberInStep
open Go.ChangeShapes Go.WideShapes Go.ChangeAt Go.RowKit Go.Maps
open Go.Proofs.Ytnaiocdldghdeaa.Mb
open Rt (Ky KyAt)
open Rs (tkn En zE RdI evl open_bt sized_agg)
open Wi (ldM ra_of stl)
set_option linter.unusedVariables false
set_option linter.unusedSimpArgs false

structure TC (t : Tr) (c : Array Value) : Prop where
  out : tcs t = c
structure MC (m : Mb) (c : Array Value) : Prop where
  out : mba m = c
structure IS (w W : World) (B N D : Nat) (t n : Tr) (p : Rk) (a1 a2 a3 : Option Addr) (k1 k2 k3 : Nat) : Prop where
  tr : TrAt W B t
  nw : TrAt W N n
  rk : RK W D p a1 a2 a3 k1 k2 k3
  rd : RL W p a1 a2 a3
  bel : Below w.heap.size w W
section
variable {w W W' : World} {B N D : Nat} {t n : Tr} {p : Rk} {a1 a2 a3 : Option Addr} {k1 k2 k3 : Nat}
theorem IS.later (h : IS w W B N D t n p a1 a2 a3 k1 k2 k3) (hb : Below W.heap.size W W') : IS w W' B N D t n p a1 a2 a3 k1 k2 k3 := ⟨h.tr.later hb, h.nw.later hb, h.rk.later hb, h.rd.later hb, h.bel.trans (hb.mono h.bel.size)⟩
theorem IS.rng (h : IS w W B N D t n p a1 a2 a3 k1 k2 k3) : W.rangeAt D 0 [.int .i64 p.1, .slice a1 p.2.1.length k1, .slice a2 p.2.2.1.length k2, .slice a3 p.2.2.2.length k3] := ra_of h.rk 0 _ rfl
end
def EnAt (w : World) (B : Nat) (e : En) : Prop := w.heap[B]? = some (.cells #[.int .i64 e.who, .int .i64 e.bas, .int .i64 e.snc] 42 (0, 0))
theorem EnAt.cells {w : World} {B : Nat} {e : En} (h : EnAt w B e) : w.cell? ⟨B, 0, none⟩ = some (.int .i64 e.who) ∧ w.cell? ⟨B, 1, none⟩ = some (.int .i64 e.bas) ∧ w.cell? ⟨B, 2, none⟩ = some (.int .i64 e.snc) := ⟨cell_of_row w B 0 _ _ _ h, cell_of_row w B 1 _ _ _ h, cell_of_row w B 2 _ _ _ h⟩
set_option maxHeartbeats 8000000 in
set_option maxRecDepth 100000 in
theorem walk (t : Tr) (aL aJ : Option Addr) (cL cJ : Nat) (L J : List Int) (w : World) (rL : RdI w aL L) (rJ : RdI w aJ J) (lL : L.length * 8 ≤ 140737488351232) (lJ : J.length * 8 ≤ 140737488351232) :
    Calls Try.prog 4 #[.agg (tcs t), .agg #[.slice aL L.length cL, .slice aJ J.length cJ] ] w fun e w' => e = .returned (.bool true) ∧ Below w.heap.size w w' := by
  have hX := TB.new w t aL aJ L.length J.length cL cJ
  obtain ⟨ct, hct⟩ : ∃ c, tcs t = c := ⟨_, rfl⟩
  have HT : TC t ct := ⟨hct⟩
  clear hct
  go_enter Try.func4, Try.ntmps4
  go_upto_region 1 with (fail)
  generalize (w.alloc (.cells (tcs t) 46)).alloc (.cells #[.slice aL L.length cL, .slice aJ J.length cJ] 49) = w0 at *
  rw [HT.out]
  obtain ⟨C0, hC⟩ : ∃ C, w.heap.size + 1 = C := ⟨_, rfl⟩
  rw [hC] at hX ⊢
  obtain ⟨B, hB⟩ : ∃ B, w.heap.size = B := ⟨_, rfl⟩
  rw [hB] at hX ⊢
  clear hC hB
  go_wp2_with fail
  refine (lives_any _).mono ?_
  rintro r w1 ⟨rfl, hb1⟩
  have hX1 := hX.later hb1
  clear hX hb1
  have h1 := next_r t aL aJ cL cJ L J w1 (by omega) (by omega) (rL.later hX1.bel) (rJ.later hX1.bel)
  rw [HT.out] at h1
  clear rL rJ lL lJ
  have hT1 := hX1.tr
  obtain ⟨d0, d1⟩ := hX1.bt.cells
  go_wp2_with (refine rdT hT1 HT.out _ rfl rfl rfl ?_)
  refine h1.mono ?_
  rintro r w2 ⟨⟨a1, a2, a3, k1, k2, k3, rfl, hr2⟩, hb2⟩
  unfold rka
  have hX2 := hX1.later hb2
  have hap := fun (m : Mb) (W : World) (hW : RL W (pR t L J) a1 a2 a3) => apply_any m (pR t L J) a1 a2 a3 k1 k2 k3 W hW (pR_len t L J)
  unfold ApR rka at hap
  have HOK : Hid (plE t L J = 0 → (pR t L J).2.1.length ≤ 64 ∧ (∀ (j : Nat) (hj : j < (pR t L J).2.1.length), InL t (pnT t L J) (pR t L J) ((pR t L J).2.1[j]).1) ∧ (∀ s : Nat, s < 64 → tkn ((pnT t L J).ro s) = true → InN t (pnT t L J) (pR t L J) s)) := fun h => by
    have hst := plE_stp h
    have e : pnT t L J = nx t L J := by unfold pnT; rw [if_pos h]
    rw [e]
    exact ⟨pR_l64 hst, fun j hj => in_left hst hj, fun s hs ht => in_new hst hs ht⟩
  obtain ⟨n, hn⟩ : ∃ n, pnT t L J = n := ⟨_, rfl⟩
  obtain ⟨e, he⟩ : ∃ e, plE t L J = e := ⟨_, rfl⟩
  obtain ⟨p, hp⟩ : ∃ e, pR t L J = e := ⟨_, rfl⟩
  rw [hn, he, hp]
  rw [hn, he, hp] at HOK
  rw [hp] at hr2
  simp only [hp] at hap
  obtain ⟨cn, hcn⟩ : ∃ c, tcs n = c := ⟨_, rfl⟩
  have HNT : TC n cn := ⟨hcn⟩
  rw [hcn]
  obtain ⟨t1, t2, W, hW, tT, tR, tB⟩ := two_boxes w2 n cn #[.int .i64 p.1, .slice a1 p.2.1.length k1, .slice a2 p.2.2.1.length k2, .slice a3 p.2.2.2.length k3] hcn
  have hX3 := hX2.later tB
  have hI : IS w W B w2.heap.size (w2.heap.size + 1) t n p a1 a2 a3 k1 k2 k3 := ⟨hX3.tr, tT, tR, hr2.later tB, hX3.bel⟩
  have HAP : Hid _ := hap
  clear h1 hX1 hX2 hX3 hT1 hb2 d0 d1 hr2 hn he hp hcn tB tT tR hap
  go_upto_region 4 with (first | (refine stTc t1 HNT.out rfl _ _ rfl rfl rfl ?_) | (refine stRw infoRk (cs := rkz) rkz_size t2 _ rfl (rk_one _ _ _ _ _ _ _ _ _ _) rfl _ _ rfl rfl rfl ?_))
  clear t1 t2 hW
  obtain ⟨D, hD⟩ : ∃ D, w2.heap.size + 1 = D := ⟨_, rfl⟩
  rw [hD] at hI ⊢
  clear hD
  generalize w2.heap.size = N at *
  by_cases he0 : e = 0
  rotate_left
  · have q0 : (e != 0) = true := by simpa using he0
    have HB := hI.bel
    clear he0 HOK HAP hI
    go_wp2_with fail
    go_ret
    exact ⟨rfl, HB⟩
  subst he0
  obtain ⟨hl64, hin, hnw⟩ := HOK.out rfl
  have HIN1 : Hid (∀ (j : Nat) (hj : j < p.2.1.length), InL t n p (p.2.1[j]).1) := hin
  have HNW : Hid (∀ s : Nat, s < 64 → tkn (n.ro s) = true → InN t n p s) := hnw
  clear HOK hin hnw
  obtain ⟨r0, r1, r2, r3⟩ := hI.rk.cells
  obtain ⟨nl, hnl⟩ : ∃ nl, p.2.1.length = nl := ⟨_, rfl⟩
  have HNL : Hid (p.2.1.length = nl) := hnl
  rw [hnl] at r1 hl64
  clear hnl
  go_wp2_with fail
  clear r0 r1 r2 r3
  go_loopw [41] (fun i wx => ∃ m : Nat, m ≤ nl ∧ i = .int .i64 (m : Int) ∧ IS w wx B N D t n p a1 a2 a3 k1 k2 k3) (fun i _ => nl - (intOf i).toNat)
  case atStart => exact ⟨0, by omega, rfl, hI⟩
  case round =>
    clear hI
    obtain ⟨j, hj, rfl, hI⟩ := hrel
    by_cases hjn : j < nl
    · have hjl : j < p.2.1.length := by rw [HNL.out]; exact hjn
      obtain ⟨b, o, ha, hr1⟩ := hI.rd.l j hjl
      have i1 : (0 : Int) ≤ (j : Int) := by omega
      have i2 : (j : Int) < (nl : Int) := by omega
      have HL : Hid (InL t n p (p.2.1[j]).1) := HIN1.out j hjl
      generalize p.2.1[j] = y at *
      obtain ⟨px, py⟩ := y
      unfold Wi.stl at hr1
      dsimp only at hr1 HL
      subst ha
      have hI5 := hI.later (below_alloc wr (.cells #[.int .i64 px, .int .i64 py] 57))
      have hE5 : (wr.alloc (.cells #[.int .i64 px, .int .i64 py] 57)).heap[wr.heap.size]? = some (.cells #[.int .i64 px, .int .i64 py] 57 (0, 0)) := heap_alloc_last wr _
      clear hI
      go_upto_region 9 with (refine ldM hr1 Try.underlying57 rfl Wi.szSeat _ rfl rfl rfl ?_)
      clear hr1
      generalize wr.alloc (.cells #[.int .i64 px, .int .i64 py] 57) = w5 at *
      generalize wr.heap.size = E at *
      have c0 : w5.cell? ⟨E, 0, none⟩ = some (.int .i64 px) := cell_of_row w5 E 0 _ _ _ hE5
      have hs := stand_r t px
      rw [HL.out.c, HT.out] at hs
      obtain ⟨mm, hmm⟩ : ∃ mm, stM t px = mm := ⟨_, rfl⟩
      have HA1 : Hid (apl mm p = (0, outM px n.ep)) := by rw [← hmm]; exact HL.out.a
      have HA2 : Hid (apl (outM px n.ep) p = (20, outM px n.ep)) := HL.out.b
      rw [hmm] at hs
      obtain ⟨cm, hcm⟩ : ∃ c, mba mm = c := ⟨_, rfl⟩
      have HC : MC mm cm := ⟨hcm⟩
      rw [hcm] at hs
      clear hmm hcm HL
      go_wp2_with (refine rdT hI5.tr HT.out _ rfl rfl rfl ?_)
      refine (hs _).mono ?_
      rintro r w6 ⟨rfl, hb6⟩
      have hb6' := Wi.Below.join hb6 (below_alloc w6 (.cells (mba mm) 27))
      have hI6 := hI5.later hb6'
      have hA6 := MA.new w6 mm
      have hE6 := row_later hE5 hb6'
      rw [HC.out] at hI6 hA6 hE6
      clear hs hb6 hb6' c0 hE5 hI5
      go_upto_region 10 with (refine stMn (w := w6) HC.out rfl _ _ rfl rfl rfl ?_)
      generalize w6.alloc (.cells cm 27) = w7 at *
      generalize w6.heap.size = A6 at *
      obtain ⟨co, hco⟩ : ∃ c, mba (outM px n.ep) = c := ⟨_, rfl⟩
      have HO : MC (outM px n.ep) co := ⟨hco⟩
      have ha := HAP.out mm w7 hI6.rd
      rw [HA1.out, HC.out] at ha
      dsimp only at ha
      rw [hco] at ha
      have HR7 : Hid (w7.rangeAt D 0 [.int .i64 p.1, .slice (some ⟨b, o, none⟩) p.2.1.length k1, .slice a2 p.2.2.1.length k2, .slice a3 p.2.2.2.length k3]) := hI6.rng
      clear hco
      go_wp2_with (first | (refine ldMb hA6 HC.out _ rfl rfl rfl ?_) | (refine ldM HR7.out Try.underlying53 rfl Wi.szRk _ rfl rfl rfl ?_))
      refine ha.mono ?_
      rintro r w8 ⟨rfl, hb8⟩
      have hb8' := Wi.Below.join hb8 (below_alloc w8 (.cells (mba (outM px n.ep)) 27))
      have hI8 := hI6.later hb8'
      have hA8 := MA.new w8 (outM px n.ep)
      have hE8 := row_later hE6 hb8'
      rw [HO.out] at hI8 hA8 hE8
      clear ha hb8 hb8' hA6 hE6 hI6 HR7
      go_upto_region 11 with (refine stMn (w := w8) HO.out rfl _ _ rfl rfl rfl ?_)
      generalize w8.alloc (.cells co 27) = w9 at *
      generalize w8.heap.size = A8 at *
      have ha := HAP.out (outM px n.ep) w9 hI8.rd
      rw [HA2.out, HO.out] at ha
      dsimp only at ha
      try rw [HO.out] at ha
      have HR9 : Hid (w9.rangeAt D 0 [.int .i64 p.1, .slice (some ⟨b, o, none⟩) p.2.1.length k1, .slice a2 p.2.2.1.length k2, .slice a3 p.2.2.2.length k3]) := hI8.rng
      go_wp2_with (first | (refine ldMb hA8 HO.out _ rfl rfl rfl ?_) | (refine ldM HR9.out Try.underlying53 rfl Wi.szRk _ rfl rfl rfl ?_))
      refine ha.mono ?_
      rintro r w10 ⟨rfl, hb10⟩
      have hb10' := Wi.Below.join hb10 (below_alloc w10 (.cells (mba (outM px n.ep)) 27))
      have hI10 := hI8.later hb10'
      have hA10 := MA.new w10 (outM px n.ep)
      have hA8b := hA8.later hb10'
      have hE10 := row_later hE8 hb10'
      rw [HO.out] at hI10 hA10 hE10 hA8b
      clear ha hb10 hb10' hA8 hE8 hI8 HR9
      go_upto_region 12 with (refine stMn (w := w10) HO.out rfl _ _ rfl rfl rfl ?_)
      generalize w10.alloc (.cells co 27) = w11 at *
      generalize w10.heap.size = A10 at *
      have c0 : w11.cell? ⟨E, 0, none⟩ = some (.int .i64 px) := cell_of_row w11 E 0 _ _ _ hE10
      have c1 := hI10.nw.cells.1
      have HEQ : Hid (mE (outM px n.ep) (outM px n.ep) = true) := mE_iff.2 rfl
      have HO2 : Hid (mba (outM px n.ep) = #[.int .i64 px, .int .i64 0, .int .i64 n.ep, .int .i64 0, .int .i64 0, .int .i64 0, .int .i64 0, .int .i64 0, .int .i64 0, .int .i64 0, .int .i64 0, .bool false, .bool true, .int .i64 0]) := rfl
      clear hE10
      go_wp2_with (first | (refine ldMb hA8b HO.out _ rfl rfl rfl ?_) | (refine ldMb hA10 HO.out _ rfl rfl rfl ?_) | (refine neM HO.out HO2.out HEQ.out _ _ rfl rfl rfl rfl ?_) | (refine neM HO.out HO.out HEQ.out _ _ rfl rfl rfl rfl ?_))
      go_roundw
      case rel => exact ⟨j + 1, by omega, by go_num, hI10⟩
      case measure => simp [intOf]; omega
    · have hjn' : decide ((j : Int) < (nl : Int)) = false := by simp; omega
      clear HIN1 HNL hl64
      go_wp2_with fail
      clear hj hjn
      go_loopw [16] (fun i wx => ∃ m : Nat, m ≤ 64 ∧ i = .int .i64 (m : Int) ∧ IS w wx B N D t n p a1 a2 a3 k1 k2 k3) (fun i _ => 64 - (intOf i).toNat)
      case atStart => exact ⟨0, by omega, rfl, hI⟩
      case round =>
        clear hI hjn'
        obtain ⟨s, hs, rfl, hI⟩ := hrel
        by_cases hsn : s < 64
        · have i1 : (0 : Int) ≤ (s : Int) := by omega
          have i2 : (s : Int) < 64 := by omega
          obtain ⟨e0, e1, e2⟩ := hI.nw.ent s hsn
          have hIN := HNW.out s hsn
          have hb5 := below_alloc wr (.cells #[.int .i64 (n.ro s).who, .int .i64 (n.ro s).bas, .int .i64 (n.ro s).snc] 42)
          have hI5 := hI.later hb5
          have hE5 : EnAt (wr.alloc (.cells #[.int .i64 (n.ro s).who, .int .i64 (n.ro s).bas, .int .i64 (n.ro s).snc] 42)) wr.heap.size (n.ro s) := heap_alloc_last wr _
          clear hI hb5
          go_upto_region 19 with (fail)
          generalize wr.alloc (.cells #[.int .i64 (n.ro s).who, .int .i64 (n.ro s).bas, .int .i64 (n.ro s).snc] 42) = w5 at *
          generalize wr.heap.size = E at *
          clear e0 e1 e2
          obtain ⟨e0, e1, e2⟩ := hE5.cells
          by_cases hbs : (n.ro s).bas = 0
          · have q0 : ((n.ro s).bas == 0) = true := by simpa using hbs
            clear hbs hIN
            go_wp2_with fail
            go_roundw
            case rel => exact ⟨s + 1, by omega, by go_num, hI5⟩
            case measure => simp [intOf]; omega
          · have q0 : ((n.ro s).bas == 0) = false := by simpa using hbs
            have HIN : Hid (InN t n p s) := hIN (by simp [Rs.tkn, hbs])
            clear hbs hIN
            have hst := stand_r t (n.ro s).who
            rw [HT.out] at hst
            rcases HIN.out.c with ⟨hc0, hc1⟩ | ⟨hc0, hc1⟩
            · rw [hc0] at hst
              obtain ⟨mm, hmm⟩ : ∃ mm, stM t (n.ro s).who = mm := ⟨_, rfl⟩
              rw [hmm] at hst hc1
              have HM8 : Hid (apl mm p = (0, atS n s 0)) := hc1
              obtain ⟨cm, hcm8⟩ : ∃ c, mba mm = c := ⟨_, rfl⟩
              rw [hcm8] at hst
              clear hc0 hc1 hmm
              have HC8 : MC mm cm := ⟨hcm8⟩
              clear hcm8
              go_wp2_with (refine rdT hI5.tr HT.out _ rfl rfl rfl ?_)
              refine (hst _).mono ?_
              rintro r w6 ⟨rfl, hb6⟩
              have hb6' := Wi.Below.join hb6 (below_alloc w6 (.cells (mba mm) 27))
              have hI8 := hI5.later hb6'
              have hA8 := MA.new w6 mm
              have hE8 : EnAt (w6.alloc (.cells (mba mm) 27)) E (n.ro s) := row_later hE5 hb6'
              rw [HC8.out] at hI8 hA8 hE8
              clear hst hb6 hb6' e0 e1 e2 hE5 hI5 q0
              go_upto_region 21 with (refine stMn (w := w6) HC8.out rfl _ _ rfl rfl rfl ?_)
              generalize w6.alloc (.cells cm 27) = w8 at *
              generalize w6.heap.size = A8 at *
              go_upto_region 26 with (fail)
              have hcm8 := HC8.out
              obtain ⟨c9, hc9⟩ : ∃ c, mba (atS n s 0) = c := ⟨_, rfl⟩
              have H9 : MC (atS n s 0) c9 := ⟨hc9⟩
              have ha := HAP.out mm w8 hI8.rd
              rw [HM8.out, hcm8] at ha
              dsimp only at ha
              rw [hc9] at ha
              have HR8 : Hid (w8.rangeAt D 0 [.int .i64 p.1, .slice a1 p.2.1.length k1, .slice a2 p.2.2.1.length k2, .slice a3 p.2.2.2.length k3]) := hI8.rng
              clear hc9
              go_wp2_with (first | (refine ldMb hA8 hcm8 _ rfl rfl rfl ?_) | (refine ldM HR8.out Try.underlying53 rfl Wi.szRk _ rfl rfl rfl ?_))
              refine ha.mono ?_
              rintro r w9 ⟨rfl, hb9⟩
              have hb9' := Wi.Below.join hb9 (below_alloc w9 (.cells (mba (atS n s 0)) 27))
              have hI9 := hI8.later hb9'
              have hA9 := MA.new w9 (atS n s 0)
              have hE9 : EnAt (w9.alloc (.cells (mba (atS n s 0)) 27)) E (n.ro s) := row_later hE8 hb9'
              rw [H9.out] at hI9 hA9 hE9
              clear ha hb9 hb9' HR8 hA8 hI8 hE8
              go_upto_region 27 with (refine stMn (w := w9) H9.out rfl _ _ rfl rfl rfl ?_)
              generalize w9.alloc (.cells c9 27) = w10 at *
              generalize w9.heap.size = A9 at *
              have hs2 := stand_r n (n.ro s).who
              rw [HIN.out.d, HIN.out.e, HNT.out, H9.out] at hs2
              obtain ⟨e0, e1, e2⟩ := hE9.cells
              go_wp2_with (refine rdT hI9.nw HNT.out _ rfl rfl rfl ?_)
              refine (hs2 _).mono ?_
              rintro r w11 ⟨rfl, hb11⟩
              have hb11' := Wi.Below.join hb11 (below_alloc w11 (.cells (mba (atS n s 0)) 27))
              have hI11 := hI9.later hb11'
              have hA11 := MA.new w11 (atS n s 0)
              have hA9b := hA9.later hb11'
              rw [H9.out] at hI11 hA11 hA9b
              clear hs2 hb11 hb11' hI9 hE9 hA9 e0 e1 e2
              go_upto_region 28 with (refine stMn (w := w11) H9.out rfl _ _ rfl rfl rfl ?_)
              generalize w11.alloc (.cells c9 27) = w12 at *
              generalize w11.heap.size = A11 at *
              have ha2 := HAP.out (atS n s 0) w12 hI11.rd
              rw [HIN.out.f, H9.out] at ha2
              dsimp only at ha2
              try rw [H9.out] at ha2
              have HR12 : Hid (w12.rangeAt D 0 [.int .i64 p.1, .slice a1 p.2.1.length k1, .slice a2 p.2.2.1.length k2, .slice a3 p.2.2.2.length k3]) := hI11.rng
              go_wp2_with (first | (refine ldMb hA9b H9.out _ rfl rfl rfl ?_) | (refine ldM HR12.out Try.underlying53 rfl Wi.szRk _ rfl rfl rfl ?_))
              refine ha2.mono ?_
              rintro r w13 ⟨rfl, hb13⟩
              have hb13' := Wi.Below.join hb13 (below_alloc w13 (.cells (mba (atS n s 0)) 27))
              have hI13 := hI11.later hb13'
              have hA13 := MA.new w13 (atS n s 0)
              have hA9c := hA9b.later hb13'
              have hA11c := hA11.later hb13'
              rw [H9.out] at hI13 hA13 hA9c hA11c
              clear ha2 hb13 hb13' hI11 hA11 hA9b HR12
              go_upto_region 29 with (refine stMn (w := w13) H9.out rfl _ _ rfl rfl rfl ?_)
              generalize w13.alloc (.cells c9 27) = w14 at *
              generalize w13.heap.size = A13 at *
              have HEQ : Hid (mE (atS n s 0) (atS n s 0) = true) := mE_iff.2 rfl
              go_wp2_with (first | (refine ldMb hA9c H9.out _ rfl rfl rfl ?_) | (refine ldMb hA11c H9.out _ rfl rfl rfl ?_) | (refine ldMb hA13 H9.out _ rfl rfl rfl ?_) | (refine neM H9.out H9.out HEQ.out _ _ rfl rfl rfl rfl ?_))
              go_roundw
              case rel => exact ⟨s + 1, by omega, by go_num, hI13⟩
              case measure => simp [intOf]; omega
            · rw [hc0] at hst
              obtain ⟨mm0, hmm⟩ : ∃ mm, stM t (n.ro s).who = mm := ⟨_, rfl⟩
              rw [hmm] at hst
              obtain ⟨mm, hm2⟩ : ∃ mm, cdS n s = mm := ⟨_, rfl⟩
              have HM8 : Hid (apl mm p = (0, atS n s 0)) := by rw [← hm2]; exact hc1
              obtain ⟨cm0, hcm0⟩ : ∃ c, mba mm0 = c := ⟨_, rfl⟩
              rw [hcm0] at hst
              have HC0 : MC mm0 cm0 := ⟨hcm0⟩
              have hcd := rCard_any n (n.ro s).who
              unfold CardA at hcd
              rw [HIN.out.d, HNT.out] at hcd
              have hse := seated_any (caW n (n.ro s).who) (caS n (n.ro s).who) (caP n (n.ro s).who) (caK n (n.ro s).who)
              unfold SeatA at hse
              rw [HIN.out.g, HIN.out.h, hm2] at hse
              generalize caW n (n.ro s).who = x1 at *
              generalize caS n (n.ro s).who = x2 at *
              generalize caP n (n.ro s).who = x3 at *
              generalize caK n (n.ro s).who = x4 at *
              obtain ⟨cm, hcm8⟩ : ∃ c, mba mm = c := ⟨_, rfl⟩
              rw [hcm8] at hse
              have HC8 : MC mm cm := ⟨hcm8⟩
              clear hc0 hc1 hmm hm2 hcm0 hcm8
              unfold ccs at hcd hse
              go_wp2_with (refine rdT hI5.tr HT.out _ rfl rfl rfl ?_)
              refine (hst _).mono ?_
              rintro r w6 ⟨rfl, hb6⟩
              have hb6' := Wi.Below.join hb6 (below_alloc w6 (.cells (mba mm0) 27))
              have hI6 := hI5.later hb6'
              have hA6 := MA.new w6 mm0
              have hE6 : EnAt (w6.alloc (.cells (mba mm0) 27)) E (n.ro s) := row_later hE5 hb6'
              have hlt6 := hI5.bel.size
              have hlt7 := hb6.size
              rw [HC0.out] at hI6 hA6 hE6
              have HI5 : Hid (IS w w5 B N D t n p a1 a2 a3 k1 k2 k3) := hI5
              have HE5 : Hid (EnAt w5 E (n.ro s)) := hE5
              have HB5 : Hid (Below w5.heap.size w5 (w6.alloc (.cells cm0 27))) := by rw [← HC0.out]; exact hb6'
              clear hst hb6 hb6' e0 e1 e2 hE5 hI5 q0
              go_upto_region 21 with (refine stMn (w := w6) HC0.out rfl _ _ rfl rfl rfl ?_)
              generalize w6.alloc (.cells cm0 27) = w7 at *
              obtain ⟨A8, hA8e⟩ : ∃ A, w6.heap.size = A := ⟨_, rfl⟩
              rw [hA8e] at hA6 hlt7 ⊢
              have HGE : Hid (w5.heap.size ≤ A8) := hlt7
              clear hA8e hlt6 hlt7
              obtain ⟨e0, e1, e2⟩ := hE6.cells
              go_wp2_with (refine rdT hI6.nw HNT.out _ rfl rfl rfl ?_)
              refine (hcd _).mono ?_
              rintro r w8 ⟨rfl, hb8⟩
              have hb8' := Wi.Below.join hb8 (below_alloc w8 (.cells #[.int .i64 x1, .int .i64 x2, .int .i64 x3, .int .i64 x4.bas, .int .i64 x4.stp] 29))
              have hI8 := hI6.later hb8'
              have hA8 := hA6.later hb8'
              have hE8 : EnAt (w8.alloc (.cells #[.int .i64 x1, .int .i64 x2, .int .i64 x3, .int .i64 x4.bas, .int .i64 x4.stp] 29)) E (n.ro s) := row_later hE6 hb8'
              have hK8 : (w8.alloc (.cells #[.int .i64 x1, .int .i64 x2, .int .i64 x3, .int .i64 x4.bas, .int .i64 x4.stp] 29)).heap[w8.heap.size]? = some (.cells #[.int .i64 x1, .int .i64 x2, .int .i64 x3, .int .i64 x4.bas, .int .i64 x4.stp] 29 (0, 0)) := heap_alloc_last w8 _
              have HB8 : Hid (Below w5.heap.size w5 (w8.alloc (.cells #[.int .i64 x1, .int .i64 x2, .int .i64 x3, .int .i64 x4.bas, .int .i64 x4.stp] 29))) := Wi.Below.join HB5.out hb8'
              clear hcd hb8 hb8' e0 e1 e2 hE6 hI6 hA6 HB5
              go_upto_region 23 with (fail)
              generalize w8.alloc (.cells #[.int .i64 x1, .int .i64 x2, .int .i64 x3, .int .i64 x4.bas, .int .i64 x4.stp] 29) = w9 at *
              generalize w8.heap.size = K8 at *
              have k0 := cell_of_row w9 K8 0 _ _ _ hK8
              have k1' := cell_of_row w9 K8 1 _ _ _ hK8
              have k2' := cell_of_row w9 K8 2 _ _ _ hK8
              have k3' := cell_of_row w9 K8 3 _ _ _ hK8
              have k4' := cell_of_row w9 K8 4 _ _ _ hK8
              go_wp2_with fail
              refine (hse _).mono ?_
              rintro r w10 ⟨rfl, hb10⟩
              have hI10 := hI8.later hb10
              have hA10 := hA8.later hb10
              have HB10 : Hid (Below w5.heap.size w5 w10) := Wi.Below.join HB8.out hb10
              clear hse HB8 hI10 hb10 hI8 hA8 hE8 hK8 k0 k1' k2' k3' k4'
              go_upto_region 24 with (refine stMb (n := mm) hA10 HC8.out rfl _ _ rfl rfl rfl ?_)
              have hb12 : Below w5.heap.size w5 (w10.setRow A8 (mba mm)) := Rt.setRow_below HGE.out HB10.out _
              have hI8 := HI5.out.later hb12
              have hE8 : EnAt (w10.setRow A8 (mba mm)) E (n.ro s) := row_later HE5.out hb12
              have hA8 := hA10.row mm
              clear hA10 hb12 HB10 HI5 HE5
              generalize w10.setRow A8 (mba mm) = w8 at *
              go_upto_region 26 with (fail)
              have hcm8 := HC8.out
              obtain ⟨c9, hc9⟩ : ∃ c, mba (atS n s 0) = c := ⟨_, rfl⟩
              have H9 : MC (atS n s 0) c9 := ⟨hc9⟩
              have ha := HAP.out mm w8 hI8.rd
              rw [HM8.out, hcm8] at ha
              dsimp only at ha
              rw [hc9] at ha
              have HR8 : Hid (w8.rangeAt D 0 [.int .i64 p.1, .slice a1 p.2.1.length k1, .slice a2 p.2.2.1.length k2, .slice a3 p.2.2.2.length k3]) := hI8.rng
              clear hc9
              go_wp2_with (first | (refine ldMb hA8 hcm8 _ rfl rfl rfl ?_) | (refine ldM HR8.out Try.underlying53 rfl Wi.szRk _ rfl rfl rfl ?_))
              refine ha.mono ?_
              rintro r w9 ⟨rfl, hb9⟩
              have hb9' := Wi.Below.join hb9 (below_alloc w9 (.cells (mba (atS n s 0)) 27))
              have hI9 := hI8.later hb9'
              have hA9 := MA.new w9 (atS n s 0)
              have hE9 : EnAt (w9.alloc (.cells (mba (atS n s 0)) 27)) E (n.ro s) := row_later hE8 hb9'
              rw [H9.out] at hI9 hA9 hE9
              clear ha hb9 hb9' HR8 hA8 hI8 hE8
              go_upto_region 27 with (refine stMn (w := w9) H9.out rfl _ _ rfl rfl rfl ?_)
              generalize w9.alloc (.cells c9 27) = w10 at *
              generalize w9.heap.size = A9 at *
              have hs2 := stand_r n (n.ro s).who
              rw [HIN.out.d, HIN.out.e, HNT.out, H9.out] at hs2
              obtain ⟨e0, e1, e2⟩ := hE9.cells
              go_wp2_with (refine rdT hI9.nw HNT.out _ rfl rfl rfl ?_)
              refine (hs2 _).mono ?_
              rintro r w11 ⟨rfl, hb11⟩
              have hb11' := Wi.Below.join hb11 (below_alloc w11 (.cells (mba (atS n s 0)) 27))
              have hI11 := hI9.later hb11'
              have hA11 := MA.new w11 (atS n s 0)
              have hA9b := hA9.later hb11'
              rw [H9.out] at hI11 hA11 hA9b
              clear hs2 hb11 hb11' hI9 hE9 hA9 e0 e1 e2
              go_upto_region 28 with (refine stMn (w := w11) H9.out rfl _ _ rfl rfl rfl ?_)
              generalize w11.alloc (.cells c9 27) = w12 at *
              generalize w11.heap.size = A11 at *
              have ha2 := HAP.out (atS n s 0) w12 hI11.rd
              rw [HIN.out.f, H9.out] at ha2
              dsimp only at ha2
              try rw [H9.out] at ha2
              have HR12 : Hid (w12.rangeAt D 0 [.int .i64 p.1, .slice a1 p.2.1.length k1, .slice a2 p.2.2.1.length k2, .slice a3 p.2.2.2.length k3]) := hI11.rng
              go_wp2_with (first | (refine ldMb hA9b H9.out _ rfl rfl rfl ?_) | (refine ldM HR12.out Try.underlying53 rfl Wi.szRk _ rfl rfl rfl ?_))
              refine ha2.mono ?_
              rintro r w13 ⟨rfl, hb13⟩
              have hb13' := Wi.Below.join hb13 (below_alloc w13 (.cells (mba (atS n s 0)) 27))
              have hI13 := hI11.later hb13'
              have hA13 := MA.new w13 (atS n s 0)
              have hA9c := hA9b.later hb13'
              have hA11c := hA11.later hb13'
              rw [H9.out] at hI13 hA13 hA9c hA11c
              clear ha2 hb13 hb13' hI11 hA11 hA9b HR12
              go_upto_region 29 with (refine stMn (w := w13) H9.out rfl _ _ rfl rfl rfl ?_)
              generalize w13.alloc (.cells c9 27) = w14 at *
              generalize w13.heap.size = A13 at *
              have HEQ : Hid (mE (atS n s 0) (atS n s 0) = true) := mE_iff.2 rfl
              go_wp2_with (first | (refine ldMb hA9c H9.out _ rfl rfl rfl ?_) | (refine ldMb hA11c H9.out _ rfl rfl rfl ?_) | (refine ldMb hA13 H9.out _ rfl rfl rfl ?_) | (refine neM H9.out H9.out HEQ.out _ _ rfl rfl rfl rfl ?_))
              go_roundw
              case rel => exact ⟨s + 1, by omega, by go_num, hI13⟩
              case measure => simp [intOf]; omega
        · obtain rfl : s = 64 := by omega
          clear hs hsn
          go_wp2_with fail
          go_ret
          exact ⟨rfl, hI.bel⟩
theorem own : ownKnob Try.prog.godebug = none := by kernel_rfl
theorem laidOut : laidOutB Try.prog = true := by kernel_rfl
set_option maxRecDepth 100000 in
theorem lifted (os : Os) (started : os.Started) (H : Type) (enc : TypeId × Value → H) :
    ReturnsInHanded {} Try.checked os 4 .any (Rows.memberInStepSpec.pre6 enc Try.prog Try.f4 Rows.memberInStepRow.domain false) (Rows.memberInStepSpec.post enc Try.prog Try.f4 false true false false) := by
  refine returnsInHanded_of_change_sized (C := Try.checked) own started (by kernel_rfl) Try.func4
    (ChangeSpec.witness6 (enc := enc) (C := Try.checked) false ⟨#[], #[.agg (List.replicate 236 (Value.int .i64 0)).toArray, .agg #[.slice none 0 0, .slice none 0 0]], []⟩ 8 (by kernel_rfl) (by kernel_rfl) (by kernel_rfl) (by kernel_rfl)) ?_
  intro W base args ds gs before hval0 hW hcnd hsz0 _
  have hsz : (DataW.weightsEach Try.prog (Try.f4.params.toList ++ Rows.memberInStepSpec.plain.varTypes Try.prog) (ds ++ gs)).all (· ≤ reachBytes) = true := hsz0
  clear hsz0
  have hval : ∀ (j : Nat) t v, Try.f4.params[j]? = some t → args[j]? = some v → Value.okWide Try.prog W .any base t v := hval0
  have hW' := hW
  obtain ⟨p, q, hA0, hV, rfl, hfz, hnd⟩ := hW
  have hA : DataW.TrodAll enc Try.prog W 0 (fun _ => true) true Try.f4.params.toList args.toList ds p := hA0
  rw [Try.params4] at hA hval hsz
  obtain ⟨v0, vs0, d0, ds0, p0, q0, hargs, rfl, rfl, h0, r0⟩ := trodAll_cons hA
  obtain ⟨v1, vs1, d1, ds1, p1, q1, rfl, rfl, rfl, h1, r1⟩ := trodAll_cons r0
  obtain ⟨rfl, rfl, rfl⟩ := trodAll_nil r1
  obtain rfl : args = #[v0, v1] := by cases args; simp_all
  obtain ⟨rfl, rfl⟩ := trodVars_none hV
  have k0 := h0
  have lt0 : ∀ x ∈ p0, x.block < W.heap.size := by obtain ⟨m, hm⟩ := k0; exact DataW.trod_lt m _ _ _ hm
  obtain ⟨f0, rfl⟩ := open_tr (hval 0 46 v0 rfl rfl) h0
  have k1 := h1
  have lt1 : ∀ x ∈ p1, x.block < W.heap.size := by obtain ⟨m, hm⟩ := k1; exact DataW.trod_lt m _ _ _ hm
  obtain ⟨aL1, aJ1, cL1, cJ1, L1, J1, rfl, rL1, rJ1, lL1, lJ1⟩ := open_bt (fun parts e => sized_agg hsz (j := 1) (t := 49) rfl (by rw [← e]; rfl) Try.underlying49) (hval 1 49 v1 rfl rfl) h1
  clear hA0 hval0
  refine (walk f0 aL1 aJ1 cL1 cJ1 L1 J1 W rL1 rJ1 lL1 lJ1).mono fun e W' ⟨he, bel⟩ => ?_
  subst he
  exact ⟨_, rfl, _, _, _, [], _, [], hW', trodAll_mk1 (shut_bool Try.underlying4 _), (trodAll_cons_mk (Below.trod laidOut (by kernel_rfl) (of_decide_eq_true (by kernel_rfl)) k0 bel lt0) (trodAll_cons_mk (Below.trod laidOut (by kernel_rfl) (of_decide_eq_true (by kernel_rfl)) k1 bel lt1) trodAll_mk0)), rfl, bel.frame _, fun h => by cases h⟩
theorem over : Rows.memberInStepRow.holds Try.pinned (OpenSpec.ofChange Rows.memberInStepSpec) :=
  OpenClaim.holds_of_wide 4 Try.f4 rfl rfl rfl rfl rfl rfl rfl ⟨rfl, rfl, rfl, rfl, rfl⟩ rfl rfl rfl rfl rfl (by kernel_rfl) Try.func4 (by kernel_rfl)
    (of_decide_eq_true (by kernel_rfl)) (by unfold Func.isWrapper; first | (rw [if_pos (by decide +kernel)]; kernel_rfl) | (rw [if_neg (by decide +kernel)]; exact ⟨rfl, rfl⟩))
    (fun os started H enc _ => lifted os started H enc)
end Go.Proofs.Ytnaiocdldghdeaa.memberInStep
namespace Go.Proofs.Ytnaiocdldghdeaa
theorem memberInStep_holds : Rows.MemberInStepSaid := memberInStep.over
#print axioms memberInStep_holds
end Go.Proofs.Ytnaiocdldghdeaa
