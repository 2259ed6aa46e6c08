/- PlI, PlJ, PlK, PlM, PlN, PlO, joined. -/
import Derived.Test.YtedbnamekfgmhabDoorPlH
import Derived.Test.YtedbnamekfgmhabDoorPlJ1
import Derived.Deep.RegionHeld3
import Derived.Maps.OwnSet
import Derived.Deep.LoopGhost
/- Contracts: three, lives; the document's SameItems, Same. -/
namespace Go.Proofs.YtedbnamekfgmhabDoor
open Go.RowKit Go.Maps Go.Great
open Rt (Ky zK kcs)
open Rs (En zE rcs tkn RdI RdS ps evl Tb)
set_option linter.unusedVariables false
set_option linter.unusedSimpArgs false

theorem rk_one (p : Int) (a b c : Option Addr) (l m n i j k : Nat) : (#[.int .i64 p, .slice a l i, .slice b m j, .slice c n k] : Array Value).all (·.oneCell') = true := by simp [Value.oneCell']
/- An answer's two boxes. -/
theorem two_boxes (w : World) (u : Tr) (c cs : Array Value) (hc : tcs u = c) :
    TrAt ((w.alloc (.cells Tryd.zeroCells31 31)).alloc (.cells #[.int .i64 0, .slice none 0 0, .slice none 0 0, .slice none 0 0] 39)) w.heap.size (tz 0)
    ∧ RkAt (((w.alloc (.cells Tryd.zeroCells31 31)).alloc (.cells #[.int .i64 0, .slice none 0 0, .slice none 0 0, .slice none 0 0] 39)).setRow w.heap.size c) (w.heap.size + 1) rkz
    ∧ ∃ W, (((w.alloc (.cells Tryd.zeroCells31 31)).alloc (.cells #[.int .i64 0, .slice none 0 0, .slice none 0 0, .slice none 0 0] 39)).setRow w.heap.size c).setRow (w.heap.size + 1) cs = W ∧ TrAt W w.heap.size u ∧ RkAt W (w.heap.size + 1) cs ∧ Below w.heap.size w W := by
  rw [alloc_trz]
  have h1 := TrAt.new w (tz 0)
  have hb1 := alloc_tr w (tz 0)
  have h2 : RkAt ((w.alloc (.cells (tcs (tz 0)) 31)).alloc (.cells #[.int .i64 0, .slice none 0 0, .slice none 0 0, .slice none 0 0] 39)) (w.heap.size + 1) rkz := by
    have h := heap_alloc_last (w.alloc (.cells (tcs (tz 0)) 31)) (.cells #[.int .i64 0, .slice none 0 0, .slice none 0 0, .slice none 0 0] 39)
    rw [World.size_alloc] at h
    exact h
  have hb2 := below_alloc (w.alloc (.cells (tcs (tz 0)) 31)) (.cells #[.int .i64 0, .slice none 0 0, .slice none 0 0, .slice none 0 0] 39)
  have h3 := h1.later hb2
  have hb := hb1.trans (hb2.mono hb1.size)
  generalize (w.alloc (.cells (tcs (tz 0)) 31)).alloc (.cells #[.int .i64 0, .slice none 0 0, .slice none 0 0, .slice none 0 0] 39) = W at *
  subst hc
  have h4 : RkAt (W.setRow w.heap.size (tcs u)) (w.heap.size + 1) rkz := (Rt.row_other (by omega) _).trans h2
  have h5 := h3.row u
  exact ⟨h3, h4, _, rfl, (Rt.row_other (by omega) _).trans h5, Rt.heap_setRow_same h4 _, Rt.setRow_below (by omega) (Rt.setRow_below (by omega) hb _) _⟩
theorem rd_three (w : World) : RdI (w.alloc (.cells #[.int .i64 1, .int .i64 2, .int .i64 3] 3)) (some ⟨w.heap.size, 0, none⟩) [1, 2, 3] := fun i hi => by
  have h := heap_alloc_last w (.cells #[.int .i64 1, .int .i64 2, .int .i64 3] 3)
  refine ⟨w.heap.size, 0, rfl, ?_⟩
  rw [Nat.zero_add, cell_of_row _ _ i _ _ _ h]
  have : i = 0 ∨ i = 1 ∨ i = 2 := by simp at hi; omega
  rcases this with rfl | rfl | rfl <;> rfl
theorem rd_one (w : World) : RdI (w.alloc (.cells #[.int .i64 1] 3)) (some ⟨w.heap.size, 0, none⟩) [1] := fun i hi => by
  have h := heap_alloc_last w (.cells #[.int .i64 1] 3)
  refine ⟨w.heap.size, 0, rfl, ?_⟩
  obtain rfl : i = 0 := by simp at hi; omega
  rw [Nat.zero_add, cell_of_row _ _ 0 _ _ _ h]
  rfl
theorem pn_three : pnT stT [] [1, 2, 3] = t3 := by unfold pnT; rw [if_pos three_E]; rfl
set_option maxRecDepth 100000 in
set_option maxHeartbeats 1000000 in
theorem three_any (w : World) : Calls Tryd.prog 26 #[] w fun e w' => e = .returned (.agg (tcs t3)) ∧ Below w.heap.size w w' := by
  have hz0 : TrAt (w.alloc (.cells Tryd.zeroCells31 31)) w.heap.size (tz 0) := TrAt.zero w
  have hB0 : Below w.heap.size w (w.alloc (.cells Tryd.zeroCells31 31)) := below_alloc _ _
  go_enter Tryd.func26, Tryd.ntmps26
  go_upto_region 1 with (fail)
  generalize w.alloc (.cells Tryd.zeroCells31 31) = w1 at *
  obtain ⟨K, hK⟩ : ∃ K, w.heap.size = K := ⟨_, rfl⟩
  have HK : Hid (w.heap.size ≤ K) := by unfold Hid; omega
  rw [hK] at hz0 ⊢
  clear hK
  have h1 := rStart_any w1
  obtain ⟨c0, hc0⟩ : ∃ c, tcs stT = c := ⟨_, rfl⟩
  rw [hc0] at h1
  go_wp2_with fail
  refine h1.mono ?_
  rintro r w2 ⟨rfl, hb2⟩
  have h2 := rNext_any stT none (some ⟨w2.heap.size, 0, none⟩) 0 3 [] [1, 2, 3] (w2.alloc (.cells #[.int .i64 1, .int .i64 2, .int .i64 3] 3)) (by simp) (by simp) (Rs.RdI.nil _ _) (rd_three w2)
  rw [hc0] at h2
  simp only [List.length_nil, List.length_cons, Nat.zero_add, Nat.reduceAdd] at h2
  have hB2 := hB0.trans (hb2.mono hB0.size)
  have hB3 := hB2.alloc hB2.size (.cells #[.int .i64 1, .int .i64 2, .int .i64 3] 3)
  have hz3 := (hz0.later hb2).later (below_alloc w2 (.cells #[.int .i64 1, .int .i64 2, .int .i64 3] 3))
  clear h1 hc0 hb2 hz0 hB0 hB2
  go_wp2_with fail
  refine h2.mono ?_
  rintro r w4 ⟨⟨vl, vj, vi, rfl, hNP⟩, hb4⟩
  have hB4 := hB3.trans (hb4.mono hB3.size)
  have hz4 := hz3.later hb4
  obtain ⟨a1, k1, rfl⟩ := Rs.owns_slice hNP.left
  obtain ⟨a2, k2, rfl⟩ := Rs.owns_slice hNP.join
  obtain ⟨a3, k3, rfl⟩ := Rs.owns_slice hNP.item
  rw [pn_three]
  obtain ⟨c3, hc3⟩ : ∃ c, tcs t3 = c := ⟨_, rfl⟩
  have HC : Hid (tcs t3 = c3) := hc3
  rw [hc3]
  obtain ⟨l1, hl1⟩ : ∃ l, (pnL stT [] [1, 2, 3]).length = l := ⟨_, rfl⟩
  obtain ⟨l2, hl2⟩ : ∃ l, (pnJ stT [] [1, 2, 3]).length = l := ⟨_, rfl⟩
  obtain ⟨l3, hl3⟩ : ∃ l, (pnI stT [] [1, 2, 3]).length = l := ⟨_, rfl⟩
  obtain ⟨e, he⟩ : ∃ e, plE stT [] [1, 2, 3] = e := ⟨_, rfl⟩
  obtain ⟨p, hp⟩ : ∃ e, pnP stT [] [1, 2, 3] = e := ⟨_, rfl⟩
  rw [hl1, hl2, hl3, he, hp]
  obtain ⟨t1, t2, W, hW, tT, tR, tB⟩ := two_boxes w4 t3 c3 #[.int .i64 p, .slice a1 l1 k1, .slice a2 l2 k2, .slice a3 l3 k3] hc3
  clear h2 hNP hb4 hB3 hz3 hl1 hl2 hl3 he hp hc3
  go_upto_region 2 with (first | (refine stTc t1 HC.out rfl _ _ rfl rfl rfl ?_) | (refine stRw infoRk (cs := rkz) rkz_size t2 _ rfl (rk_one _ _ _ _ _ _ _ _ _ _) rfl _ _ rfl rfl rfl ?_))
  have hz5 := hz4.later tB
  have hB5 := hB4.trans (tB.mono hB4.size)
  clear t1 t2 hW hz4 hB4 tB tR
  generalize w4.heap.size = N at *
  go_wp2_with (first | (refine rdT tT HC.out _ rfl rfl rfl ?_) | (refine stTc hz5 HC.out rfl _ _ rfl rfl rfl ?_))
  refine bodyPost_ret (results_tr (p := 0) rfl _ _ K t3 rfl (by rw [← HC.out]; exact hz5.row _)) rfl ?_
  exact ⟨rfl, Rt.setRow_below HK.out hB5 _⟩
/- Items that lie in memory. -/
def RdT (w : World) (a : Option Addr) (l : List It) : Prop := ∀ i, i < l.length → ∃ b, a = some ⟨b, 0, none⟩ ∧ ∀ k v, (ics (l.getD i ⟨0, 0, zK, zK⟩))[k]? = some v → w.cell? ⟨b, i * 6 + k, none⟩ = some v
theorem RdT.later {w w' : World} {a : Option Addr} {l : List It} (h : RdT w a l) (hb : Below w.heap.size w w') : RdT w' a l := fun i hi => by
  obtain ⟨b, e, c⟩ := h i hi
  exact ⟨b, e, fun k v hv => Rs.cell_later hb (c k v hv)⟩
theorem isl_get : ∀ (l : List It) (i k : Nat), i < l.length → k < 6 → (isl l)[i * 6 + k]? = (ics (l.getD i ⟨0, 0, zK, zK⟩))[k]?
  | [], i, k, hi, _ => by cases hi
  | x :: l, 0, k, _, hk => by
    show (ics x ++ isl l)[0 * 6 + k]? = _
    rw [Nat.zero_mul, Nat.zero_add, List.getElem?_append_left (by show k < 6; exact hk)]
    rfl
  | x :: l, i + 1, k, hi, hk => by
    show (ics x ++ isl l)[(i + 1) * 6 + k]? = _
    rw [List.getElem?_append_right (by show 6 ≤ _; omega), show (i + 1) * 6 + k - (ics x).length = i * 6 + k by show _ - 6 = _; omega, isl_get l i k (by simpa using hi) hk]
    rfl
theorem owns_rdT {W : World} {b : Nat} {a : Option Addr} {cap : Nat} {l : List It} (h : W.ownsRow b 61 6 (.slice a l.length cap) l.length (isl l)) : RdT W a l := by
  rcases h.2 with ⟨e, h0⟩ | ⟨g, cap', cur, e, h3, h4, h5, h6, h7, h8⟩
  · intro i hi; omega
  · cases e
    intro i hi
    refine ⟨g, rfl, fun k v hv => ?_⟩
    have hk : k < 6 := by
      have := (List.getElem?_eq_some_iff.1 hv).1
      exact this
    rw [← isl_get l i k hi hk] at hv
    rw [cell_of_row W g (i * 6 + k) _ _ _ h4, ← hv, ← h8, List.getElem?_take_of_lt (by omega)]
    simp
theorem RdT.cells {w : World} {a : Option Addr} {l : List It} (h : RdT w a l) {i : Nat} (hi : i < l.length) {y : It} (hy : l.getD i ⟨0, 0, zK, zK⟩ = y) : ∃ b, a = some ⟨b, 0, none⟩ ∧ w.cell? ⟨b, i * 6, none⟩ = some (.int .i64 y.nd) ∧ w.cell? ⟨b, i * 6 + 1, none⟩ = some (.int .i64 y.fm) ∧ w.cell? ⟨b, i * 6 + 2, none⟩ = some (.int .i64 y.un.bas) ∧ w.cell? ⟨b, i * 6 + 3, none⟩ = some (.int .i64 y.un.stp) ∧ w.cell? ⟨b, i * 6 + 4, none⟩ = some (.int .i64 y.ld.bas) ∧ w.cell? ⟨b, i * 6 + 5, none⟩ = some (.int .i64 y.ld.stp) := by
  obtain ⟨b, e, c⟩ := h i hi
  rw [hy] at c
  exact ⟨b, e, c 0 _ rfl, c 1 _ rfl, c 2 _ rfl, c 3 _ rfl, c 4 _ rfl, c 5 _ rfl⟩
end Go.Proofs.YtedbnamekfgmhabDoor
/- Contracts: lives; the document's SameItems, Same; Cost. -/
namespace Go.Proofs.YtedbnamekfgmhabDoor
open Go.RowKit Go.Maps Go.Great
open Rt (Ky zK kcs)
open Rs (En zE rcs tkn RdI RdS ps evl Tb)
set_option linter.unusedVariables false
set_option linter.unusedSimpArgs false

def icv (x : It) : Array Value := #[.int .i64 x.nd, .int .i64 x.fm, .int .i64 x.un.bas, .int .i64 x.un.stp, .int .i64 x.ld.bas, .int .i64 x.ld.stp]
set_option maxRecDepth 100000 in
theorem run_eqIt (x : It) (w : World) : (Op.equalIn 10000 61 (.agg (icv x)) (.agg (icv x))).run Tryd.prog w = .ok true w := by
  rw [run_equalIn_agg w 9999 61 _ _ (by kernel_rfl) (by kernel_rfl)]
  unfold icv
  simp [go_sem, part]
theorem eqIt_exec {w : World} {z : It} {o : Oper} {a : Act} {x y : Operand} (ho : o.op = .binOp .eql 61 x y 61) (hx : a.eval x = .agg (icv z)) (hy : a.eval y = .agg (icv z)) : (execOp a.eval o).run Tryd.prog w = .ok (.value (.bool true)) w := by
  have h1 := run_eqGuard_agg (P := Tryd.prog) w .eql 61 x y (icv z) (icv z) Tryd.eqGuardType61
  have h2 := run_eql_struct (P := Tryd.prog) w 61 (icv z) (icv z)
  rw [run_eqIt] at h2
  simp [execOp, ho, hx, hy, h1, h2, Sem.run_bind, Result.andThen]
theorem neIt_exec {w : World} {z : It} {o : Oper} {a : Act} {x y : Operand} (ho : o.op = .binOp .neq 61 x y 61) (hx : a.eval x = .agg (icv z)) (hy : a.eval y = .agg (icv z)) : (execOp a.eval o).run Tryd.prog w = .ok (.value (.bool false)) w := by
  have h1 := run_eqGuard_agg (P := Tryd.prog) w .neq 61 x y (icv z) (icv z) Tryd.eqGuardType61
  have h2 := run_neq_struct (P := Tryd.prog) w 61 (icv z) (icv z)
  rw [run_eqIt] at h2
  simp [execOp, ho, hx, hy, h1, h2, Sem.run_bind, Result.andThen]
theorem neTr {ops : Array Oper} {rest : List Oper} {o : Oper} {a : Act} {w : World} {Q : Exit → Act → World → Prop} {t : Tr} {ct : Array Value} (hct : tcs t = ct) (x y : Operand) (ho : o.op = .binOp .neq 31 x y 31)
    (hx : a.eval x = .agg ct) (hy : a.eval y = .agg ct) (hw : Region.wanted o (yielded ops a.tmps) = true) (k : wpList Tryd.prog ops Q rest (a.put o.dst (.bool false)) w) : wpList Tryd.prog ops Q (o :: rest) a w := by
  refine rd_guard hw ?_ k
  subst hct
  have h1 := run_eqGuard_agg (P := Tryd.prog) w .neq 31 x y (tcs t) (tcs t) Tryd.eqGuardType31
  have h2 := run_neq_struct (P := Tryd.prog) w 31 (tcs t) (tcs t)
  rw [run_eqTr, eqT_refl] at h2
  simp [execOp, ho, hx, hy, h1, h2, Sem.run_bind, Result.andThen]
theorem RkAt.cells {w : World} {B : Nat} {p : Int} {v1 v2 v3 : Value} (h : RkAt w B #[.int .i64 p, v1, v2, v3]) : w.cell? ⟨B, 0, none⟩ = some (.int .i64 p) ∧ w.cell? ⟨B, 1, none⟩ = some v1 ∧ w.cell? ⟨B, 2, none⟩ = some v2 ∧ w.cell? ⟨B, 3, none⟩ = some v3 :=
  ⟨cell_of_row w B 0 _ _ _ h, cell_of_row w B 1 _ _ _ h, cell_of_row w B 2 _ _ _ h, cell_of_row w B 3 _ _ _ h⟩
set_option maxRecDepth 100000 in
set_option maxHeartbeats 1000000 in
theorem lives_any (w : World) (hTb : Tb w) : Calls Tryd.prog 8 #[] w fun e w' => e = .returned (.bool true) ∧ Below w.heap.size w w' := by
  have h1 := three_any w
  obtain ⟨c3, hc3⟩ : ∃ c, tcs t3 = c := ⟨_, rfl⟩
  rw [hc3] at h1
  go_enter Tryd.func8, Tryd.ntmps8
  go_wp2_with fail
  refine h1.mono ?_
  rintro r w2 ⟨rfl, hb2⟩
  have hB3 := hb2.alloc hb2.size (.cells #[.int .i64 1] 3)
  have h2 := next_any t3 (some ⟨w2.heap.size, 0, none⟩) none 1 0 [1] [] (w2.alloc (.cells #[.int .i64 1] 3)) (hTb.later hB3) (by simp) (by simp) (rd_one w2) (Rs.RdI.nil _ _)
  rw [hc3] at h2
  simp only [List.length_nil, List.length_cons, Nat.zero_add, Nat.reduceAdd] at h2
  clear h1 hc3 hb2
  go_wp2_with fail
  refine h2.mono ?_
  rintro r w4 ⟨⟨vl, vj, vi, rfl, hNP⟩, hb4⟩
  have hB4 := hB3.trans (hb4.mono hB3.size)
  obtain ⟨a1, k1, rfl⟩ := Rs.owns_slice hNP.left
  obtain ⟨a2, k2, rfl⟩ := Rs.owns_slice hNP.join
  obtain ⟨a3, k3, rfl⟩ := Rs.owns_slice hNP.item
  obtain ⟨it, hit, hl3⟩ := live_at
  have hpI : pnI t3 [1] [] = ⟨5, 22, ⟨23, 1⟩, ⟨25, 0⟩⟩ :: it := by unfold pnI; rw [if_pos live_E]; exact hit
  have hln : (pnI t3 [1] []).length = 4 := by rw [hpI, List.length_cons, hl3]
  have hrd := owns_rdT hNP.item
  obtain ⟨g, hg, i0, i1, i2, i3, i4, i5⟩ := hrd.cells (i := 0) (by omega) (y := ⟨5, 22, ⟨23, 1⟩, ⟨25, 0⟩⟩) (by rw [hpI]; rfl)
  subst hg
  rw [live_E, hln]
  have hpt : pnT t3 [1] [] = nx t3 [1] [] := by unfold pnT; rw [if_pos live_E]
  rw [hpt]
  obtain ⟨n, hn⟩ : ∃ n, nx t3 [1] [] = n := ⟨_, rfl⟩
  have hne := live_n
  rw [hn] at hne
  rw [hn]
  obtain ⟨cn, hcn⟩ : ∃ c, tcs n = c := ⟨_, rfl⟩
  have HC : Hid (tcs n = cn) := hcn
  rw [hcn]
  obtain ⟨l1, hl1⟩ : ∃ l, (pnL t3 [1] []).length = l := ⟨_, rfl⟩
  obtain ⟨l2, hl2⟩ : ∃ l, (pnJ t3 [1] []).length = l := ⟨_, rfl⟩
  obtain ⟨p, hp⟩ : ∃ e, pnP t3 [1] [] = e := ⟨_, rfl⟩
  rw [hl1, hl2, hp]
  obtain ⟨t1, t2, W, hW, tT, tR, tB⟩ := two_boxes w4 n cn #[.int .i64 p, .slice a1 l1 k1, .slice a2 l2 k2, .slice (some ⟨g, 0, none⟩) 4 k3] hcn
  have hB5 := hB4.trans (tB.mono hB4.size)
  have j0 := Rs.cell_later tB i0
  have j1 := Rs.cell_later tB i1
  have j2 := Rs.cell_later tB i2
  have j3 := Rs.cell_later tB i3
  have j4 := Rs.cell_later tB i4
  have j5 := Rs.cell_later tB i5
  dsimp only [Nat.zero_mul, Nat.zero_add] at j0 j1 j2 j3 j4 j5
  clear h2 hNP hb4 hB3 hB4 hl1 hl2 hl3 hp hcn hn hpt hln hpI hit hrd i0 i1 i2 i3 i4 i5 tB
  go_upto_region 2 with (first | (refine stTc t1 HC.out rfl _ _ rfl rfl rfl ?_) | (refine stRw infoRk (cs := rkz) rkz_size t2 _ rfl (rk_one _ _ _ _ _ _ _ _ _ _) rfl _ _ rfl rfl rfl ?_))
  clear t1 t2 hW
  generalize w4.heap.size = N at *
  obtain ⟨c0, c1⟩ := tT.cells
  rw [hne.1] at c0
  rw [hne.2] at c1
  obtain ⟨r0, r1, r2, r3⟩ := tR.cells
  clear tT tR hne HC
  go_wp2_with (refine rd_guard rfl (eqIt_exec (z := ⟨5, 22, ⟨23, 1⟩, ⟨25, 0⟩⟩) rfl rfl rfl) ?_)
  go_ret
  exact ⟨rfl, hB5⟩
/- Lists of items. -/
structure IS (W : World) (b b' k : Nat) (y : It) : Prop where
  x0 : W.cell? ⟨b, k * 6, none⟩ = some (.int .i64 y.nd)
  x1 : W.cell? ⟨b, k * 6 + 1, none⟩ = some (.int .i64 y.fm)
  x2 : W.cell? ⟨b, k * 6 + 2, none⟩ = some (.int .i64 y.un.bas)
  x3 : W.cell? ⟨b, k * 6 + 3, none⟩ = some (.int .i64 y.un.stp)
  x4 : W.cell? ⟨b, k * 6 + 4, none⟩ = some (.int .i64 y.ld.bas)
  x5 : W.cell? ⟨b, k * 6 + 5, none⟩ = some (.int .i64 y.ld.stp)
  z0 : W.cell? ⟨b', k * 6, none⟩ = some (.int .i64 y.nd)
  z1 : W.cell? ⟨b', k * 6 + 1, none⟩ = some (.int .i64 y.fm)
  z2 : W.cell? ⟨b', k * 6 + 2, none⟩ = some (.int .i64 y.un.bas)
  z3 : W.cell? ⟨b', k * 6 + 3, none⟩ = some (.int .i64 y.un.stp)
  z4 : W.cell? ⟨b', k * 6 + 4, none⟩ = some (.int .i64 y.ld.bas)
  z5 : W.cell? ⟨b', k * 6 + 5, none⟩ = some (.int .i64 y.ld.stp)
set_option maxRecDepth 100000 in
set_option maxHeartbeats 1000000 in
theorem sameI_any (a a' : Option Addr) (c c' : Nat) (l : List It) (w : World) (hl : l.length ≤ 4096) (h1 : RdT w a l) (h2 : RdT w a' l) :
    Calls Tryd.prog 40 #[.slice a l.length c, .slice a' l.length c'] w fun e w' => e = .returned (.bool true) ∧ Below w.heap.size w w' := by
  go_enter Tryd.func40, Tryd.ntmps40
  go_wp2_with fail
  go_loopw [13] (fun i wx => ∃ k : Nat, k ≤ l.length ∧ i = .int .i64 (k : Int) ∧ Below w.heap.size w wx) (fun i _ => l.length - (intOf i).toNat)
  case atStart => exact ⟨0, by omega, rfl, Below.refl _ _⟩
  case round =>
    obtain ⟨k, hk, rfl, hb⟩ := hrel
    have HB : Hid (Below w.heap.size w wr) := hb
    clear hb
    by_cases hkN : k < l.length
    · have i1 : (0 : Int) ≤ (k : Int) := by omega
      have i2 : (k : Int) < (l.length : Int) := by omega
      obtain ⟨y, hy⟩ : ∃ y, l.getD k ⟨0, 0, zK, zK⟩ = y := ⟨_, rfl⟩
      obtain ⟨b, hal, x0, x1, x2, x3, x4, x5⟩ := (h1.later HB.out).cells hkN hy
      obtain ⟨b', hal', z0, z1, z2, z3, z4, z5⟩ := (h2.later HB.out).cells hkN hy
      subst hal hal'
      clear hy
      go_upto_region 6 with (fail)
      have hS0 : IS wr.drew b b' k y := ⟨x0, x1, x2, x3, x4, x5, z0, z1, z2, z3, z4, z5⟩
      clear x0 x1 x2 x3 x4 x5 z0 z1 z2 z3 z4 z5
      refine wp_region_held_drew (S := fun W => IS W b b' k y) (by kernel_rfl) hS0 (fun hHeld => ?_)
      refine wpAnyH_take (i := 0) (oi := { dst := some 16, op := Op.move (Operand.tmp 0), type := _, pos := _, after := _, guard := none }) (v := .slice (some ⟨b, 0, none⟩) l.length c) rfl (by kernel_rfl) (by kernel_rfl) (by kernel_rfl) (fun _ _ _ h => h) (Or.inl ⟨by rfl, fun w hSw => by (try dsimp only at hSw); go_simp⟩) (by assumption) ?_
      simp only [Act.put, List.setIfInBounds_toArray, List.set_cons_zero, List.set_cons_succ]
      refine wpAnyH_take (i := 1) (oi := { dst := some 17, op := Op.move (Operand.tmp 5), type := _, pos := _, after := _, guard := none }) (v := .int .i64 (k : Int)) rfl (by kernel_rfl) (by kernel_rfl) (by kernel_rfl) (fun _ _ _ h => h) (Or.inl ⟨by rfl, fun w hSw => by (try dsimp only at hSw); go_simp⟩) (by assumption) ?_
      simp only [Act.put, List.setIfInBounds_toArray, List.set_cons_zero, List.set_cons_succ]
      refine wpAnyH_take (i := 2) (oi := { dst := some 18, op := Op.indexAddr 37 (Operand.tmp 16) (Operand.tmp 17), type := _, pos := _, after := _, guard := none }) (v := .pointer (some ⟨b, k * 6, none⟩)) rfl (by kernel_rfl) (by kernel_rfl) (by kernel_rfl) (fun _ _ _ h => h) (Or.inl ⟨by rfl, fun w hSw => by (try dsimp only at hSw); go_simp⟩) (by assumption) ?_
      simp only [Act.put, List.setIfInBounds_toArray, List.set_cons_zero, List.set_cons_succ]
      refine wpAnyH_take (i := 3) (oi := { dst := some 19, op := Op.load 61 (Operand.tmp 18), type := _, pos := _, after := _, guard := none }) (v := .agg (icv y)) rfl (by kernel_rfl) (by kernel_rfl) (by kernel_rfl) (fun _ _ _ h => h) (Or.inl ⟨by rfl, fun w hSw => by obtain ⟨x0, x1, x2, x3, x4, x5, _⟩ := hSw; unfold icv; go_simp⟩) (by assumption) ?_
      simp only [Act.put, List.setIfInBounds_toArray, List.set_cons_zero, List.set_cons_succ]
      refine wpAnyH_take (i := 4) (oi := { dst := some 20, op := Op.move (Operand.tmp 1), type := _, pos := _, after := _, guard := none }) (v := .slice (some ⟨b', 0, none⟩) l.length c') rfl (by kernel_rfl) (by kernel_rfl) (by kernel_rfl) (fun _ _ _ h => h) (Or.inl ⟨by rfl, fun w hSw => by (try dsimp only at hSw); go_simp⟩) (by assumption) ?_
      simp only [Act.put, List.setIfInBounds_toArray, List.set_cons_zero, List.set_cons_succ]
      refine wpAnyH_take (i := 5) (oi := { dst := some 21, op := Op.move (Operand.tmp 5), type := _, pos := _, after := _, guard := none }) (v := .int .i64 (k : Int)) rfl (by kernel_rfl) (by kernel_rfl) (by kernel_rfl) (fun _ _ _ h => h) (Or.inl ⟨by rfl, fun w hSw => by (try dsimp only at hSw); go_simp⟩) (by assumption) ?_
      simp only [Act.put, List.setIfInBounds_toArray, List.set_cons_zero, List.set_cons_succ]
      refine wpAnyH_take (i := 6) (oi := { dst := some 22, op := Op.indexAddr 37 (Operand.tmp 20) (Operand.tmp 21), type := _, pos := _, after := _, guard := none }) (v := .pointer (some ⟨b', k * 6, none⟩)) rfl (by kernel_rfl) (by kernel_rfl) (by kernel_rfl) (fun _ _ _ h => h) (Or.inl ⟨by rfl, fun w hSw => by (try dsimp only at hSw); go_simp⟩) (by assumption) ?_
      simp only [Act.put, List.setIfInBounds_toArray, List.set_cons_zero, List.set_cons_succ]
      refine wpAnyH_take (i := 7) (oi := { dst := some 23, op := Op.load 61 (Operand.tmp 22), type := _, pos := _, after := _, guard := none }) (v := .agg (icv y)) rfl (by kernel_rfl) (by kernel_rfl) (by kernel_rfl) (fun _ _ _ h => h) (Or.inl ⟨by rfl, fun w hSw => by obtain ⟨_, _, _, _, _, _, z0, z1, z2, z3, z4, z5⟩ := hSw; unfold icv; go_simp⟩) (by assumption) ?_
      simp only [Act.put, List.setIfInBounds_toArray, List.set_cons_zero, List.set_cons_succ]
      refine wpAnyH_take (i := 8) (oi := { dst := some 24, op := Op.binOp BinOp.neq 61 (Operand.tmp 19) (Operand.tmp 23) 61, type := _, pos := _, after := _, guard := none }) (v := .bool false) rfl (by kernel_rfl) (by kernel_rfl) (by kernel_rfl) (fun _ _ _ h => h) (Or.inl ⟨by rfl, fun w hSw => neIt_exec (z := y) rfl rfl rfl⟩) (by assumption) ?_
      simp only [Act.put, List.setIfInBounds_toArray, List.set_cons_zero, List.set_cons_succ]
      refine wpAnyH_done (by kernel_rfl) ?_ _
      go_wp2_with fail
      go_roundw
      case rel => exact ⟨k + 1, by omega, by go_num, HB.out.trans ((drew_below wr).mono HB.out.size)⟩
      case measure => simp [intOf]; omega
    · obtain rfl : k = l.length := by omega
      have hdk : decide ((l.length : Int) < (l.length : Int)) = false := by simp
      go_wp2_with fail
      go_ret
      exact ⟨rfl, HB.out⟩
end Go.Proofs.YtedbnamekfgmhabDoor
/- Contracts: the document's Same; Cost; what a step answers, in boxes. -/
namespace Go.Proofs.YtedbnamekfgmhabDoor
open Go.RowKit Go.Maps Go.Great
open Rt (Ky zK kcs)
open Rs (En zE rcs tkn RdI RdS ps evl Tb)
set_option linter.unusedVariables false
set_option linter.unusedSimpArgs false

theorem RkAt.later {w w' : World} {B : Nat} {cs : Array Value} (h : RkAt w B cs) (hb : Below w.heap.size w w') : RkAt w' B cs := (hb.block B (Array.getElem?_eq_some_iff.1 h).1).trans h
set_option maxRecDepth 100000 in
set_option maxHeartbeats 1000000 in
theorem same_any (p : Int) (a1 a2 a3 b1 b2 b3 : Option Addr) (c1 c2 c3 d1 d2 d3 : Nat) (ll lj : List (Int × Int)) (li : List It) (w : World) (l1 : ll.length ≤ 4096) (l2 : lj.length ≤ 4096) (l3 : li.length ≤ 4096)
    (r1 : RdS w a1 ll) (r2 : RdS w a2 lj) (r3 : RdT w a3 li) (s1 : RdS w b1 ll) (s2 : RdS w b2 lj) (s3 : RdT w b3 li) :
    Calls Tryd.prog 18 #[.agg #[.int .i64 p, .slice a1 ll.length c1, .slice a2 lj.length c2, .slice a3 li.length c3], .agg #[.int .i64 p, .slice b1 ll.length d1, .slice b2 lj.length d2, .slice b3 li.length d3] ] w fun e w' => e = .returned (.bool true) ∧ Below w.heap.size w w' := by
  have h1 : RkAt ((w.alloc (.cells #[.int .i64 p, .slice a1 ll.length c1, .slice a2 lj.length c2, .slice a3 li.length c3] 39)).alloc (.cells #[.int .i64 p, .slice b1 ll.length d1, .slice b2 lj.length d2, .slice b3 li.length d3] 39)) w.heap.size #[.int .i64 p, .slice a1 ll.length c1, .slice a2 lj.length c2, .slice a3 li.length c3] :=
    RkAt.later (heap_alloc_last w _) (below_alloc _ _)
  have h2 : RkAt ((w.alloc (.cells #[.int .i64 p, .slice a1 ll.length c1, .slice a2 lj.length c2, .slice a3 li.length c3] 39)).alloc (.cells #[.int .i64 p, .slice b1 ll.length d1, .slice b2 lj.length d2, .slice b3 li.length d3] 39)) (w.heap.size + 1) #[.int .i64 p, .slice b1 ll.length d1, .slice b2 lj.length d2, .slice b3 li.length d3] := by
    have h := heap_alloc_last (w.alloc (.cells #[.int .i64 p, .slice a1 ll.length c1, .slice a2 lj.length c2, .slice a3 li.length c3] 39)) (.cells #[.int .i64 p, .slice b1 ll.length d1, .slice b2 lj.length d2, .slice b3 li.length d3] 39)
    rw [World.size_alloc] at h
    exact h
  have hB1 : Below w.heap.size w ((w.alloc (.cells #[.int .i64 p, .slice a1 ll.length c1, .slice a2 lj.length c2, .slice a3 li.length c3] 39)).alloc (.cells #[.int .i64 p, .slice b1 ll.length d1, .slice b2 lj.length d2, .slice b3 li.length d3] 39)) := ((Below.refl _ w).alloc (Nat.le_refl _) _).alloc (by simp) _
  go_enter Tryd.func18, Tryd.ntmps18
  go_upto_region 1 with (fail)
  generalize (w.alloc (.cells #[.int .i64 p, .slice a1 ll.length c1, .slice a2 lj.length c2, .slice a3 li.length c3] 39)).alloc (.cells #[.int .i64 p, .slice b1 ll.length d1, .slice b2 lj.length d2, .slice b3 li.length d3] 39) = w1 at *
  obtain ⟨D, hD⟩ : ∃ D, w.heap.size + 1 = D := ⟨_, rfl⟩
  rw [hD] at h2 ⊢
  obtain ⟨C, hC⟩ : ∃ D, w.heap.size = D := ⟨_, rfl⟩
  rw [hC] at h1
  rw [hC]
  clear hD hC
  obtain ⟨x0, x1, x2, x3⟩ := h1.cells
  obtain ⟨y0, y1, y2, y3⟩ := h2.cells
  have m1 := Rs.sameS_any a1 b1 c1 d1 ll w1 (by omega) (r1.later hB1) (s1.later hB1)
  go_wp2_with fail
  refine m1.mono ?_
  rintro r w2 ⟨rfl, hb2⟩
  have h3 := h1.later hb2
  have h4 := h2.later hb2
  have hB2 := hB1.trans (hb2.mono hB1.size)
  clear m1 h1 h2 x0 x1 x2 x3 y0 y1 y2 y3 hb2 hB1
  obtain ⟨x0, x1, x2, x3⟩ := h3.cells
  obtain ⟨y0, y1, y2, y3⟩ := h4.cells
  have m1 := Rs.sameS_any a2 b2 c2 d2 lj w2 (by omega) (r2.later hB2) (s2.later hB2)
  go_wp2_with fail
  refine m1.mono ?_
  rintro r w3 ⟨rfl, hb3⟩
  have h5 := h3.later hb3
  have h6 := h4.later hb3
  have hB3 := hB2.trans (hb3.mono hB2.size)
  clear m1 h3 h4 x0 x1 x2 x3 y0 y1 y2 y3 hb3 hB2
  obtain ⟨x0, x1, x2, x3⟩ := h5.cells
  obtain ⟨y0, y1, y2, y3⟩ := h6.cells
  have m1 := sameI_any a3 b3 c3 d3 li w3 l3 (r3.later hB3) (s3.later hB3)
  go_wp2_with fail
  refine m1.mono ?_
  rintro r w4 ⟨rfl, hb4⟩
  have hB4 := hB3.trans (hb4.mono hB3.size)
  clear m1 h5 h6 x0 x1 x2 x3 y0 y1 y2 y3 hb4 hB3
  go_wp2_with fail
  go_ret
  exact ⟨rfl, hB4⟩
/- Lengths of what a step answers. -/
theorem pnL_len (t : Tr) (L J : List Int) : (pnL t L J).length ≤ 64 := by
  unfold pnL
  split
  · rename_i h; rw [Rs.evl_length]; exact (plE_stp h).fit.lenL
  · simp
theorem jns_len (t : Tr) (L J : List Int) : (jns t L J).length = J.length := by unfold jns; rw [Rs.adl_length]
theorem pnJ_len (t : Tr) (L J : List Int) : (pnJ t L J).length ≤ 64 := by
  unfold pnJ
  split
  · rename_i h; rw [jns_len]; exact (plE_stp h).fit.lenJ
  · simp
theorem pnI_len (t : Tr) (L J : List Int) : (pnI t L J).length ≤ 12 * ((pnL t L J).length + (pnJ t L J).length) := by
  unfold pnI pnL pnJ
  split
  · exact its_len _ _ _
  · simp
theorem pnI_short (t : Tr) (L J : List Int) : (pnI t L J).length ≤ 4096 := by
  have h1 := pnI_len t L J
  have h2 := pnL_len t L J
  have h3 := pnJ_len t L J
  omega
end Go.Proofs.YtedbnamekfgmhabDoor
/- What keys and boxes give: a map from names to least steps; the closure on plain data; contracts: derived, known. -/
namespace Go.Proofs.YtedbnamekfgmhabDoor
open Go.RowKit Go.Maps
open Rt (Ky zK)
open Rs (RdS ps)
set_option linter.unusedVariables false
set_option linter.unusedSimpArgs false

/- A map from names to steps. -/
def Mh (w : World) (b n : Nat) (H : Int → Option Int) : Prop := ∃ D : DataW Unit, w.ownsMap Tryd.prog 3 (plainElem Tryd.prog 3) b n D ∧ ∀ x : Int, Maps.has D (.int .i64 x) = (H x).isSome ∧ D.atKey (.int .i64 x) (.lit (.int .i64 0)) = .lit (.int .i64 ((H x).getD 0))
theorem Mh.lt {w : World} {b n : Nat} {H : Int → Option Int} (h : Mh w b n H) : b < w.heap.size := by
  obtain ⟨D, h1, _⟩ := h
  exact World.ownsMap.lt h1
theorem Mh.isMap {w : World} {b n : Nat} {H : Int → Option Int} (h : Mh w b n H) : ∃ es cl, w.heap[b]? = some (.map es cl) := by
  obtain ⟨D, ⟨es, cl, h1, _⟩, _⟩ := h
  exact ⟨es, cl, h1⟩
theorem Mh.later {w w' : World} {b n : Nat} {H : Int → Option Int} (h : Mh w b n H) (hb : Below w.heap.size w w') : Mh w' b n H := by
  have hlt := h.lt
  obtain ⟨D, ⟨es, cl, hh, r⟩, h2⟩ := h
  exact ⟨D, ⟨es, cl, (hb.block b hlt).trans hh, r⟩, h2⟩
theorem Mh.new (w : World) : Mh (w.alloc (.map #[] 0)) w.heap.size 0 (fun _ => none) := ⟨_, World.ownsMap_made w Tryd.prog 3 _, fun x => ⟨rfl, rfl⟩⟩
theorem Mh.look {w : World} {b n : Nat} {H : Int → Option Int} (h : Mh w b n H) {x : Int} (hx : (Lit.int .i64 x).wf = true) : (Instr.lookup 43 (.map (some b)) (.int .i64 x) true).run Tryd.prog w = .ok (.tuple #[.int .i64 ((H x).getD 0), .bool (H x).isSome]) w := by
  obtain ⟨D, h1, h2⟩ := h
  obtain ⟨v, ps, hrun, hv⟩ := h1.look_ok intK Tryd.underlying43 (zeroI w) (plainElem_int (H := Unit) Tryd.underlying3 (by decide)) (keyOf_int_mk Tryd.underlying3 hx)
  obtain ⟨c, rfl, hc, hwc⟩ := plainElem_int_inv Tryd.underlying3 hv
  have e := congrArg Prod.fst hc
  rw [(h2 x).2] at e
  have e2 : (H x).getD 0 = c := by simpa using e
  rw [hrun, (h2 x).1, e2]
def hup (H : Int → Option Int) (b s : Int) : Int → Option Int := fun x => if x = b then some s else H x
theorem Mh.upd {ops : Array Oper} {rest : List Oper} {o : Oper} {a : Act} {w : World} {Q : Exit → Act → World → Prop} {b n : Nat} {H : Int → Option Int} (h : Mh w b n H) (hn : n < 4611686018427387904) {z s : Int} (hz : (Lit.int .i64 z).wf = true) (hs : (Lit.int .i64 s).wf = true) (hgd : o.guard = none) (m x y : Operand) (ho : o.op = .mapUpdate 43 m x y)
    (hm : a.eval m = .map (some b)) (hx : a.eval x = .int .i64 z) (hy : a.eval y = .int .i64 s) (k : ∀ w', Mh w' b (n + 1) (hup H z s) → w.grownBy w' (some b) → wpList Tryd.prog ops Q rest (a.put o.dst undef) w') : wpList Tryd.prog ops Q (o :: rest) a w := by
  obtain ⟨D, h1, h2⟩ := h
  have hkey := keyOf_int_mk Tryd.underlying3 hz
  refine wpList_mapUpdate_own w hgd m x y 43 ho 3 3 intK Tryd.underlying43 _ b n D hm h1 (by unfold maxLen; omega) _ _ _ hx hy hkey _ [] (plainElem_int (H := Unit) Tryd.underlying3 hs) ?_
  intro w1 hown hg
  refine k w1 ⟨_, hown, fun q => ?_⟩ hg
  have hD := World.ownsMap.isMap h1
  unfold hup
  by_cases e : q = z
  · subst e
    rw [if_pos rfl]
    exact ⟨Maps.has_put_same hD (by trivial) _, Maps.atKey_put_same hD (by trivial) _ _⟩
  · rw [if_neg e]
    have hne : Lit.int .i64 q ≠ Lit.int .i64 z := fun h => by cases h; exact e rfl
    exact ⟨(Maps.has_put_other hne _).trans (h2 q).1, (Maps.atKey_put_other hne _ _).trans (h2 q).2⟩
theorem Mh.ne {w : World} {b n : Nat} {H : Int → Option Int} (h : Mh w b n H) {B : Nat} {cs : Array Value} {t : TypeId} {fr : Nat × Nat} (hB : w.heap[B]? = some (.cells cs t fr)) : B ≠ b := by
  obtain ⟨es, cl, hm⟩ := h.isMap
  intro e
  subst e
  rw [hm] at hB
  cases hB
/- The closure on plain data. -/
def le1 (H : Int → Option Int) (b s : Int) : Bool := (H b).isSome && decide ((H b).getD 0 ≤ s)
theorem le1_iff {H : Int → Option Int} {b s : Int} : le1 H b s = true ↔ ∃ u, H b = some u ∧ u ≤ s := by
  unfold le1
  cases h : H b with
  | none => simp
  | some u => simp
structure Snd (ks : List (Int × Int)) (bx : List It) (H : Int → Option Int) : Prop where
  low : ∀ I : Int → Int → Prop, (∀ k ∈ ks, I k.1 k.2) → (∀ x ∈ bx, ∀ u, u ≤ x.un.stp → I x.un.bas u → I x.ld.bas x.ld.stp) → ∀ b s, H b = some s → I b s
structure Clos (ks : List (Int × Int)) (bx : List It) (H : Int → Option Int) : Prop where
  snd : Snd ks bx H
  has : ∀ k ∈ ks, le1 H k.1 k.2 = true
  shut : ∀ x ∈ bx, le1 H x.un.bas x.un.stp = true → le1 H x.ld.bas x.ld.stp = true
theorem le1_up {H : Int → Option Int} {b s c z : Int} (h : le1 H c z = true) (hn : le1 H b s = false) : le1 (hup H b s) c z = true := by
  obtain ⟨u, hu, hz⟩ := le1_iff.1 h
  refine le1_iff.2 ?_
  unfold hup
  by_cases e : c = b
  · subst e
    rw [if_pos rfl]
    refine ⟨s, rfl, ?_⟩
    rcases Int.lt_or_le s u with hl | hl
    · omega
    · have := le1_iff.2 ⟨u, hu, hl⟩
      rw [this] at hn
      cases hn
  · rw [if_neg e]
    exact ⟨u, hu, hz⟩
theorem le1_new (H : Int → Option Int) (b s : Int) : le1 (hup H b s) b s = true := le1_iff.2 ⟨s, by unfold hup; rw [if_pos rfl], Int.le_refl _⟩
theorem Snd.key {ks : List (Int × Int)} {bx : List It} {H : Int → Option Int} (h : Snd ks bx H) {k : Int × Int} (hk : k ∈ ks) : Snd ks bx (hup H k.1 k.2) := ⟨fun I h1 h2 b s hb => by
  unfold hup at hb
  by_cases e : b = k.1
  · rw [if_pos e] at hb; cases hb; rw [e]; exact h1 k hk
  · rw [if_neg e] at hb; exact h.low I h1 h2 b s hb⟩
theorem Snd.box {ks : List (Int × Int)} {bx : List It} {H : Int → Option Int} (h : Snd ks bx H) {x : It} (hx : x ∈ bx) (hu : le1 H x.un.bas x.un.stp = true) : Snd ks bx (hup H x.ld.bas x.ld.stp) := ⟨fun I h1 h2 b s hb => by
  unfold hup at hb
  by_cases e : b = x.ld.bas
  · rw [if_pos e] at hb
    cases hb
    rw [e]
    obtain ⟨u, hu1, hu2⟩ := le1_iff.1 hu
    exact h2 x hx u hu2 (h.low I h1 h2 _ _ hu1)
  · rw [if_neg e] at hb; exact h.low I h1 h2 b s hb⟩
/- How many boxes' loads are still to come. -/
def ust (bx : List It) (H : Int → Option Int) : Nat := (bx.filter fun x => !le1 H x.ld.bas x.ld.stp).length
theorem ust_le {bx : List It} {H : Int → Option Int} : ust bx H ≤ bx.length := List.length_filter_le _ _
theorem ust_mono {H G : Int → Option Int} : ∀ bx : List It, (∀ b s, le1 H b s = true → le1 G b s = true) → ust bx G ≤ ust bx H
  | [], _ => Nat.le_refl _
  | x :: r, h => by
    have ih := ust_mono r h
    unfold ust at *
    rw [List.filter_cons, List.filter_cons]
    cases hH : le1 H x.ld.bas x.ld.stp with
    | true => rw [h _ _ hH]; simpa using ih
    | false => cases hG : le1 G x.ld.bas x.ld.stp <;> simp <;> omega
theorem ust_lt {H G : Int → Option Int} : ∀ (bx : List It), (∀ b s, le1 H b s = true → le1 G b s = true) → ∀ x ∈ bx, le1 H x.ld.bas x.ld.stp = false → le1 G x.ld.bas x.ld.stp = true → ust bx G < ust bx H
  | [], _, x, hx, _, _ => by cases hx
  | y :: r, h, x, hx, h1, h2 => by
    have hm := ust_mono r h
    unfold ust at *
    rw [List.filter_cons, List.filter_cons]
    rcases List.mem_cons.1 hx with e | e
    · subst e
      rw [h1, h2]
      simp
      omega
    · have ih := ust_lt r h x e h1 h2
      unfold ust at ih
      cases hH : le1 H y.ld.bas y.ld.stp with
      | true => rw [h _ _ hH]; simpa using ih
      | false => cases hG : le1 G y.ld.bas y.ld.stp <;> simp <;> omega
/- Lists of keys. -/
theorem rdk_of {W : World} {b : Nat} {T : TypeId} {a : Option Addr} {cap : Nat} {l : List (Int × Int)} (h : W.ownsRow b T 2 (.slice a l.length cap) l.length (ps l)) : RdS W a l := by
  rcases h.2 with ⟨e, h0⟩ | ⟨g, cap', cur, e, h3, h4, h5, h6, h7, h8⟩
  · intro i hi; omega
  · cases e
    intro i hi
    refine ⟨g, rfl, ?_⟩
    obtain ⟨p0, p1⟩ := Rs.ps_get l i hi
    have cell : ∀ j v, j < l.length * 2 → (ps l)[j]? = some v → W.cell? ⟨g, j, none⟩ = some v := fun j v hj hv => by
      rw [cell_of_row W g j _ _ _ h4, ← hv, ← h8, List.getElem?_take_of_lt hj]
      simp
    exact ⟨cell _ _ (by omega) p0, cell _ _ (by omega) p1⟩
end Go.Proofs.YtedbnamekfgmhabDoor
/- Contracts: derived, known. -/
namespace Go.Proofs.YtedbnamekfgmhabDoor
open Go.RowKit Go.Maps
open Rt (Ky zK)
open Rs (RdS ps)
set_option linter.unusedVariables false
set_option linter.unusedSimpArgs false

def Wi (x : Int) : Prop := (Lit.int .i64 x).wf = true
structure DM (w W : World) (b n : Nat) (H : Int → Option Int) : Prop where
  mh : Mh W b n H
  bel : Below w.heap.size w W
  ge : w.heap.size ≤ b
theorem DM.later {w W W' : World} {b n : Nat} {H : Int → Option Int} (h : DM w W b n H) (hb : Below W.heap.size W W') : DM w W' b n H := ⟨h.mh.later hb, h.bel.trans (hb.mono h.bel.size), h.ge⟩
theorem DM.upd {w W W' : World} {b n : Nat} {H G : Int → Option Int} (h : DM w W b n H) (hm : Mh W' b (n + 1) G) (hg : W.grownBy W' (some b)) : DM w W' b (n + 1) G :=
  ⟨hm, Below.grown h.bel hg h.bel.size (fun k hk => by cases hk; exact h.ge), h.ge⟩
theorem look_no {W : World} {b n : Nat} {H : Int → Option Int} (h : Mh W b n H) {x : Int} (hx : Wi x) (e : H x = none) : (Instr.lookup 43 (.map (some b)) (.int .i64 x) true).run Tryd.prog W = .ok (.tuple #[.int .i64 0, .bool false]) W := by
  have := h.look hx
  rw [e] at this
  exact this
theorem look_yes {W : World} {b n : Nat} {H : Int → Option Int} (h : Mh W b n H) {x s : Int} (hx : Wi x) (e : H x = some s) : (Instr.lookup 43 (.map (some b)) (.int .i64 x) true).run Tryd.prog W = .ok (.tuple #[.int .i64 s, .bool true]) W := by
  have := h.look hx
  rw [e] at this
  exact this
theorem le1_none {H : Int → Option Int} {b s : Int} (e : H b = none) : le1 H b s = false := by unfold le1; rw [e]; rfl
theorem le1_yes {H : Int → Option Int} {b s u : Int} (e : H b = some u) (h : u ≤ s) : le1 H b s = true := le1_iff.2 ⟨u, e, h⟩
theorem le1_no {H : Int → Option Int} {b s u : Int} (e : H b = some u) (h : s < u) : le1 H b s = false := by
  unfold le1
  rw [e]
  simp
  omega
theorem ItAt.cells {w : World} {B : Nat} {x : It} (h : ItAt w B x) : w.cell? ⟨B, 0, none⟩ = some (.int .i64 x.nd) ∧ w.cell? ⟨B, 1, none⟩ = some (.int .i64 x.fm) ∧ w.cell? ⟨B, 2, none⟩ = some (.int .i64 x.un.bas) ∧ w.cell? ⟨B, 3, none⟩ = some (.int .i64 x.un.stp) ∧ w.cell? ⟨B, 4, none⟩ = some (.int .i64 x.ld.bas) ∧ w.cell? ⟨B, 5, none⟩ = some (.int .i64 x.ld.stp) :=
  ⟨cell_of_row w B 0 _ _ _ h, cell_of_row w B 1 _ _ _ h, cell_of_row w B 2 _ _ _ h, cell_of_row w B 3 _ _ _ h, cell_of_row w B 4 _ _ _ h, cell_of_row w B 5 _ _ _ h⟩
theorem ItAt.later {w w' : World} {B : Nat} {x : It} (h : ItAt w B x) (hb : Below w.heap.size w w') : ItAt w' B x := (hb.block B (Array.getElem?_eq_some_iff.1 h).1).trans h
structure HasTo (ks : List (Int × Int)) (k : Nat) (H : Int → Option Int) : Prop where
  all : ∀ j, j < k → le1 H (ks.getD j (0, 0)).1 (ks.getD j (0, 0)).2 = true
theorem HasTo.up {ks : List (Int × Int)} {k : Nat} {H : Int → Option Int} (h : HasTo ks k H) {b s : Int} (hn : le1 H b s = false) : HasTo ks k (hup H b s) := ⟨fun j hj => le1_up (h.all j hj) hn⟩
theorem HasTo.one {ks : List (Int × Int)} {k : Nat} {H : Int → Option Int} (h : HasTo ks k H) (h1 : le1 H (ks.getD k (0, 0)).1 (ks.getD k (0, 0)).2 = true) : HasTo ks (k + 1) H := ⟨fun j hj => by
  rcases Nat.lt_or_ge j k with c | c
  · exact h.all j c
  · obtain rfl : j = k := by omega
    exact h1⟩
theorem getD_in {α : Type} {l : List α} {k : Nat} {d : α} (h : k < l.length) : l.getD k d ∈ l := by
  rw [List.getD_eq_getElem?_getD, List.getElem?_eq_getElem h]
  exact List.getElem_mem _
structure ShutTo (bx : List It) (k : Nat) (H : Int → Option Int) : Prop where
  all : ∀ j, j < k → le1 H (bx.getD j ⟨0, 0, zK, zK⟩).un.bas (bx.getD j ⟨0, 0, zK, zK⟩).un.stp = true → le1 H (bx.getD j ⟨0, 0, zK, zK⟩).ld.bas (bx.getD j ⟨0, 0, zK, zK⟩).ld.stp = true
theorem ShutTo.one {bx : List It} {k : Nat} {H : Int → Option Int} (h : ShutTo bx k H) {y : It} (hy : bx.getD k ⟨0, 0, zK, zK⟩ = y) (h1 : le1 H y.un.bas y.un.stp = true → le1 H y.ld.bas y.ld.stp = true) : ShutTo bx (k + 1) H := ⟨fun j hj => by
  rcases Nat.lt_or_ge j k with c | c
  · exact h.all j c
  · obtain rfl : j = k := by omega
    rw [hy]
    exact h1⟩
/- What stands in a pass: the map as it was at its beginning, or nearer the end. -/
structure Pass (ks : List (Int × Int)) (bx : List It) (K0 : Nat) (n0 : Nat) (H0 : Int → Option Int) (k n : Nat) (H : Int → Option Int) (m : Bool) : Prop where
  snd : Snd ks bx H
  has : HasTo ks ks.length H
  room : n + ust bx H ≤ K0
  off : m = false → H = H0 ∧ n = n0 ∧ ShutTo bx k H
  on : m = true → ust bx H < ust bx H0
  le : ust bx H ≤ ust bx H0
theorem Pass.skip {ks : List (Int × Int)} {bx : List It} {K0 n0 : Nat} {H0 : Int → Option Int} {k n : Nat} {H : Int → Option Int} {m : Bool} (h : Pass ks bx K0 n0 H0 k n H m) {y : It} (hy : bx.getD k ⟨0, 0, zK, zK⟩ = y) (h1 : le1 H y.un.bas y.un.stp = true → le1 H y.ld.bas y.ld.stp = true) : Pass ks bx K0 n0 H0 (k + 1) n H m :=
  ⟨h.snd, h.has, h.room, fun e => ⟨(h.off e).1, (h.off e).2.1, (h.off e).2.2.one hy h1⟩, h.on, h.le⟩
theorem Pass.take {ks : List (Int × Int)} {bx : List It} {K0 n0 : Nat} {H0 : Int → Option Int} {k n : Nat} {H : Int → Option Int} {m : Bool} (h : Pass ks bx K0 n0 H0 k n H m) {y : It} (hk : k < bx.length) (hy : bx.getD k ⟨0, 0, zK, zK⟩ = y) (h1 : le1 H y.un.bas y.un.stp = true) (h2 : le1 H y.ld.bas y.ld.stp = false) : Pass ks bx K0 n0 H0 (k + 1) (n + 1) (hup H y.ld.bas y.ld.stp) true := by
  have hin : y ∈ bx := hy ▸ getD_in hk
  have hlt : ust bx (hup H y.ld.bas y.ld.stp) < ust bx H := ust_lt bx (fun b s hb => le1_up hb h2) y hin h2 (le1_new _ _ _)
  have := h.room
  have := h.le
  exact ⟨h.snd.box hin h1, h.has.up h2, by omega, fun e => (by cases e), fun _ => by omega, by omega⟩
def DerP (w w' : World) (ks : List (Int × Int)) (bx : List It) (e : Ending) : Prop := ∃ b n H, e = .returned (.map (some b)) ∧ DM w w' b n H ∧ Clos ks bx H
theorem mem_all {α : Type} {l : List α} {d : α} {P : α → Prop} (h : ∀ j, j < l.length → P (l.getD j d)) : ∀ x ∈ l, P x := fun x hx => by
  obtain ⟨j, hj, e⟩ := List.mem_iff_getElem.1 hx
  have := h j hj
  rw [List.getD_eq_getElem?_getD, List.getElem?_eq_getElem hj, Option.getD_some, e] at this
  exact this
theorem DerP.of {w w' : World} {ks : List (Int × Int)} {bx : List It} {b n : Nat} {H : Int → Option Int} (h : DM w w' b n H) (h1 : Snd ks bx H) (h2 : HasTo ks ks.length H) (h3 : ShutTo bx bx.length H) : DerP w w' ks bx (.returned (.map (some b))) :=
  ⟨b, n, H, rfl, h, h1, mem_all h2.all, mem_all h3.all⟩
end Go.Proofs.YtedbnamekfgmhabDoor
/- P12.4 and P12.5 of the closure; keys that are gathered; what stands behind a step. -/
namespace Go.Proofs.YtedbnamekfgmhabDoor
open Go.RowKit Go.Maps
open Rt (Ky zK KyAt)
open Rs (En zE tkn RdS RdI ps evl)
set_option linter.unusedVariables false
set_option linter.unusedSimpArgs false

def kpr (k : Ky) : Int × Int := (k.bas, k.stp)
theorem le1_not {H : Int → Option Int} {b s : Int} (h : ∀ u, H b = some u → s < u) : le1 H b s = false := by
  rcases hH : H b with _ | u
  · exact le1_none hH
  · exact le1_no hH (h u hH)
/- P12.5. -/
theorem back_none {t : Tr} {L J : List Int} (h : Stp t L J) {ks : List (Int × Int)} {H : Int → Option Int} (hk : ∀ k ∈ ks, ∃ c : Nat, c < 85 ∧ koE (nx t L J) (c : Int) = 0 ∧ k = kpr (koK (nx t L J) (c : Int))) (hc : Clos ks (its (nx t L J) (plR t L) (jns t L J)) H) {d : Nat} (hd : d < 85) (h0 : koE t (d : Int) = 0) : le1 H (koK t (d : Int)).bas (koK t (d : Int)).stp = false := by
  refine le1_not fun u hu => ?_
  have := hc.snd.low (fun b s => ∃ c : Nat, c < 85 ∧ koE (nx t L J) (c : Int) = 0 ∧ (koK (nx t L J) (c : Int)).bas = b ∧ (koK (nx t L J) (c : Int)).stp = s) (fun k hk' => by
    obtain ⟨c, hc', e0, e⟩ := hk k hk'
    exact ⟨c, hc', e0, by rw [e]; rfl, by rw [e]; rfl⟩) (fun x hx u _ _ => by
    obtain ⟨v, c, e, hi⟩ := item_of h hx
    have hv := hi.lv
    refine ⟨v, by omega, koE_inner h.tckn (by omega) (by omega), ?_, ?_⟩
    · rw [e, koK_in h.tckn hv]; show _ = (kyA (nx t L J) v).bas; rw [kyA_in hv]
    · rw [e, koK_in h.tckn hv]; show _ = (kyA (nx t L J) v).stp; rw [kyA_in hv]) _ _ hu
  obtain ⟨c, hc', e0, e1, e2⟩ := this
  have := bwd h hc' hd e0 h0 e1
  omega
/- P12.4. -/
theorem fwd_none {t : Tr} {L J : List Int} (h : Stp t L J) {ks : List (Int × Int)} {H : Int → Option Int} (hk : ∀ k ∈ ks, ∃ s : Nat, s < 64 ∧ tkn (t.ro s) = true ∧ (t.ro s).who ∈ L ∧ (k.1 = (koK t ((21 + s : Nat) : Int)).bas ∨ ∃ i, i < 3 ∧ k.1 = (t.ks (pn s i)).bas)) (hc : Clos ks (its (nx t L J) (plR t L) (jns t L J)) H) {d : Nat} (hd : d < 85) (h0 : koE (nx t L J) (d : Int) = 0) : le1 H (koK (nx t L J) (d : Int)).bas (koK (nx t L J) (d : Int)).stp = false := by
  have key : ∀ b s, H b = some s → ∀ c : Nat, c < 85 → koE (nx t L J) (c : Int) = 0 → (koK (nx t L J) (c : Int)).bas ≠ b := by
    intro b s hb
    refine hc.snd.low (fun b _ => ∀ c : Nat, c < 85 → koE (nx t L J) (c : Int) = 0 → (koK (nx t L J) (c : Int)).bas ≠ b) (fun k hk' => ?_) (fun x hx u _ hI => ?_) b s hb
    · obtain ⟨s, hs, ht, hL, e⟩ := hk k hk'
      intro c hc' hc0
      rcases e with e | ⟨i, hi, e⟩
      · rw [e]; exact fwd_leaf h hs ht hL hc' hc0
      · rw [e]; exact fwd_path h hs ht hL hi hc' hc0
    · obtain ⟨v, c, e, hi⟩ := item_of h hx
      have hcz := hld_leaf h.tckn hi.lc hi.held
      exfalso
      refine hI c hi.lc hcz ?_
      rw [e]
      show _ = (kyA (nx t L J) c).bas
      rw [kyA_ko h.tckn hi.lc hcz]
  refine le1_not fun u hu => ?_
  exact absurd rfl (key _ _ hu d hd h0)
/- Names and steps are within an int. -/
theorem wi_of {x : Int} (h0 : -9223372036854775808 ≤ x) (h1 : x < 9223372036854775808) : Wi x := by
  show (decide (IntKind.i64.min ≤ x) && decide (x ≤ IntKind.i64.max)) = true
  have e1 : IntKind.i64.min = -9223372036854775808 := by decide
  have e2 : IntKind.i64.max = 9223372036854775807 := by decide
  rw [e1, e2, decide_eq_true (by omega), decide_eq_true (by omega)]
  rfl
theorem wi_gd {b s : Int} (h : Rt.Gd b s) : Wi b ∧ Wi s := by
  obtain ⟨h1, h2, h3, h4⟩ := h
  exact ⟨wi_of (by omega) (by omega), wi_of (by omega) (by omega)⟩
theorem its_wi {t : Tr} {L J : List Int} (h : Stp t L J) : ∀ x ∈ its (nx t L J) (plR t L) (jns t L J), Wi x.un.bas ∧ Wi x.ld.bas ∧ Wi x.ld.stp := fun x hx => by
  obtain ⟨v, c, e, hi⟩ := item_of h hx
  have h1 := wi_gd (ko_gd h.tckn hi.lc (hld_leaf h.tckn hi.lc hi.held))
  have h2 := wi_gd (ks_gd h.tckn hi.lv)
  rw [e]
  refine ⟨h1.1, ?_⟩
  show Wi (kyA (nx t L J) v).bas ∧ Wi (kyA (nx t L J) v).stp
  rw [kyA_in hi.lv]
  exact h2
/- Keys that are gathered. -/
structure BK (w W : World) (v : Value) (l : List (Int × Int)) : Prop where
  bel : Below w.heap.size w W
  row : W.ownsRow w.heap.size 23 2 v l.length (ps l)
theorem BK.later {w W W' : World} {v : Value} {l : List (Int × Int)} (h : BK w W v l) (hb : Below W.heap.size W W') : BK w W' v l := ⟨h.bel.trans (hb.mono h.bel.size), Rs.owns_later h.row hb⟩
theorem BK.app {w W W1 : World} {v v' : Value} {l : List (Int × Int)} {o : Obj} {p : Int × Int} (h : BK w W v l) (hown : W1.ownsRow w.heap.size 23 2 v' (l.length + 1) (ps l ++ [.int .i64 p.1, .int .i64 p.2])) (hg : (W.alloc o).grownBy W1 v.ownBlock) : BK w W1 v' (l ++ [p]) := by
  refine ⟨Rs.grown_bel h.bel h.row (Nat.le_refl _) hg, ?_⟩
  rw [Rs.ps_snoc, List.length_append]
  exact hown
theorem infoKey2 : (Tryd.prog.info? 23).map (fun i => (i.zero, i.size, i.bytes)) = some (some (.agg #[.int .i64 0, .int .i64 0]), 2, 16) := by kernel_rfl
theorem infoKey_parts : ∃ i, Tryd.prog.info? 23 = some i ∧ i.zero = some (.agg #[.int .i64 0, .int .i64 0]) ∧ i.size = 2 ∧ i.bytes = 16 := by
  have h := infoKey2
  cases hq : Tryd.prog.info? 23 with
  | none => rw [hq] at h; cases h
  | some i =>
    rw [hq] at h
    simp at h
    exact ⟨i, rfl, h.1, h.2.1, h.2.2⟩
/- A seat of a list, held while something is looked up of a tree. -/
structure LS (w W : World) (B C : Nat) (t : Tr) (p : Int × Int) : Prop where
  tr : TrAt W B t
  se : StAt W C p
  bel : Below w.heap.size w W
theorem LS.later {w W W' : World} {B C : Nat} {t : Tr} {p : Int × Int} (h : LS w W B C t p) (hb : Below W.heap.size W W') : LS w W' B C t p := ⟨h.tr.later hb, h.se.later hb, h.bel.trans (hb.mono h.bel.size)⟩
theorem LS.two {w W : World} {B C : Nat} {t : Tr} {p : Int × Int} (h : LS w W B C t p) {A : Nat} {e : Ky} (hA : KyAt W A e) (h3 : w.heap.size ≤ A) (a b : Int) : LS w ((W.setCell ⟨A, 0, none⟩ (.int .i64 a)).setCell ⟨A, 1, none⟩ (.int .i64 b)) B C t p :=
  ⟨(Rt.set2_other (block_ne h.tr hA (by decide)) _ _ _ _).trans h.tr, (Rt.set2_other (block_ne h.se hA (by decide)) _ _ _ _).trans h.se, Rt.set2_below h.bel h3 _ _ _ _⟩
end Go.Proofs.YtedbnamekfgmhabDoor
