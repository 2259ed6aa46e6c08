/- MbL, MbM, MbN, MbO, MbP, joined. -/
import Derived.Test.YtpimbpfefhkojaaGreatMbJ3
import Derived.LoopTactic
import Derived.Test.YtpimbpfefhkojaaGreatWiJ2
/- Contracts: slices.Index and slices.Contains at seats; enter, follow, goOn. -/
namespace Go.Proofs.YtpimbpfefhkojaaGreat.Mb
open Go.RowKit Go.Maps
open Rt (Ky zK gd gv Gd pcs KyAt)
open Wi (gR gE gW gS gI gB gK ldM stM rd_guard ra_of th_of ra_later RdV itl stl)
set_option linter.unusedVariables false
set_option linter.unusedSimpArgs false

theorem eqS_exec {o : Oper} {a : Act} {w : World} {p q : Int × Int} {b : Bool} (hb : decide (p = q) = b) {x y : Operand} (ho : o.op = .binOp .eql 93 x y 93) (hx : a.eval x = .agg (stl p).toArray) (hy : a.eval y = .agg (stl q).toArray) : (execOp a.eval o).run Tryz.prog w = .ok (.value (.bool b)) w := by
  subst hb
  have h3 := run_eqGuard_agg (P := Tryz.prog) w .eql 93 x y (stl p).toArray (stl q).toArray Tryz.eqGuardType93
  have h4 := run_eql_struct (P := Tryz.prog) w 93 (stl p).toArray (stl q).toArray
  rw [Wi.run_eqPr 93 9998 p q (.inr (.inl rfl))] at h4
  simp [execOp, ho, hx, hy, h3, h4, Sem.run_bind, Result.andThen]
theorem stds_no {J : List (Int × Int)} {p : Int × Int} (h : ∀ (j : Nat) (hj : j < J.length), p ≠ J[j]) : stds J p = false := by
  unfold stds
  rw [List.any_eq_false]
  intro x hx
  obtain ⟨j, hj, e⟩ := List.mem_iff_getElem.1 hx
  have := h j hj
  rw [e] at this
  simp only [Bool.and_eq_true, decide_eq_true_eq]
  rintro ⟨h1, h2⟩
  exact this (Prod.ext h1.symm h2.symm)
theorem stds_yes {J : List (Int × Int)} {p : Int × Int} {j : Nat} (hj : j < J.length) (h : p = J[j]) : stds J p = true := by
  unfold stds
  rw [List.any_eq_true]
  exact ⟨J[j], List.getElem_mem hj, by rw [← h]; simp⟩
end Go.Proofs.YtpimbpfefhkojaaGreat.Mb
/- Contract: enter. -/
namespace Go.Proofs.YtpimbpfefhkojaaGreat.Mb
open Go.RowKit Go.Maps
open Rt (Ky zK gd gv Gd pcs KyAt)
open Wi (gR gE gW gS gI gB gK ldM stM rd_guard ra_of th_of ra_later RdV itl stl)
set_option linter.unusedVariables false
set_option linter.unusedSimpArgs false

def ApR (x : Int × Mb) : Ending := .returned (.tuple #[.agg (mba x.2), .int .i64 x.1])
theorem ApR.of {x : Int × Mb} {e : Int} {n : Mb} (h : x = (e, n)) : Ending.returned (.tuple #[.agg (mba n), .int .i64 e]) = ApR x := by rw [h]; rfl
def rka (r : Rk) (aL aJ aI : Option Addr) (cL cJ cI : Nat) : Array Value := #[.int .i64 r.1, .slice aL r.2.1.length cL, .slice aJ r.2.2.1.length cJ, .slice aI r.2.2.2.length cI]
structure MP (w W : World) (B D K : Nat) (m : Mb) (r : Rk) (aL aJ aI : Option Addr) (cL cJ cI : Nat) : Prop where
  v : CV W D B r aL aJ aI cL cJ cI m
  re : MA W K zMb
  bel : Below w.heap.size w W
  ge : w.heap.size ≤ K
  gB : w.heap.size ≤ B
  ne : B ≠ K
section
variable {w W W' : World} {B D K : Nat} {m : Mb} {r : Rk} {aL aJ aI : Option Addr} {cL cJ cI : Nat}
theorem MP.later (h : MP w W B D K m r aL aJ aI cL cJ cI) (hb : Below W.heap.size W W') : MP w W' B D K m r aL aJ aI cL cJ cI := ⟨h.v.later hb, h.re.later hb, h.bel.trans (hb.mono h.bel.size), h.ge, h.gB, h.ne⟩
theorem MP.new (w : World) (m : Mb) (hr : RL w r aL aJ aI) : MP w (((w.alloc (.cells (mba m) 39)).alloc (.cells (rka r aL aJ aI cL cJ cI) 49)).alloc (.cells (mba zMb) 39)) w.heap.size (w.heap.size + 1) (w.heap.size + 2) m r aL aJ aI cL cJ cI := by
  have h1 := MA.new w m
  have hb1 := below_alloc w (.cells (mba m) 39)
  have e1 : (w.alloc (.cells (mba m) 39)).heap.size = w.heap.size + 1 := by rw [World.size_alloc]
  generalize w.alloc (.cells (mba m) 39) = w1 at *
  have h2 : RK (w1.alloc (.cells (rka r aL aJ aI cL cJ cI) 49)) w1.heap.size r aL aJ aI cL cJ cI := heap_alloc_last w1 _
  have hb2 := below_alloc w1 (.cells (rka r aL aJ aI cL cJ cI) 49)
  have e2 : (w1.alloc (.cells (rka r aL aJ aI cL cJ cI) 49)).heap.size = w.heap.size + 2 := by rw [World.size_alloc, e1]
  rw [e1] at h2
  generalize w1.alloc (.cells (rka r aL aJ aI cL cJ cI) 49) = w2 at *
  have h3 := MA.new w2 zMb
  have hb3 := below_alloc w2 (.cells (mba zMb) 39)
  rw [e2] at h3
  have b23 := Wi.Below.join hb2 hb3
  have b13 := Wi.Below.join hb1 b23
  exact ⟨⟨h2.later hb3, h1.later b23, hr.later b13⟩, h3, b13, by omega, by omega, by omega⟩
end
theorem entr_E (m : Mb) (I : List Im) : enEr m I = clE (en0 m I) (en1 m I) (en2 m I) := rfl
theorem entr_no {m : Mb} {r : Rk} (h : clE (en0 m r.2.2.2) (en1 m r.2.2.2) (en2 m r.2.2.2) ≠ 0) : entr m r = (clE (en0 m r.2.2.2) (en1 m r.2.2.2) (en2 m r.2.2.2), m) := by unfold entr; rw [entr_E, if_neg h]
theorem entr_yes {m : Mb} {r : Rk} (h : clE (en0 m r.2.2.2) (en1 m r.2.2.2) (en2 m r.2.2.2) = 0) : entr m r = (0, arr m r.1 m.lf (clK (en0 m r.2.2.2) (en1 m r.2.2.2) (en2 m r.2.2.2) (en0 m r.2.2.2).2) (clK (en0 m r.2.2.2) (en1 m r.2.2.2) (en2 m r.2.2.2) (en1 m r.2.2.2).2) (clK (en0 m r.2.2.2) (en1 m r.2.2.2) (en2 m r.2.2.2) (en2 m r.2.2.2).2)) := by
  unfold entr clK; rw [entr_E, if_pos h, if_pos h, if_pos h, if_pos h]
end Go.Proofs.YtpimbpfefhkojaaGreat.Mb
/- Contract: follow. -/
namespace Go.Proofs.YtpimbpfefhkojaaGreat.Mb
open Go.RowKit Go.Maps
open Rt (Ky zK gd gv Gd pcs KyAt)
open Wi (gR gE gW gS gI gB gK ldM stM rd_guard ra_of th_of ra_later RdV itl stl)
set_option linter.unusedVariables false
set_option linter.unusedSimpArgs false

theorem foll_E {m : Mb} {r : Rk} (h : advB m.lf = true) : foEr m r = clE (fo0 m r) (fo1 m r) (fo2 m r) := by unfold foEr; rw [if_pos h]; rfl
theorem foll_far {m : Mb} {r : Rk} (h : advB m.lf = false) : foll m r = (4, m) := by
  have e : foEr m r = 4 := by unfold foEr; rw [h]; rfl
  unfold foll; rw [e, if_neg (by decide)]
theorem foll_no {m : Mb} {r : Rk} (h : advB m.lf = true) (h0 : clE (fo0 m r) (fo1 m r) (fo2 m r) ≠ 0) : foll m r = (clE (fo0 m r) (fo1 m r) (fo2 m r), m) := by unfold foll; rw [foll_E h, if_neg h0]
theorem foll_yes {m : Mb} {r : Rk} (h : advB m.lf = true) (h0 : clE (fo0 m r) (fo1 m r) (fo2 m r) = 0) : foll m r = (0, arr m r.1 (adv m.lf) (clK (fo0 m r) (fo1 m r) (fo2 m r) (fo0 m r).2) (clK (fo0 m r) (fo1 m r) (fo2 m r) (fo1 m r).2) (clK (fo0 m r) (fo1 m r) (fo2 m r) (fo2 m r).2)) := by
  unfold foll clK; rw [foll_E h, if_pos h0, if_pos h0, if_pos h0, if_pos h0]
theorem slt_nat {s : Int} (h0 : 0 ≤ s) (h1 : s < 64) : s.toNat < 64 := by omega
end Go.Proofs.YtpimbpfefhkojaaGreat.Mb
/- Contract: goOn, Apply. -/
namespace Go.Proofs.YtpimbpfefhkojaaGreat.Mb
open Go.RowKit Go.Maps
open Rt (Ky zK gd gv Gd pcs KyAt)
open Wi (gR gE gW gS gI gB gK ldM stM rd_guard ra_of th_of ra_later RdV itl stl)
set_option linter.unusedVariables false
set_option linter.unusedSimpArgs false

theorem lvs_no {L : List (Int × Int)} {x : Int} (h : ∀ (j : Nat) (hj : j < L.length), L[j].1 ≠ x) : lvs L x = false := by
  unfold lvs
  rw [List.any_eq_false]
  intro y hy
  obtain ⟨j, hj, e⟩ := List.mem_iff_getElem.1 hy
  have := h j hj
  rw [e] at this
  simpa using this
theorem lvs_yes {L : List (Int × Int)} {x : Int} {j : Nat} (hj : j < L.length) (h : L[j].1 = x) : lvs L x = true := by
  unfold lvs
  rw [List.any_eq_true]
  exact ⟨L[j], List.getElem_mem hj, by simpa using h⟩
end Go.Proofs.YtpimbpfefhkojaaGreat.Mb
/- Contract: Apply. -/
namespace Go.Proofs.YtpimbpfefhkojaaGreat.Mb
open Go.RowKit Go.Maps
open Rt (Ky zK gd gv Gd pcs KyAt)
open Wi (gR gE gW gS gI gB gK ldM stM rd_guard ra_of th_of ra_later RdV itl stl)
set_option linter.unusedVariables false
set_option linter.unusedSimpArgs false

theorem gM_mR (r : Rk) : Wi.gM (Wi.mR r) = gR r := by
  unfold Wi.gM Wi.mR
  rw [if_pos rfl]
  simp
theorem hs_2 {m : Mb} (h : knd m = 2 ∨ knd m = 3) : hsE m = 0 := by unfold hsE; rw [if_neg (by omega), if_neg (by omega)]
theorem hs_0 {m : Mb} (h : knd m < 1) : hsE m = 30 := by unfold hsE; rw [if_pos h]
theorem hs_1 {m : Mb} (h : knd m = 1) : hsE m = 20 := by unfold hsE; rw [if_neg (by omega), if_pos h]
structure RN (r : Rk) : Prop where
  l : r.2.1.length < 4611686018427387904
  j : r.2.2.1.length < 4611686018427387904
  i : r.2.2.2.length < 4611686018427387904
theorem good_R (r : Rk) (aL aJ aI : Option Addr) (cL cJ cI : Nat) (w : World) (hr : RL w r aL aJ aI) (hn : RN r) : Calls Tryz.prog 51 #[.agg #[.int .i64 1, .int .i64 r.1, .slice aL r.2.1.length cL, .slice aJ r.2.2.1.length cJ, .slice aI r.2.2.2.length cI, .int .i64 0, .int .i64 0, .int .i64 0, .int .i64 0, .int .i64 0, .int .i64 0, .int .i64 0, .int .i64 0, .int .i64 0, .int .i64 0, .int .i64 0, .int .i64 0, .int .i64 0, .int .i64 0, .int .i64 0, .int .i64 0, .int .i64 0, .int .i64 0, .int .i64 0, .int .i64 0, .string ByteArray.empty] ] w fun e w' => e = .returned (.bool (gR r)) ∧ Below w.heap.size w w' := by
  have h := Wi.good_any (Wi.mR r) aL aJ aI cL cJ cI w ⟨hr.l, hr.j, hr.i, hn.l, hn.j, hn.i, by show (Bt.tx []).size < _; decide⟩
  rw [gM_mR] at h
  exact h
theorem max_if (a b : Int) : max a b = if a < b then b else a := by split <;> omega
end Go.Proofs.YtpimbpfefhkojaaGreat.Mb
