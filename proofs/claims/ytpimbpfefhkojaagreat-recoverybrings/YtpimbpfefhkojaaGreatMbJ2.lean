/- MbG, MbH, MbI, MbJ, joined. -/
import Derived.Test.YtpimbpfefhkojaaGreatMbJ1
import Derived.Test.YtpimbpfefhkojaaGreatKeyJ
import Derived.Test.YtpimbpfefhkojaaGreatWiJ2
import Derived.LoopTactic
import Derived.Test.YtpimbpfefhkojaaGreatPlJ6
import Derived.Laws.BitsAllLaws
import Derived.Deep.RegionHeld3
/- Contracts: open (the first item that gives a node from another one). -/
namespace Go.Proofs.YtpimbpfefhkojaaGreat.Mb
open Go.RowKit Go.Maps
open Rt (Ky zK gd gv Gd pcs KyAt)
open Wi (gR gE gW gS gI gB gK ldM stM rd_guard ra_of th_of ra_later RdV itl stl)
set_option linter.unusedVariables false
set_option linter.unusedSimpArgs false

def isI (i : Im) (v f : Int) : Bool := decide (i.1.1 = v) && decide (i.1.2 = f)
theorem fst_none {I : List Im} {v f : Int} (h : ∀ (j : Nat) (hj : j < I.length), isI I[j] v f = false) : fstI I v f = none := by
  unfold fstI
  rw [Option.map_eq_none_iff, List.find?_eq_none]
  intro x hx
  obtain ⟨j, hj, e⟩ := List.mem_iff_getElem.1 hx
  have := h j hj
  rw [e] at this
  unfold isI at this
  rw [this]
  decide
theorem fst_some {I : List Im} {v f : Int} {n : Nat} (hn : n < I.length) (h : ∀ (j : Nat) (hj : j < n), isI (I[j]'(by omega)) v f = false) (h2 : isI I[n] v f = true) : fstI I v f = some I[n].2 := by
  unfold fstI
  have : I.find? (fun i => decide (i.1.1 = v) && decide (i.1.2 = f)) = some I[n] := by
    rw [List.find?_eq_some_iff_getElem]
    refine ⟨h2, n, hn, rfl, fun j hj => ?_⟩
    have := h j hj
    unfold isI at this
    rw [this]
    rfl
  rw [this]
  rfl
def opP (I : List Im) (v f : Int) (k : Ky) : Int × Ky := match fstI I v f with
  | some b => if opn b k then (0, ldK b) else (5, zK)
  | none => (23, zK)
theorem op_some {I : List Im} {v f : Int} {k : Ky} {b : (Int × Int) × (Int × Int)} (h : fstI I v f = some b) : opP I v f k = if opn b k then (0, ldK b) else (5, zK) := by unfold opP; rw [h]
theorem op_none {I : List Im} {v f : Int} {k : Ky} (h : fstI I v f = none) : opP I v f k = (23, zK) := by unfold opP; rw [h]
theorem fo_op (I : List Im) (v below : Int) (old k : Ky) : foP I true v below old k = opP I v below k := by unfold foP opP; rw [if_pos rfl]; cases fstI I v below <;> rfl
theorem en_op (I : List Im) (v leaf below : Int) (lf k : Ky) : enP I v leaf below lf k = if (opP I v leaf lf).1 = 23 then opP I v below k else opP I v leaf lf := by
  unfold enP
  cases h : fstI I v leaf with
  | none => rw [op_none h]; rfl
  | some b =>
    rw [op_some h]
    dsimp only
    by_cases ho : opn b lf = true
    · rw [if_pos ho]; rfl
    · rw [if_neg ho]; rfl
theorem op_good {I : List Im} (hI : I.all gI = true) {v f : Int} {k : Ky} (h : (opP I v f k).1 = 0) : gk (opP I v f k).2 = true := by
  cases e : fstI I v f with
  | none => rw [op_none e] at h; cases h
  | some b =>
    rw [op_some e] at h ⊢
    by_cases ho : opn b k = true
    · rw [if_pos ho]; exact ld_good hI e
    · rw [if_neg ho] at h; cases h
def OpA (I : List Im) (v f : Int) (k : Ky) : Ending := .returned (.tuple #[.agg #[.int .i64 (opP I v f k).2.bas, .int .i64 (opP I v f k).2.stp], .int .i64 (opP I v f k).1])
theorem OpA.none {I : List Im} {v f : Int} {k : Ky} (h : fstI I v f = none) : Ending.returned (.tuple #[.agg #[.int .i64 zK.bas, .int .i64 zK.stp], .int .i64 23]) = OpA I v f k := by unfold OpA; rw [op_none h]
theorem OpA.off {I : List Im} {v f : Int} {k : Ky} {b : (Int × Int) × (Int × Int)} (h : fstI I v f = some b) (h2 : opn b k = false) : Ending.returned (.tuple #[.agg #[.int .i64 zK.bas, .int .i64 zK.stp], .int .i64 5]) = OpA I v f k := by unfold OpA; rw [op_some h, if_neg (by rw [h2]; decide)]
theorem OpA.yes {I : List Im} {v f : Int} {k : Ky} {b : (Int × Int) × (Int × Int)} (h : fstI I v f = some b) (h2 : opn b k = true) : Ending.returned (.tuple #[.agg #[.int .i64 (ldK b).bas, .int .i64 (ldK b).stp], .int .i64 0]) = OpA I v f k := by unfold OpA; rw [op_some h, if_pos h2]
structure SO (w W : World) (B K : Nat) (k : Ky) : Prop where
  ky : KyAt W B k
  re : KyAt W K zK
  bel : Below w.heap.size w W
  ge : w.heap.size ≤ K
theorem SO.later {w W W' : World} {B K : Nat} {k : Ky} (h : SO w W B K k) (hb : Below W.heap.size W W') : SO w W' B K k := ⟨h.ky.later hb, h.re.later hb, h.bel.trans (hb.mono h.bel.size), h.ge⟩
theorem SO.new (w : World) (k : Ky) : SO w ((w.alloc (.cells #[.int .i64 k.bas, .int .i64 k.stp] 23)).alloc (.cells #[.int .i64 0, .int .i64 0] 23)) w.heap.size (w.heap.size + 1) k := by
  have h2 := KyAt.new (w.alloc (.cells #[.int .i64 k.bas, .int .i64 k.stp] 23)) zK
  rw [World.size_alloc] at h2
  exact ⟨(KyAt.new w k).later (below_alloc _ _), h2, Wi.Below.plus (below_alloc _ _) _, by omega⟩
theorem gk_Gd {k : Ky} (h : gk k = true) : Gd k.bas k.stp := Rt.gd_iff.1 h
end Go.Proofs.YtpimbpfefhkojaaGreat.Mb
/- Contracts: replacedBy; the two closures that find a path's key. -/
namespace Go.Proofs.YtpimbpfefhkojaaGreat.Mb
open Go.RowKit Go.Maps
open Rt (Ky zK gd gv Gd pcs KyAt)
open Rs (sl put)
open Sh (msk lef abvTo)
open Wi (gR gE gW gS gI gB gK ldM stM rd_guard ra_of th_of ra_later RdV itl stl)
set_option linter.unusedVariables false
set_option linter.unusedSimpArgs false

theorem msk_leaf : ∀ k : Fin 64, msk (21 + (k.val : Int)) = ((2 ^ k.val : Nat) : Int) := by decide +kernel
theorem or_step (s : Nat) (hs : s < 18446744073709551616) (y x : Int) : bits .or .u64 (s : Int) (msk (lef x)) = ((sw1 s (y, x) : Nat) : Int) := by
  unfold sw1
  dsimp only
  cases h : sl x with
  | false =>
    rw [Sh.lef_no (Rs.sl_not h), Sh.msk_no (by omega), if_neg (by decide)]
    have := u64_or_nat s 0 hs (by omega)
    rw [Nat.or_zero] at this
    exact this
  | true =>
    obtain ⟨k, hk, h2⟩ := Rs.sl_nat h
    rw [hk, Sh.lef_yes (by omega) (by omega), msk_leaf ⟨k, h2⟩, if_pos rfl, Int.toNat_natCast]
    have hp : (2 : Nat) ^ k < 18446744073709551616 := Nat.pow_lt_pow_right (by omega) (show k < 64 from h2)
    exact u64_or_nat s (2 ^ k) hs hp
/- What the closures read: the message and the state, boxed. -/
def RK (w : World) (B : Nat) (r : Rk) (aL aJ aI : Option Addr) (cL cJ cI : Nat) : Prop := w.heap[B]? = some (.cells #[.int .i64 r.1, .slice aL r.2.1.length cL, .slice aJ r.2.2.1.length cJ, .slice aI r.2.2.2.length cI] 49 (0, 0))
section
variable {w w' W W' : World} {B D C : Nat} {r : Rk} {aL aJ aI : Option Addr} {cL cJ cI : Nat} {m : Mb}
theorem RK.later (h : RK w B r aL aJ aI cL cJ cI) (hb : Below w.heap.size w w') : RK w' B r aL aJ aI cL cJ cI := row_later h hb
theorem RK.cells (h : RK w B r aL aJ aI cL cJ cI) : w.cell? ⟨B, 0, none⟩ = some (.int .i64 r.1) ∧ w.cell? ⟨B, 1, none⟩ = some (.slice aL r.2.1.length cL) ∧ w.cell? ⟨B, 2, none⟩ = some (.slice aJ r.2.2.1.length cJ) ∧ w.cell? ⟨B, 3, none⟩ = some (.slice aI r.2.2.2.length cI) :=
  ⟨cell_of_row w B 0 _ _ _ h, cell_of_row w B 1 _ _ _ h, cell_of_row w B 2 _ _ _ h, cell_of_row w B 3 _ _ _ h⟩
/- The lists of a message can be read. -/
structure RL (w : World) (r : Rk) (aL aJ aI : Option Addr) : Prop where
  l : RdV stl 2 w aL r.2.1
  j : RdV stl 2 w aJ r.2.2.1
  i : RdV itl 6 w aI r.2.2.2
theorem RL.later (h : RL w r aL aJ aI) (hb : Below w.heap.size w w') : RL w' r aL aJ aI := ⟨h.l.later hb, h.j.later hb, h.i.later hb⟩
/- Both boxed, the lists there. -/
structure CV (w : World) (D B : Nat) (r : Rk) (aL aJ aI : Option Addr) (cL cJ cI : Nat) (m : Mb) : Prop where
  rk : RK w D r aL aJ aI cL cJ cI
  mb : MA w B m
  rd : RL w r aL aJ aI
theorem CV.later (h : CV w D B r aL aJ aI cL cJ cI m) (hb : Below w.heap.size w w') : CV w' D B r aL aJ aI cL cJ cI m := ⟨h.rk.later hb, h.mb.later hb, h.rd.later hb⟩
end
theorem gR_len {r : Rk} (h : gR r = true) : r.2.1.length ≤ 64 ∧ r.2.2.1.length ≤ 64 ∧ r.2.2.2.length ≤ 1536 := by
  unfold Wi.gR at h
  simp only [Bool.and_eq_true, decide_eq_true_eq] at h
  exact ⟨h.2.1.1, h.2.2.1.1, h.2.2.2.1⟩
end Go.Proofs.YtpimbpfefhkojaaGreat.Mb
/- Contracts: the two closures that find a path's key. -/
namespace Go.Proofs.YtpimbpfefhkojaaGreat.Mb
open Go.RowKit Go.Maps
open Rt (Ky zK gd gv Gd pcs KyAt)
open Rs (sl put)
open Sh (msk lef abvTo)
open Wi (gR gE gW gS gI gB gK ldM stM rd_guard ra_of th_of ra_later RdV itl stl)
set_option linter.unusedVariables false
set_option linter.unusedSimpArgs false

def KyR (x : Int × Ky) : Ending := .returned (.tuple #[.agg #[.int .i64 x.2.bas, .int .i64 x.2.stp], .int .i64 x.1])
theorem OpA_R (I : List Im) (v f : Int) (k : Ky) : OpA I v f k = KyR (opP I v f k) := rfl
def pth (m : Mb) (i : Nat) : Ky := if i = 0 then m.p0 else if i = 1 then m.p1 else m.p2
theorem MA.at {w : World} {B : Nat} {m : Mb} (h : MA w B m) (i : Nat) (hi : i < 3) : w.cell? ⟨B, 5 + i * 2, none⟩ = some (.int .i64 (pth m i).bas) ∧ w.cell? ⟨B, 5 + i * 2 + 1, none⟩ = some (.int .i64 (pth m i).stp) := by
  obtain ⟨h0, h1, h2⟩ := h.key
  match i, hi with
  | 0, _ => exact h0
  | 1, _ => exact h1
  | 2, _ => exact h2
structure CR (w W : World) (A K : Nat) (k : Ky) : Prop where
  ky : KyAt W A k
  re : KyAt W K zK
  bel : Below w.heap.size w W
  ge : w.heap.size ≤ K
theorem CR.later {w W W' : World} {A K : Nat} {k : Ky} (h : CR w W A K k) (hb : Below W.heap.size W W') : CR w W' A K k := ⟨h.ky.later hb, h.re.later hb, h.bel.trans (hb.mono h.bel.size), h.ge⟩
theorem CR.new (w : World) (k : Ky) : CR w ((w.alloc (.cells #[.int .i64 k.bas, .int .i64 k.stp] 23)).alloc (.cells #[.int .i64 0, .int .i64 0] 23)) w.heap.size (w.heap.size + 1) k := by
  have h := SO.new w k
  exact ⟨h.ky, h.re, h.bel, h.ge⟩
theorem fo_no {I : List Im} {v below : Int} {old k : Ky} : foP I false v below old k = if advB old then (0, adv old) else (4, zK) := by unfold foP; rw [if_neg (by decide)]
end Go.Proofs.YtpimbpfefhkojaaGreat.Mb
/- Contract: the closure that finds an entry's key. -/
namespace Go.Proofs.YtpimbpfefhkojaaGreat.Mb
open Go.RowKit Go.Maps
open Rt (Ky zK gd gv Gd pcs KyAt)
open Sh (msk lef abvTo)
open Wi (gR gE gW gS gI gB gK ldM stM rd_guard ra_of th_of ra_later RdV itl stl)
set_option linter.unusedVariables false
set_option linter.unusedSimpArgs false

structure EN (w W : World) (A K D B : Nat) (k : Ky) (r : Rk) (aL aJ aI : Option Addr) (cL cJ cI : Nat) (m : Mb) : Prop where
  c : CR w W A K k
  v : CV W D B r aL aJ aI cL cJ cI m
theorem EN.later {w W W' : World} {A K D B : Nat} {k : Ky} {r : Rk} {aL aJ aI : Option Addr} {cL cJ cI : Nat} {m : Mb} (h : EN w W A K D B k r aL aJ aI cL cJ cI m) (hb : Below W.heap.size W W') : EN w W' A K D B k r aL aJ aI cL cJ cI m := ⟨h.c.later hb, h.v.later hb⟩
theorem rd_set {α : Type} {f : α → List Value} {n : Nat} {w : World} {a : Option Addr} {l : List α} (h : RdV f n w a l) {A : Nat} (hA : ∀ b o, a = some ⟨b, o, none⟩ → b ≠ A) (k : Nat) (v : Value) : RdV f n (w.setCell ⟨A, k, none⟩ v) a l := fun i hi => by
  obtain ⟨b, o, e, r⟩ := h i hi
  refine ⟨b, o, e, fun j u hu => ?_⟩
  have := r j u hu
  rw [← this]
  have hb := hA b o e
  simp only [World.cell?, World.setCell, Array.getElem?_modify]
  rw [if_neg (fun e => hb e.symm)]
theorem below_set {W : World} {A n : Nat} (hA : n ≤ A) (k : Nat) (v : Value) : Below n W (W.setCell ⟨A, k, none⟩ v) := (Below.refl n W).setCell (p := ⟨A, k, none⟩) hA v
/- What lies below n stays, whatever is written from n on. -/
structure EB (w0 w W : World) (A K D B : Nat) (k : Ky) (r : Rk) (aL aJ aI : Option Addr) (cL cJ cI : Nat) (m : Mb) : Prop where
  e : EN w w0 A K D B k r aL aJ aI cL cJ cI m
  b : Below w0.heap.size w0 W
theorem EB.en {w0 w W : World} {A K D B : Nat} {k : Ky} {r : Rk} {aL aJ aI : Option Addr} {cL cJ cI : Nat} {m : Mb} (h : EB w0 w W A K D B k r aL aJ aI cL cJ cI m) : EN w W A K D B k r aL aJ aI cL cJ cI m := h.e.later h.b
theorem EB.later {w0 w W W' : World} {A K D B : Nat} {k : Ky} {r : Rk} {aL aJ aI : Option Addr} {cL cJ cI : Nat} {m : Mb} (h : EB w0 w W A K D B k r aL aJ aI cL cJ cI m) (hb : Below W.heap.size W W') : EB w0 w W' A K D B k r aL aJ aI cL cJ cI m := ⟨h.e, h.b.trans (hb.mono h.b.size)⟩
theorem EB.two {w0 w W : World} {A K D B : Nat} {k : Ky} {r : Rk} {aL aJ aI : Option Addr} {cL cJ cI : Nat} {m : Mb} (h : EB w0 w W A K D B k r aL aJ aI cL cJ cI m) {Z : Nat} (hZ : w0.heap.size ≤ Z) (x y : Int) : EB w0 w ((W.setCell ⟨Z, 0, none⟩ (.int .i64 x)).setCell ⟨Z, 1, none⟩ (.int .i64 y)) A K D B k r aL aJ aI cL cJ cI m :=
  ⟨h.e, Rt.set2_below h.b hZ _ _ _ _⟩
end Go.Proofs.YtpimbpfefhkojaaGreat.Mb
