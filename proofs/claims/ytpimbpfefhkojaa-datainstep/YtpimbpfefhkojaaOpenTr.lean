/- Opening a tree that came in as an argument. -/
import Derived.Test.YtpimbpfefhkojaaTrJ3
import Derived.ProofKit
import Derived.OpenShut
import Derived.Below
import Derived.Lib.SmallJoins
import Derived.Deep.SlicePairs
import Derived.Deep.Slices
import Derived.Deep.Strs
namespace Go.Proofs.Ytpimbpfefhkojaa
open Go.ChangeShapes Go.WideShapes Go.ChangeAt Go.RowKit Go.Joins Go.Deep
open Rt (Ky zK kcs kcs_at)
open Rs (En zE rcs rcs_at)
set_option linter.unusedVariables false
set_option linter.unusedSimpArgs false

theorem cellsI : Try.prog.cellsOf 3 = 1 := by kernel_rfl
theorem cellsKy : Try.prog.cellsOf 23 = 2 := by kernel_rfl
theorem cellsKs : Try.prog.cellsOf 39 = 42 := by kernel_rfl
theorem cellsEn : Try.prog.cellsOf 41 = 3 := by kernel_rfl
theorem cellsRo : Try.prog.cellsOf 43 = 192 := by kernel_rfl
theorem cellsTr : Try.prog.cellsOf 45 = 236 := by kernel_rfl
section
variable {H : Type} {enc : TypeId × Value → H} {W : World} {base : Nat} {spare : Nat → Bool} {held : Bool}
theorem one_int {fuel : Nat} {cs : List Value} {x : DataW H × List MemPlace} (hf : DataW.trod enc Try.prog W base spare held fuel 3 cs = some x) : ∃ a : Int, cs = [.int .i64 a] ∧ (Lit.int .i64 a).wf = true := by
  obtain ⟨a, q, _, wa⟩ := DataW.trod_int Try.underlying3 hf
  exact ⟨a, q, wa⟩
theorem take_cell {cs : List Value} {k : Nat} {v : Value} (h : (cs.drop k).take 1 = [v]) : cs[k]? = some v := by
  have := congrArg (·[0]?) h
  simpa using this
theorem ky_raw {fuel : Nat} {cs : List Value} {x : DataW H × List MemPlace} (hf : DataW.trod enc Try.prog W base spare held fuel 23 cs = some x) :
    ∃ e : Ky, cs[0]? = some (.int .i64 e.bas) ∧ cs[1]? = some (.int .i64 e.stp) := by
  obtain ⟨y0, y1, n, _, _, g0, g1⟩ := trod_struct2 Try.underlying23 hf
  obtain ⟨a, q0, wa⟩ := one_int g0
  obtain ⟨b, q1, wb⟩ := one_int g1
  rw [cellsI] at q0 q1
  refine ⟨⟨a, b⟩, ?_, ?_⟩
  · have := take_cell q0; simpa using this
  · have := take_cell q1; simpa using this
set_option maxRecDepth 100000 in
theorem ks_raw {fuel : Nat} {cs : List Value} {x : DataW H × List MemPlace} (hf : DataW.trod enc Try.prog W base spare held fuel 39 cs = some x) :
    ∃ f : Nat → Ky, cs = (kcs f).toList := by
  obtain ⟨xs, m, _, _, hlen, hl, hx⟩ := DataW.trod_array Try.underlying39 hf
  rw [cellsKs] at hlen
  have each : ∀ i, i < 21 → ∃ e : Ky, cs[i * 2]? = some (.int .i64 e.bas) ∧ cs[i * 2 + 1]? = some (.int .i64 e.stp) := fun i hi => by
    have g := hx i hi
    rw [List.getElem?_eq_getElem (by omega), cellsKy] at g
    obtain ⟨e, c0, c1⟩ := ky_raw g
    refine ⟨e, ?_, ?_⟩
    · simpa using c0
    · simpa using c1
  haveI : Inhabited Ky := ⟨zK⟩
  obtain ⟨f, hfs⟩ := choose_lt each
  refine ⟨f, ?_⟩
  apply List.ext_getElem?
  intro j
  rcases Nat.lt_or_ge j 42 with hj | hj
  · rw [show (kcs f).toList[j]? = (kcs f)[j]? by simp, kcs_at f j hj]
    obtain ⟨c0, c1⟩ := hfs (j / 2) (by omega)
    have hr : j % 2 = 0 ∨ j % 2 = 1 := by omega
    rcases hr with hr | hr
    · rw [hr]; have e : j = j / 2 * 2 := by omega
      rw [← e] at c0; exact c0
    · rw [hr]; have e : j = j / 2 * 2 + 1 := by omega
      rw [← e] at c1; exact c1
  · rw [List.getElem?_eq_none (by omega), List.getElem?_eq_none (by simp; omega)]
set_option maxRecDepth 100000 in
theorem ro_raw {fuel : Nat} {cs : List Value} {x : DataW H × List MemPlace} (hf : DataW.trod enc Try.prog W base spare held fuel 43 cs = some x) :
    ∃ f : Nat → En, cs = (rcs f).toList := by
  obtain ⟨xs, m, _, _, hlen, hl, hx⟩ := DataW.trod_array Try.underlying43 hf
  rw [cellsRo] at hlen
  have each : ∀ i, i < 64 → ∃ e : En, cs[i * 3]? = some (.int .i64 e.who) ∧ cs[i * 3 + 1]? = some (.int .i64 e.bas) ∧ cs[i * 3 + 2]? = some (.int .i64 e.snc) := fun i hi => by
    have g := hx i hi
    rw [List.getElem?_eq_getElem (by omega), cellsEn] at g
    obtain ⟨y0, y1, y2, n, _, _, g0, g1, g2⟩ := trod_struct3 Try.underlying41 g
    obtain ⟨a, q0, wa⟩ := one_int g0
    obtain ⟨b, q1, wb⟩ := one_int g1
    obtain ⟨c, q2, wc⟩ := one_int g2
    rw [cellsI] at q0 q1 q2
    refine ⟨⟨a, b, c⟩, ?_, ?_, ?_⟩
    · have := take_cell q0; simpa using this
    · have := take_cell q1; simpa using this
    · have := take_cell q2; simpa using this
  haveI : Inhabited En := ⟨zE⟩
  obtain ⟨f, hfs⟩ := choose_lt each
  refine ⟨f, ?_⟩
  apply List.ext_getElem?
  intro j
  rcases Nat.lt_or_ge j 192 with hj | hj
  · rw [show (rcs f).toList[j]? = (rcs f)[j]? by simp, rcs_at f j hj]
    obtain ⟨c0, c1, c2⟩ := hfs (j / 3) (by omega)
    have hr : j % 3 = 0 ∨ j % 3 = 1 ∨ j % 3 = 2 := by omega
    rcases hr with hr | hr | hr
    · rw [hr]; have e : j = j / 3 * 3 := by omega
      rw [← e] at c0; exact c0
    · rw [hr]; have e : j = j / 3 * 3 + 1 := by omega
      rw [← e] at c1; exact c1
    · rw [hr]; have e : j = j / 3 * 3 + 2 := by omega
      rw [← e] at c2; exact c2
  · rw [List.getElem?_eq_none (by omega), List.getElem?_eq_none (by simp; omega)]
set_option maxRecDepth 100000 in
set_option maxHeartbeats 1000000 in
theorem open_tr {r : Reach} {b0 : Nat} {v : Value} {d : DataW H} {ps : List MemPlace} (hv : Value.okWide Try.prog W r b0 45 v) (h : DataW.Trod enc Try.prog W base spare held 45 v d ps) :
    ∃ t : Tr, v = .agg (tcs t) := by
  unfold Value.okWide at hv
  rw [Try.underlying45 ] at hv
  obtain ⟨cs, rfl, _⟩ := hv
  obtain ⟨fuel, hf⟩ := h
  obtain ⟨xs, m, _, hx, hlen, hl, hfs⟩ := DataW.trod_struct Try.underlying45 hf
  have hlen' : cs.toList.length = 236 := by rw [cellsTr] at hlen; simpa [Value.cells] using hlen
  match xs, hl with
  | [y0, y1, y2, y3], _ =>
    have g0 : DataW.trod enc Try.prog W base spare held m 3 ((cs.toList.drop 0).take 1) = some y0 := by have g := hfs 0 _ rfl; simpa [Value.cells, cellsI] using g
    have g1 : DataW.trod enc Try.prog W base spare held m 3 ((cs.toList.drop 1).take 1) = some y1 := by have g := hfs 1 _ rfl; simpa [Value.cells, cellsI] using g
    have g2 : DataW.trod enc Try.prog W base spare held m 39 ((cs.toList.drop 2).take 42) = some y2 := by have g := hfs 2 _ rfl; simpa [Value.cells, cellsKs] using g
    have g3 : DataW.trod enc Try.prog W base spare held m 43 ((cs.toList.drop 44).take 192) = some y3 := by have g := hfs 3 _ rfl; simpa [Value.cells, cellsRo] using g
    obtain ⟨ep, e0, _⟩ := one_int g0
    obtain ⟨fr, e1, _⟩ := one_int g1
    obtain ⟨k, e2⟩ := ks_raw g2
    obtain ⟨f, e3⟩ := ro_raw g3
    refine ⟨⟨ep, fr, k, f⟩, congrArg Value.agg ?_⟩
    apply Array.ext'
    unfold tcs
    rw [Array.toList_append, Array.toList_append, ← e2, ← e3]
    have s1 : cs.toList = (cs.toList.drop 0).take 1 ++ ((cs.toList.drop 1).take 1 ++ ((cs.toList.drop 2).take 42 ++ (cs.toList.drop 44).take 192)) := by
      have t1 : cs.toList = (cs.toList.drop 0).take 1 ++ cs.toList.drop 1 := by
        have := (List.take_append_drop 1 cs.toList).symm
        simpa using this
      have t2 : cs.toList.drop 1 = (cs.toList.drop 1).take 1 ++ cs.toList.drop 2 := by
        have := (List.take_append_drop 1 (cs.toList.drop 1)).symm
        rwa [List.drop_drop] at this
      have t3 : cs.toList.drop 2 = (cs.toList.drop 2).take 42 ++ cs.toList.drop 44 := by
        have := (List.take_append_drop 42 (cs.toList.drop 2)).symm
        rwa [List.drop_drop] at this
      have t4 : cs.toList.drop 44 = (cs.toList.drop 44).take 192 := by
        rw [List.take_of_length_le]
        rw [List.length_drop]
        omega
      rw [← t4, ← t3, ← t2, ← t1]
    refine s1.trans ?_
    rw [e0, e1]
    rfl
end
end Go.Proofs.Ytpimbpfefhkojaa
