/- Opening keys and paths that came in as arguments. -/
import Derived.Test.YtgfegolignhefaaRtP
import Derived.ProofKit
import Derived.OpenShut
import Derived.Below
import Derived.Lib.SmallJoins
import Derived.Deep.SlicePairs
import Derived.Deep.Slices
import Derived.Deep.Strs
namespace Go.Proofs.Ytgfegolignhefaa
open Go.ChangeShapes Go.WideShapes Go.ChangeAt Go.RowKit Go.Joins Go.Deep
set_option linter.unusedVariables false
set_option linter.unusedSimpArgs false

theorem cellsI : Try.prog.cellsOf 3 = 1 := by kernel_rfl
theorem cellsKy : Try.prog.cellsOf 23 = 2 := by kernel_rfl
theorem cellsKs : Try.prog.cellsOf 25 = 42 := by kernel_rfl
theorem cellsPa : Try.prog.cellsOf 40 = 6 := by kernel_rfl
theorem u32_nat {z : Int} (h : (Lit.int .u32 z).wf = true) : ∃ r : Nat, z = (r : Int) ∧ r < 4294967296 := by
  have h2 := bounds_u32 h
  exact ⟨z.toNat, by omega, by omega⟩
theorem rd_guard {w : World} {ops : Array Oper} {rest : List Oper} {o : Oper} {a : Act} {Q : Exit → Act → World → Prop} {v : Value} (hw : Region.wanted o (yielded ops a.tmps) = true) (hrun : (execOp a.eval o).run Try.prog w = .ok (.value v) w)
    (k : wpList Try.prog ops Q rest (a.put o.dst v) w) : wpList Try.prog ops Q (o :: rest) a w := by
  refine wpList_step fun K hK => ?_
  rw [if_pos hw]
  unfold Oper.wp
  rw [hrun, Oper.upon_value]
  exact hK _ _ k
def KyWf (k : Ky) : Prop := (Lit.int .i64 k.bas).wf = true ∧ (Lit.int .i64 k.stp).wf = true
section
variable {H : Type} {enc : TypeId × Value → H} {W : World} {base : Nat} {spare : Nat → Bool} {held : Bool}
theorem one_int {fuel : Nat} {cs : List Value} {x : DataW H × List MemPlace} (hf : DataW.trod enc Try.prog W base spare held fuel 3 cs = some x) : ∃ a : Int, cs = [.int .i64 a] ∧ (Lit.int .i64 a).wf = true := by
  obtain ⟨a, q, _, wa⟩ := DataW.trod_int Try.underlying3 hf
  exact ⟨a, q, wa⟩
theorem take_cell {cs : List Value} {k : Nat} {v : Value} (h : (cs.drop k).take 1 = [v]) : cs[k]? = some v := by
  have := congrArg (·[0]?) h
  simpa using this
theorem ky_raw {fuel : Nat} {cs : List Value} {x : DataW H × List MemPlace} (hf : DataW.trod enc Try.prog W base spare held fuel 23 cs = some x) :
    ∃ e : Ky, (cs[0]? = some (.int .i64 e.bas) ∧ cs[1]? = some (.int .i64 e.stp)) ∧ KyWf e := by
  obtain ⟨y0, y1, n, _, _, g0, g1⟩ := trod_struct2 Try.underlying23 hf
  obtain ⟨a, q0, wa⟩ := one_int g0
  obtain ⟨b, q1, wb⟩ := one_int g1
  rw [cellsI] at q0 q1
  refine ⟨⟨a, b⟩, ⟨?_, ?_⟩, wa, wb⟩
  · have := take_cell q0; simpa using this
  · have := take_cell q1; simpa using this
set_option maxRecDepth 100000 in
theorem ks_raw {fuel : Nat} {cs : List Value} {x : DataW H × List MemPlace} (hf : DataW.trod enc Try.prog W base spare held fuel 25 cs = some x) :
    ∃ f : Nat → Ky, cs = (kcs f).toList ∧ ∀ i, i < 21 → KyWf (f i) := by
  obtain ⟨xs, m, _, _, hlen, hl, hx⟩ := DataW.trod_array Try.underlying25 hf
  rw [cellsKs] at hlen
  have each : ∀ i, i < 21 → ∃ e : Ky, (cs[i * 2]? = some (.int .i64 e.bas) ∧ cs[i * 2 + 1]? = some (.int .i64 e.stp)) ∧ KyWf e := fun i hi => by
    have g := hx i hi
    rw [List.getElem?_eq_getElem (by omega), cellsKy] at g
    obtain ⟨e, ⟨c0, c1⟩, we⟩ := ky_raw g
    refine ⟨e, ⟨?_, ?_⟩, we⟩
    · simpa using c0
    · simpa using c1
  haveI : Inhabited Ky := ⟨zK⟩
  obtain ⟨f, hfs⟩ := choose_lt each
  refine ⟨f, ?_, fun i hi => (hfs i hi).2⟩
  apply List.ext_getElem?
  intro j
  rcases Nat.lt_or_ge j 42 with hj | hj
  · rw [show (kcs f).toList[j]? = (kcs f)[j]? by simp, kcs_at f j hj]
    obtain ⟨⟨c0, c1⟩, _⟩ := hfs (j / 2) (by omega)
    have hr : j % 2 = 0 ∨ j % 2 = 1 := by omega
    rcases hr with hr | hr
    · rw [hr]; have e : j = j / 2 * 2 := by omega
      rw [← e] at c0; exact c0
    · rw [hr]; have e : j = j / 2 * 2 + 1 := by omega
      rw [← e] at c1; exact c1
  · rw [List.getElem?_eq_none (by omega), List.getElem?_eq_none (by simp; omega)]
theorem open_ks {r : Reach} {b0 : Nat} {v : Value} {d : DataW H} {ps : List MemPlace} (hv : Value.okWide Try.prog W r b0 25 v) (h : DataW.Trod enc Try.prog W base spare held 25 v d ps) :
    ∃ f : Nat → Ky, v = .agg (kcs f) ∧ ∀ i, i < 21 → KyWf (f i) := by
  unfold Value.okWide at hv
  rw [Try.underlying25 ] at hv
  obtain ⟨cs, rfl, _⟩ := hv
  obtain ⟨fuel, hf⟩ := h
  obtain ⟨f, h1, h2⟩ := ks_raw hf
  exact ⟨f, by rw [show cs = kcs f from Array.ext' h1], h2⟩
set_option maxRecDepth 100000 in
theorem pa_raw {fuel : Nat} {cs : List Value} {x : DataW H × List MemPlace} (hf : DataW.trod enc Try.prog W base spare held fuel 40 cs = some x) :
    ∃ f : Nat → Ky, cs = (pcs f).toList ∧ ∀ i, i < 3 → KyWf (f i) := by
  obtain ⟨xs, m, _, _, hlen, hl, hx⟩ := DataW.trod_array Try.underlying40 hf
  rw [cellsPa] at hlen
  have each : ∀ i, i < 3 → ∃ e : Ky, (cs[i * 2]? = some (.int .i64 e.bas) ∧ cs[i * 2 + 1]? = some (.int .i64 e.stp)) ∧ KyWf e := fun i hi => by
    have g := hx i hi
    rw [List.getElem?_eq_getElem (by omega), cellsKy] at g
    obtain ⟨e, ⟨c0, c1⟩, we⟩ := ky_raw g
    refine ⟨e, ⟨?_, ?_⟩, we⟩
    · simpa using c0
    · simpa using c1
  haveI : Inhabited Ky := ⟨zK⟩
  obtain ⟨f, hfs⟩ := choose_lt each
  refine ⟨f, ?_, fun i hi => (hfs i hi).2⟩
  apply List.ext_getElem?
  intro j
  rcases Nat.lt_or_ge j 6 with hj | hj
  · rw [show (pcs f).toList[j]? = (pcs f)[j]? by simp, pcs_at f j hj]
    obtain ⟨⟨c0, c1⟩, _⟩ := hfs (j / 2) (by omega)
    have hr : j % 2 = 0 ∨ j % 2 = 1 := by omega
    rcases hr with hr | hr
    · rw [hr]; have e : j = j / 2 * 2 := by omega
      rw [← e] at c0; exact c0
    · rw [hr]; have e : j = j / 2 * 2 + 1 := by omega
      rw [← e] at c1; exact c1
  · rw [List.getElem?_eq_none (by omega), List.getElem?_eq_none (by simp; omega)]
theorem open_pa {r : Reach} {b0 : Nat} {v : Value} {d : DataW H} {ps : List MemPlace} (hv : Value.okWide Try.prog W r b0 40 v) (h : DataW.Trod enc Try.prog W base spare held 40 v d ps) :
    ∃ f : Nat → Ky, v = .agg (pcs f) ∧ ∀ i, i < 3 → KyWf (f i) := by
  unfold Value.okWide at hv
  rw [Try.underlying40 ] at hv
  obtain ⟨cs, rfl, _⟩ := hv
  obtain ⟨fuel, hf⟩ := h
  obtain ⟨f, h1, h2⟩ := pa_raw hf
  exact ⟨f, by rw [show cs = pcs f from Array.ext' h1], h2⟩
end
end Go.Proofs.Ytgfegolignhefaa
