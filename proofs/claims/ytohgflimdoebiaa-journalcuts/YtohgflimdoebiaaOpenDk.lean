/- Opening lists of texts, of writes, of calls, and a write, that came in as arguments. -/
import Derived.Test.YtohgflimdoebiaaDkJ
import Derived.ProofKit
import Derived.OpenShut
import Derived.Below
import Derived.Lib.SmallJoins
import Derived.Deep.SlicePairs
import Derived.Deep.Slices
import Derived.SizedLaws
namespace Go.Proofs.Ytohgflimdoebiaa.Dk
open Go.ChangeShapes Go.WideShapes Go.ChangeAt Go.RowKit Go.Joins Go.Deep
set_option linter.unusedVariables false
set_option maxRecDepth 4000
set_option linter.unusedSimpArgs false

theorem bytesS : Try.prog.bytesOf 9 = 16 := by kernel_rfl
theorem bytesW : Try.prog.bytesOf 84 = 24 := by kernel_rfl
/- A call of a script. -/
def RdO (w : World) (a : Option Addr) (l : List (Int × Int × ByteArray)) : Prop :=
  ∀ i, i < l.length → ∃ b o, a = some ⟨b, o, none⟩ ∧ w.cell? ⟨b, o + i * 3, none⟩ = some (.int .i64 (l.getD i (0, 0, ⟨#[]⟩)).1) ∧ w.cell? ⟨b, o + i * 3 + 1, none⟩ = some (.int .i64 (l.getD i (0, 0, ⟨#[]⟩)).2.1) ∧ w.cell? ⟨b, o + i * 3 + 2, none⟩ = some (.string (l.getD i (0, 0, ⟨#[]⟩)).2.2)
section
variable {H : Type} {enc : TypeId × Value → H} {W : World} {base : Nat} {spare : Nat → Bool} {held : Bool}
theorem strs_of {v : Value} {d : DataW H} {ps : List MemPlace} (hs : ∀ es sp, d = .slice es sp → (es.length + sp.length) * 16 ≤ reachBytes)
    (hv : ∃ a len cap, v = .slice a len cap) (h : DataW.Trod enc Try.prog W base spare held 22 v d ps) :
    ∃ (a : Option Addr) (cap : Nat) (l : List ByteArray), v = .slice a l.length cap ∧ RdS W a l ∧ l.length * 16 ≤ 140737488351232 ∧ (a = none → cap = 0) ∧ ∀ t ∈ l, t.size ≤ 9223372036854775807 := by
  obtain ⟨a0, len0, cap0, rfl⟩ := hv
  obtain ⟨fuel, hf⟩ := h
  rcases open_slice1 Try.underlying22 (by kernel_rfl) hf with ⟨hcs, _⟩ | ⟨a, len, cap, m, n, V, D, Pl, hcs, _, hl, _, hm, hx, hc⟩
  · simp [Value.cells] at hcs
    obtain ⟨rfl, rfl, rfl⟩ := hcs
    exact ⟨none, 0, [], rfl, RdS.nil _ _, by simp, fun _ => rfl, fun _ h => by cases h⟩
  · simp [Value.cells] at hcs
    obtain ⟨rfl, rfl, rfl⟩ := hcs
    simp only [Prod.mk.injEq] at hx
    have hlm : len0 ≤ m := by rw [hm]; split <;> omega
    have each : ∀ i, i < len0 → ∃ p : ByteArray, W.cell? (a.add i) = some (.string p) ∧ p.size ≤ maxLen := fun i hi => by
      obtain ⟨c0, t0⟩ := hc i (by omega)
      obtain ⟨s, q0, _, hz⟩ := DataW.trod_string Try.underlying9 t0
      simp at q0
      exact ⟨s, by rw [c0, q0], hz⟩
    obtain ⟨q, hq⟩ := choose_lt each
    refine ⟨some a, cap0, (List.range len0).map q, by simp, fun i hi => ?_, ?_, (fun h => by cases h), ?_⟩
    · have hi' : i < len0 := by simpa using hi
      obtain ⟨c0, _⟩ := hq i hi'
      obtain ⟨b, o, sp⟩ := a
      have hsp : sp = none := by simpa [Addr.add] using World.cell?_spot (hq 0 (by omega)).1
      subst hsp
      have e : ((List.range len0).map q).getD i ⟨#[]⟩ = q i := by simp [hi']
      rw [e]
      rw [add_plain] at c0
      exact ⟨b, o, rfl, c0⟩
    · have h1 := hs _ _ hx.1
      simp only [List.length_map, List.length_range, reachBytes] at h1 ⊢
      omega
    · intro t ht
      simp at ht
      obtain ⟨i, hi, rfl⟩ := ht
      exact (hq i hi).2
theorem writes_of {v : Value} {d : DataW H} {ps : List MemPlace} (hs : ∀ es sp, d = .slice es sp → (es.length + sp.length) * 24 ≤ reachBytes)
    (hv : ∃ a len cap, v = .slice a len cap) (h : DataW.Trod enc Try.prog W base spare held 50 v d ps) :
    ∃ (a : Option Addr) (cap : Nat) (l : List (Int × ByteArray)), v = .slice a l.length cap ∧ RdW W a l ∧ l.length * 24 ≤ 140737488351232 ∧ (a = none → cap = 0) ∧ ∀ p ∈ l, (Lit.int .i64 p.1).wf = true ∧ p.2.size ≤ 9223372036854775807 := by
  obtain ⟨a0, len0, cap0, rfl⟩ := hv
  obtain ⟨fuel, hf⟩ := h
  rcases open_slice_pairs Try.underlying50 Try.underlying84 (by kernel_rfl) rfl rfl (by kernel_rfl) (by kernel_rfl) hf with ⟨hcs, _⟩ | ⟨a, len, cap, m, n, V0, V1, D0, D1, P0, P1, hcs, _, hl, _, hm, hx, hc⟩
  · simp [Value.cells] at hcs
    obtain ⟨rfl, rfl, rfl⟩ := hcs
    exact ⟨none, 0, [], rfl, RdW.nil _ _, by simp, fun _ => rfl, fun _ h => by cases h⟩
  · simp [Value.cells] at hcs
    obtain ⟨rfl, rfl, rfl⟩ := hcs
    simp only [Prod.mk.injEq] at hx
    have hlm : len0 ≤ m := by rw [hm]; split <;> omega
    have each : ∀ i, i < len0 → ∃ p : Int × ByteArray, W.cell? (a.add (i * 2)) = some (.int .i64 p.1) ∧ W.cell? (a.add (i * 2 + 1)) = some (.string p.2) ∧ (Lit.int .i64 p.1).wf = true ∧ p.2.size ≤ maxLen := fun i hi => by
      obtain ⟨c0, c1, t0, t1⟩ := hc i (by omega)
      obtain ⟨x, q0, _, wx⟩ := DataW.trod_int Try.underlying3 t0
      obtain ⟨y, q1, _, wy⟩ := DataW.trod_string Try.underlying9 t1
      simp at q0 q1
      exact ⟨(x, y), by rw [c0, q0], by rw [c1, q1], wx, wy⟩
    obtain ⟨q, hq⟩ := choose_lt each
    refine ⟨some a, cap0, (List.range len0).map q, by simp, fun i hi => ?_, ?_, (fun h => by cases h), ?_⟩
    · have hi' : i < len0 := by simpa using hi
      obtain ⟨c0, c1, _⟩ := hq i hi'
      obtain ⟨b, o, sp⟩ := a
      have hsp : sp = none := by simpa [Addr.add] using World.cell?_spot (hq 0 (by omega)).1
      subst hsp
      have e : ((List.range len0).map q).getD i (0, ⟨#[]⟩) = q i := by simp [hi']
      rw [e]
      rw [add_plain] at c0 c1
      exact ⟨b, o, rfl, c0, c1⟩
    · have h1 := hs _ _ hx.1
      simp only [List.length_map, List.length_range, reachBytes] at h1 ⊢
      omega
    · intro p hp
      simp only [List.mem_map, List.mem_range] at hp
      obtain ⟨i, hi, rfl⟩ := hp
      exact ⟨(hq i hi).2.2.1, (hq i hi).2.2.2⟩
theorem open_write {r : Reach} {b0 : Nat} {v : Value} {d : DataW H} {ps : List MemPlace} (hv : Value.okWide Try.prog W r b0 84 v) (h : DataW.Trod enc Try.prog W base spare held 84 v d ps) :
    ∃ a b, v = .agg #[.int .i64 a, .string b] ∧ (Lit.int .i64 a).wf = true ∧ b.size ≤ 9223372036854775807 := by
  obtain ⟨c0, c1, y0, y1, m, rfl, _, _, h0, h1⟩ := open_agg2 Try.underlying84 (by kernel_rfl) (by kernel_rfl) hv h
  obtain ⟨a, q0, _, wa⟩ := DataW.trod_int Try.underlying3 h0
  obtain ⟨b, q1, _, wb⟩ := DataW.trod_string Try.underlying9 h1
  simp at q0 q1
  subst q0 q1
  exact ⟨a, b, rfl, wa, wb⟩
end
end Go.Proofs.Ytohgflimdoebiaa.Dk
