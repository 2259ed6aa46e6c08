/- Opening a list of calls on a net. -/
import Derived.Test.YtcdibafcolhlgaaNeE
import Derived.ProofKit
import Derived.OpenShut
import Derived.Below
import Derived.Lib.SmallJoins
import Derived.Deep.Slices
import Derived.Deep.Strs
import Derived.ChangeSlices
import Derived.SizedLaws
namespace Go.Proofs.Ytcdibafcolhlgaa.Ne
open Go.ChangeShapes Go.WideShapes Go.ChangeAt Go.RowKit Go.Joins Go.Deep
set_option linter.unusedVariables false
set_option linter.unusedSimpArgs false


theorem bytesO : Try.prog.bytesOf 32 = 32 := by kernel_rfl
theorem cellsO : Try.prog.cellsOf 32 = 3 := by kernel_rfl
theorem oneO : Try.prog.cellsOf 3 = 1 := by kernel_rfl
theorem oneSt : Try.prog.cellsOf 9 = 1 := by kernel_rfl
section
variable {H : Type} {enc : TypeId × Value → H} {W : World} {base : Nat} {spare : Nat → Bool} {held : Bool}
theorem ops_of {v : Value} {d : DataW H} {ps : List MemPlace} (hs : ∀ es sp, d = .slice es sp → (es.length + sp.length) * 32 ≤ reachBytes)
    (hv : ∃ a len cap, v = .slice a len cap) (h : DataW.Trod enc Try.prog W base spare held 22 v d ps) :
    ∃ (a : Option Addr) (cap : Nat) (l : List (Pt)), v = .slice a l.length cap ∧ RdP W a l ∧ l.length * 32 ≤ 140737488351232 ∧ (a = none → cap = 0) ∧ ∀ p ∈ l, (Lit.int .i64 p.1).wf = true ∧ (Lit.int .i64 p.2.1).wf = true ∧ p.2.2.size ≤ 9223372036854775807 := by
  obtain ⟨a0, len0, cap0, rfl⟩ := hv
  obtain ⟨fuel, hf⟩ := h
  rcases open_slice Try.underlying22 hf with ⟨hcs, _⟩ | ⟨a, len, cap, m, n, D, Pl, hcs, _, hl, _, hm, hx, hc⟩
  · simp [Value.cells] at hcs
    obtain ⟨rfl, rfl, rfl⟩ := hcs
    exact ⟨none, 0, [], rfl, (fun i hi => by cases hi), by simp, fun _ => rfl, fun _ h => by cases h⟩
  · simp [Value.cells] at hcs
    obtain ⟨rfl, rfl, rfl⟩ := hcs
    simp only [Prod.mk.injEq] at hx
    have hlm : len0 ≤ m := by rw [hm]; split <;> omega
    have each : ∀ i, i < len0 → ∃ p : Pt, W.cell? (a.add (i * 3)) = some (.int .i64 p.1) ∧ W.cell? (a.add (i * 3 + 1)) = some (.int .i64 p.2.1) ∧ W.cell? (a.add (i * 3 + 2)) = some (.string p.2.2) ∧ (Lit.int .i64 p.1).wf = true ∧ (Lit.int .i64 p.2.1).wf = true ∧ p.2.2.size ≤ maxLen := fun i hi => by
      obtain ⟨cs', h1, h2⟩ := hc i (by omega)
      rw [cellsO] at h1
      obtain ⟨_, hlen, hcell⟩ := World.cells?_some h1
      obtain ⟨xs, k, hk, hxy, _, hxl, hf⟩ := DataW.trod_struct Try.underlying32 h2
      match xs, hxl, cs', hlen with
      | [y0, y1, y2], _, [v0, v1, v2], _ =>
        have g0 := hf 0 _ rfl
        have g1 := hf 1 _ rfl
        have g2 := hf 2 _ rfl
        simp [oneO, oneSt] at g0 g1 g2
        have e0 := hcell 0 (by omega)
        have e1 := hcell 1 (by omega)
        have e2 := hcell 2 (by omega)
        rw [add_add] at e0 e1 e2
        obtain ⟨x, q0, _, wx⟩ := DataW.trod_int Try.underlying3 g0
        obtain ⟨y, q1, _, wy⟩ := DataW.trod_int Try.underlying3 g1
        obtain ⟨z, q2, _, wz⟩ := DataW.trod_string Try.underlying9 g2
        simp at q0 q1 q2
        subst q0 q1 q2
        exact ⟨(x, y, z), by simpa using e0, by simpa using e1, by simpa using e2, wx, wy, wz⟩
    obtain ⟨q, hq⟩ := choose_lt each
    refine ⟨some a, cap0, (List.range len0).map q, by simp, fun i hi => ?_, ?_, (fun h => by cases h), ?_⟩
    · have hi' : i < len0 := by simpa using hi
      obtain ⟨c0, c1, c2, _⟩ := hq i hi'
      obtain ⟨b, o, sp⟩ := a
      have hsp : sp = none := by simpa [Addr.add] using World.cell?_spot (hq 0 (by omega)).1
      subst hsp
      have e : ((List.range len0).map q).getD i zP = q i := by simp [hi']
      rw [e]
      rw [add_plain] at c0 c1 c2
      exact ⟨b, o, rfl, c0, c1, c2⟩
    · have h1 := hs _ _ hx.1
      simp only [List.length_map, List.length_range, reachBytes] at h1 ⊢
      omega
    · intro p hp
      simp only [List.mem_map, List.mem_range] at hp
      obtain ⟨i, hi, rfl⟩ := hp
      exact ⟨(hq i hi).2.2.2.1, (hq i hi).2.2.2.2.1, (hq i hi).2.2.2.2.2⟩
end
end Go.Proofs.Ytcdibafcolhlgaa.Ne
