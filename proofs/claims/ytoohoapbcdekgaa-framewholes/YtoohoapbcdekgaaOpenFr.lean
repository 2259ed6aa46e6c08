/- Opening a piece, and a list of pieces, that came in as arguments. -/
import Derived.Test.YtoohoapbcdekgaaFrK
import Derived.ProofKit
import Derived.OpenShut
import Derived.Below
import Derived.Lib.SmallJoins
import Derived.Deep.SlicePairs
import Derived.Deep.Slices
import Derived.SizedLaws
namespace Go.Proofs.Ytoohoapbcdekgaa
open Go.ChangeShapes Go.WideShapes Go.ChangeAt Go.RowKit Go.Joins Go.Deep
set_option linter.unusedVariables false
set_option linter.unusedSimpArgs false

theorem bytesP : Try.prog.bytesOf 23 = 40 := by kernel_rfl
theorem cellsPc : Try.prog.cellsOf 23 = 4 := by kernel_rfl
theorem oneI : Try.prog.cellsOf 3 = 1 := by kernel_rfl
theorem oneSt : Try.prog.cellsOf 9 = 1 := by kernel_rfl
section
variable {H : Type} {enc : TypeId × Value → H} {W : World} {base : Nat} {spare : Nat → Bool} {held : Bool}
theorem open_piece {r : Reach} {b0 : Nat} {v : Value} {d : DataW H} {ps : List MemPlace} (hv : Value.okWide Try.prog W r b0 23 v) (h : DataW.Trod enc Try.prog W base spare held 23 v d ps) :
    ∃ a b c s, v = .agg #[.int .i64 a, .int .i64 b, .int .i64 c, .string s] ∧ (Lit.int .i64 a).wf = true ∧ (Lit.int .i64 b).wf = true ∧ (Lit.int .i64 c).wf = true ∧ s.size ≤ 9223372036854775807 := by
  obtain ⟨c0, c1, c2, c3, y0, y1, y2, y3, m, rfl, _, _, h0, h1, h2, h3⟩ := open_agg4 Try.underlying23 (by kernel_rfl) (by kernel_rfl) hv h
  obtain ⟨a, q0, _, wa⟩ := DataW.trod_int Try.underlying3 h0
  obtain ⟨b, q1, _, wb⟩ := DataW.trod_int Try.underlying3 h1
  obtain ⟨c, q2, _, wc⟩ := DataW.trod_int Try.underlying3 h2
  obtain ⟨s, q3, _, ws⟩ := DataW.trod_string Try.underlying9 h3
  simp at q0 q1 q2 q3
  subst q0 q1 q2 q3
  exact ⟨a, b, c, s, rfl, wa, wb, wc, ws⟩
set_option maxRecDepth 100000 in
theorem pieces_of {v : Value} {d : DataW H} {ps : List MemPlace} (hs : ∀ es sp, d = .slice es sp → (es.length + sp.length) * 40 ≤ reachBytes)
    (hv : ∃ a len cap, v = .slice a len cap) (h : DataW.Trod enc Try.prog W base spare held 37 v d ps) :
    ∃ (a : Option Addr) (cap : Nat) (l : List Pc), v = .slice a l.length cap ∧ RdP W a l ∧ l.length * 40 ≤ 140737488351232 ∧ (a = none → cap = 0) ∧ ∀ p ∈ l, (Lit.int .i64 p.q).wf = true ∧ (Lit.int .i64 p.p).wf = true ∧ (Lit.int .i64 p.n).wf = true ∧ p.d.size ≤ 9223372036854775807 := by
  obtain ⟨a0, len0, cap0, rfl⟩ := hv
  obtain ⟨fuel, hf⟩ := h
  rcases open_slice Try.underlying37 hf with ⟨hcs, _⟩ | ⟨a, len, cap, m, n, D, Pl, hcs, _, hl, _, hm, hx, hc⟩
  · simp [Value.cells] at hcs
    obtain ⟨rfl, rfl, rfl⟩ := hcs
    exact ⟨none, 0, [], rfl, (fun i hi => by cases hi), by simp, fun _ => rfl, fun _ h => by cases h⟩
  · simp [Value.cells] at hcs
    obtain ⟨rfl, rfl, rfl⟩ := hcs
    simp only [Prod.mk.injEq] at hx
    have hlm : len0 ≤ m := by rw [hm]; split <;> omega
    have each : ∀ i, i < len0 → ∃ p : Pc, W.cell? (a.add (i * 4)) = some (.int .i64 p.q) ∧ W.cell? (a.add (i * 4 + 1)) = some (.int .i64 p.p) ∧ W.cell? (a.add (i * 4 + 2)) = some (.int .i64 p.n) ∧ W.cell? (a.add (i * 4 + 3)) = some (.string p.d) ∧ (Lit.int .i64 p.q).wf = true ∧ (Lit.int .i64 p.p).wf = true ∧ (Lit.int .i64 p.n).wf = true ∧ p.d.size ≤ maxLen := fun i hi => by
      obtain ⟨cs', h1, h2⟩ := hc i (by omega)
      rw [cellsPc] at h1
      obtain ⟨_, hlen, hcell⟩ := World.cells?_some h1
      obtain ⟨xs, k, hk, hxy, _, hxl, hf⟩ := DataW.trod_struct Try.underlying23 h2
      match xs, hxl, cs', hlen with
      | [y0, y1, y2, y3], _, [v0, v1, v2, v3], _ =>
        have g0 := hf 0 _ rfl
        have g1 := hf 1 _ rfl
        have g2 := hf 2 _ rfl
        have g3 := hf 3 _ rfl
        simp [oneI, oneSt] at g0 g1 g2 g3
        have e0 := hcell 0 (by omega)
        have e1 := hcell 1 (by omega)
        have e2 := hcell 2 (by omega)
        have e3 := hcell 3 (by omega)
        rw [add_add] at e0 e1 e2 e3
        obtain ⟨x, q0, _, wx⟩ := DataW.trod_int Try.underlying3 g0
        obtain ⟨y, q1, _, wy⟩ := DataW.trod_int Try.underlying3 g1
        obtain ⟨u, q2, _, wu⟩ := DataW.trod_int Try.underlying3 g2
        obtain ⟨z, q3, _, wz⟩ := DataW.trod_string Try.underlying9 g3
        simp at q0 q1 q2 q3
        subst q0 q1 q2 q3
        exact ⟨⟨x, y, u, z⟩, by simpa using e0, by simpa using e1, by simpa using e2, by simpa using e3, wx, wy, wu, wz⟩
    haveI : Inhabited Pc := ⟨pc0⟩
    obtain ⟨q, hq⟩ := choose_lt each
    refine ⟨some a, cap0, (List.range len0).map q, by simp, fun i hi => ?_, ?_, (fun h => by cases h), ?_⟩
    · have hi' : i < len0 := by simpa using hi
      obtain ⟨c0, c1, c2, c3, _⟩ := hq i hi'
      obtain ⟨b, o, sp⟩ := a
      have hsp : sp = none := by simpa [Addr.add] using World.cell?_spot (hq 0 (by omega)).1
      subst hsp
      have e : ((List.range len0).map q).getD i pc0 = q i := by simp [hi']
      rw [e]
      rw [add_plain] at c0 c1 c2 c3
      exact ⟨b, o, rfl, c0, c1, c2, c3⟩
    · have h1 := hs _ _ hx.1
      simp only [List.length_map, List.length_range, reachBytes] at h1 ⊢
      omega
    · intro p hp
      simp only [List.mem_map, List.mem_range] at hp
      obtain ⟨i, hi, rfl⟩ := hp
      exact ⟨(hq i hi).2.2.2.2.1, (hq i hi).2.2.2.2.2.1, (hq i hi).2.2.2.2.2.2.1, (hq i hi).2.2.2.2.2.2.2⟩
end
end Go.Proofs.Ytoohoapbcdekgaa
