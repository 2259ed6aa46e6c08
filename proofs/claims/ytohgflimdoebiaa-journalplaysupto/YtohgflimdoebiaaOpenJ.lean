/- OpenJn, OpenJp, joined. -/
import Derived.Test.YtohgflimdoebiaaRows
import Derived.Test.YtohgflimdoebiaaOpenDk
import Derived.JoinedCond
import Derived.ChangeSlices
import Derived.ChangeMaps5
/- Opening lists of steps, of calls, of texts that came in as arguments of a bulk below a bound. -/
namespace Go.Proofs.Ytohgflimdoebiaa.Dk
open Go.ChangeShapes Go.WideShapes Go.ChangeAt Go.RowKit Go.Joins Go.Deep
set_option linter.unusedVariables false
set_option maxRecDepth 4000
set_option linter.unusedSimpArgs false

theorem bulk_one {H : Type} (d : DataW H) : 1 ≤ Rows.uptoBulk d := by
  cases d with
  | lit l => cases l <;> simp [Rows.uptoBulk]
  | _ => simp [Rows.uptoBulk]
theorem bulk_len {H : Type} : ∀ l : List (DataW H), l.length ≤ Rows.uptoBulkAll l
  | [] => by simp
  | x :: l => by have h1 := bulk_one x; have h2 := bulk_len l; simp only [Rows.uptoBulkAll, List.length_cons]; omega
theorem bulk_slice {H : Type} {es sp : List (DataW H)} (hk : Rows.uptoBulk (.slice es sp) ≤ 1048576) : es.length + sp.length ≤ 1048576 := by
  simp only [Rows.uptoBulk] at hk
  have := bulk_len es
  have := bulk_len sp
  omega
theorem bulk_reach {H : Type} {d : DataW H} (hk : Rows.uptoBulk d ≤ 1048576) (n : Nat) (hn : n ≤ 64) : ∀ es sp, d = .slice es sp → (es.length + sp.length) * n ≤ reachBytes := fun es sp e => by
  subst e
  have h1 := bulk_slice hk
  have h2 : (es.length + sp.length) * n ≤ 1048576 * 64 := Nat.mul_le_mul h1 hn
  unfold reachBytes
  omega
theorem oneI : Try.prog.cellsOf 3 = 1 := by kernel_rfl
theorem oneS : Try.prog.cellsOf 9 = 1 := by kernel_rfl
theorem cellsT : Try.prog.cellsOf 66 = 3 := by kernel_rfl
/- A step of a history. -/
def RdT (w : World) (a : Option Addr) (l : List (ByteArray × Int × Int)) : Prop :=
  ∀ i, i < l.length → ∃ b o, a = some ⟨b, o, none⟩ ∧ w.cell? ⟨b, o + i * 3, none⟩ = some (.string (l.getD i (⟨#[]⟩, 0, 0)).1) ∧ w.cell? ⟨b, o + i * 3 + 1, none⟩ = some (.int .i64 (l.getD i (⟨#[]⟩, 0, 0)).2.1) ∧ w.cell? ⟨b, o + i * 3 + 2, none⟩ = some (.int .i64 (l.getD i (⟨#[]⟩, 0, 0)).2.2)
section
variable {H : Type} {enc : TypeId × Value → H} {W : World} {base : Nat} {spare : Nat → Bool} {held : Bool}
theorem steps_of {v : Value} {d : DataW H} {ps : List MemPlace} (hs : Rows.uptoBulk d ≤ 1048576)
    (hv : ∃ a len cap, v = .slice a len cap) (h : DataW.Trod enc Try.prog W base spare held 64 v d ps) :
    ∃ (a : Option Addr) (cap : Nat) (l : List (ByteArray × Int × Int)), v = .slice a l.length cap ∧ RdT W a l ∧ l.length ≤ 1048576 ∧ (a = none → cap = 0) ∧ ∀ p ∈ l, p.1.size ≤ 9223372036854775807 ∧ (Lit.int .i64 p.2.1).wf = true ∧ (Lit.int .i64 p.2.2).wf = true := by
  obtain ⟨a0, len0, cap0, rfl⟩ := hv
  obtain ⟨fuel, hf⟩ := h
  rcases open_slice Try.underlying64 hf with ⟨hcs, _⟩ | ⟨a, len, cap, m, n, D, Pl, hcs, _, hl, _, hm, hx, hc⟩
  · simp [Value.cells] at hcs
    obtain ⟨rfl, rfl, rfl⟩ := hcs
    exact ⟨none, 0, [], rfl, (fun i hi => by cases hi), by simp, fun _ => rfl, fun _ h => by cases h⟩
  · simp [Value.cells] at hcs
    obtain ⟨rfl, rfl, rfl⟩ := hcs
    simp only [Prod.mk.injEq] at hx
    have hlm : len0 ≤ m := by rw [hm]; split <;> omega
    have each : ∀ i, i < len0 → ∃ p : ByteArray × Int × Int, W.cell? (a.add (i * 3)) = some (.string p.1) ∧ W.cell? (a.add (i * 3 + 1)) = some (.int .i64 p.2.1) ∧ W.cell? (a.add (i * 3 + 2)) = some (.int .i64 p.2.2) ∧ p.1.size ≤ maxLen ∧ (Lit.int .i64 p.2.1).wf = true ∧ (Lit.int .i64 p.2.2).wf = true := fun i hi => by
      obtain ⟨cs', h1, h2⟩ := hc i (by omega)
      rw [cellsT] at h1
      obtain ⟨_, hlen, hcell⟩ := World.cells?_some h1
      obtain ⟨xs, k, hk, hxy, _, hxl, hf⟩ := DataW.trod_struct Try.underlying66 h2
      match xs, hxl, cs', hlen with
      | [y0, y1, y2], _, [v0, v1, v2], _ =>
        have g0 := hf 0 _ rfl
        have g1 := hf 1 _ rfl
        have g2 := hf 2 _ rfl
        simp [oneI, oneS] at g0 g1 g2
        have e0 := hcell 0 (by omega)
        have e1 := hcell 1 (by omega)
        have e2 := hcell 2 (by omega)
        rw [add_add] at e0 e1 e2
        obtain ⟨x, q0, _, wx⟩ := DataW.trod_string Try.underlying9 g0
        obtain ⟨y, q1, _, wy⟩ := DataW.trod_int Try.underlying3 g1
        obtain ⟨z, q2, _, wz⟩ := DataW.trod_int Try.underlying3 g2
        simp at q0 q1 q2
        subst q0 q1 q2
        exact ⟨(x, y, z), by simpa using e0, by simpa using e1, by simpa using e2, wx, wy, wz⟩
    obtain ⟨q, hq⟩ := choose_lt each
    refine ⟨some a, cap0, (List.range len0).map q, by simp, fun i hi => ?_, ?_, (fun h => by cases h), ?_⟩
    · have hi' : i < len0 := by simpa using hi
      obtain ⟨c0, c1, c2, _⟩ := hq i hi'
      obtain ⟨b, o, sp⟩ := a
      have hsp : sp = none := by simpa [Addr.add] using World.cell?_spot (hq 0 (by omega)).1
      subst hsp
      have e : ((List.range len0).map q).getD i (⟨#[]⟩, 0, 0) = q i := by simp [hi']
      rw [e]
      rw [add_plain] at c0 c1 c2
      exact ⟨b, o, rfl, c0, c1, c2⟩
    · rw [hx.1] at hs
      have := bulk_slice hs
      simp only [List.length_map, List.length_range] at this ⊢
      omega
    · intro p hp
      simp only [List.mem_map, List.mem_range] at hp
      obtain ⟨i, hi, rfl⟩ := hp
      exact ⟨(hq i hi).2.2.2.1, (hq i hi).2.2.2.2.1, (hq i hi).2.2.2.2.2⟩
end
end Go.Proofs.Ytohgflimdoebiaa.Dk
/- Opening a list of a journal's calls, a list of texts, of a bulk below a bound. -/
namespace Go.Proofs.Ytohgflimdoebiaa.Dk
open Go.ChangeShapes Go.WideShapes Go.ChangeAt Go.RowKit Go.Joins Go.Deep
set_option linter.unusedVariables false
set_option maxRecDepth 4000
set_option linter.unusedSimpArgs false

theorem cellsU : Try.prog.cellsOf 44 = 3 := by kernel_rfl
section
variable {H : Type} {enc : TypeId × Value → H} {W : World} {base : Nat} {spare : Nat → Bool} {held : Bool}
theorem opsU_of {v : Value} {d : DataW H} {ps : List MemPlace} (hs : Rows.uptoBulk d ≤ 1048576)
    (hv : ∃ a len cap, v = .slice a len cap) (h : DataW.Trod enc Try.prog W base spare held 28 v d ps) :
    ∃ (a : Option Addr) (cap : Nat) (l : List (Int × Int × ByteArray)), v = .slice a l.length cap ∧ RdO W a l ∧ l.length ≤ 1048576 ∧ (a = none → cap = 0) ∧ ∀ p ∈ l, (Lit.int .i64 p.1).wf = true ∧ (Lit.int .i64 p.2.1).wf = true ∧ p.2.2.size ≤ 9223372036854775807 := by
  obtain ⟨a0, len0, cap0, rfl⟩ := hv
  obtain ⟨fuel, hf⟩ := h
  rcases open_slice Try.underlying28 hf with ⟨hcs, _⟩ | ⟨a, len, cap, m, n, D, Pl, hcs, _, hl, _, hm, hx, hc⟩
  · simp [Value.cells] at hcs
    obtain ⟨rfl, rfl, rfl⟩ := hcs
    exact ⟨none, 0, [], rfl, (fun i hi => by cases hi), by simp, fun _ => rfl, fun _ h => by cases h⟩
  · simp [Value.cells] at hcs
    obtain ⟨rfl, rfl, rfl⟩ := hcs
    simp only [Prod.mk.injEq] at hx
    have hlm : len0 ≤ m := by rw [hm]; split <;> omega
    have each : ∀ i, i < len0 → ∃ p : Int × Int × ByteArray, W.cell? (a.add (i * 3)) = some (.int .i64 p.1) ∧ W.cell? (a.add (i * 3 + 1)) = some (.int .i64 p.2.1) ∧ W.cell? (a.add (i * 3 + 2)) = some (.string p.2.2) ∧ (Lit.int .i64 p.1).wf = true ∧ (Lit.int .i64 p.2.1).wf = true ∧ p.2.2.size ≤ maxLen := fun i hi => by
      obtain ⟨cs', h1, h2⟩ := hc i (by omega)
      rw [cellsU] at h1
      obtain ⟨_, hlen, hcell⟩ := World.cells?_some h1
      obtain ⟨xs, k, hk, hxy, _, hxl, hf⟩ := DataW.trod_struct Try.underlying44 h2
      match xs, hxl, cs', hlen with
      | [y0, y1, y2], _, [v0, v1, v2], _ =>
        have g0 := hf 0 _ rfl
        have g1 := hf 1 _ rfl
        have g2 := hf 2 _ rfl
        simp [oneI, oneS] at g0 g1 g2
        have e0 := hcell 0 (by omega)
        have e1 := hcell 1 (by omega)
        have e2 := hcell 2 (by omega)
        rw [add_add] at e0 e1 e2
        obtain ⟨x, q0, _, wx⟩ := DataW.trod_int Try.underlying3 g0
        obtain ⟨y, q1, _, wy⟩ := DataW.trod_int Try.underlying3 g1
        obtain ⟨z, q2, _, wz⟩ := DataW.trod_string Try.underlying9 g2
        simp at q0 q1 q2
        subst q0 q1 q2
        exact ⟨(x, y, z), by simpa using e0, by simpa using e1, by simpa using e2, wx, wy, wz⟩
    obtain ⟨q, hq⟩ := choose_lt each
    refine ⟨some a, cap0, (List.range len0).map q, by simp, fun i hi => ?_, ?_, (fun h => by cases h), ?_⟩
    · have hi' : i < len0 := by simpa using hi
      obtain ⟨c0, c1, c2, _⟩ := hq i hi'
      obtain ⟨b, o, sp⟩ := a
      have hsp : sp = none := by simpa [Addr.add] using World.cell?_spot (hq 0 (by omega)).1
      subst hsp
      have e : ((List.range len0).map q).getD i (0, 0, ⟨#[]⟩) = q i := by simp [hi']
      rw [e]
      rw [add_plain] at c0 c1 c2
      exact ⟨b, o, rfl, c0, c1, c2⟩
    · rw [hx.1] at hs
      have := bulk_slice hs
      simp only [List.length_map, List.length_range] at this ⊢
      omega
    · intro p hp
      simp only [List.mem_map, List.mem_range] at hp
      obtain ⟨i, hi, rfl⟩ := hp
      exact ⟨(hq i hi).2.2.2.1, (hq i hi).2.2.2.2.1, (hq i hi).2.2.2.2.2⟩
theorem strsU_of {v : Value} {d : DataW H} {ps : List MemPlace} (hs : Rows.uptoBulk d ≤ 1048576)
    (hv : ∃ a len cap, v = .slice a len cap) (h : DataW.Trod enc Try.prog W base spare held 22 v d ps) :
    ∃ (a : Option Addr) (cap : Nat) (l : List ByteArray), v = .slice a l.length cap ∧ RdS W a l ∧ l.length * 16 ≤ 140737488351232 ∧ (a = none → cap = 0) ∧ ∀ t ∈ l, t.size ≤ 9223372036854775807 := strs_of (bulk_reach hs 16 (by decide)) hv h
end
end Go.Proofs.Ytohgflimdoebiaa.Dk
