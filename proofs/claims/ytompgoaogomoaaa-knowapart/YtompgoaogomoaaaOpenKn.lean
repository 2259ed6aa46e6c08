/- Opening a list of calls on what is known. -/
import Derived.Test.YtompgoaogomoaaaKnK
import Derived.ProofKit
import Derived.OpenShut
import Derived.Below
import Derived.Lib.SmallJoins
import Derived.Deep.Slices
import Derived.Deep.Strs
import Derived.ChangeSlices
import Derived.SizedLaws
namespace Go.Proofs.Ytompgoaogomoaaa.Kn
open Go.ChangeShapes Go.WideShapes Go.ChangeAt Go.RowKit Go.Joins Go.Deep
set_option linter.unusedVariables false
set_option maxRecDepth 20000
set_option linter.unusedSimpArgs false

def oC (o : Op9) : List Value := [.int .i64 o.1, .int .i64 o.2.1.1.1, .int .i64 o.2.1.1.2, .int .i64 o.2.1.2.1, .int .i64 o.2.1.2.2, .int .i64 o.2.2.1, .int .i64 o.2.2.2.1.1, .int .i64 o.2.2.2.1.2, .string o.2.2.2.2]
def zO : Op9 := (0, (((0, 0), (0, 0)), (0, ((0, 0), ⟨#[]⟩))))
def wI (a : Int) : Prop := (Lit.int .i64 a).wf = true
def OkO (o : Op9) : Prop := wI o.1 ∧ (wI o.2.1.1.1 ∧ wI o.2.1.1.2 ∧ wI o.2.1.2.1 ∧ wI o.2.1.2.2) ∧ wI o.2.2.1 ∧ wI o.2.2.2.1.1 ∧ wI o.2.2.2.1.2 ∧ o.2.2.2.2.size ≤ 9223372036854775807
def RdO (w : World) (a : Option Addr) (l : List Op9) : Prop := ∀ i, i < l.length → ∃ b o, a = some ⟨b, o, none⟩ ∧ ∀ j v, (oC (l.getD i zO))[j]? = some v → w.cell? ⟨b, o + i * 9 + j, none⟩ = some v
theorem RdO.later {w w' : World} {a : Option Addr} {l : List Op9} (h : RdO w a l) (hb : Below w.heap.size w w') : RdO w' a l := fun i hi => by
  obtain ⟨b, o, e, hc⟩ := h i hi
  exact ⟨b, o, e, fun j v hv => cell_later hb (hc j v hv)⟩
theorem bytesKO : Try.prog.bytesOf 39 = 80 := by kernel_rfl
theorem celKO : Try.prog.cellsOf 39 = 9 := by kernel_rfl
theorem celI : Try.prog.cellsOf 3 = 1 := by kernel_rfl
theorem celT : Try.prog.cellsOf 9 = 1 := by kernel_rfl
theorem celK : Try.prog.cellsOf 33 = 2 := by kernel_rfl
theorem celB : Try.prog.cellsOf 35 = 4 := by kernel_rfl
theorem celD : Try.prog.cellsOf 37 = 4 := by kernel_rfl
section
variable {H : Type} {enc : TypeId × Value → H} {W : World} {base : Nat} {spare : Nat → Bool} {held : Bool}
theorem int_raw {fuel : Nat} {v : Value} {x : DataW H × List MemPlace} (hf : DataW.trod enc Try.prog W base spare held fuel 3 [v] = some x) : ∃ a : Int, v = .int .i64 a ∧ wI a := by
  obtain ⟨a, q, _, wa⟩ := DataW.trod_int Try.underlying3 hf
  exact ⟨a, by simpa using q, wa⟩
theorem str_raw {fuel : Nat} {v : Value} {x : DataW H × List MemPlace} (hf : DataW.trod enc Try.prog W base spare held fuel 9 [v] = some x) : ∃ s : ByteArray, v = .string s ∧ s.size ≤ 9223372036854775807 := by
  obtain ⟨z, q2, _, wz⟩ := DataW.trod_string Try.underlying9 hf
  refine ⟨z, by simpa using q2, ?_⟩
  have h := wz
  simp [maxLen] at h
  omega
theorem key_raw {fuel : Nat} {cs : List Value} {x : DataW H × List MemPlace} (hf : DataW.trod enc Try.prog W base spare held fuel 33 cs = some x) : ∃ p : K2, cs = [.int .i64 p.1, .int .i64 p.2] ∧ wI p.1 ∧ wI p.2 := by
  obtain ⟨y0, y1, n, hx, hl, h0, h1⟩ := trod_struct2 Try.underlying33 hf
  rw [celK] at hl
  match cs, hl with
  | [v0, v1], _ =>
    dsimp only at h0 h1
    rw [celI] at h0 h1
    obtain ⟨a, rfl, wa⟩ := int_raw h0
    obtain ⟨b, rfl, wb⟩ := int_raw h1
    exact ⟨(a, b), rfl, wa, wb⟩
theorem box_raw {fuel : Nat} {cs : List Value} {x : DataW H × List MemPlace} (hf : DataW.trod enc Try.prog W base spare held fuel 35 cs = some x) : ∃ b : B2, cs = bC b ∧ wI b.1.1 ∧ wI b.1.2 ∧ wI b.2.1 ∧ wI b.2.2 := by
  obtain ⟨y0, y1, n, hx, hl, h0, h1⟩ := trod_struct2 Try.underlying35 hf
  rw [celB] at hl
  match cs, hl with
  | [v0, v1, v2, v3], _ =>
    dsimp only at h0 h1
    rw [celK] at h0 h1
    obtain ⟨p, e0, w0, w1⟩ := key_raw h0
    obtain ⟨q, e1, w2, w3⟩ := key_raw h1
    simp at e0 e1
    exact ⟨(p, q), by rw [e0.1, e0.2, e1.1, e1.2]; rfl, w0, w1, w2, w3⟩
theorem sealed_raw {fuel : Nat} {cs : List Value} {x : DataW H × List MemPlace} (hf : DataW.trod enc Try.prog W base spare held fuel 37 cs = some x) : ∃ d : Sd, cs = sC d ∧ wI d.1 ∧ wI d.2.1.1 ∧ wI d.2.1.2 ∧ d.2.2.size ≤ 9223372036854775807 := by
  obtain ⟨y0, y1, y2, n, hx, hl, h0, h1, h2⟩ := trod_struct3 Try.underlying37 hf
  rw [celD] at hl
  match cs, hl with
  | [v0, v1, v2, v3], _ =>
    dsimp only at h0 h1 h2
    rw [celI] at h0
    rw [celK] at h1
    rw [celT] at h2
    obtain ⟨a, rfl, wa⟩ := int_raw h0
    obtain ⟨p, e1, w1, w2⟩ := key_raw h1
    obtain ⟨s, e2, ws⟩ := str_raw h2
    simp at e1
    exact ⟨(a, (p, s)), by rw [e1.1, e1.2, e2]; rfl, wa, w1, w2, ws⟩
theorem op_raw {fuel : Nat} {cs : List Value} {x : DataW H × List MemPlace} (hf : DataW.trod enc Try.prog W base spare held fuel 39 cs = some x) : ∃ o : Op9, cs = oC o ∧ OkO o := by
  obtain ⟨y0, y1, y2, n, hx, hl, h0, h1, h2⟩ := trod_struct3 Try.underlying39 hf
  rw [celKO] at hl
  match cs, hl with
  | [v0, v1, v2, v3, v4, v5, v6, v7, v8], _ =>
    dsimp only at h0 h1 h2
    rw [celI] at h0
    rw [celB] at h1
    rw [celD] at h2
    obtain ⟨k, rfl, wk⟩ := int_raw h0
    obtain ⟨b, e1, w1⟩ := box_raw h1
    obtain ⟨d, e2, w2⟩ := sealed_raw h2
    simp [bC] at e1
    simp [sC] at e2
    exact ⟨(k, (b, d)), by rw [e1.1, e1.2.1, e1.2.2.1, e1.2.2.2, e2.1, e2.2.1, e2.2.2.1, e2.2.2.2]; rfl, wk, w1, w2⟩
theorem kops_of {v : Value} {d : DataW H} {ps : List MemPlace} (hs : ∀ es sp, d = .slice es sp → (es.length + sp.length) * 80 ≤ reachBytes)
    (hv : ∃ a len cap, v = .slice a len cap) (h : DataW.Trod enc Try.prog W base spare held 22 v d ps) :
    ∃ (a : Option Addr) (cap : Nat) (l : List Op9), v = .slice a l.length cap ∧ RdO W a l ∧ l.length * 80 ≤ 140737488351232 ∧ (a = none → cap = 0) ∧ ∀ p ∈ l, OkO p := by
  obtain ⟨a0, len0, cap0, rfl⟩ := hv
  obtain ⟨fuel, hf⟩ := h
  rcases open_slice Try.underlying22 hf with ⟨hcs, _⟩ | ⟨a, len, cap, m, n, D, Pl, hcs, _, hl, _, hm, hx, hc⟩
  · simp [Value.cells] at hcs
    obtain ⟨rfl, rfl, rfl⟩ := hcs
    exact ⟨none, 0, [], rfl, (fun i hi => by cases hi), by simp, fun _ => rfl, fun _ h => by cases h⟩
  · simp [Value.cells] at hcs
    obtain ⟨rfl, rfl, rfl⟩ := hcs
    simp only [Prod.mk.injEq] at hx
    have hlm : len0 ≤ m := by rw [hm]; split <;> omega
    have each : ∀ i, i < len0 → ∃ p : Op9, W.cells? base (a.add (i * 9)) 9 = some (oC p) ∧ OkO p := by
      intro i hi
      obtain ⟨cs', h1, h2⟩ := hc i (by omega)
      rw [celKO] at h1
      obtain ⟨p, rfl, hp⟩ := op_raw h2
      exact ⟨p, h1, hp⟩
    obtain ⟨q, hq⟩ := choose_lt each
    refine ⟨some a, cap0, (List.range len0).map q, by simp, fun i hi => ?_, ?_, (fun h => by cases h), ?_⟩
    · have hi' : i < len0 := by simpa using hi
      obtain ⟨_, _, c0⟩ := World.cells?_some (hq 0 (by omega)).1
      have c00 := c0 0 (by omega)
      obtain ⟨b, o, sp⟩ := a
      have hsp : sp = none := by
        have hv : (oC (q 0))[0]? = some (.int .i64 (q 0).1) := rfl
        rw [hv] at c00
        simpa [Addr.add] using World.cell?_spot c00
      subst hsp
      have e : ((List.range len0).map q).getD i zO = q i := by simp [hi']
      rw [e]
      refine ⟨b, o, rfl, fun j v hv => ?_⟩
      obtain ⟨_, _, ci⟩ := World.cells?_some (hq i hi').1
      have hj : j < 9 := (List.getElem?_eq_some_iff.1 hv).1
      have := ci j hj
      rw [Addr.add_mid, Addr.add_mid] at this
      rw [this, ← hv]
    · have h1 := hs _ _ hx.1
      simp only [List.length_map, List.length_range, reachBytes] at h1 ⊢
      omega
    · intro p hp
      simp only [List.mem_map, List.mem_range] at hp
      obtain ⟨i, hi, rfl⟩ := hp
      exact (hq i hi).2
end
end Go.Proofs.Ytompgoaogomoaaa.Kn
