/- RsK, OpenRc, joined. -/
import Derived.Test.YteocfmimgoocnaaGreatDoorRows
import Derived.Test.YteocfmimgoocnaaGreatDoorRsJ5
import Derived.Lib.LaidTab
import Derived.Stop.LaidErr
import Derived.Shelf.Vars
import Derived.OpenShut
/- Contract: the fixed answers (lives); the library's table as the rows list it; a world that holds all that is listed. -/
namespace Go.Proofs.YteocfmimgoocnaaGreatDoor.Rs
open Go.ChangeShapes Go.WideShapes Go.ChangeAt Go.RowKit
set_option linter.unusedVariables false
set_option linter.unusedSimpArgs false

theorem gTab : Tryz.prog.globalNamed "math/bits.deBruijn64tab" = some 0 := by kernel_rfl
theorem gTabType : (Tryz.prog.globals[0]?).map (·.type) = some 174 := by kernel_rfl
theorem cellsTab : Tryz.prog.cellsOf 174 = 64 := by kernel_rfl
theorem cellsU8 : Tryz.prog.cellsOf 5 = 1 := by kernel_rfl
def tabI : List Int := Lib.deBruijn64tab.map fun n : Nat => (n : Int)
theorem tab_data : (Rows.laid_math_bits_deBruijn64tab : DataW Unit) = Lib.tabData .u8 tabI := rfl
theorem tb_of {W : World} {rest : List (String × DataW Unit)} (h : laidMet Tryz.prog (("math/bits.deBruijn64tab", Rows.laid_math_bits_deBruijn64tab) :: rest) W) : Tb W := by
  rw [tab_data] at h
  have tab : Lib.TabIs Tryz.prog W "math/bits.deBruijn64tab" .u8 tabI :=
    Lib.tabIs_of_head gTab gTabType Tryz.underlying174 Tryz.underlying5 cellsU8 cellsTab h
  have hc : TabAt G64 Lib.deBruijn64tab W := fun j hj => by
    have h0 := World.var?_cell gTab tab j
    rw [show (⟨G64, j, none⟩ : Addr) = ⟨0, j, none⟩ from rfl, h0]
    simp only [tabI, List.map_map, List.getElem?_toArray, List.getElem?_map]
    rw [List.getElem?_eq_getElem hj, List.getD_eq_getElem?_getD, List.getElem?_eq_getElem hj]
    rfl
  exact ⟨World.block_lt_of_cell? W ⟨G64, 0, none⟩ (hc 0 (by decide)), hc⟩
def numbers (d : DataW Unit) : Array Value := match d with
  | .agg l => (l.map fun | .lit (.int k n) => Value.int k n | _ => .bool false).toArray
  | _ => #[]
noncomputable def laidWorld (os : Os) : World :=
  let w0 := World.holding Tryz.prog os ⟨#[], #[], []⟩
  { w0 with heap := w0.heap.modify 0 fun
      | .cells _ t frozen => .cells (numbers Rows.laid_math_bits_deBruijn64tab) t frozen
      | o => o }
theorem i64_wf {a : Int} (h : (Lit.int .i64 a).wf = true) : -9223372036854775808 ≤ a ∧ a < 9223372036854775808 := by
  have := bounds_i64 h
  omega
/- The roster of the examples. -/
def f0 : Nat → En := upd (upd (fun _ => zE) 0 ⟨1, 22, 1⟩) 2 ⟨3, 24, 1⟩
theorem live1 : mvE f0 [1] [5, 2] 4 40 = 0 := by decide +kernel
theorem live2 : (mvR f0 [1] [5, 2] 4 40 0).bas = 40 := by decide +kernel
theorem live3 : (mvR f0 [1] [5, 2] 4 40 1).who = 2 := by decide +kernel
theorem live4 : (mvR f0 [1] [5, 2] 4 40 1).bas = 41 := by decide +kernel
theorem live5 : (mvR f0 [1] [5, 2] 4 40 1).snc = 4 := by decide +kernel
theorem live6 : (mvR f0 [1] [5, 2] 4 40 2).who = 3 := by decide +kernel
theorem live7 : (mvR f0 [1] [5, 2] 4 40 2).bas = 24 := by decide +kernel
theorem live8 : (mvR f0 [1] [5, 2] 4 40 2).snc = 1 := by decide +kernel
theorem live9 : (mvL f0 [1] [5, 2] 4 40).length = 1 := by decide +kernel
theorem live10 : (mvJ f0 [1] [5, 2] 4 40).length = 2 := by decide +kernel
end Go.Proofs.YteocfmimgoocnaaGreatDoor.Rs
/- Opening records that came in as arguments. -/
namespace Go.Proofs.YteocfmimgoocnaaGreatDoor
open Go.ChangeShapes Go.WideShapes Go.ChangeAt Go.RowKit Go.Joins Go.Deep
open Rs (RdI ints_raw one_int bytesI cellsI cellsSl)
set_option linter.unusedVariables false
set_option maxRecDepth 20000
set_option linter.unusedSimpArgs false

theorem bytesSeat : Tryz.prog.bytesOf 62 = 16 := by kernel_rfl
theorem cellsSs : Tryz.prog.cellsOf 36 = 1 := by kernel_rfl
theorem cellsRc : Tryz.prog.cellsOf 38 = 4 := by kernel_rfl
section
variable {H : Type} {enc : TypeId × Value → H} {W : World} {base : Nat} {spare : Nat → Bool} {held : Bool}
theorem seats_raw {fuel : Nat} {cs : List Value} {x : DataW H × List MemPlace} (hs : ∀ es sp, x.1 = .slice es sp → (es.length + sp.length) * 16 ≤ reachBytes) (hf : DataW.trod enc Tryz.prog W base spare held fuel 36 cs = some x) :
    ∃ (a : Option Addr) (cap : Nat) (ks : List (Int × Int)), cs = [.slice a ks.length cap] ∧ RdP W a ks ∧ ks.length * 16 ≤ 140737488351232 := by
  rcases Go.Deep.open_slice_pairs Tryz.underlying36 Tryz.underlying62 (by kernel_rfl) rfl rfl (by kernel_rfl) (by kernel_rfl) hf with ⟨hcs, _⟩ | ⟨a, len0, cap0, m, n, V0, V1, D0, D1, P0, P1, hcs, _, hl, _, hm, hx, hc⟩
  · exact ⟨none, 0, [], hcs, (fun i hi => by cases hi), by simp⟩
  · have hlm : len0 ≤ m := by rw [hm]; split <;> omega
    have each : ∀ i, i < len0 → ∃ p : Int × Int, W.cell? (a.add (i * 2)) = some (.int .i64 p.1) ∧ W.cell? (a.add (i * 2 + 1)) = some (.int .i64 p.2) := fun i hi => by
      obtain ⟨c0, c1, t0, t1⟩ := hc i (by omega)
      obtain ⟨x, q0, _, _⟩ := DataW.trod_int Tryz.underlying3 t0
      obtain ⟨y, q1, _, _⟩ := DataW.trod_int Tryz.underlying3 t1
      simp at q0 q1
      exact ⟨(x, y), by rw [c0, q0], by rw [c1, q1]⟩
    obtain ⟨q, hq⟩ := Go.Deep.choose_lt each
    refine ⟨some a, cap0, (List.range len0).map q, by rw [hcs]; simp, fun i hi => ?_, ?_⟩
    · have hi' : i < len0 := by simpa using hi
      obtain ⟨c0, c1⟩ := hq i hi'
      obtain ⟨b, o, sp⟩ := a
      have hsp : sp = none := by simpa [Addr.add] using World.cell?_spot (hq 0 (by omega)).1
      subst hsp
      have e : ((List.range len0).map q).getD i (0, 0) = q i := by simp [hi']
      rw [e]
      rw [Rs.add_plain] at c0 c1
      exact ⟨b, o, rfl, c0, c1⟩
    · rw [hx] at hs
      have h1 := hs _ _ rfl
      simp only [List.length_map, List.length_range, reachBytes] at h1 ⊢
      omega
set_option maxRecDepth 100000 in
theorem open_rc {r : Reach} {b0 : Nat} {v : Value} {d : DataW H} {ps : List MemPlace} (hs : ∀ parts, d = .agg parts → (DataW.weightsEach Tryz.prog [ 3, 3, 32, 36 ] parts).all (· ≤ reachBytes) = true) (hv : Value.okWide Tryz.prog W r b0 38 v) (h : DataW.Trod enc Tryz.prog W base spare held 38 v d ps) :
    ∃ (e f : Int) (a a' : Option Addr) (c c' : Nat) (L : List Int) (J : List (Int × Int)), v = .agg #[.int .i64 e, .int .i64 f, .slice a L.length c, .slice a' J.length c'] ∧ RdI W a L ∧ RdP W a' J ∧ L.length * 8 ≤ 140737488351232 ∧ J.length * 16 ≤ 140737488351232 := by
  unfold Value.okWide at hv
  rw [Tryz.underlying38 ] at hv
  obtain ⟨cs, rfl, _⟩ := hv
  obtain ⟨fuel, hf⟩ := h
  obtain ⟨y0, y1, y2, y3, n, hx, hl, h0, h1, h2, h3⟩ := trod_struct4 Tryz.underlying38 hf
  rw [cellsRc] at hl
  have hx1 : d = .agg [y0.1, y1.1, y2.1, y3.1] := congrArg Prod.fst hx
  have hw := hs [y0.1, y1.1, y2.1, y3.1] hx1
  obtain ⟨l⟩ := cs
  simp only [Value.cells] at *
  match l, hl with
  | [v0, v1, v2, v3], _ =>
    simp [cellsI, cellsSl, cellsSs] at h0 h1 h2 h3
    obtain ⟨e, q0, _⟩ := one_int h0
    obtain ⟨f, q1, _⟩ := one_int h1
    obtain ⟨a, c, L, q2, r0, l0⟩ := ints_raw (fun es sp e => by have := sized_slice hw (j := 2) (t := 32) (e := 3) rfl (by rw [← e]; rfl) Tryz.underlying32; rw [bytesI] at this; exact this) h2
    obtain ⟨a', c', J, q3, r1, l1⟩ := seats_raw (fun es sp e => by have := sized_slice hw (j := 3) (t := 36) (e := 62) rfl (by rw [← e]; rfl) Tryz.underlying36; rw [bytesSeat] at this; exact this) h3
    simp at q0 q1 q2 q3
    exact ⟨e, f, a, a', c, c', L, J, by rw [q0, q1, q2, q3], r0, r1, l0, l1⟩
end
end Go.Proofs.YteocfmimgoocnaaGreatDoor
