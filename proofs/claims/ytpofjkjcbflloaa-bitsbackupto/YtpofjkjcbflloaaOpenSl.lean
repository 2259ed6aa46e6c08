/- Opening slices of fields and of integers, and texts, that came in as arguments of a bulk below a bound. -/
import Derived.Test.YtpofjkjcbflloaaRows
import Derived.Test.YtpofjkjcbflloaaBitSpec
import Derived.Deep.SlicePairs
import Derived.JoinedCond
import Derived.ChangeSlices
import Derived.ChangeMaps5
import Derived.OpenShut
namespace Go.Proofs.Ytpofjkjcbflloaa
open Go.ChangeShapes Go.WideShapes Go.ChangeAt Go.RowKit

theorem bulk_one {H : Type} (d : DataW H) : 1 ≤ Rows.uptoBulk d := by
  cases d with
  | lit l => cases l <;> simp [Rows.uptoBulk]
  | _ => simp [Rows.uptoBulk]
theorem bulk_len {H : Type} : ∀ l : List (DataW H), l.length ≤ Rows.uptoBulkAll l
  | [] => by simp
  | x :: l => by have h1 := bulk_one x; have h2 := bulk_len l; simp only [Rows.uptoBulkAll, List.length_cons]; omega
theorem bulk_slice {H : Type} {es sp : List (DataW H)} (hk : Rows.uptoBulk (.slice es sp) ≤ 1048576) : es.length ≤ 1048576 := by
  simp only [Rows.uptoBulk] at hk
  have := bulk_len es
  omega
theorem bulk_text {H : Type} {s : ByteArray} (hk : Rows.uptoBulk (DataW.lit (H := H) (.string s.data.toList)) ≤ 1048576) : s.size ≤ 1048576 := by
  have e : Rows.uptoBulk (DataW.lit (H := H) (.string s.data.toList)) = s.data.toList.length + 1 := by simp only [Rows.uptoBulk]
  rw [e] at hk
  have h2 : s.data.toList.length = s.size := by show s.data.toList.length = s.data.size; exact Array.length_toList
  omega
theorem add_plain (b o i : Nat) : (⟨b, o, none⟩ : Addr).add i = ⟨b, o + i, none⟩ := by unfold Addr.add; split <;> simp_all
theorem fields_of {H : Type} {enc : TypeId × Value → H} {W : World} {base : Nat} {spare : Nat → Bool} {held : Bool} {v : Value} {d : DataW H} {ps : List MemPlace} (hs : Rows.uptoBulk d ≤ 1048576)
    (hv : ∃ a len cap, v = .slice a len cap) (h : DataW.Trod enc Try.prog W base spare held 22 v d ps) :
    ∃ (a : Option Addr) (cap : Nat) (fs : List (Nat × Int)), v = .slice a fs.length cap ∧ RdF W a fs ∧ fs.length ≤ 1048576 := by
  obtain ⟨a0, len0, cap0, rfl⟩ := hv
  obtain ⟨fuel, hf⟩ := h
  rcases Go.Deep.open_slice_pairs Try.underlying22 Try.underlying35 (by kernel_rfl) rfl rfl (by kernel_rfl) (by kernel_rfl) hf with ⟨hcs, _⟩ | ⟨a, len, cap, m, n, V0, V1, D0, D1, P0, P1, hcs, _, hl, _, hm, hx, hc⟩
  · simp [Value.cells] at hcs
    obtain ⟨rfl, rfl, rfl⟩ := hcs
    exact ⟨none, 0, [], rfl, RdF.nil _ _, by simp⟩
  · simp [Value.cells] at hcs
    obtain ⟨rfl, rfl, rfl⟩ := hcs
    simp only [Prod.mk.injEq] at hx
    have hlm : len0 ≤ m := by rw [hm]; split <;> omega
    have each : ∀ i, i < len0 → ∃ p : Nat × Int, W.cell? (a.add (i * 2)) = some (.int .u64 (p.1 : Int)) ∧ W.cell? (a.add (i * 2 + 1)) = some (.int .i64 p.2) ∧ p.1 < 18446744073709551616 := fun i hi => by
      obtain ⟨c0, c1, t0, t1⟩ := hc i (by omega)
      obtain ⟨x, q0, _, wx⟩ := DataW.trod_int Try.underlying33 t0
      obtain ⟨y, q1, _, _⟩ := DataW.trod_int Try.underlying3 t1
      have hx := bounds_u64 wx
      simp at q0 q1
      refine ⟨(x.toNat, y), ?_, by rw [c1, q1], by show x.toNat < _; omega⟩
      have e : ((x.toNat : Nat) : Int) = x := by omega
      rw [c0, q0]; simp only [e]
    obtain ⟨q, hq⟩ := Go.Deep.choose_lt each
    refine ⟨some a, cap0, (List.range len0).map q, by simp, fun i hi => ?_, ?_⟩
    · have hi' : i < len0 := by simpa using hi
      obtain ⟨c0, c1, c2⟩ := hq i hi'
      obtain ⟨b, o, sp⟩ := a
      have hsp : sp = none := by simpa [Addr.add] using World.cell?_spot (hq 0 (by omega)).1
      subst hsp
      have e : ((List.range len0).map q).getD i (0, 0) = q i := by simp [hi']
      rw [e]
      rw [add_plain] at c0 c1
      exact ⟨b, o, rfl, c0, c1, c2⟩
    · rw [hx.1] at hs
      have := bulk_slice hs
      simpa using this
theorem ints_of {H : Type} {enc : TypeId × Value → H} {W : World} {base : Nat} {spare : Nat → Bool} {held : Bool} {v : Value} {d : DataW H} {ps : List MemPlace} (hs : Rows.uptoBulk d ≤ 1048576)
    (hv : ∃ a len cap, v = .slice a len cap) (h : DataW.Trod enc Try.prog W base spare held 23 v d ps) :
    ∃ (a : Option Addr) (cap : Nat) (ws : List Int), v = .slice a ws.length cap ∧ RdI W a ws ∧ ws.length ≤ 1048576 ∧ (a = none → cap = 0) := by
  obtain ⟨a0, len0, cap0, rfl⟩ := hv
  obtain ⟨fuel, hf⟩ := h
  rcases open_ints Try.underlying23 Try.underlying3 (by kernel_rfl) hf with ⟨hcs, _⟩ | ⟨a, len, cap, zs, hcs, _, hl, _, hm, hx, hc, _⟩
  · simp [Value.cells] at hcs
    obtain ⟨rfl, rfl, rfl⟩ := hcs
    exact ⟨none, 0, [], rfl, RdI.nil _ _, by simp, fun _ => rfl⟩
  · simp [Value.cells] at hcs
    obtain ⟨rfl, rfl, rfl⟩ := hcs
    simp only [Prod.mk.injEq] at hx
    have hlm : len0 ≤ zs.length := by rw [hm]; split <;> omega
    have hlen : (zs.take len0).length = len0 := by rw [List.length_take]; omega
    refine ⟨some a, cap0, zs.take len0, by rw [hlen], fun i hi => ?_, ?_, fun h => by cases h⟩
    · have hi' : i < len0 := by rw [hlen] at hi; exact hi
      have c0 := hc i (by omega)
      obtain ⟨b, o, sp⟩ := a
      have hsp : sp = none := by simpa [Addr.add] using World.cell?_spot (hc 0 (by omega))
      subst hsp
      have e : (zs.take len0).getD i 0 = zs.getD i 0 := by simp [hi']
      rw [e]
      rw [add_plain] at c0
      exact ⟨b, o, rfl, c0⟩
    · rw [hx.1] at hs
      have := bulk_slice hs
      simpa [lits] using this
end Go.Proofs.Ytpofjkjcbflloaa
