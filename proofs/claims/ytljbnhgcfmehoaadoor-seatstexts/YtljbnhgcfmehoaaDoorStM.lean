/- Contract: the fixed answers (lives). -/
import Derived.Test.YtljbnhgcfmehoaaDoorStK
import Derived.Test.YtljbnhgcfmehoaaDoorStL
namespace Go.Proofs.YtljbnhgcfmehoaaDoor
open Go.RowKit Go.Maps Go.Shelf
set_option linter.unusedVariables false
set_option linter.unusedSimpArgs false

/- Slots as integers. -/
def zs (l : List Nat) : List Int := l.map fun k => ((k : Nat) : Int)
@[simp] theorem zs_length (l : List Nat) : (zs l).length = l.length := by simp [zs]
theorem zs_getD (l : List Nat) (i : Nat) (h : i < l.length) : (zs l).getD i 0 = ((l[i] : Nat) : Int) := by
  rw [List.getD_eq_getElem?_getD]
  simp [zs, h]
theorem NewL.rd {w w' : World} {v : Value} {l : List Nat} (h : NewL w w' v l) : ∃ a cap, v = .slice a l.length cap ∧ RdI w' a (zs l) := by
  rcases h.2 with ⟨rfl, h0⟩ | ⟨g, cap, cur, rfl, h3, h4, h5, h6, h7, h8⟩
  · have : l = [] := List.length_eq_zero_iff.1 h0
    subst this
    exact ⟨none, 0, rfl, RdI.nil _ _⟩
  · refine ⟨_, cap, rfl, fun i hi => ⟨g, 0, rfl, ?_⟩⟩
    rw [zs_length] at hi
    have := World.ownsRow.cellAt h i (by omega)
    rw [Nat.zero_add, this, zs_getD l i hi]
    simp [nI, hi]
theorem live1 : (bl (nt 11)).take 2 = [2, 4] := by decide +kernel
theorem live2 : pf 11 [2, 4] = 31 := by decide +kernel
theorem live3 : hx 9 = ⟨#[48, 48, 48, 48, 48, 48, 48, 48, 48, 48, 48, 48, 48, 48, 48, 57]⟩ := ByteArray.ext (by decide +kernel)
theorem live4 : ((bl (nt 11)).length : Int) < 2 ↔ False := by decide +kernel
set_option maxRecDepth 100000 in
set_option maxHeartbeats 1000000 in
theorem lives_any (w : World) (hT : Tb w) : Calls Tryd.prog 9 #[] w fun e w' => e = .returned (.bool true) ∧ Below w.heap.size w w' := by
  have ht := take_any 11 (by decide) 2 w hT
  have hh := hex_any 9 (by decide)
  rw [live3] at hh
  go_enter Tryd.func9, Tryd.ntmps9
  go_wp2_with fail
  refine ht.mono ?_
  rintro e w1 ⟨hP, hb⟩
  unfold TakeP at hP
  rw [if_neg (by decide), if_neg (by simp only [live4]; exact id), show (2 : Int).toNat = 2 from rfl, live1, live2] at hP
  obtain ⟨v, rfl, hv⟩ := hP
  obtain ⟨a, cap, rfl, hr⟩ := hv.rd
  clear ht hv
  have hT1 := hT.later hb
  go_wp2_with fail
  have hb2 : Below w1.heap.size w1 (w1.alloc (.cells #[.int .i64 2, .int .i64 4] 3)) := (Below.refl _ w1).alloc (Nat.le_refl _) _
  refine (same_any a _ cap 2 (zs [2, 4]) _ (by decide) (hr.later hb2) ?_).mono ?_
  · intro i hi
    have : i = 0 ∨ i = 1 := by simp at hi; omega
    rcases this with rfl | rfl <;> exact ⟨_, _, rfl, by simp [go_sem, zs]⟩
  rintro e w2 ⟨rfl, hb3⟩
  have hb4 := hb2.trans (hb3.mono hb2.size)
  have hT2 := hT1.later hb4
  have hb5 := hb.trans (hb4.mono hb.size)
  generalize (w1.alloc (.cells #[.int .i64 2, .int .i64 4] 3)) = w3 at *
  clear hr hb2 hb3
  go_wp2_with fail
  refine (hh _ hT2).mono ?_
  rintro e w4 ⟨rfl, hb6⟩
  clear hh
  go_wp2_with fail
  go_ret
  exact ⟨rfl, hb5.trans (hb6.mono hb5.size)⟩
end Go.Proofs.YtljbnhgcfmehoaaDoor
