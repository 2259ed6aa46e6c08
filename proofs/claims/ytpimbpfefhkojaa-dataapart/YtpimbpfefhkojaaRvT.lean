/- Rows of trees alone, in memory. -/
import Derived.Test.YtpimbpfefhkojaaMbRa
namespace Go.Proofs.Ytpimbpfefhkojaa.Rv
open Go.RowKit Go.Maps Mb
open Rs (own_other own_ge owns_later owns_slice below_grown)
set_option linter.unusedVariables false
set_option linter.unusedSimpArgs false

structure SX (w W : World) (vr : Value) (ts : List Tr) : Prop where
  bel : Below w.heap.size w W
  rr : W.ownsRow w.heap.size 45 236 vr ts.length (trl ts)
section
variable {w W W' : World} {vr v' : Value} {ts : List Tr}
theorem SX.later (h : SX w W vr ts) (hb : Below W.heap.size W W') : SX w W' vr ts := ⟨h.bel.trans (hb.mono h.bel.size), owns_later h.rr hb⟩
theorem SX.one (w : World) {t : Tr} {c : Array Value} (hc : tcs t = c) : SX w (w.alloc (.cells c 45)) (.slice (some ⟨w.heap.size, 0, none⟩) 1 1) [t] := by
  subst hc
  refine ⟨below_alloc _ _, ⟨by show (trl [t]).length = 1 * 236; rw [trl_len]; rfl, .inr ⟨w.heap.size, 1, tcs t, rfl, Nat.le_refl _, heap_alloc_last _ _, Nat.le_refl _, by unfold maxLen; omega, by rw [tcs_size], ?_⟩⟩⟩
  show List.take (1 * 236) (tcs t).toList = trl [t]
  rw [List.take_of_length_le (by rw [Array.length_toList, tcs_size]; decide)]
  simp [trl]
theorem SX.app (h : SX w W vr ts) {n : Tr} {v1 : Value} (hown : W'.ownsRow w.heap.size 45 236 v1 (ts.length + 1) (trl ts ++ (tcs n).toList)) (hg : W.grownBy W' vr.ownBlock) : SX w W' v1 (ts ++ [n]) :=
  ⟨below_grown h.bel hg h.bel.size (fun j hj => (own_ge h.rr hj).1), by rw [trl_snoc, List.length_append]; exact hown⟩
end
theorem run1_eq {ts : List Tr} {bs : List (List Int × List Int)} {t : Tr} (h : lastT ts = t) (L J : List Int) : run1 (ts, bs) (L, J) = if plE t L J = 0 then (ts ++ [nx t L J], bs ++ [(L, J)]) else (ts, bs) := by
  unfold run1
  dsimp only
  rw [h]
theorem runM_take (t : Tr) {l : List (List Int × List Int)} {k : Nat} (h : k < l.length) : runM t (l.take (k + 1)) = run1 (runM t (l.take k)) (l.getD k ([], [])) := by
  rw [← runM_snoc, List.take_add_one, List.getD_eq_getElem?_getD, List.getElem?_eq_getElem h]
  rfl
theorem getD_last {ts : List Tr} {m : Nat} (h : m + 1 = ts.length) : ts.getD m (tz 0) = lastT ts := by unfold lastT; rw [← h]; rfl
structure TX (t : Tr) (c : Array Value) : Prop where
  out : tcs t = c
end Go.Proofs.Ytpimbpfefhkojaa.Rv
