/- Contracts: the law's model; the document's calls behind a row. -/
import Derived.Test.YtompgoaogomoaaaKnJ
namespace Go.Proofs.Ytompgoaogomoaaa.Kn
open Go.RowKit Go.Maps
open Rt (Gd gd gd_yes gd_no rGood_any)
set_option linter.unusedVariables false
set_option linter.unusedSimpArgs false

theorem Tab.congr {T T' : List K2} {B B' : List B2} {f : Nat → Int} (h : Tab T B f) (hc : ∀ k : K2, Had T B k ↔ Had T' B' k) : Tab T' B' f :=
  ⟨⟨fun b => (h.snd.out b).imp id fun ⟨h1, h2, h3, h4⟩ => ⟨h1, h2, h3, (hc _).1 h4⟩⟩, fun k hk hb => h.low k ((hc k).2 hk) hb⟩
section
variable {w w' : World} {N p : Nat} {l : List Op9} {vt vb vx : Value}
theorem DocAt.closed (h : DocAt w N p l vt vb vx) (hl : l.length < 2748779069440) :
    Calls Try.prog 13 #[.pointer (some ⟨p, 0, none⟩)] w fun e w' => ∃ g c f, e = .returned (.slice (some ⟨g, 0, none⟩) 32768 c) ∧ RdT w' g f ∧ Tab (toldL l) (boxL l) f ∧ Below w.heap.size w w' := by
  obtain ⟨s, h1, h2⟩ := h.out
  refine (h1.closed (by have := h2.lT; omega) (by have := h2.lB; omega)).mono ?_
  rintro e w' ⟨g, c, f, rfl, hC, hT⟩
  exact ⟨g, c, f, rfl, hC.rd rfl, hT.congr h2.had, hC.bel⟩
theorem DocAt.makes (h : DocAt w N p l vt vb vx) (hl : l.length < 2748779069440) (b0 b1 b2 b3 : Int) {v : Bool} (hv : v = true ↔ gb ((b0, b1), (b2, b3)) = true ∧ (((b0, b1), (b2, b3)) ∈ boxL l ∨ (HadL l (b0, b1) ∧ HadL l (b2, b3)))) :
    Calls Try.prog 17 #[.pointer (some ⟨p, 0, none⟩), .agg #[.int .i64 b0, .int .i64 b1, .int .i64 b2, .int .i64 b3] ] w fun e w' => e = .returned (.bool v) ∧ Below w.heap.size w w' := by
  obtain ⟨s, h1, h2⟩ := h.out
  refine makes_any w N p s vt vb vx b0 b1 b2 b3 h1 (by have := h2.lT; omega) (by have := h2.lB; omega) (hv.trans ?_)
  refine and_congr_right fun hg => ?_
  rw [gb_gd] at hg
  rw [h2.b (b0, b1) (b2, b3) hg.1 hg.2, h2.had, h2.had]
theorem DocAt.makesX (h : DocAt w N p l vt vb vx) (hl : l.length < 2748779069440) (b0 b1 b2 : Int) (b3 : ByteArray) (hb3 : b3.size ≤ 9223372036854775807) {v : Bool} (hv : v = true ↔ gx (b0, ((b1, b2), b3)) = true ∧ ((b0, ((b1, b2), b3)) ∈ txtL l ∨ HadL l (b1, b2))) :
    Calls Try.prog 19 #[.pointer (some ⟨p, 0, none⟩), .agg #[.int .i64 b0, .int .i64 b1, .int .i64 b2, .string b3] ] w fun e w' => e = .returned (.bool v) ∧ Below w.heap.size w w' := by
  obtain ⟨s, h1, h2⟩ := h.out
  refine makesX_any w N p s vt vb vx b0 b1 b2 b3 h1 (by have := h2.lT; omega) (by have := h2.lB; omega) (by have := h2.lX; omega) hb3 (hv.trans ?_)
  refine and_congr_right fun hg => ?_
  rw [h2.x _ hg, h2.had]
theorem DocAt.keys (h : DocAt w N p l vt vb vx) (hl : l.length < 2748779069440) :
    Calls Try.prog 22 #[.pointer (some ⟨p, 0, none⟩)] w fun e w' => ∃ v f, e = .returned v ∧ Tab (toldL l) (boxL l) f ∧ w'.ownsRow w.heap.size 33 2 v (keysT f 32768).length ((keysT f 32768).flatMap kC) ∧ Below w.heap.size w w' := by
  obtain ⟨s, h1, h2⟩ := h.out
  refine (keys_any w N p s vt vb vx h1 (by have := h2.lT; omega) (by have := h2.lB; omega)).mono ?_
  rintro e w' ⟨v, f, rfl, hT, hr, hb⟩
  exact ⟨v, f, rfl, hT.congr h2.had, hr, hb⟩
end
def oV (k b0 b1 b2 b3 e u0 u1 : Int) (t : ByteArray) : Array Value := #[.int .i64 k, .int .i64 b0, .int .i64 b1, .int .i64 b2, .int .i64 b3, .int .i64 e, .int .i64 u0, .int .i64 u1, .string t]
theorem boxed9 (w : World) (a0 a1 a2 a3 a4 a5 a6 a7 a8 : Value) (t : TypeId) : (w.alloc (.cells #[a0, a1, a2, a3, a4, a5, a6, a7, a8] t)).cell? ⟨w.heap.size, 0, none⟩ = some a0 ∧ (w.alloc (.cells #[a0, a1, a2, a3, a4, a5, a6, a7, a8] t)).cell? ⟨w.heap.size, 1, none⟩ = some a1 ∧ (w.alloc (.cells #[a0, a1, a2, a3, a4, a5, a6, a7, a8] t)).cell? ⟨w.heap.size, 2, none⟩ = some a2 ∧ (w.alloc (.cells #[a0, a1, a2, a3, a4, a5, a6, a7, a8] t)).cell? ⟨w.heap.size, 3, none⟩ = some a3 ∧ (w.alloc (.cells #[a0, a1, a2, a3, a4, a5, a6, a7, a8] t)).cell? ⟨w.heap.size, 4, none⟩ = some a4 ∧ (w.alloc (.cells #[a0, a1, a2, a3, a4, a5, a6, a7, a8] t)).cell? ⟨w.heap.size, 5, none⟩ = some a5 ∧ (w.alloc (.cells #[a0, a1, a2, a3, a4, a5, a6, a7, a8] t)).cell? ⟨w.heap.size, 6, none⟩ = some a6 ∧ (w.alloc (.cells #[a0, a1, a2, a3, a4, a5, a6, a7, a8] t)).cell? ⟨w.heap.size, 7, none⟩ = some a7 ∧ (w.alloc (.cells #[a0, a1, a2, a3, a4, a5, a6, a7, a8] t)).cell? ⟨w.heap.size, 8, none⟩ = some a8 := by
  have h := _root_.Go.heap_alloc_last w (.cells #[a0, a1, a2, a3, a4, a5, a6, a7, a8] t)
  exact ⟨cell_of_row _ _ 0 _ _ _ h, cell_of_row _ _ 1 _ _ _ h, cell_of_row _ _ 2 _ _ _ h, cell_of_row _ _ 3 _ _ _ h, cell_of_row _ _ 4 _ _ _ h, cell_of_row _ _ 5 _ _ _ h, cell_of_row _ _ 6 _ _ _ h, cell_of_row _ _ 7 _ _ _ h, cell_of_row _ _ 8 _ _ _ h⟩
set_option maxRecDepth 100000 in
set_option maxHeartbeats 2000000 in
theorem model_any (w : World) (N p : Nat) (l : List Op9) (vt vb vx : Value) (k b0 b1 b2 b3 e u0 u1 : Int) (t : ByteArray) (h : DocAt w N p l vt vb vx) (hN : N ≤ w.heap.size) (hl : l.length < 2748779069440) (ht : t.size ≤ 9223372036854775807) :
    Calls Try.prog 12 #[.pointer (some ⟨p, 0, none⟩), .agg #[.int .i64 k, .int .i64 b0, .int .i64 b1, .int .i64 b2, .int .i64 b3, .int .i64 e, .int .i64 u0, .int .i64 u1, .string t] ] w fun r w' => r = .returned (.tuple #[]) ∧ DocP w w' N p (l ++ [(k, (((b0, b1), (b2, b3)), (e, ((u0, u1), t))))]) vt vb vx := by
  obtain ⟨s, hK, hO⟩ := h.out
  have HO : Hid (Of s l) := hO
  have lT : s.T.length < 2748779069440 := by have := hO.lT; omega
  have lB : s.B.length < 2748779069440 := by have := hO.lB; omega
  have lX : s.X.length < 2748779069440 := by have := hO.lX; omega
  have hb1 : Below w.heap.size w (w.alloc (.cells #[.int .i64 k, .int .i64 b0, .int .i64 b1, .int .i64 b2, .int .i64 b3, .int .i64 e, .int .i64 u0, .int .i64 u1, .string t] 39)) := Rt.below1 _ _
  have hN1 := Nat.le_trans hN hb1.size
  have ha := learn_any _ N p s vt vb vx b0 b1 (hK.later hb1) hN1 lT
  have hs := see_any _ N p s vt vb vx b0 b1 b2 b3 (hK.later hb1) hN1 lB
  have hx := seeX_any _ N p s vt vb vx e u0 u1 t (hK.later hb1) hN1 lX ht
  have HK : Hid (KnAt w N p s vt vb vx) := hK
  obtain ⟨x0, x1, x2, x3, x4, x5, x6, x7, x8⟩ := boxed9 w (.int .i64 k) (.int .i64 b0) (.int .i64 b1) (.int .i64 b2) (.int .i64 b3) (.int .i64 e) (.int .i64 u0) (.int .i64 u1) (.string t) 39
  clear h hK hO lT lB lX hN hl ht hN1
  go_enter Try.func12, Try.ntmps12
  go_upto_region 1 with (fail)
  generalize w.alloc (.cells #[.int .i64 k, .int .i64 b0, .int .i64 b1, .int .i64 b2, .int .i64 b3, .int .i64 e, .int .i64 u0, .int .i64 u1, .string t] 39) = w1 at *
  have HB1 : Hid (Below w.heap.size w w1) := hb1
  obtain ⟨Q, hQ⟩ : ∃ Q, w.heap.size = Q := ⟨_, rfl⟩
  rw [hQ] at x0 x1 x2 x3 x4 x5 x6 x7 x8 ⊢
  clear hb1 hQ
  by_cases h1 : k = 1
  · subst h1
    go_wp2_with (go_at_call 33; refine ha.mono ?_; rintro r w2 ⟨rfl, hd⟩)
    first | go_end0 | refine bodyPost_ret (results_none rfl _ _ _) rfl ?_
    exact ⟨rfl, hd.doc HB1.out (HO.out.told ((b0, b1), (b2, b3)) _)⟩
  · have e1 : (k == 1) = false := by simpa using h1
    by_cases h2 : k = 2
    · subst h2
      go_wp2_with (go_at_call 34; refine hs.mono ?_; rintro r w2 ⟨rfl, hd⟩)
      first | go_end0 | refine bodyPost_ret (results_none rfl _ _ _) rfl ?_
      exact ⟨rfl, hd.doc HB1.out (HO.out.seen _ _)⟩
    · have e2 : (k == 2) = false := by simpa using h2
      by_cases h3 : k = 3
      · subst h3
        go_wp2_with (go_at_call 35; refine hx.mono ?_; rintro r w2 ⟨rfl, X, hd, hX, hXl⟩)
        first | go_end0 | refine bodyPost_ret (results_none rfl _ _ _) rfl ?_
        exact ⟨rfl, hd.doc HB1.out (HO.out.text _ _ hX hXl)⟩
      · have e3 : (k == 3) = false := by simpa using h3
        have HE : Hid (k ≠ 1 ∧ k ≠ 2 ∧ k ≠ 3) := ⟨h1, h2, h3⟩
        clear h1 h2 h3 ha hs hx
        go_wp2_with fail
        first | go_end0 | refine bodyPost_ret (results_none rfl _ _ _) rfl ?_
        exact ⟨rfl, (HK.out.same HB1.out).doc (Below.refl _ _) (HO.out.none HE.out.1 HE.out.2.1 HE.out.2.2)⟩
end Go.Proofs.Ytompgoaogomoaaa.Kn
