/- Contracts: isRight, Has, Makes, MakesSealed of the program's know. -/
import Derived.Test.YtompgoaogomoaaaHd
import Derived.Test.YtompgoaogomoaaaKnT
namespace Go.Proofs.Ytompgoaogomoaaa.Kn
open Go.RowKit Go.Maps
open Rt (Gd gd gd_yes gd_no good_any gives_any gv)
set_option linter.unusedVariables false
set_option linter.unusedSimpArgs false

set_option maxRecDepth 100000 in
theorem isRight_any (a b c : Int) (s : ByteArray) (w : World) (hn : s.size ≤ 9223372036854775807) : Calls Try.prog 41 #[.agg #[.int .i64 a, .int .i64 b, .int .i64 c, .string s] ] w fun e w' => e = .returned (.bool (gx (a, ((b, c), s)))) ∧ Below w.heap.size w w' := by
  have HG : Hid (gx (a, (b, c), s) = ((decide (1 ≤ a) && decide (a ≤ 200)) && (gd b c && decide (s.size ≤ 64)))) := rfl
  rw [HG.out]
  have h2 := good_any b c
  generalize gd b c = y at *
  clear HG
  obtain ⟨n, hne⟩ : ∃ n, s.size = n := ⟨_, rfl⟩
  rw [hne] at hn
  rw [hne]
  have HN : Hid (s.size = n) := hne
  by_cases h1 : 1 ≤ a
  · by_cases h3 : a ≤ 200
    · cases y with
      | false =>
        go_enter Try.func41, Try.ntmps41
        go_wp2_with (go_at_call 37; refine (h2 _).mono ?_; rintro r w' ⟨rfl, rfl⟩)
        go_ret
        exact ⟨by simp, Rt.Below.more (Rt.below1 _ _) _⟩
      | true =>
        by_cases h64 : n ≤ 64
        · have d1 : (n : Int) ≤ 64 := by omega
          go_enter Try.func41, Try.ntmps41
          go_wp2_with (go_at_call 37; refine (h2 _).mono ?_; rintro r w' ⟨rfl, rfl⟩)
          go_ret
          exact ⟨by simp [h64, h1, h3], Rt.Below.more (Rt.below1 _ _) _⟩
        · have d1 : decide ((n : Int) ≤ 64) = false := by simp; omega
          go_enter Try.func41, Try.ntmps41
          go_wp2_with (go_at_call 37; refine (h2 _).mono ?_; rintro r w' ⟨rfl, rfl⟩)
          go_ret
          exact ⟨by simp [h64, h1, h3] <;> omega, Rt.Below.more (Rt.below1 _ _) _⟩
    · have d3 : decide (a ≤ 200) = false := decide_eq_false h3
      have H3 : Hid (¬ a ≤ 200) := h3
      clear h3
      go_enter Try.func41, Try.ntmps41
      go_wp2
      go_ret
      exact ⟨by simp [H3.out], Rt.below1 _ _⟩
  · have d1 : decide (1 ≤ a) = false := decide_eq_false h1
    have H1 : Hid (¬ 1 ≤ a) := h1
    clear h1
    go_enter Try.func41, Try.ntmps41
    go_wp2
    go_ret
    exact ⟨by simp [H1.out], Rt.below1 _ _⟩
theorem inT_least {T : List K2} {B : List B2} {f : Nat → Int} (hs : Snd T B f) (b s : Int) (hb : b < 32768) : (match LF f b with | none => gv 0 0 b s | some t => gv b t b s) = inT f (b, s) := by
  have e0 : gv 0 0 b s = false := by unfold gv; rw [gd_no (by unfold Gd; omega)]; rfl
  unfold LF
  by_cases h : b < 1 ∨ 32768 ≤ b ∨ f b.toNat = 0
  · rw [if_pos h]
    show gv 0 0 b s = _
    rw [e0]
    symm
    rw [Bool.eq_false_iff]
    intro hi
    obtain ⟨hg, q | q⟩ := inT_iff.1 hi
    · dsimp only at q; omega
    · have h1 := hg.1
      have h2 := q.1
      dsimp only at h1 h2
      omega
  · rw [if_neg h]
    show gv b (f b.toNat - 1) b s = _
    rcases hs.out b.toNat with q | ⟨q1, q2, q3, _⟩
    · omega
    · have hg : gd b (f b.toNat - 1) = true := gd_yes ⟨by omega, by omega, by omega, by omega⟩
      rw [Bool.eq_iff_iff, inT_iff]
      unfold gv Low
      rw [hg]
      simp only [Bool.true_and, Bool.and_eq_true, beq_self_eq_true, decide_eq_true_eq, gd_iff]
      constructor
      · rintro ⟨h1, h2⟩
        exact ⟨h1, .inr ⟨by omega, h2⟩⟩
      · rintro ⟨h1, h2⟩
        refine ⟨h1, ?_⟩
        rcases h2 with h2 | h2
        · omega
        · exact h2.2
set_option maxRecDepth 100000 in
set_option maxHeartbeats 1000000 in
theorem has_p (w : World) (N p : Nat) (f : Nat → Int) (pd B : List B2) (X : List Sd) (bl bb bt bs : Nat) (vs : K2 → Value) (h : Pk w N p f pd B X bl bb bt bs vs) {T : List K2} {B' : List B2} (hs : Snd T B' f) (b s : Int) (hw : wI b) :
    Calls Try.prog 14 #[.pointer (some ⟨p, 0, none⟩), .agg #[.int .i64 b, .int .i64 s] ] w fun e w' => e = .returned (.bool (inT f (b, s))) ∧ Below w.heap.size w w' := by
  have hb1 : Below w.heap.size w (w.alloc (.cells #[.int .i64 b, .int .i64 s] 33)) := Rt.below1 _ _
  obtain ⟨x0, x1⟩ : (w.alloc (.cells #[.int .i64 b, .int .i64 s] 33)).cell? ⟨w.heap.size, 0, none⟩ = some (.int .i64 b) ∧ (w.alloc (.cells #[.int .i64 b, .int .i64 s] 33)).cell? ⟨w.heap.size, 1, none⟩ = some (.int .i64 s) := boxed2 w (.int .i64 b) (.int .i64 s) 33 0
  have ho := isOwn_any b
  by_cases hb : 32768 ≤ b
  · have d : decide (32768 ≤ b) = true := decide_eq_true hb
    rw [d] at ho
    have e : inT f (b, s) = gd b s := by unfold inT; simp [hb]
    rw [e]
    have hg := good_any b s
    clear h d e hs hw hb
    generalize gd b s = v at *
    go_enter Try.func14, Try.ntmps14
    go_upto_region 1 with (fail)
    generalize w.alloc (.cells #[.int .i64 b, .int .i64 s] 33) = w1 at *
    go_wp2_with (first | (go_at_call 36; refine (ho _).mono ?_; rintro r w2 ⟨rfl, rfl⟩) | (go_at_call 37; refine (hg _).mono ?_; rintro r w2 ⟨rfl, rfl⟩))
    go_ret
    exact ⟨rfl, Rt.Below.more hb1 _⟩
  · have d : decide (32768 ≤ b) = false := decide_eq_false hb
    rw [d] at ho
    have hv := inT_least hs b s (by omega)
    obtain ⟨c0, c1, hlk, hval⟩ : ∃ c0 c1 : Int, (∀ W, Below w.heap.size w W → (Instr.lookup 64 (.map (some bl)) (.int .i64 b) false).run Try.prog W = .ok (.agg #[.int .i64 c0, .int .i64 c1]) W) ∧ gv c0 c1 b s = inT f (b, s) := by
      have q := fun W (hW : Below w.heap.size w W) => ((h.lst.later hW).look hw).1
      cases hf : LF f b with
      | none => rw [hf] at hv; simp only [hf] at q; exact ⟨0, 0, q, hv⟩
      | some t => rw [hf] at hv; simp only [hf] at q; exact ⟨b, t, q, hv⟩
    rw [← hval]
    have hgv := gives_any c0 c1 b s
    have hc0 := h.c0
    clear h d hs hw hb hv hval
    generalize gv c0 c1 b s = v at *
    go_enter Try.func14, Try.ntmps14
    go_upto_region 1 with (fail)
    generalize w.alloc (.cells #[.int .i64 b, .int .i64 s] 33) = w1 at *
    obtain ⟨Q, hQ⟩ : ∃ Q, w.heap.size = Q := ⟨_, rfl⟩
    rw [hQ] at x0 x1 ⊢
    go_upto_region 3 with (go_at_call 36; refine (ho _).mono ?_; rintro r w2 ⟨rfl, rfl⟩)
    have q0 := fun W (h : Below w2.heap.size w2 W) => cell_later h x0
    have q1 := fun W (h : Below w2.heap.size w2 W) => cell_later h x1
    have qp := fun W (h : Below w2.heap.size w2 W) => cell_later (Rt.Below.then hb1 h) hc0
    have ql := fun W (h : Below w2.heap.size w2 W) => hlk W (Rt.Below.then hb1 h)
    have HB : Hid (∀ W, Below w2.heap.size w2 W → Below w.heap.size w W) := fun W hW => Rt.Below.then hb1 hW
    have hS0 : Below w2.heap.size w2 w2.drew := Below.drew (Below.refl _ _)
    clear hb1 hQ x0 x1 hc0 hlk ho
    refine wp_region_held_drew (S := fun W => Below w2.heap.size w2 W) (by kernel_rfl) hS0 (fun hHeld => ?_)
    refine opT 0 10 (.move (.tmp 0)) (.pointer (some ⟨p, 0, none⟩)) rfl ?_
    go_frame
    refine opT 1 11 (.nilCheck (.tmp 10)) (.pointer (some ⟨p, 0, none⟩)) rfl ?_
    go_frame
    refine opT 2 12 (.fieldAddr 69 (.tmp 11) 0) (.pointer (some ⟨p, 0, none⟩)) rfl ?_
    go_frame
    refine opR 3 13 (.load 64 (.tmp 12)) (.map (some bl)) rfl (fun w hSw => by have c := qp w hSw; go_simp) ?_
    go_frame
    refine opT 4 14 (.fieldAddr 33 (.tmp 3) 0) (.pointer (some ⟨Q, 0, none⟩)) rfl ?_
    go_frame
    refine opR 5 15 (.load 3 (.tmp 14)) (.int .i64 b) rfl (fun w hSw => by have c0 := q0 w hSw; go_simp) ?_
    go_frame
    refine opR 6 16 (.lookup 64 (.tmp 13) (.tmp 15) false) (.agg #[.int .i64 c0, .int .i64 c1]) rfl (fun w hSw => by have e := ql w hSw; go_simp) ?_
    go_frame
    refine opR 7 17 (.load 33 (.tmp 3)) (.agg #[.int .i64 b, .int .i64 s]) rfl (fun w hSw => by have c0 := q0 w hSw; have c1 := q1 w hSw; go_simp) ?_
    go_frame
    refine wpAnyH_ready (rs := [8]) (by kernel_rfl) (by simp) ?_
    refine AllReadyH.cons rfl (fun K hK => ?_) AllReadyH.nil
    go_simp
    refine (hgv _).mono ?_
    rintro r w3 ⟨rfl, hb3⟩
    go_wp2_with fail
    refine hK.out _ _ (Rt.Below.then hHeld hb3) (fun hHeld2 => ?_)
    clear hK K
    try go_frame
    refine opT 9 4 (.assign (.tmp 18)) (.bool v) rfl ?_
    go_frame
    refine wpAnyH_done (by kernel_rfl) ?_ _
    go_wp2_with fail
    go_ret
    exact ⟨rfl, HB.out _ hHeld2⟩
set_option maxRecDepth 100000 in
set_option maxHeartbeats 1000000 in
theorem makes_p (w : World) (N p : Nat) (f : Nat → Int) (pd B : List B2) (X : List Sd) (bl bb bt bs : Nat) (vs : K2 → Value) (h : Pk w N p f pd B X bl bb bt bs vs) {T : List K2} {B' : List B2} (hs : Snd T B' f) (b0 b1 b2 b3 : Int) (hw : wfB ((b0, b1), (b2, b3))) {v : Bool} (hv : v = true ↔ ((b0, b1), (b2, b3)) ∈ B ∧ gb ((b0, b1), (b2, b3)) = true) :
    Calls Try.prog 16 #[.pointer (some ⟨p, 0, none⟩), .agg #[.int .i64 b0, .int .i64 b1, .int .i64 b2, .int .i64 b3] ] w fun e w' => e = .returned (.bool (v || (inT f (b0, b1) && inT f (b2, b3)))) ∧ Below w.heap.size w w' := by
  have hse := fun W (hW : Below w.heap.size w W) => hasSeen_any W N p f pd B X bl bb bt bs vs (h.later hW) b0 b1 b2 b3 hw hv
  have h1 := fun W (hW : Below w.heap.size w W) => has_p W N p f pd B X bl bb bt bs vs (h.later hW) hs b0 b1 hw.1
  have h2 := fun W (hW : Below w.heap.size w W) => has_p W N p f pd B X bl bb bt bs vs (h.later hW) hs b2 b3 hw.2.2.1
  generalize inT f (b0, b1) = u1 at *
  generalize inT f (b2, b3) = u2 at *
  have hb1 : Below w.heap.size w (w.alloc (.cells #[.int .i64 b0, .int .i64 b1, .int .i64 b2, .int .i64 b3] 35)) := Rt.below1 _ _
  obtain ⟨x0, x1, x2, x3⟩ := boxed4 w (.int .i64 b0) (.int .i64 b1) (.int .i64 b2) (.int .i64 b3) 35
  clear h hs hw hv
  go_enter Try.func16, Try.ntmps16
  go_upto_region 1 with (fail)
  generalize w.alloc (.cells #[.int .i64 b0, .int .i64 b1, .int .i64 b2, .int .i64 b3] 35) = w1 at *
  obtain ⟨Q, hQ⟩ : ∃ Q, w.heap.size = Q := ⟨_, rfl⟩
  rw [hQ] at x0 x1 x2 x3 ⊢
  have HB : Hid (∀ W, Below w1.heap.size w1 W → Below w.heap.size w W) := fun W hW => Rt.Below.then hb1 hW
  have HB0 := fun W (h : Below w1.heap.size w1 W) => Rt.Below.then hb1 h
  clear hQ
  cases v with
  | true =>
    go_wp2_with (go_at_call 39; refine (hse _ hb1).mono ?_; rintro r ws ⟨rfl, hbs⟩)
    go_ret
    exact ⟨rfl, HB.out _ hbs⟩
  | false =>
    cases u1 with
    | false =>
      go_wp2_with (first | (go_at_call 39; refine (hse _ hb1).mono ?_; rintro r ws ⟨rfl, hbs⟩; have z0 := cell_later hbs x0; have z1 := cell_later hbs x1) | (go_at_call 14; refine (h1 _ (HB0 _ hbs)).mono ?_; rintro r wi ⟨rfl, hbi⟩))
      go_ret
      exact ⟨rfl, HB.out _ (Rt.Below.then hbs hbi)⟩
    | true =>
      go_wp2_with (first | (go_at_call 39; refine (hse _ hb1).mono ?_; rintro r ws ⟨rfl, hbs⟩; have z0 := cell_later hbs x0; have z1 := cell_later hbs x1; have z2 := cell_later hbs x2; have z3 := cell_later hbs x3) | (go_at_call 14; refine (h2 _ (HB0 _ (Rt.Below.then hbs hbi))).mono ?_; rintro r wj ⟨rfl, hbj⟩) | (go_at_call 14; refine (h1 _ (HB0 _ hbs)).mono ?_; rintro r wi ⟨rfl, hbi⟩; have z2 := cell_later hbi z2; have z3 := cell_later hbi z3))
      go_ret
      exact ⟨by cases u2 <;> rfl, HB.out _ (Rt.Below.then (Rt.Below.then hbs hbi) hbj)⟩
set_option maxRecDepth 100000 in
set_option maxHeartbeats 1000000 in
theorem makesX_p (w : World) (N p : Nat) (f : Nat → Int) (pd B : List B2) (X : List Sd) (bl bb bt bs : Nat) (vs : K2 → Value) (h : Pk w N p f pd B X bl bb bt bs vs) {T : List K2} {B' : List B2} (hs : Snd T B' f) (e0 k0 k1 : Int) (t : ByteArray) (hw : wX (e0, ((k0, k1), t))) {v : Bool} (hv : v = true ↔ (e0, ((k0, k1), t)) ∈ X ∧ gx (e0, ((k0, k1), t)) = true) :
    Calls Try.prog 18 #[.pointer (some ⟨p, 0, none⟩), .agg #[.int .i64 e0, .int .i64 k0, .int .i64 k1, .string t] ] w fun e w' => e = .returned (.bool (v || (gx (e0, ((k0, k1), t)) && inT f (k0, k1)))) ∧ Below w.heap.size w w' := by
  have hlk := fun (W : World) (hb : Below w.heap.size w W) => (h.txt.later hb).look sldT Try.underlying66 hw hv
  have hc2 := h.c2
  have h1 := fun W (hW : Below w.heap.size w W) => has_p W N p f pd B X bl bb bt bs vs (h.later hW) hs k0 k1 hw.2.1
  have hri := isRight_any e0 k0 k1 t
  have ht := hw.2.2.2
  dsimp only at ht
  have hri := fun W => hri W ht
  generalize inT f (k0, k1) = u2 at *
  generalize gx (e0, ((k0, k1), t)) = u1 at *
  have hb1 : Below w.heap.size w (w.alloc (.cells #[.int .i64 e0, .int .i64 k0, .int .i64 k1, .string t] 37)) := Rt.below1 _ _
  obtain ⟨x0, x1, x2, x3⟩ := boxed4 w (.int .i64 e0) (.int .i64 k0) (.int .i64 k1) (.string t) 37
  unfold xV at hlk
  clear h hw hv hs ht
  go_enter Try.func18, Try.ntmps18
  go_upto_region 1 with (fail)
  generalize w.alloc (.cells #[.int .i64 e0, .int .i64 k0, .int .i64 k1, .string t] 37) = w1 at *
  obtain ⟨Q, hQ⟩ : ∃ Q, w.heap.size = Q := ⟨_, rfl⟩
  rw [hQ] at x0 x1 x2 x3 ⊢
  have q0 := fun W (h : Below w1.heap.size w1 W) => cell_later h x0
  have q1 := fun W (h : Below w1.heap.size w1 W) => cell_later h x1
  have q2 := fun W (h : Below w1.heap.size w1 W) => cell_later h x2
  have q3 := fun W (h : Below w1.heap.size w1 W) => cell_later h x3
  have qp := fun W (h : Below w1.heap.size w1 W) => cell_later (Rt.Below.then hb1 h) hc2
  have ql := fun W (h : Below w1.heap.size w1 W) => hlk W (Rt.Below.then hb1 h)
  have HB : Hid (∀ W, Below w1.heap.size w1 W → Below w.heap.size w W) := fun W hW => Rt.Below.then hb1 hW
  have HB0 := fun W (h : Below w1.heap.size w1 W) => Rt.Below.then hb1 h
  have hS0 : Below w1.heap.size w1 w1.drew := Below.drew (Below.refl _ _)
  clear hb1 hQ x0 x1 x2 x3 hc2 hlk
  refine wp_region_held_drew (S := fun W => Below w1.heap.size w1 W) (by kernel_rfl) hS0 (fun hHeld => ?_)
  refine opT 0 8 (.move (.tmp 0)) (.pointer (some ⟨p, 0, none⟩)) rfl ?_
  go_frame
  refine opT 1 9 (.nilCheck (.tmp 8)) (.pointer (some ⟨p, 0, none⟩)) rfl ?_
  go_frame
  refine opT 2 10 (.fieldAddr 69 (.tmp 9) 2) (.pointer (some ⟨p, 2, none⟩)) rfl ?_
  go_frame
  refine opR 3 11 (.load 66 (.tmp 10)) (.map (some bt)) rfl (fun w hSw => by have c := qp w hSw; go_simp) ?_
  go_frame
  refine opR 4 12 (.load 37 (.tmp 3)) (.agg #[.int .i64 e0, .int .i64 k0, .int .i64 k1, .string t]) rfl (fun w hSw => by have c0 := q0 w hSw; have c1 := q1 w hSw; have c2 := q2 w hSw; have c3 := q3 w hSw; go_simp) ?_
  go_frame
  refine opR 5 13 (.lookup 66 (.tmp 11) (.tmp 12) true) (.tuple #[.agg #[], .bool v]) rfl (fun w hSw => by have e := ql w hSw; go_simp) ?_
  go_frame
  refine opT 6 7 (.move (.tmp 13)) (.tuple #[.agg #[], .bool v]) rfl ?_
  go_frame
  refine opT 7 14 (.extract (.tmp 7) 0) (.agg #[]) rfl ?_
  go_frame
  refine opT 8 15 (.extract (.tmp 7) 1) (.bool v) rfl ?_
  go_frame
  refine wpAnyH_ready (rs := [9]) (by kernel_rfl) (by simp) ?_
  refine AllReadyH.cons rfl (fun K hK => ?_) AllReadyH.nil
  go_simp
  refine hK.out _ _ (Rt.Below.then hHeld (Rt.below1 _ _)) (fun hHeld2 => ?_)
  clear hK K
  try go_frame
  refine wpAnyH_ready (rs := [10]) (by kernel_rfl) (by simp) ?_
  refine AllReadyH.cons rfl (fun K hK => ?_) AllReadyH.nil
  go_simp
  refine hK.out _ _ hHeld2 (fun hHeld3 => ?_)
  clear hK K
  try go_frame
  refine opT 11 6 (.assign (.tmp 15)) (.bool v) rfl ?_
  go_frame
  refine wpAnyH_done (by kernel_rfl) ?_ _
  cases v with
  | true =>
    go_wp2_with fail
    go_ret
    exact ⟨rfl, HB.out _ hHeld3⟩
  | false =>
    cases u1 with
    | false =>
      go_wp2_with (go_at_call 41; refine (hri _).mono ?_; rintro r ws ⟨rfl, hbs⟩)
      go_ret
      exact ⟨rfl, HB.out _ (Rt.Below.then hHeld3 hbs)⟩
    | true =>
      go_wp2_with (first | (go_at_call 41; refine (hri _).mono ?_; rintro r ws ⟨rfl, hbs⟩; have z1 := q1 _ (Rt.Below.then hHeld3 hbs); have z2 := q2 _ (Rt.Below.then hHeld3 hbs)) | (go_at_call 14; refine (h1 _ (HB0 _ (Rt.Below.then hHeld3 hbs))).mono ?_; rintro r wi ⟨rfl, hbi⟩))
      go_ret
      exact ⟨by cases u2 <;> rfl, HB.out _ (Rt.Below.then (Rt.Below.then hHeld3 hbs) hbi)⟩
end Go.Proofs.Ytompgoaogomoaaa.Kn
