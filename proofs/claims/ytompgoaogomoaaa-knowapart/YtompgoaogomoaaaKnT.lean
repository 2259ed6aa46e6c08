/- The program's know in memory; its small functions. -/
import Derived.Test.YtompgoaogomoaaaHd
import Derived.Test.YtompgoaogomoaaaKnS
import Derived.Test.YtompgoaogomoaaaKeyC
import Derived.Test.YtompgoaogomoaaaKnL
namespace Go.Proofs.Ytompgoaogomoaaa.Kn
open Go.RowKit Go.Maps
open Rt (Gd gd gd_yes gd_no good_any gives_any)
set_option linter.unusedVariables false
set_option linter.unusedSimpArgs false

structure Pk (w : World) (N p : Nat) (f : Nat → Int) (pd : List B2) (B : List B2) (X : List Sd) (bl bb bt bs : Nat) (vs : K2 → Value) : Prop where
  blk : w.heap[p]? = some (.cells #[.map (some bl), .map (some bb), .map (some bt), .map (some bs)] 69 (0, 0))
  lst : Lm w bl f
  box : Us 35 kB wfB w bb B.length (fun c => c ∈ B ∧ gb c = true)
  txt : Us 37 kX wX w bt X.length (fun c => c ∈ X ∧ gx c = true)
  shm : Sm w N bs B.length pd vs
  ne : bl ≠ bb ∧ bl ≠ bt ∧ bl ≠ bs ∧ bb ≠ bt ∧ bb ≠ bs ∧ bt ≠ bs
  ge : N ≤ p ∧ N ≤ bl ∧ N ≤ bb ∧ N ≤ bt ∧ N ≤ bs
def Fp (p bl bb bt bs : Nat) (vs : K2 → Value) (k : Nat) : Prop := k = p ∨ k = bl ∨ k = bb ∨ k = bt ∨ k = bs ∨ ∃ u, (vs u).ownBlock = some k
section
variable {w w' : World} {N p : Nat} {f : Nat → Int} {pd B : List B2} {X : List Sd} {bl bb bt bs : Nat} {vs : K2 → Value} {F : Nat → Prop}
theorem Pk.c0 (h : Pk w N p f pd B X bl bb bt bs vs) : w.cell? ⟨p, 0, none⟩ = some (.map (some bl)) := cell_of_row _ _ 0 _ _ _ h.blk
theorem Pk.c1 (h : Pk w N p f pd B X bl bb bt bs vs) : w.cell? ⟨p, 1, none⟩ = some (.map (some bb)) := cell_of_row _ _ 1 _ _ _ h.blk
theorem Pk.c2 (h : Pk w N p f pd B X bl bb bt bs vs) : w.cell? ⟨p, 2, none⟩ = some (.map (some bt)) := cell_of_row _ _ 2 _ _ _ h.blk
theorem Pk.c3 (h : Pk w N p f pd B X bl bb bt bs vs) : w.cell? ⟨p, 3, none⟩ = some (.map (some bs)) := cell_of_row _ _ 3 _ _ _ h.blk
theorem Pk.lt (h : Pk w N p f pd B X bl bb bt bs vs) : p < w.heap.size := (Array.getElem?_eq_some_iff.1 h.blk).1
theorem no_map {k : Nat} {cs : Array Value} {t : TypeId} {fr : Nat × Nat} (h : w.heap[k]? = some (.cells cs t fr)) {b : Nat} (hm : ∃ es cl, w.heap[b]? = some (.map es cl)) : k ≠ b := fun e => by
  obtain ⟨es, cl, q⟩ := hm
  rw [← e, h] at q
  cases q
theorem Pk.pne (h : Pk w N p f pd B X bl bb bt bs vs) : p ≠ bl ∧ p ≠ bb ∧ p ≠ bt ∧ p ≠ bs := ⟨no_map h.blk h.lst.isMap, no_map h.blk h.box.isMap, no_map h.blk h.txt.isMap, no_map h.blk h.shm.isMap⟩
theorem Pk.rne (h : Pk w N p f pd B X bl bb bt bs vs) {u : K2} {k : Nat} (hk : (vs u).ownBlock = some k) : k ≠ p ∧ k ≠ bl ∧ k ≠ bb ∧ k ≠ bt ∧ k ≠ bs ∧ N ≤ k ∧ k < w.heap.size := by
  obtain ⟨q1, q2, cur, q3⟩ := own_type (h.shm.row u) hk
  refine ⟨fun e => ?_, no_map q3 h.lst.isMap, no_map q3 h.box.isMap, no_map q3 h.txt.isMap, no_map q3 h.shm.isMap, q1, q2⟩
  have := h.blk
  rw [← e, q3] at this
  simp at this
theorem Pk.inHeap (h : Pk w N p f pd B X bl bb bt bs vs) : ∀ k, Fp p bl bb bt bs vs k → N ≤ k ∧ k < w.heap.size := fun k hk => by
  rcases hk with rfl | rfl | rfl | rfl | rfl | ⟨u, hu⟩
  · exact ⟨h.ge.1, h.lt⟩
  · exact ⟨h.ge.2.1, h.lst.lt⟩
  · exact ⟨h.ge.2.2.1, h.box.lt⟩
  · exact ⟨h.ge.2.2.2.1, h.txt.lt⟩
  · exact ⟨h.ge.2.2.2.2, h.shm.lt⟩
  · obtain ⟨_, _, _, _, _, q1, q2⟩ := h.rne hu
    exact ⟨q1, q2⟩
theorem Pk.kept (h : Pk w N p f pd B X bl bb bt bs vs) (hk : Kept F w w') (hF : ∀ k, Fp p bl bb bt bs vs k → ¬ F k) : Pk w' N p f pd B X bl bb bt bs vs :=
  ⟨(hk.block p h.lt (hF p (.inl rfl))).trans h.blk, h.lst.kept hk (hF _ (.inr (.inl rfl))), h.box.kept hk (hF _ (.inr (.inr (.inl rfl)))), h.txt.kept hk (hF _ (.inr (.inr (.inr (.inl rfl))))),
    h.shm.kept hk (hF _ (.inr (.inr (.inr (.inr (.inl rfl)))))) fun u k e => hF k (.inr (.inr (.inr (.inr (.inr ⟨u, e⟩))))), h.ne, h.ge⟩
theorem Pk.later (h : Pk w N p f pd B X bl bb bt bs vs) (hb : Below w.heap.size w w') : Pk w' N p f pd B X bl bb bt bs vs := h.kept (F := fun _ => False) (Kept.ofBelow hb) fun _ _ e => e
end
theorem isOwn_any (x : Int) (w : World) : Calls Try.prog 36 #[.int .i64 x] w fun e w' => e = .returned (.bool (decide (32768 ≤ x))) ∧ w' = w := by
  by_cases h : 32768 ≤ x
  · have d : decide (32768 ≤ x) = true := decide_eq_true h
    rw [d]
    go_enter Try.func36, Try.ntmps36
    go_wp2
    go_ret
    exact ⟨by first | rfl | (rw [d]), rfl⟩
  · have d : decide (32768 ≤ x) = false := decide_eq_false h
    rw [d]
    go_enter Try.func36, Try.ntmps36
    go_wp2
    go_ret
    exact ⟨by first | rfl | (rw [d]), rfl⟩
theorem goodBox_any (a b c d : Int) (w : World) : Calls Try.prog 53 #[.agg #[.int .i64 a, .int .i64 b, .int .i64 c, .int .i64 d] ] w fun e w' => e = .returned (.bool (gb ((a, b), (c, d)))) ∧ Below w.heap.size w w' := by
  have HG : Hid (gb ((a, b), (c, d)) = (gd a b && gd c d)) := rfl
  rw [HG.out]
  have h1 := good_any a b
  have h2 := good_any c d
  generalize gd a b = x at *
  generalize gd c d = y at *
  clear HG
  cases x
  · go_enter Try.func53, Try.ntmps53
    go_wp2_with (go_at_call 37; refine (h1 _).mono ?_; rintro e w' ⟨rfl, rfl⟩)
    go_ret
    exact ⟨rfl, Rt.Below.more (Rt.below1 _ _) _⟩
  · go_enter Try.func53, Try.ntmps53
    go_wp2_with (go_at_call 37; first | (refine (h1 _).mono ?_; clear h1; rintro e w' ⟨rfl, rfl⟩) | (refine (h2 _).mono ?_; rintro e w' ⟨rfl, rfl⟩))
    go_ret
    exact ⟨rfl, Rt.Below.more (Rt.Below.more (Rt.below1 _ _) _) _⟩
set_option maxRecDepth 100000 in
set_option maxHeartbeats 1000000 in
theorem hasSeen_any (w : World) (N p : Nat) (f : Nat → Int) (pd B : List B2) (X : List Sd) (bl bb bt bs : Nat) (vs : K2 → Value) (h : Pk w N p f pd B X bl bb bt bs vs) (b0 b1 b2 b3 : Int) (hw : wfB ((b0, b1), (b2, b3))) {v : Bool} (hv : v = true ↔ ((b0, b1), (b2, b3)) ∈ B ∧ gb ((b0, b1), (b2, b3)) = true) :
    Calls Try.prog 39 #[.pointer (some ⟨p, 0, none⟩), .agg #[.int .i64 b0, .int .i64 b1, .int .i64 b2, .int .i64 b3] ] w fun e w' => e = .returned (.bool v) ∧ Below w.heap.size w w' := by
  have hlk := fun (W : World) (hb : Below w.heap.size w W) => (h.box.later hb).look boxT Try.underlying65 hw hv
  have hc1 := h.c1
  have hb1 : Below w.heap.size w (w.alloc (.cells #[.int .i64 b0, .int .i64 b1, .int .i64 b2, .int .i64 b3] 35)) := Rt.below1 _ _
  obtain ⟨x0, x1, x2, x3⟩ := boxed4 w (.int .i64 b0) (.int .i64 b1) (.int .i64 b2) (.int .i64 b3) 35
  unfold bV at hlk
  clear h hw hv
  go_enter Try.func39, Try.ntmps39
  go_upto_region 1 with (fail)
  generalize w.alloc (.cells #[.int .i64 b0, .int .i64 b1, .int .i64 b2, .int .i64 b3] 35) = w1 at *
  obtain ⟨Q, hQ⟩ : ∃ Q, w.heap.size = Q := ⟨_, rfl⟩
  rw [hQ] at x0 x1 x2 x3 ⊢
  have q0 := fun W (h : Below w1.heap.size w1 W) => cell_later h x0
  have q1 := fun W (h : Below w1.heap.size w1 W) => cell_later h x1
  have q2 := fun W (h : Below w1.heap.size w1 W) => cell_later h x2
  have q3 := fun W (h : Below w1.heap.size w1 W) => cell_later h x3
  have qp := fun W (h : Below w1.heap.size w1 W) => cell_later (Rt.Below.then hb1 h) hc1
  have ql := fun W (h : Below w1.heap.size w1 W) => hlk W (Rt.Below.then hb1 h)
  have HB : Hid (∀ W, Below w1.heap.size w1 W → Below w.heap.size w W) := fun W hW => Rt.Below.then hb1 hW
  have hS0 : Below w1.heap.size w1 w1.drew := Below.drew (Below.refl _ _)
  clear hb1 hQ x0 x1 x2 x3 hc1 hlk
  refine wp_region_held_drew (S := fun W => Below w1.heap.size w1 W) (by kernel_rfl) hS0 (fun hHeld => ?_)
  refine opT 0 8 (.move (.tmp 0)) (.pointer (some ⟨p, 0, none⟩)) rfl ?_
  go_frame
  refine opT 1 9 (.nilCheck (.tmp 8)) (.pointer (some ⟨p, 0, none⟩)) rfl ?_
  go_frame
  refine opT 2 10 (.fieldAddr 69 (.tmp 9) 1) (.pointer (some ⟨p, 1, none⟩)) rfl ?_
  go_frame
  refine opR 3 11 (.load 65 (.tmp 10)) (.map (some bb)) rfl (fun w hSw => by have c := qp w hSw; go_simp) ?_
  go_frame
  refine opR 4 12 (.load 35 (.tmp 3)) (.agg #[.int .i64 b0, .int .i64 b1, .int .i64 b2, .int .i64 b3]) rfl (fun w hSw => by have c0 := q0 w hSw; have c1 := q1 w hSw; have c2 := q2 w hSw; have c3 := q3 w hSw; go_simp) ?_
  go_frame
  refine opR 5 13 (.lookup 65 (.tmp 11) (.tmp 12) true) (.tuple #[.agg #[], .bool v]) rfl (fun w hSw => by have e := ql w hSw; go_simp) ?_
  go_frame
  refine opT 6 7 (.move (.tmp 13)) (.tuple #[.agg #[], .bool v]) rfl ?_
  go_frame
  refine opT 7 14 (.extract (.tmp 7) 0) (.agg #[]) rfl ?_
  go_frame
  refine opT 8 15 (.extract (.tmp 7) 1) (.bool v) rfl ?_
  go_frame
  refine wpAnyH_ready (rs := [9]) (by kernel_rfl) (by simp) ?_
  refine AllReadyH.cons rfl (fun K hK => ?_) AllReadyH.nil
  go_simp
  refine hK.out _ _ (Rt.Below.then hHeld (Rt.below1 _ _)) (fun hHeld2 => ?_)
  clear hK K
  try go_frame
  refine wpAnyH_ready (rs := [10]) (by kernel_rfl) (by simp) ?_
  refine AllReadyH.cons rfl (fun K hK => ?_) AllReadyH.nil
  go_simp
  refine hK.out _ _ hHeld2 (fun hHeld3 => ?_)
  clear hK K
  try go_frame
  refine opT 11 6 (.assign (.tmp 15)) (.bool v) rfl ?_
  go_frame
  refine wpAnyH_done (by kernel_rfl) ?_ _
  go_wp2_with fail
  go_ret
  exact ⟨rfl, HB.out _ hHeld3⟩
end Go.Proofs.Ytompgoaogomoaaa.Kn
