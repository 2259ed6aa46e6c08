/- Contracts: the document's Ahead; Gives and Compare of both. -/
import Derived.Test.YtompgoaogomoaaaKeyA
import Derived.LoopTactic
namespace Go.Proofs.Ytompgoaogomoaaa.Rt
open Go.RowKit

theorem rAhead_bad (b s n : Int) (h : ¬ Gd b s) (w : World) :
    Calls Try.prog 24 #[.agg #[.int .i64 b, .int .i64 s], .int .i64 n] w fun e w' => e = .returned (.tuple #[.agg #[.int .i64 0, .int .i64 0], .int .i64 3]) ∧ Below w.heap.size w w' := by
  go_enter Try.func24, Try.ntmps24
  go_wp2_with (go_at_call 28; refine (rGood_no _ _ h _).mono ?_; rintro e w' ⟨rfl, rfl⟩)
  exact bodyPost_ret (v := .tuple #[.agg #[.int .i64 0, .int .i64 0], .int .i64 3]) (by simp [results, Try.results24, go_sem]) rfl ⟨rfl, Below.more (Below.more (below1 _ _) _) _⟩
theorem rAhead_off (b s n : Int) (h : Gd b s) (hn : n < 0 ∨ 255 < n) (w : World) :
    Calls Try.prog 24 #[.agg #[.int .i64 b, .int .i64 s], .int .i64 n] w fun e w' => e = .returned (.tuple #[.agg #[.int .i64 0, .int .i64 0], .int .i64 4]) ∧ Below w.heap.size w w' := by
  by_cases h0 : n < 0
  · clear hn
    go_enter Try.func24, Try.ntmps24
    go_wp2_with (go_at_call 28; refine (rGood_yes _ _ h _).mono ?_; rintro e w' ⟨rfl, rfl⟩)
    exact bodyPost_ret (v := .tuple #[.agg #[.int .i64 0, .int .i64 0], .int .i64 4]) (by simp [results, Try.results24, go_sem]) rfl ⟨rfl, Below.more (Below.more (below1 _ _) _) _⟩
  · have h1 : 255 < n := by omega
    clear hn
    go_enter Try.func24, Try.ntmps24
    go_wp2_with (go_at_call 28; refine (rGood_yes _ _ h _).mono ?_; rintro e w' ⟨rfl, rfl⟩)
    exact bodyPost_ret (v := .tuple #[.agg #[.int .i64 0, .int .i64 0], .int .i64 4]) (by simp [results, Try.results24, go_sem]) rfl ⟨rfl, Below.more (Below.more (below1 _ _) _) _⟩
set_option maxHeartbeats 1000000 in
theorem rAhead_in (b s n : Int) (h : Gd b s) (h0 : 0 ≤ n) (h1 : n ≤ 255) (w : World) :
    Calls Try.prog 24 #[.agg #[.int .i64 b, .int .i64 s], .int .i64 n] w fun e w' => (if s + n ≤ 255 then e = .returned (.tuple #[.agg #[.int .i64 b, .int .i64 (s + n)], .int .i64 0]) else e = .returned (.tuple #[.agg #[.int .i64 0, .int .i64 0], .int .i64 4])) ∧ Below w.heap.size w w' := by
  have h4 := h.2.2.2
  have h3 := h.2.2.1
  go_enter Try.func24, Try.ntmps24
  go_wp2_with (go_at_call 28; refine (rGood_yes _ _ h _).mono ?_; rintro e w' ⟨rfl, rfl⟩)
  go_loopw [6] (fun i wr => ∃ k : Int, 0 ≤ k ∧ k ≤ n ∧ i = .int .i64 k ∧ wr = ((w.alloc (.cells #[.int .i64 b, .int .i64 (s + k)] 33)).alloc (.cells #[.int .i64 0, .int .i64 0] 33)).alloc (.cells #[.int .i64 b, .int .i64 s] 33)) (fun i _ => (n - intOf i).toNat)
  case atStart => exact ⟨0, by omega, by omega, rfl, by simp⟩
  case round =>
    obtain ⟨k, hk0, hk1, rfl, rfl⟩ := hrel
    by_cases hk : k < n
    · go_wp2
      go_roundw
      case rel => exact ⟨k + 1, by omega, by omega, by go_num, by simp [Int.add_assoc]⟩
      case measure => simp [intOf]; omega
    · obtain rfl : k = n := by omega
      by_cases hg : s + k ≤ 255
      · have hG : Gd b (s + k) := ⟨h.1, h.2.1, by omega, hg⟩
        go_wp2_with (go_at_call 28; refine (rGood_yes _ _ hG _).mono ?_; rintro e w' ⟨rfl, rfl⟩)
        exact bodyPost_ret (v := .tuple #[.agg #[.int .i64 b, .int .i64 (s + k)], .int .i64 0]) (by simp [results, Try.results24, go_sem]) rfl ⟨by first | rfl | rw [if_pos hg], Below.more (Below.more (Below.more (below1 _ _) _) _) _⟩
      · have hG : ¬ Gd b (s + k) := fun hh => hg hh.2.2.2
        go_wp2_with (go_at_call 28; refine (rGood_no _ _ hG _).mono ?_; rintro e w' ⟨rfl, rfl⟩)
        exact bodyPost_ret (v := .tuple #[.agg #[.int .i64 0, .int .i64 0], .int .i64 4]) (by simp [results, Try.results24, go_sem]) rfl ⟨by first | rfl | rw [if_neg hg], Below.more (Below.more (Below.more (below1 _ _) _) _) _⟩
end Go.Proofs.Ytompgoaogomoaaa.Rt
