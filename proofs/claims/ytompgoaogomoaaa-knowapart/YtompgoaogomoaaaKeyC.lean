/- Contracts: Gives and Compare of both. -/
import Derived.Test.YtompgoaogomoaaaKeyA
namespace Go.Proofs.Ytompgoaogomoaaa.Rt
open Go.RowKit

def gv (b s c t : Int) : Bool := gd b s && (gd c t && (b == c && decide (s ≤ t)))
theorem gives_any (b s c t : Int) (w : World) :
    Calls Try.prog 38 #[.agg #[.int .i64 b, .int .i64 s], .agg #[.int .i64 c, .int .i64 t]] w fun e w' => e = .returned (.bool (gv b s c t)) ∧ Below w.heap.size w w' := by
  unfold gv
  cases hg : gd b s
  · go_enter Try.func38, Try.ntmps38
    go_wp2_with (go_at_call 37; refine (good_any _ _ _).mono ?_; rintro e w' ⟨rfl, rfl⟩)
    go_ret
    exact ⟨ret_bool (by simp), Below.more (Below.more (below1 _ _) _) _⟩
  · cases hk : gd c t
    · go_enter Try.func38, Try.ntmps38
      go_wp2_with (go_at_call 37; refine (good_any _ _ _).mono ?_; rintro e w' ⟨rfl, rfl⟩)
      go_ret
      exact ⟨ret_bool (by simp), Below.more (Below.more (Below.more (below1 _ _) _) _) _⟩
    · cases hb : (b == c)
      · go_enter Try.func38, Try.ntmps38
        go_wp2_with (go_at_call 37; refine (good_any _ _ _).mono ?_; rintro e w' ⟨rfl, rfl⟩)
        go_ret
        exact ⟨ret_bool (by simp), Below.more (Below.more (Below.more (below1 _ _) _) _) _⟩
      · go_enter Try.func38, Try.ntmps38
        go_wp2_with (go_at_call 37; refine (good_any _ _ _).mono ?_; rintro e w' ⟨rfl, rfl⟩)
        go_ret
        exact ⟨ret_bool (by simp), Below.more (Below.more (Below.more (below1 _ _) _) _) _⟩
theorem rGives_any (b s c t : Int) (w : World) :
    Calls Try.prog 26 #[.agg #[.int .i64 b, .int .i64 s], .agg #[.int .i64 c, .int .i64 t]] w fun e w' => e = .returned (.bool (gv b s c t)) ∧ Below w.heap.size w w' := by
  unfold gv
  cases hg : gd b s
  · go_enter Try.func26, Try.ntmps26
    go_wp2_with (go_at_call 28; refine (rGood_any _ _ _).mono ?_; rintro e w' ⟨rfl, rfl⟩)
    go_ret
    exact ⟨ret_bool (by simp), Below.more (Below.more (below1 _ _) _) _⟩
  · cases hk : gd c t
    · go_enter Try.func26, Try.ntmps26
      go_wp2_with (go_at_call 28; refine (rGood_any _ _ _).mono ?_; rintro e w' ⟨rfl, rfl⟩)
      go_ret
      exact ⟨ret_bool (by simp), Below.more (Below.more (Below.more (below1 _ _) _) _) _⟩
    · cases hb : (b == c)
      · go_enter Try.func26, Try.ntmps26
        go_wp2_with (go_at_call 28; refine (rGood_any _ _ _).mono ?_; rintro e w' ⟨rfl, rfl⟩)
        go_ret
        exact ⟨ret_bool (by simp), Below.more (Below.more (Below.more (below1 _ _) _) _) _⟩
      · go_enter Try.func26, Try.ntmps26
        go_wp2_with (go_at_call 28; refine (rGood_any _ _ _).mono ?_; rintro e w' ⟨rfl, rfl⟩)
        go_ret
        exact ⟨ret_bool (by simp), Below.more (Below.more (Below.more (below1 _ _) _) _) _⟩

def cm (b s c t : Int) : Int := if b < c then -1 else if c < b then 1 else if s < t then -1 else if t < s then 1 else 0
theorem compare_any (b s c t : Int) (w : World) :
    Calls Try.prog 47 #[.agg #[.int .i64 b, .int .i64 s], .agg #[.int .i64 c, .int .i64 t]] w fun e w' => e = .returned (.int .i64 (cm b s c t)) ∧ w' = (w.alloc (.cells #[.int .i64 b, .int .i64 s] 33)).alloc (.cells #[.int .i64 c, .int .i64 t] 33) := by
  unfold cm
  by_cases h1 : b < c
  · rw [if_pos h1]
    have e1 : (b == c) = false := by simp; omega
    go_enter Try.func47, Try.ntmps47
    go_wp2
    go_ret
    exact ⟨rfl, rfl⟩
  · rw [if_neg h1]
    have h1' : decide (b < c) = false := by simpa using h1
    by_cases h2 : c < b
    · rw [if_pos h2]
      have e1 : (b == c) = false := by simp; omega
      go_enter Try.func47, Try.ntmps47
      go_wp2
      go_ret
      exact ⟨rfl, rfl⟩
    · rw [if_neg h2]
      obtain rfl : b = c := by omega
      by_cases h3 : s < t
      · rw [if_pos h3]
        have e1 : (s == t) = false := by simp; omega
        go_enter Try.func47, Try.ntmps47
        go_wp2
        go_ret
        exact ⟨rfl, rfl⟩
      · rw [if_neg h3]
        by_cases h4 : t < s
        · rw [if_pos h4]
          have e1 : (s == t) = false := by simp; omega
          go_enter Try.func47, Try.ntmps47
          go_wp2
          go_ret
          exact ⟨rfl, rfl⟩
        · rw [if_neg h4]
          obtain rfl : s = t := by omega
          go_enter Try.func47, Try.ntmps47
          go_wp2
          go_ret
          exact ⟨rfl, rfl⟩
end Go.Proofs.Ytompgoaogomoaaa.Rt
