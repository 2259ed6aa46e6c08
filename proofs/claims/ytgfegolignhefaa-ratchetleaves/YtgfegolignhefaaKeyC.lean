/- Contracts: Gives and Compare of both. -/
import Derived.Test.YtgfegolignhefaaKeyA
namespace Go.Proofs.Ytgfegolignhefaa
open Go.RowKit

def gv (b s c t : Int) : Bool := gd b s && (gd c t && (b == c && decide (s ≤ t)))
theorem rGives_any (b s c t : Int) (w : World) :
    Calls Try.prog 16 #[.agg #[.int .i64 b, .int .i64 s], .agg #[.int .i64 c, .int .i64 t]] w fun e w' => e = .returned (.bool (gv b s c t)) ∧ Below w.heap.size w w' := by
  unfold gv
  cases hg : gd b s
  · go_enter Try.func16, Try.ntmps16
    go_wp2_with (go_at_call 23; refine (rGood_any _ _ _).mono ?_; rintro e w' ⟨rfl, rfl⟩)
    go_ret
    exact ⟨ret_bool (by simp), Below.more (Below.more (below1 _ _) _) _⟩
  · cases hk : gd c t
    · go_enter Try.func16, Try.ntmps16
      go_wp2_with (go_at_call 23; refine (rGood_any _ _ _).mono ?_; rintro e w' ⟨rfl, rfl⟩)
      go_ret
      exact ⟨ret_bool (by simp), Below.more (Below.more (Below.more (below1 _ _) _) _) _⟩
    · cases hb : (b == c)
      · go_enter Try.func16, Try.ntmps16
        go_wp2_with (go_at_call 23; refine (rGood_any _ _ _).mono ?_; rintro e w' ⟨rfl, rfl⟩)
        go_ret
        exact ⟨ret_bool (by simp), Below.more (Below.more (Below.more (below1 _ _) _) _) _⟩
      · go_enter Try.func16, Try.ntmps16
        go_wp2_with (go_at_call 23; refine (rGood_any _ _ _).mono ?_; rintro e w' ⟨rfl, rfl⟩)
        go_ret
        exact ⟨ret_bool (by simp), Below.more (Below.more (Below.more (below1 _ _) _) _) _⟩

def cm (b s c t : Int) : Int := if b < c then -1 else if c < b then 1 else if s < t then -1 else if t < s then 1 else 0
end Go.Proofs.Ytgfegolignhefaa
