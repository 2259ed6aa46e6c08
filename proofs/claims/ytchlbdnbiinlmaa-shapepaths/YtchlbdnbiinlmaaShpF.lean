/- Contracts of the document's answers: digits and paths. -/
import Derived.Test.YtchlbdnbiinlmaaShpE
namespace Go.Proofs.Ytchlbdnbiinlmaa
open Go.RowKit

theorem rDigits_yes (s : Int) (h0 : 0 ≤ s) (h1 : s < 64) (w : World) :
    Calls Try.prog 25 #[.int .i64 s] w fun e w' => e = .returned (.tuple #[.agg #[.int .u8 (s / 16), .int .u8 (s / 4 % 4), .int .u8 (s % 4)], .bool true]) ∧ Below w.heap.size w w' := by
  go_enter Try.func25, Try.ntmps25
  go_wp2_with fail
  refine wp_loop_rounds 4 ?_
  rw [rounds_succ]; go_wp2
  rw [rounds_succ]; go_wp2
  rw [rounds_succ]; go_wp2
  rw [rounds_succ]; go_wp2
  refine bodyPost_ret (v := .tuple #[.agg #[.int .u8 (s / 16), .int .u8 (s / 4 % 4), .int .u8 (s % 4)], .bool true]) ?_ rfl ⟨rfl, ?_⟩
  · simp [results, Try.results25, go_sem]
    omega
  · exact ((Below.refl _ _).alloc (Nat.le_refl _) _).alloc (by simp) _
theorem rDigits_no (s : Int) (h : s < 0 ∨ 64 ≤ s) (w : World) :
    Calls Try.prog 25 #[.int .i64 s] w fun e w' => e = .returned (.tuple #[.agg #[.int .u8 0, .int .u8 0, .int .u8 0], .bool false]) ∧ Below w.heap.size w w' := by
  by_cases h0 : s < 0
  · clear h
    go_enter Try.func25, Try.ntmps25
    go_wp2
    exact bodyPost_ret (v := .tuple #[.agg #[.int .u8 0, .int .u8 0, .int .u8 0], .bool false]) (by simp [results, Try.results25, go_sem]) rfl ⟨rfl, ((Below.refl _ _).alloc (Nat.le_refl _) _).alloc (by simp) _⟩
  · have h1 : 64 ≤ s := by omega
    clear h
    go_enter Try.func25, Try.ntmps25
    go_wp2
    exact bodyPost_ret (v := .tuple #[.agg #[.int .u8 0, .int .u8 0, .int .u8 0], .bool false]) (by simp [results, Try.results25, go_sem]) rfl ⟨rfl, ((Below.refl _ _).alloc (Nat.le_refl _) _).alloc (by simp) _⟩

theorem rParent_yes (v : Int) (h0 : 1 ≤ v) (h1 : v < 85) (w : World) :
    Calls Try.prog 13 #[.int .i64 v] w fun e w' => e = .returned (.int .i64 ((v - 1) / 4)) ∧ w' = w := by
  rw [← par_yes h0 h1]; exact rParent_any v w
theorem rLeaf_yes (v : Int) (h0 : 0 ≤ v) (h1 : v < 64) (w : World) :
    Calls Try.prog 21 #[.int .i64 v] w fun e w' => e = .returned (.int .i64 (21 + v)) ∧ w' = w := by
  rw [← lef_yes h0 h1]; exact rLeaf_any v w
theorem rLeaf_no (v : Int) (h : v < 0 ∨ 64 ≤ v) (w : World) :
    Calls Try.prog 21 #[.int .i64 v] w fun e w' => e = .returned (.int .i64 (-1)) ∧ w' = w := by
  rw [← lef_no h]; exact rLeaf_any v w

theorem rPath_yes (s : Int) (h0 : 0 ≤ s) (h1 : s < 64) (w : World) :
    Calls Try.prog 23 #[.int .i64 s] w fun e w' => e = .returned (.tuple #[.agg #[.int .i64 (5 + s / 4), .int .i64 (1 + s / 16), .int .i64 0], .bool true]) ∧ Below w.heap.size w w' := by
  go_enter Try.func23, Try.ntmps23
  go_wp2_with (go_at_call 21; refine (rLeaf_yes _ (by omega) (by omega) _).mono ?_; rintro e w' ⟨rfl, rfl⟩)
  refine wp_loop_rounds 4 ?_
  rw [rounds_succ]; go_wp2_with (go_at_call 13; refine (rParent_yes _ (by omega) (by omega) _).mono ?_; rintro e w' ⟨rfl, rfl⟩)
  rw [rounds_succ]; go_wp2_with (go_at_call 13; refine (rParent_yes _ (by omega) (by omega) _).mono ?_; rintro e w' ⟨rfl, rfl⟩)
  rw [rounds_succ]; go_wp2_with (go_at_call 13; refine (rParent_yes _ (by omega) (by omega) _).mono ?_; rintro e w' ⟨rfl, rfl⟩)
  rw [rounds_succ]; go_wp2
  refine bodyPost_ret (v := .tuple #[.agg #[.int .i64 (5 + s / 4), .int .i64 (1 + s / 16), .int .i64 0], .bool true]) ?_ rfl ⟨rfl, ?_⟩
  · simp [results, Try.results23, go_sem]
    omega
  · exact ((Below.refl _ _).alloc (Nat.le_refl _) _).alloc (by simp) _
theorem rPath_no (s : Int) (h : s < 0 ∨ 64 ≤ s) (w : World) :
    Calls Try.prog 23 #[.int .i64 s] w fun e w' => e = .returned (.tuple #[.agg #[.int .i64 0, .int .i64 0, .int .i64 0], .bool false]) ∧ Below w.heap.size w w' := by
  go_enter Try.func23, Try.ntmps23
  go_wp2_with (go_at_call 21; refine (rLeaf_no _ h _).mono ?_; rintro e w' ⟨rfl, rfl⟩)
  exact bodyPost_ret (v := .tuple #[.agg #[.int .i64 0, .int .i64 0, .int .i64 0], .bool false]) (by simp [results, Try.results23, go_sem]) rfl ⟨rfl, ((Below.refl _ _).alloc (Nat.le_refl _) _).alloc (by simp) _⟩

theorem rUndigit_any (a b c : Int) (ha : 0 ≤ a) (ha' : a < 256) (hb : 0 ≤ b) (hb' : b < 256) (hc : 0 ≤ c) (hc' : c < 256) (w : World) :
    Calls Try.prog 27 #[.agg #[.int .u8 a, .int .u8 b, .int .u8 c]] w fun e w' => e = .returned (.int .i64 (und a b c)) ∧ w' = w.alloc (.cells #[.int .u8 a, .int .u8 b, .int .u8 c] 27) := by
  by_cases h1 : a < 4
  · by_cases h2 : b < 4
    · by_cases h3 : c < 4
      · have hu : Hid (und a b c = (a * 4 + b) * 4 + c) := und_yes ha h1 hb h2 hc h3
        go_enter Try.func27, Try.ntmps27
        go_wp2_with fail
        refine wp_loop_rounds 4 ?_
        rw [rounds_succ]; go_wp2
        rw [rounds_succ]; go_wp2
        rw [rounds_succ]; go_wp2
        rw [rounds_succ]; go_wp2
        go_ret
        exact ⟨ret_int hu.out.symm, rfl⟩
      · have hu : Hid (und a b c = -1) := und_no (by omega)
        go_enter Try.func27, Try.ntmps27
        go_wp2_with fail
        refine wp_loop_rounds 4 ?_
        rw [rounds_succ]; go_wp2
        rw [rounds_succ]; go_wp2
        rw [rounds_succ]; go_wp2
        go_ret
        exact ⟨ret_int hu.out.symm, rfl⟩
    · have hu : Hid (und a b c = -1) := und_no (by omega)
      go_enter Try.func27, Try.ntmps27
      go_wp2_with fail
      refine wp_loop_rounds 4 ?_
      rw [rounds_succ]; go_wp2
      rw [rounds_succ]; go_wp2
      go_ret
      exact ⟨ret_int hu.out.symm, rfl⟩
  · have hu : Hid (und a b c = -1) := und_no (by omega)
    go_enter Try.func27, Try.ntmps27
    go_wp2_with fail
    refine wp_loop_rounds 4 ?_
    rw [rounds_succ]; go_wp2
    go_ret
    exact ⟨ret_int hu.out.symm, rfl⟩
end Go.Proofs.Ytchlbdnbiinlmaa
