/- KeyFewest at no key at all, and at any list. -/
import Derived.Test.YtdbnaoddnelebabKfWalk
namespace Go.Proofs.Ytdbnaoddnelebab
open Go.Maps Go.RowKit Go.Sort Go.Lib
set_option linter.unusedVariables false

theorem least_empty (a : Option Addr) (c : Nat) (w : World) : Calls Try.prog 14 #[.slice a 0 c] w fun e w' => ∃ g cap, e = .returned (.slice (some ⟨g, 0, none⟩) 0 cap) ∧ Below w.heap.size w w' :=
  (least_none a c w).mono fun e w' ⟨g, cap, he, _, _, hb⟩ => ⟨g, cap, he, hb⟩
set_option maxHeartbeats 4000000 in
set_option maxRecDepth 100000 in
theorem few_none (a : Option Addr) (c : Nat) (w : World) :
    Calls Try.prog 5 #[.slice a 0 c] w fun e w' => e = .returned (.bool true) ∧ Below w.heap.size w w' := by
  go_enter Try.func5, Try.ntmps5
  go_wp2_with fail
  refine (lives_any _).mono ?_
  rintro e w1 ⟨rfl, hb1⟩
  have HB1 : Hid (Below w.heap.size w w1) := hb1
  clear hb1
  go_wp2_with fail
  refine (least_empty _ _ _).mono ?_
  rintro e w2 ⟨g, cap, rfl, hb2⟩
  have HB2 : Hid (Below w.heap.size w w2) := Below.then HB1.out hb2
  clear hb2
  go_wp2_with fail
  refine wp_loop_rounds 1 ?_
  rw [rounds_succ]
  go_wp2_with fail
  refine wp_loop_rounds 1 ?_
  rw [rounds_succ]
  go_wp2_with fail
  refine (least_empty _ _ _).mono ?_
  rintro e w3 ⟨g3, cap3, rfl, hb3⟩
  have HB3 : Hid (Below w.heap.size w w3) := Below.then HB2.out hb3
  clear hb3
  go_wp2_with fail
  refine (same_none _ _ _ _ _).mono ?_
  rintro e w4 ⟨rfl, hb4⟩
  have HB4 : Hid (Below w.heap.size w w4) := Below.then HB3.out hb4
  clear hb4
  go_wp2_with fail
  refine (least_empty _ _ _).mono ?_
  rintro e w5 ⟨g5, cap5, rfl, hb5⟩
  have HB5 : Hid (Below w.heap.size w w5) := Below.then HB4.out hb5
  clear hb5
  go_wp2_with fail
  refine (same_none _ _ _ _ _).mono ?_
  rintro e w6 ⟨rfl, hb6⟩
  go_wp2
  go_ret
  exact ⟨rfl, Below.then HB5.out hb6⟩
theorem few_any (a : Option Addr) (c : Nat) (ks : List (Int × Int)) (w : World) (hl : ks.length ≤ 1048576) (h : RdAt w a ks) :
    Calls Try.prog 5 #[.slice a ks.length c] w fun e w' => e = .returned (.bool true) ∧ Below w.heap.size w w' := by
  by_cases h0 : ks = []
  · subst h0; exact few_none a c w
  · obtain ⟨b, o, rfl, k1⟩ := h.spot h0
    exact few_some b o c ks.length ks (lst ks) rfl (lk_lst ks) w hl k1
end Go.Proofs.Ytdbnaoddnelebab
