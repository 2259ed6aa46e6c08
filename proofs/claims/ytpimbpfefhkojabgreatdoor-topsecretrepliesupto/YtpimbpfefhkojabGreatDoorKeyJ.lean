/- KeyMath, KeyA, KeyB, KeyC, KeyF, joined. -/
import Derived.WalkKit
import Derived.ProofKit
import Derived.Laws.Bits64
import Derived.Below
import Derived.WalkSpells
import Derived.Deep.RegionHeld3
import Derived.Test.YtpimbpfefhkojabGreatDoorChecked
import Derived.LoopTactic
namespace Go.Proofs.YtpimbpfefhkojabGreatDoor.Rt
open Go.RowKit

theorem ret_int {k : IntKind} {a b : Int} (h : a = b) : Ending.returned (.int k a) = .returned (.int k b) := by rw [h]
theorem ret_bool {a b : Bool} (h : a = b) : Ending.returned (.bool a) = .returned (.bool b) := by rw [h]

def Gd (b s : Int) : Prop := 1 ≤ b ∧ b ≤ 65535 ∧ 0 ≤ s ∧ s ≤ 255
def gd (b s : Int) : Bool := decide (1 ≤ b) && (decide (b ≤ 65535) && (decide (0 ≤ s) && decide (s ≤ 255)))
theorem gd_yes {b s : Int} (h : Gd b s) : gd b s = true := by simp [gd, h.1, h.2.1, h.2.2.1, h.2.2.2]
theorem gd_no {b s : Int} (h : ¬ Gd b s) : gd b s = false := by
  rw [Bool.eq_false_iff]
  intro hh
  simp [gd] at hh
  exact h hh

/- A row of boxed pairs that stay: what a world has kept since w0. -/
def Kp (w0 : World) (l : List (Nat × Value × Value)) (w : World) : Prop :=
  Below w0.heap.size w0 w ∧ ∀ p ∈ l, w.cell? ⟨p.1, 0, none⟩ = some p.2.1 ∧ w.cell? ⟨p.1, 1, none⟩ = some p.2.2
theorem Kp.alloc {w0 w : World} {l : List (Nat × Value × Value)} (h : Kp w0 l w) (o : Obj) : Kp w0 l (w.alloc o) := by
  refine ⟨h.1.alloc h.1.size _, fun p hp => ?_⟩
  obtain ⟨c0, c1⟩ := h.2 p hp
  exact ⟨(World.cell?_alloc_some _ _ _ (by rw [c0]; rfl)).trans c0, (World.cell?_alloc_some _ _ _ (by rw [c1]; rfl)).trans c1⟩
theorem Kp.box {w0 w : World} {l : List (Nat × Value × Value)} (h : Kp w0 l w) (n : Nat) (x y : Value) (t : TypeId) (hn : n = w.heap.size) : Kp w0 ((n, x, y) :: l) (w.alloc (.cells #[x, y] t)) := by
  refine ⟨h.1.alloc h.1.size _, fun p hp => ?_⟩
  rcases List.mem_cons.mp hp with rfl | hp
  · subst hn; exact ⟨by simp [go_sem], by simp [go_sem]⟩
  · exact (h.alloc _).2 p hp
theorem Kp.call {w0 w w' : World} {l : List (Nat × Value × Value)} (h : Kp w0 l w) (hb : Below w.heap.size w w') : Kp w0 l w' := by
  refine ⟨h.1.trans (hb.mono h.1.size), fun p hp => ?_⟩
  obtain ⟨c0, c1⟩ := h.2 p hp
  exact ⟨cell_later hb c0, cell_later hb c1⟩
theorem Kp.drew {w0 w : World} {l : List (Nat × Value × Value)} (h : Kp w0 l w) : Kp w0 l w.drew := ⟨h.1.drew, h.2⟩
theorem Kp.at {w0 w : World} {l : List (Nat × Value × Value)} {n : Nat} {x y : Value} (h : Kp w0 l w) (hm : (n, x, y) ∈ l) : w.cell? ⟨n, 0, none⟩ = some x ∧ w.cell? ⟨n, 1, none⟩ = some y := h.2 _ hm
theorem Kp.one {w0 w : World} {l : List (Nat × Value × Value)} {n : Nat} {x y : Value} (h : Kp w0 ((n, x, y) :: l) w) : w.cell? ⟨n, 0, none⟩ = some x ∧ w.cell? ⟨n, 1, none⟩ = some y := h.2 _ (List.mem_cons_self ..)
theorem Kp.two {w0 w : World} {l : List (Nat × Value × Value)} {p : Nat × Value × Value} {n : Nat} {x y : Value} (h : Kp w0 (p :: (n, x, y) :: l) w) : w.cell? ⟨n, 0, none⟩ = some x ∧ w.cell? ⟨n, 1, none⟩ = some y := h.2 (n, x, y) (by simp)
theorem Kp.three {w0 w : World} {l : List (Nat × Value × Value)} {p q : Nat × Value × Value} {n : Nat} {x y : Value} (h : Kp w0 (p :: q :: (n, x, y) :: l) w) : w.cell? ⟨n, 0, none⟩ = some x ∧ w.cell? ⟨n, 1, none⟩ = some y := h.2 (n, x, y) (by simp)
theorem below1 (w : World) (o : Obj) : Below w.heap.size w (w.alloc o) := (Below.refl _ _).alloc (Nat.le_refl _) _
theorem Below.more {w0 w : World} (h : Below w0.heap.size w0 w) (o : Obj) : Below w0.heap.size w0 (w.alloc o) := h.alloc h.size _
theorem Below.then {w0 w w' : World} (h : Below w0.heap.size w0 w) (hb : Below w.heap.size w w') : Below w0.heap.size w0 w' := h.trans (hb.mono h.size)

theorem good_yes (b s : Int) (h : Gd b s) (w : World) :
    Calls Tryz.prog 66 #[.agg #[.int .i64 b, .int .i64 s]] w fun e w' => e = .returned (.bool true) ∧ w' = w.alloc (.cells #[.int .i64 b, .int .i64 s] 31) := by
  obtain ⟨h1, h2, h3, h4⟩ := h
  go_enter Tryz.func66, Tryz.ntmps66
  go_wp2
  go_ret
  exact ⟨rfl, rfl⟩
theorem good_no (b s : Int) (h : ¬ Gd b s) (w : World) :
    Calls Tryz.prog 66 #[.agg #[.int .i64 b, .int .i64 s]] w fun e w' => e = .returned (.bool false) ∧ w' = w.alloc (.cells #[.int .i64 b, .int .i64 s] 31) := by
  by_cases h1 : 1 ≤ b
  · by_cases h2 : b ≤ 65535
    · by_cases h3 : 0 ≤ s
      · have h4 : decide (s ≤ 255) = false := by unfold Gd at h; simp; omega
        clear h
        go_enter Tryz.func66, Tryz.ntmps66
        go_wp2
        go_ret
        exact ⟨ret_bool (by first | rfl | exact h4), rfl⟩
      · clear h
        go_enter Tryz.func66, Tryz.ntmps66
        go_wp2
        go_ret
        exact ⟨rfl, rfl⟩
    · clear h
      go_enter Tryz.func66, Tryz.ntmps66
      go_wp2
      go_ret
      exact ⟨rfl, rfl⟩
  · clear h
    go_enter Tryz.func66, Tryz.ntmps66
    go_wp2
    go_ret
    exact ⟨rfl, rfl⟩
theorem good_any (b s : Int) (w : World) :
    Calls Tryz.prog 66 #[.agg #[.int .i64 b, .int .i64 s]] w fun e w' => e = .returned (.bool (gd b s)) ∧ w' = w.alloc (.cells #[.int .i64 b, .int .i64 s] 31) := by
  by_cases h : Gd b s
  · rw [gd_yes h]; exact good_yes b s h w
  · rw [gd_no h]; exact good_no b s h w
theorem rGood_yes (b s : Int) (h : Gd b s) (w : World) :
    Calls Tryz.prog 81 #[.agg #[.int .i64 b, .int .i64 s]] w fun e w' => e = .returned (.bool true) ∧ w' = w.alloc (.cells #[.int .i64 b, .int .i64 s] 31) := by
  obtain ⟨h1, h2, h3, h4⟩ := h
  go_enter Tryz.func81, Tryz.ntmps81
  go_wp2
  go_ret
  exact ⟨rfl, rfl⟩
theorem rGood_no (b s : Int) (h : ¬ Gd b s) (w : World) :
    Calls Tryz.prog 81 #[.agg #[.int .i64 b, .int .i64 s]] w fun e w' => e = .returned (.bool false) ∧ w' = w.alloc (.cells #[.int .i64 b, .int .i64 s] 31) := by
  by_cases h1 : 1 ≤ b
  · by_cases h2 : b ≤ 65535
    · by_cases h3 : 0 ≤ s
      · have h4 : decide (s ≤ 255) = false := by unfold Gd at h; simp; omega
        clear h
        go_enter Tryz.func81, Tryz.ntmps81
        go_wp2
        go_ret
        exact ⟨ret_bool (by first | rfl | exact h4), rfl⟩
      · clear h
        go_enter Tryz.func81, Tryz.ntmps81
        go_wp2
        go_ret
        exact ⟨rfl, rfl⟩
    · clear h
      go_enter Tryz.func81, Tryz.ntmps81
      go_wp2
      go_ret
      exact ⟨rfl, rfl⟩
  · clear h
    go_enter Tryz.func81, Tryz.ntmps81
    go_wp2
    go_ret
    exact ⟨rfl, rfl⟩
theorem rGood_any (b s : Int) (w : World) :
    Calls Tryz.prog 81 #[.agg #[.int .i64 b, .int .i64 s]] w fun e w' => e = .returned (.bool (gd b s)) ∧ w' = w.alloc (.cells #[.int .i64 b, .int .i64 s] 31) := by
  by_cases h : Gd b s
  · rw [gd_yes h]; exact rGood_yes b s h w
  · rw [gd_no h]; exact rGood_no b s h w

theorem ahead_far (b s n : Int) (h : Gd b s) (hn : n < 0 ∨ 255 - s < n) (w : World) :
    Calls Tryz.prog 57 #[.agg #[.int .i64 b, .int .i64 s], .int .i64 n] w fun e w' => e = .returned (.tuple #[.agg #[.int .i64 0, .int .i64 0], .int .i64 4]) ∧ Below w.heap.size w w' := by
  have h4 := h.2.2.2
  have h3 := h.2.2.1
  by_cases h0 : n < 0
  · go_enter Tryz.func57, Tryz.ntmps57
    go_wp2_with (go_at_call 66; refine (good_yes _ _ h _).mono ?_; rintro e w' ⟨rfl, rfl⟩)
    exact bodyPost_ret (v := .tuple #[.agg #[.int .i64 0, .int .i64 0], .int .i64 4]) (by simp [results, Tryz.results57, go_sem]) rfl ⟨rfl, Below.more (Below.more (below1 _ _) _) _⟩
  · have h1 : 255 - s < n := by omega
    clear hn
    go_enter Tryz.func57, Tryz.ntmps57
    go_wp2_with (go_at_call 66; refine (good_yes _ _ h _).mono ?_; rintro e w' ⟨rfl, rfl⟩)
    exact bodyPost_ret (v := .tuple #[.agg #[.int .i64 0, .int .i64 0], .int .i64 4]) (by simp [results, Tryz.results57, go_sem]) rfl ⟨rfl, Below.more (Below.more (below1 _ _) _) _⟩
theorem ahead_yes (b s n : Int) (h : Gd b s) (h0 : 0 ≤ n) (h1 : n ≤ 255 - s) (w : World) :
    Calls Tryz.prog 57 #[.agg #[.int .i64 b, .int .i64 s], .int .i64 n] w fun e w' => e = .returned (.tuple #[.agg #[.int .i64 b, .int .i64 (s + n)], .int .i64 0]) ∧ Below w.heap.size w w' := by
  have h4 := h.2.2.2
  have h3 := h.2.2.1
  go_enter Tryz.func57, Tryz.ntmps57
  go_wp2_with (go_at_call 66; refine (good_yes _ _ h _).mono ?_; rintro e w' ⟨rfl, rfl⟩)
  exact bodyPost_ret (v := .tuple #[.agg #[.int .i64 b, .int .i64 (s + n)], .int .i64 0]) (by simp [results, Tryz.results57, go_sem]) rfl ⟨rfl, Below.more (Below.more (below1 _ _) _) _⟩

theorem rAhead_off (b s n : Int) (h : Gd b s) (hn : n < 0 ∨ 255 < n) (w : World) :
    Calls Tryz.prog 80 #[.agg #[.int .i64 b, .int .i64 s], .int .i64 n] w fun e w' => e = .returned (.tuple #[.agg #[.int .i64 0, .int .i64 0], .int .i64 4]) ∧ Below w.heap.size w w' := by
  by_cases h0 : n < 0
  · clear hn
    go_enter Tryz.func80, Tryz.ntmps80
    go_wp2_with (go_at_call 81; refine (rGood_yes _ _ h _).mono ?_; rintro e w' ⟨rfl, rfl⟩)
    exact bodyPost_ret (v := .tuple #[.agg #[.int .i64 0, .int .i64 0], .int .i64 4]) (by simp [results, Tryz.results80, go_sem]) rfl ⟨rfl, Below.more (Below.more (below1 _ _) _) _⟩
  · have h1 : 255 < n := by omega
    clear hn
    go_enter Tryz.func80, Tryz.ntmps80
    go_wp2_with (go_at_call 81; refine (rGood_yes _ _ h _).mono ?_; rintro e w' ⟨rfl, rfl⟩)
    exact bodyPost_ret (v := .tuple #[.agg #[.int .i64 0, .int .i64 0], .int .i64 4]) (by simp [results, Tryz.results80, go_sem]) rfl ⟨rfl, Below.more (Below.more (below1 _ _) _) _⟩
set_option maxHeartbeats 1000000 in
theorem rAhead_in (b s n : Int) (h : Gd b s) (h0 : 0 ≤ n) (h1 : n ≤ 255) (w : World) :
    Calls Tryz.prog 80 #[.agg #[.int .i64 b, .int .i64 s], .int .i64 n] w fun e w' => (if s + n ≤ 255 then e = .returned (.tuple #[.agg #[.int .i64 b, .int .i64 (s + n)], .int .i64 0]) else e = .returned (.tuple #[.agg #[.int .i64 0, .int .i64 0], .int .i64 4])) ∧ Below w.heap.size w w' := by
  have h4 := h.2.2.2
  have h3 := h.2.2.1
  go_enter Tryz.func80, Tryz.ntmps80
  go_wp2_with (go_at_call 81; refine (rGood_yes _ _ h _).mono ?_; rintro e w' ⟨rfl, rfl⟩)
  go_loopw [6] (fun i wr => ∃ k : Int, 0 ≤ k ∧ k ≤ n ∧ i = .int .i64 k ∧ wr = ((w.alloc (.cells #[.int .i64 b, .int .i64 (s + k)] 31)).alloc (.cells #[.int .i64 0, .int .i64 0] 31)).alloc (.cells #[.int .i64 b, .int .i64 s] 31)) (fun i _ => (n - intOf i).toNat)
  case atStart => exact ⟨0, by omega, by omega, rfl, by simp⟩
  case round =>
    obtain ⟨k, hk0, hk1, rfl, rfl⟩ := hrel
    by_cases hk : k < n
    · go_wp2
      go_roundw
      case rel => exact ⟨k + 1, by omega, by omega, by go_num, by simp [Int.add_assoc]⟩
      case measure => simp [intOf]; omega
    · obtain rfl : k = n := by omega
      by_cases hg : s + k ≤ 255
      · have hG : Gd b (s + k) := ⟨h.1, h.2.1, by omega, hg⟩
        go_wp2_with (go_at_call 81; refine (rGood_yes _ _ hG _).mono ?_; rintro e w' ⟨rfl, rfl⟩)
        exact bodyPost_ret (v := .tuple #[.agg #[.int .i64 b, .int .i64 (s + k)], .int .i64 0]) (by simp [results, Tryz.results80, go_sem]) rfl ⟨by first | rfl | rw [if_pos hg], Below.more (Below.more (Below.more (below1 _ _) _) _) _⟩
      · have hG : ¬ Gd b (s + k) := fun hh => hg hh.2.2.2
        go_wp2_with (go_at_call 81; refine (rGood_no _ _ hG _).mono ?_; rintro e w' ⟨rfl, rfl⟩)
        exact bodyPost_ret (v := .tuple #[.agg #[.int .i64 0, .int .i64 0], .int .i64 4]) (by simp [results, Tryz.results80, go_sem]) rfl ⟨by first | rfl | rw [if_neg hg], Below.more (Below.more (Below.more (below1 _ _) _) _) _⟩

def cm (b s c t : Int) : Int := if b < c then -1 else if c < b then 1 else if s < t then -1 else if t < s then 1 else 0

theorem goodBox_yes (a b c d : Int) (h : Gd a b) (k : Gd c d) (w : World) :
    Calls Tryz.prog 74 #[.agg #[.int .i64 a, .int .i64 b, .int .i64 c, .int .i64 d]] w fun e w' => e = .returned (.bool true) ∧ w' = ((w.alloc (.cells #[.int .i64 a, .int .i64 b, .int .i64 c, .int .i64 d] 33)).alloc (.cells #[.int .i64 a, .int .i64 b] 31)).alloc (.cells #[.int .i64 c, .int .i64 d] 31) := by
  have hg := gd_yes h
  have hk := gd_yes k
  go_enter Tryz.func74, Tryz.ntmps74
  go_wp2_with (go_at_call 66; refine (good_any _ _ _).mono ?_; rintro e w' ⟨rfl, rfl⟩)
  go_ret
  exact ⟨rfl, rfl⟩
theorem seal_yes (a b c d : Int) (h : Gd a b) (k : Gd c d) (w : World) :
    Calls Tryz.prog 35 #[.agg #[.int .i64 a, .int .i64 b], .agg #[.int .i64 c, .int .i64 d]] w fun e w' => e = .returned (.tuple #[.agg #[.int .i64 a, .int .i64 b, .int .i64 c, .int .i64 d], .int .i64 0]) ∧ Below w.heap.size w w' := by
  go_enter Tryz.func35, Tryz.ntmps35
  go_wp2_with fail
  refine (goodBox_yes a b c d h k _).mono ?_
  rintro e w' ⟨rfl, rfl⟩
  go_wp2
  exact bodyPost_ret (v := .tuple #[.agg #[.int .i64 a, .int .i64 b, .int .i64 c, .int .i64 d], .int .i64 0]) (by simp [results, Tryz.results35, go_sem]) rfl ⟨rfl, Below.more (Below.more (Below.more (Below.more (Below.more (Below.more (below1 _ _) _) _) _) _) _) _⟩
end Go.Proofs.YtpimbpfefhkojabGreatDoor.Rt
