/- KeyMath, KeyA, KeyC, KeyB, KeyD, KeyF, KeyG, joined. -/
import Derived.WalkKit
import Derived.ProofKit
import Derived.Laws.Bits64
import Derived.Below
import Derived.WalkSpells
import Derived.Deep.RegionHeld3
import Derived.Test.YtpimbpfefhkojaaGreatChecked
import Derived.LoopTactic
import Derived.Laws.BitsAllLaws
/- Plain functions on the numbers of keys: what the functions of package key answer. -/
namespace Go.Proofs.YtpimbpfefhkojaaGreat.Rt
open Go.RowKit

theorem ret_int {k : IntKind} {a b : Int} (h : a = b) : Ending.returned (.int k a) = .returned (.int k b) := by rw [h]
theorem ret_bool {a b : Bool} (h : a = b) : Ending.returned (.bool a) = .returned (.bool b) := by rw [h]

def Gd (b s : Int) : Prop := 1 ≤ b ∧ b ≤ 65535 ∧ 0 ≤ s ∧ s ≤ 255
def gd (b s : Int) : Bool := decide (1 ≤ b) && (decide (b ≤ 65535) && (decide (0 ≤ s) && decide (s ≤ 255)))
theorem gd_yes {b s : Int} (h : Gd b s) : gd b s = true := by simp [gd, h.1, h.2.1, h.2.2.1, h.2.2.2]
theorem gd_no {b s : Int} (h : ¬ Gd b s) : gd b s = false := by
  rw [Bool.eq_false_iff]
  intro hh
  simp [gd] at hh
  exact h hh

/- A row of boxed pairs that stay: what a world has kept since w0. -/
def Kp (w0 : World) (l : List (Nat × Value × Value)) (w : World) : Prop :=
  Below w0.heap.size w0 w ∧ ∀ p ∈ l, w.cell? ⟨p.1, 0, none⟩ = some p.2.1 ∧ w.cell? ⟨p.1, 1, none⟩ = some p.2.2
theorem Kp.start (w : World) : Kp w [] w := ⟨Below.refl _ _, by simp⟩
theorem Kp.alloc {w0 w : World} {l : List (Nat × Value × Value)} (h : Kp w0 l w) (o : Obj) : Kp w0 l (w.alloc o) := by
  refine ⟨h.1.alloc h.1.size _, fun p hp => ?_⟩
  obtain ⟨c0, c1⟩ := h.2 p hp
  exact ⟨(World.cell?_alloc_some _ _ _ (by rw [c0]; rfl)).trans c0, (World.cell?_alloc_some _ _ _ (by rw [c1]; rfl)).trans c1⟩
theorem Kp.box {w0 w : World} {l : List (Nat × Value × Value)} (h : Kp w0 l w) (n : Nat) (x y : Value) (t : TypeId) (hn : n = w.heap.size) : Kp w0 ((n, x, y) :: l) (w.alloc (.cells #[x, y] t)) := by
  refine ⟨h.1.alloc h.1.size _, fun p hp => ?_⟩
  rcases List.mem_cons.mp hp with rfl | hp
  · subst hn; exact ⟨by simp [go_sem], by simp [go_sem]⟩
  · exact (h.alloc _).2 p hp
theorem Kp.call {w0 w w' : World} {l : List (Nat × Value × Value)} (h : Kp w0 l w) (hb : Below w.heap.size w w') : Kp w0 l w' := by
  refine ⟨h.1.trans (hb.mono h.1.size), fun p hp => ?_⟩
  obtain ⟨c0, c1⟩ := h.2 p hp
  exact ⟨cell_later hb c0, cell_later hb c1⟩
theorem Kp.call' {w0 w w' : World} {l : List (Nat × Value × Value)} {Q : Prop} (h : Kp w0 l w ∧ Q) (hb : Below w.heap.size w w') : Kp w0 l w' := h.1.call hb
theorem Kp.alloc' {w0 w : World} {l : List (Nat × Value × Value)} {Q : Prop} (h : Kp w0 l w ∧ Q) (o : Obj) : Kp w0 l (w.alloc o) := h.1.alloc o
theorem Kp.below' {w0 w : World} {l : List (Nat × Value × Value)} {Q : Prop} (h : Kp w0 l w ∧ Q) : Below w0.heap.size w0 w := h.1.1
theorem Kp.keep' {w0 w : World} {l : List (Nat × Value × Value)} {Q : Prop} (h : Kp w0 l w ∧ Q) : Kp w0 l w := h.1
theorem Kp.drew {w0 w : World} {l : List (Nat × Value × Value)} (h : Kp w0 l w) : Kp w0 l w.drew := ⟨h.1.drew, h.2⟩
theorem Kp.at {w0 w : World} {l : List (Nat × Value × Value)} {n : Nat} {x y : Value} (h : Kp w0 l w) (hm : (n, x, y) ∈ l) : w.cell? ⟨n, 0, none⟩ = some x ∧ w.cell? ⟨n, 1, none⟩ = some y := h.2 _ hm
theorem Kp.one {w0 w : World} {l : List (Nat × Value × Value)} {n : Nat} {x y : Value} (h : Kp w0 ((n, x, y) :: l) w) : w.cell? ⟨n, 0, none⟩ = some x ∧ w.cell? ⟨n, 1, none⟩ = some y := h.2 _ (List.mem_cons_self ..)
theorem Kp.two {w0 w : World} {l : List (Nat × Value × Value)} {p : Nat × Value × Value} {n : Nat} {x y : Value} (h : Kp w0 (p :: (n, x, y) :: l) w) : w.cell? ⟨n, 0, none⟩ = some x ∧ w.cell? ⟨n, 1, none⟩ = some y := h.2 (n, x, y) (by simp)
theorem Kp.three {w0 w : World} {l : List (Nat × Value × Value)} {p q : Nat × Value × Value} {n : Nat} {x y : Value} (h : Kp w0 (p :: q :: (n, x, y) :: l) w) : w.cell? ⟨n, 0, none⟩ = some x ∧ w.cell? ⟨n, 1, none⟩ = some y := h.2 (n, x, y) (by simp)
theorem Kp.onea {w0 w : World} {l : List (Nat × Value × Value)} {n : Nat} {x y : Value} (h : Kp w0 ((n, x, y) :: l) w) : (∀ o, (w.alloc o).cell? ⟨n, 0, none⟩ = some x) ∧ (∀ o, (w.alloc o).cell? ⟨n, 1, none⟩ = some y) := ⟨fun o => (h.alloc o).one.1, fun o => (h.alloc o).one.2⟩
theorem Kp.oneb {w0 w : World} {l : List (Nat × Value × Value)} {n : Nat} {x y : Value} (h : Kp w0 ((n, x, y) :: l) w) : (∀ o o', ((w.alloc o).alloc o').cell? ⟨n, 0, none⟩ = some x) ∧ (∀ o o', ((w.alloc o).alloc o').cell? ⟨n, 1, none⟩ = some y) := ⟨fun o o' => ((h.alloc o).alloc o').one.1, fun o o' => ((h.alloc o).alloc o').one.2⟩
theorem Kp.twoa {w0 w : World} {l : List (Nat × Value × Value)} {p : Nat × Value × Value} {n : Nat} {x y : Value} (h : Kp w0 (p :: (n, x, y) :: l) w) : (∀ o, (w.alloc o).cell? ⟨n, 0, none⟩ = some x) ∧ (∀ o, (w.alloc o).cell? ⟨n, 1, none⟩ = some y) := ⟨fun o => (h.alloc o).two.1, fun o => (h.alloc o).two.2⟩
theorem Kp.twob {w0 w : World} {l : List (Nat × Value × Value)} {p : Nat × Value × Value} {n : Nat} {x y : Value} (h : Kp w0 (p :: (n, x, y) :: l) w) : (∀ o o', ((w.alloc o).alloc o').cell? ⟨n, 0, none⟩ = some x) ∧ (∀ o o', ((w.alloc o).alloc o').cell? ⟨n, 1, none⟩ = some y) := ⟨fun o o' => ((h.alloc o).alloc o').two.1, fun o o' => ((h.alloc o).alloc o').two.2⟩
theorem Kp.threea {w0 w : World} {l : List (Nat × Value × Value)} {p q : Nat × Value × Value} {n : Nat} {x y : Value} (h : Kp w0 (p :: q :: (n, x, y) :: l) w) : (∀ o, (w.alloc o).cell? ⟨n, 0, none⟩ = some x) ∧ (∀ o, (w.alloc o).cell? ⟨n, 1, none⟩ = some y) := ⟨fun o => (h.alloc o).three.1, fun o => (h.alloc o).three.2⟩
theorem Kp.threeb {w0 w : World} {l : List (Nat × Value × Value)} {p q : Nat × Value × Value} {n : Nat} {x y : Value} (h : Kp w0 (p :: q :: (n, x, y) :: l) w) : (∀ o o', ((w.alloc o).alloc o').cell? ⟨n, 0, none⟩ = some x) ∧ (∀ o o', ((w.alloc o).alloc o').cell? ⟨n, 1, none⟩ = some y) := ⟨fun o o' => ((h.alloc o).alloc o').three.1, fun o o' => ((h.alloc o).alloc o').three.2⟩
theorem kp1 {w0 w : World} {n : Nat} {x y : Value} (K : Kp w0 [(n, x, y)] w) : Kp w0 [(n, x, y)] w ∧ w.cell? ⟨n, 0, none⟩ = some x ∧ w.cell? ⟨n, 1, none⟩ = some y := ⟨K, K.one⟩
theorem kp2 {w0 w : World} {n m : Nat} {x y u v : Value} (K : Kp w0 [(m, u, v), (n, x, y)] w) : Kp w0 [(m, u, v), (n, x, y)] w ∧ w.cell? ⟨m, 0, none⟩ = some u ∧ w.cell? ⟨m, 1, none⟩ = some v ∧ w.cell? ⟨n, 0, none⟩ = some x ∧ w.cell? ⟨n, 1, none⟩ = some y := ⟨K, K.one.1, K.one.2, K.two⟩
theorem kp3 {w0 w : World} {n m k : Nat} {x y u v p q : Value} (K : Kp w0 [(k, p, q), (m, u, v), (n, x, y)] w) : Kp w0 [(k, p, q), (m, u, v), (n, x, y)] w ∧ w.cell? ⟨k, 0, none⟩ = some p ∧ w.cell? ⟨k, 1, none⟩ = some q ∧ w.cell? ⟨m, 0, none⟩ = some u ∧ w.cell? ⟨m, 1, none⟩ = some v ∧ w.cell? ⟨n, 0, none⟩ = some x ∧ w.cell? ⟨n, 1, none⟩ = some y := ⟨K, K.one.1, K.one.2, K.two.1, K.two.2, K.three⟩
theorem below1 (w : World) (o : Obj) : Below w.heap.size w (w.alloc o) := (Below.refl _ _).alloc (Nat.le_refl _) _
theorem Below.more {w0 w : World} (h : Below w0.heap.size w0 w) (o : Obj) : Below w0.heap.size w0 (w.alloc o) := h.alloc h.size _
theorem Below.then {w0 w w' : World} (h : Below w0.heap.size w0 w) (hb : Below w.heap.size w w') : Below w0.heap.size w0 w' := h.trans (hb.mono h.size)
end Go.Proofs.YtpimbpfefhkojaaGreat.Rt
/- Contracts of Good, Ahead, Gives and Compare of package key and of the document's answers. -/
namespace Go.Proofs.YtpimbpfefhkojaaGreat.Rt
open Go.RowKit

theorem good_yes (b s : Int) (h : Gd b s) (w : World) :
    Calls Tryz.prog 52 #[.agg #[.int .i64 b, .int .i64 s]] w fun e w' => e = .returned (.bool true) ∧ w' = w.alloc (.cells #[.int .i64 b, .int .i64 s] 23) := by
  obtain ⟨h1, h2, h3, h4⟩ := h
  go_enter Tryz.func52, Tryz.ntmps52
  go_wp2
  go_ret
  exact ⟨rfl, rfl⟩
theorem good_no (b s : Int) (h : ¬ Gd b s) (w : World) :
    Calls Tryz.prog 52 #[.agg #[.int .i64 b, .int .i64 s]] w fun e w' => e = .returned (.bool false) ∧ w' = w.alloc (.cells #[.int .i64 b, .int .i64 s] 23) := by
  by_cases h1 : 1 ≤ b
  · by_cases h2 : b ≤ 65535
    · by_cases h3 : 0 ≤ s
      · have h4 : decide (s ≤ 255) = false := by unfold Gd at h; simp; omega
        clear h
        go_enter Tryz.func52, Tryz.ntmps52
        go_wp2
        go_ret
        exact ⟨ret_bool (by first | rfl | exact h4), rfl⟩
      · clear h
        go_enter Tryz.func52, Tryz.ntmps52
        go_wp2
        go_ret
        exact ⟨rfl, rfl⟩
    · clear h
      go_enter Tryz.func52, Tryz.ntmps52
      go_wp2
      go_ret
      exact ⟨rfl, rfl⟩
  · clear h
    go_enter Tryz.func52, Tryz.ntmps52
    go_wp2
    go_ret
    exact ⟨rfl, rfl⟩
theorem good_any (b s : Int) (w : World) :
    Calls Tryz.prog 52 #[.agg #[.int .i64 b, .int .i64 s]] w fun e w' => e = .returned (.bool (gd b s)) ∧ w' = w.alloc (.cells #[.int .i64 b, .int .i64 s] 23) := by
  by_cases h : Gd b s
  · rw [gd_yes h]; exact good_yes b s h w
  · rw [gd_no h]; exact good_no b s h w
theorem rGood_yes (b s : Int) (h : Gd b s) (w : World) :
    Calls Tryz.prog 29 #[.agg #[.int .i64 b, .int .i64 s]] w fun e w' => e = .returned (.bool true) ∧ w' = w.alloc (.cells #[.int .i64 b, .int .i64 s] 23) := by
  obtain ⟨h1, h2, h3, h4⟩ := h
  go_enter Tryz.func29, Tryz.ntmps29
  go_wp2
  go_ret
  exact ⟨rfl, rfl⟩
theorem rGood_no (b s : Int) (h : ¬ Gd b s) (w : World) :
    Calls Tryz.prog 29 #[.agg #[.int .i64 b, .int .i64 s]] w fun e w' => e = .returned (.bool false) ∧ w' = w.alloc (.cells #[.int .i64 b, .int .i64 s] 23) := by
  by_cases h1 : 1 ≤ b
  · by_cases h2 : b ≤ 65535
    · by_cases h3 : 0 ≤ s
      · have h4 : decide (s ≤ 255) = false := by unfold Gd at h; simp; omega
        clear h
        go_enter Tryz.func29, Tryz.ntmps29
        go_wp2
        go_ret
        exact ⟨ret_bool (by first | rfl | exact h4), rfl⟩
      · clear h
        go_enter Tryz.func29, Tryz.ntmps29
        go_wp2
        go_ret
        exact ⟨rfl, rfl⟩
    · clear h
      go_enter Tryz.func29, Tryz.ntmps29
      go_wp2
      go_ret
      exact ⟨rfl, rfl⟩
  · clear h
    go_enter Tryz.func29, Tryz.ntmps29
    go_wp2
    go_ret
    exact ⟨rfl, rfl⟩
theorem rGood_any (b s : Int) (w : World) :
    Calls Tryz.prog 29 #[.agg #[.int .i64 b, .int .i64 s]] w fun e w' => e = .returned (.bool (gd b s)) ∧ w' = w.alloc (.cells #[.int .i64 b, .int .i64 s] 23) := by
  by_cases h : Gd b s
  · rw [gd_yes h]; exact rGood_yes b s h w
  · rw [gd_no h]; exact rGood_no b s h w

theorem ahead_bad (b s n : Int) (h : ¬ Gd b s) (w : World) :
    Calls Tryz.prog 26 #[.agg #[.int .i64 b, .int .i64 s], .int .i64 n] w fun e w' => e = .returned (.tuple #[.agg #[.int .i64 0, .int .i64 0], .int .i64 3]) ∧ Below w.heap.size w w' := by
  go_enter Tryz.func26, Tryz.ntmps26
  go_wp2_with (go_at_call 52; refine (good_no _ _ h _).mono ?_; rintro e w' ⟨rfl, rfl⟩)
  exact bodyPost_ret (v := .tuple #[.agg #[.int .i64 0, .int .i64 0], .int .i64 3]) (by simp [results, Tryz.results26, go_sem]) rfl ⟨rfl, Below.more (Below.more (below1 _ _) _) _⟩
theorem ahead_far (b s n : Int) (h : Gd b s) (hn : n < 0 ∨ 255 - s < n) (w : World) :
    Calls Tryz.prog 26 #[.agg #[.int .i64 b, .int .i64 s], .int .i64 n] w fun e w' => e = .returned (.tuple #[.agg #[.int .i64 0, .int .i64 0], .int .i64 4]) ∧ Below w.heap.size w w' := by
  have h4 := h.2.2.2
  have h3 := h.2.2.1
  by_cases h0 : n < 0
  · go_enter Tryz.func26, Tryz.ntmps26
    go_wp2_with (go_at_call 52; refine (good_yes _ _ h _).mono ?_; rintro e w' ⟨rfl, rfl⟩)
    exact bodyPost_ret (v := .tuple #[.agg #[.int .i64 0, .int .i64 0], .int .i64 4]) (by simp [results, Tryz.results26, go_sem]) rfl ⟨rfl, Below.more (Below.more (below1 _ _) _) _⟩
  · have h1 : 255 - s < n := by omega
    clear hn
    go_enter Tryz.func26, Tryz.ntmps26
    go_wp2_with (go_at_call 52; refine (good_yes _ _ h _).mono ?_; rintro e w' ⟨rfl, rfl⟩)
    exact bodyPost_ret (v := .tuple #[.agg #[.int .i64 0, .int .i64 0], .int .i64 4]) (by simp [results, Tryz.results26, go_sem]) rfl ⟨rfl, Below.more (Below.more (below1 _ _) _) _⟩
theorem ahead_yes (b s n : Int) (h : Gd b s) (h0 : 0 ≤ n) (h1 : n ≤ 255 - s) (w : World) :
    Calls Tryz.prog 26 #[.agg #[.int .i64 b, .int .i64 s], .int .i64 n] w fun e w' => e = .returned (.tuple #[.agg #[.int .i64 b, .int .i64 (s + n)], .int .i64 0]) ∧ Below w.heap.size w w' := by
  have h4 := h.2.2.2
  have h3 := h.2.2.1
  go_enter Tryz.func26, Tryz.ntmps26
  go_wp2_with (go_at_call 52; refine (good_yes _ _ h _).mono ?_; rintro e w' ⟨rfl, rfl⟩)
  exact bodyPost_ret (v := .tuple #[.agg #[.int .i64 b, .int .i64 (s + n)], .int .i64 0]) (by simp [results, Tryz.results26, go_sem]) rfl ⟨rfl, Below.more (Below.more (below1 _ _) _) _⟩
end Go.Proofs.YtpimbpfefhkojaaGreat.Rt
/- Contracts: Gives and Compare of both. -/
namespace Go.Proofs.YtpimbpfefhkojaaGreat.Rt
open Go.RowKit

def gv (b s c t : Int) : Bool := gd b s && (gd c t && (b == c && decide (s ≤ t)))
theorem gives_any (b s c t : Int) (w : World) :
    Calls Tryz.prog 81 #[.agg #[.int .i64 b, .int .i64 s], .agg #[.int .i64 c, .int .i64 t]] w fun e w' => e = .returned (.bool (gv b s c t)) ∧ Below w.heap.size w w' := by
  unfold gv
  cases hg : gd b s
  · go_enter Tryz.func81, Tryz.ntmps81
    go_wp2_with (go_at_call 52; refine (good_any _ _ _).mono ?_; rintro e w' ⟨rfl, rfl⟩)
    go_ret
    exact ⟨ret_bool (by simp), Below.more (Below.more (below1 _ _) _) _⟩
  · cases hk : gd c t
    · go_enter Tryz.func81, Tryz.ntmps81
      go_wp2_with (go_at_call 52; refine (good_any _ _ _).mono ?_; rintro e w' ⟨rfl, rfl⟩)
      go_ret
      exact ⟨ret_bool (by simp), Below.more (Below.more (Below.more (below1 _ _) _) _) _⟩
    · cases hb : (b == c)
      · go_enter Tryz.func81, Tryz.ntmps81
        go_wp2_with (go_at_call 52; refine (good_any _ _ _).mono ?_; rintro e w' ⟨rfl, rfl⟩)
        go_ret
        exact ⟨ret_bool (by simp), Below.more (Below.more (Below.more (below1 _ _) _) _) _⟩
      · go_enter Tryz.func81, Tryz.ntmps81
        go_wp2_with (go_at_call 52; refine (good_any _ _ _).mono ?_; rintro e w' ⟨rfl, rfl⟩)
        go_ret
        exact ⟨ret_bool (by simp), Below.more (Below.more (Below.more (below1 _ _) _) _) _⟩
theorem rGives_any (b s c t : Int) (w : World) :
    Calls Tryz.prog 12 #[.agg #[.int .i64 b, .int .i64 s], .agg #[.int .i64 c, .int .i64 t]] w fun e w' => e = .returned (.bool (gv b s c t)) ∧ Below w.heap.size w w' := by
  unfold gv
  cases hg : gd b s
  · go_enter Tryz.func12, Tryz.ntmps12
    go_wp2_with (go_at_call 29; refine (rGood_any _ _ _).mono ?_; rintro e w' ⟨rfl, rfl⟩)
    go_ret
    exact ⟨ret_bool (by simp), Below.more (Below.more (below1 _ _) _) _⟩
  · cases hk : gd c t
    · go_enter Tryz.func12, Tryz.ntmps12
      go_wp2_with (go_at_call 29; refine (rGood_any _ _ _).mono ?_; rintro e w' ⟨rfl, rfl⟩)
      go_ret
      exact ⟨ret_bool (by simp), Below.more (Below.more (Below.more (below1 _ _) _) _) _⟩
    · cases hb : (b == c)
      · go_enter Tryz.func12, Tryz.ntmps12
        go_wp2_with (go_at_call 29; refine (rGood_any _ _ _).mono ?_; rintro e w' ⟨rfl, rfl⟩)
        go_ret
        exact ⟨ret_bool (by simp), Below.more (Below.more (Below.more (below1 _ _) _) _) _⟩
      · go_enter Tryz.func12, Tryz.ntmps12
        go_wp2_with (go_at_call 29; refine (rGood_any _ _ _).mono ?_; rintro e w' ⟨rfl, rfl⟩)
        go_ret
        exact ⟨ret_bool (by simp), Below.more (Below.more (Below.more (below1 _ _) _) _) _⟩

def cm (b s c t : Int) : Int := if b < c then -1 else if c < b then 1 else if s < t then -1 else if t < s then 1 else 0
end Go.Proofs.YtpimbpfefhkojaaGreat.Rt
/- Contracts: the document's Ahead; Gives and Compare of both. -/
namespace Go.Proofs.YtpimbpfefhkojaaGreat.Rt
open Go.RowKit

theorem rAhead_bad (b s n : Int) (h : ¬ Gd b s) (w : World) :
    Calls Tryz.prog 60 #[.agg #[.int .i64 b, .int .i64 s], .int .i64 n] w fun e w' => e = .returned (.tuple #[.agg #[.int .i64 0, .int .i64 0], .int .i64 3]) ∧ Below w.heap.size w w' := by
  go_enter Tryz.func60, Tryz.ntmps60
  go_wp2_with (go_at_call 29; refine (rGood_no _ _ h _).mono ?_; rintro e w' ⟨rfl, rfl⟩)
  exact bodyPost_ret (v := .tuple #[.agg #[.int .i64 0, .int .i64 0], .int .i64 3]) (by simp [results, Tryz.results60, go_sem]) rfl ⟨rfl, Below.more (Below.more (below1 _ _) _) _⟩
theorem rAhead_off (b s n : Int) (h : Gd b s) (hn : n < 0 ∨ 255 < n) (w : World) :
    Calls Tryz.prog 60 #[.agg #[.int .i64 b, .int .i64 s], .int .i64 n] w fun e w' => e = .returned (.tuple #[.agg #[.int .i64 0, .int .i64 0], .int .i64 4]) ∧ Below w.heap.size w w' := by
  by_cases h0 : n < 0
  · clear hn
    go_enter Tryz.func60, Tryz.ntmps60
    go_wp2_with (go_at_call 29; refine (rGood_yes _ _ h _).mono ?_; rintro e w' ⟨rfl, rfl⟩)
    exact bodyPost_ret (v := .tuple #[.agg #[.int .i64 0, .int .i64 0], .int .i64 4]) (by simp [results, Tryz.results60, go_sem]) rfl ⟨rfl, Below.more (Below.more (below1 _ _) _) _⟩
  · have h1 : 255 < n := by omega
    clear hn
    go_enter Tryz.func60, Tryz.ntmps60
    go_wp2_with (go_at_call 29; refine (rGood_yes _ _ h _).mono ?_; rintro e w' ⟨rfl, rfl⟩)
    exact bodyPost_ret (v := .tuple #[.agg #[.int .i64 0, .int .i64 0], .int .i64 4]) (by simp [results, Tryz.results60, go_sem]) rfl ⟨rfl, Below.more (Below.more (below1 _ _) _) _⟩
set_option maxHeartbeats 1000000 in
theorem rAhead_in (b s n : Int) (h : Gd b s) (h0 : 0 ≤ n) (h1 : n ≤ 255) (w : World) :
    Calls Tryz.prog 60 #[.agg #[.int .i64 b, .int .i64 s], .int .i64 n] w fun e w' => (if s + n ≤ 255 then e = .returned (.tuple #[.agg #[.int .i64 b, .int .i64 (s + n)], .int .i64 0]) else e = .returned (.tuple #[.agg #[.int .i64 0, .int .i64 0], .int .i64 4])) ∧ Below w.heap.size w w' := by
  have h4 := h.2.2.2
  have h3 := h.2.2.1
  go_enter Tryz.func60, Tryz.ntmps60
  go_wp2_with (go_at_call 29; refine (rGood_yes _ _ h _).mono ?_; rintro e w' ⟨rfl, rfl⟩)
  go_loopw [6] (fun i wr => ∃ k : Int, 0 ≤ k ∧ k ≤ n ∧ i = .int .i64 k ∧ wr = ((w.alloc (.cells #[.int .i64 b, .int .i64 (s + k)] 23)).alloc (.cells #[.int .i64 0, .int .i64 0] 23)).alloc (.cells #[.int .i64 b, .int .i64 s] 23)) (fun i _ => (n - intOf i).toNat)
  case atStart => exact ⟨0, by omega, by omega, rfl, by simp⟩
  case round =>
    obtain ⟨k, hk0, hk1, rfl, rfl⟩ := hrel
    by_cases hk : k < n
    · go_wp2
      go_roundw
      case rel => exact ⟨k + 1, by omega, by omega, by go_num, by simp [Int.add_assoc]⟩
      case measure => simp [intOf]; omega
    · obtain rfl : k = n := by omega
      by_cases hg : s + k ≤ 255
      · have hG : Gd b (s + k) := ⟨h.1, h.2.1, by omega, hg⟩
        go_wp2_with (go_at_call 29; refine (rGood_yes _ _ hG _).mono ?_; rintro e w' ⟨rfl, rfl⟩)
        exact bodyPost_ret (v := .tuple #[.agg #[.int .i64 b, .int .i64 (s + k)], .int .i64 0]) (by simp [results, Tryz.results60, go_sem]) rfl ⟨by first | rfl | rw [if_pos hg], Below.more (Below.more (Below.more (below1 _ _) _) _) _⟩
      · have hG : ¬ Gd b (s + k) := fun hh => hg hh.2.2.2
        go_wp2_with (go_at_call 29; refine (rGood_no _ _ hG _).mono ?_; rintro e w' ⟨rfl, rfl⟩)
        exact bodyPost_ret (v := .tuple #[.agg #[.int .i64 0, .int .i64 0], .int .i64 4]) (by simp [results, Tryz.results60, go_sem]) rfl ⟨by first | rfl | rw [if_neg hg], Below.more (Below.more (Below.more (below1 _ _) _) _) _⟩
end Go.Proofs.YtpimbpfefhkojaaGreat.Rt
/- Contracts: Pack and Unpack of both; the fixed answers that every statement asks first. -/
namespace Go.Proofs.YtpimbpfefhkojaaGreat.Rt
open Go.RowKit

theorem or256 (b s : Int) (h1 : 0 ≤ b) (h2 : b ≤ 65535) (h3 : 0 ≤ s) (h4 : s ≤ 255) : bits .or .u32 (b * 256) s = b * 256 + s := by
  rw [u32_or _ _ (by omega) (by omega) (by omega) (by omega), nat_join 8 _ _ (by omega) (by omega)]; omega
theorem and255k (v : Int) (h0 : 0 ≤ v) (h1 : v < 4294967296) : bits .and .u32 v 255 = v % 256 := by
  rw [u32_and _ _ (by omega) (by omega) (by omega) (by omega)]
  have : v.toNat &&& (255 : Int).toNat = v.toNat % 256 := Nat.and_two_pow_sub_one_eq_mod v.toNat 8
  rw [this]; omega
theorem or32 (x y : Int) (h1 : 0 ≤ x) (h2 : x < 4294967296) (h3 : 0 ≤ y) (h4 : y < 4294967296) : bits .or .u64 (x * 4294967296) y = x * 4294967296 + y := by
  rw [u64_or _ _ (by omega) (by omega) (by omega) (by omega), nat_join 32 _ _ (by omega) (by omega)]; omega
theorem ret2 {x y x' y' : Value} (h : x = x') (k : y = y') : Ending.returned (.tuple #[x, y]) = .returned (.tuple #[x', y']) := by rw [h, k]

end Go.Proofs.YtpimbpfefhkojaaGreat.Rt
/- Contracts: Seal and Open. -/
namespace Go.Proofs.YtpimbpfefhkojaaGreat.Rt
open Go.RowKit

theorem goodBox_up (a b c d : Int) (h : ¬ Gd a b) (w : World) :
    Calls Tryz.prog 75 #[.agg #[.int .i64 a, .int .i64 b, .int .i64 c, .int .i64 d]] w fun e w' => e = .returned (.bool false) ∧ w' = (w.alloc (.cells #[.int .i64 a, .int .i64 b, .int .i64 c, .int .i64 d] 57)).alloc (.cells #[.int .i64 a, .int .i64 b] 23) := by
  have hg := gd_no h
  go_enter Tryz.func75, Tryz.ntmps75
  go_wp2_with (go_at_call 52; refine (good_any _ _ _).mono ?_; rintro e w' ⟨rfl, rfl⟩)
  go_ret
  exact ⟨rfl, rfl⟩
theorem goodBox_low (a b c d : Int) (h : Gd a b) (k : ¬ Gd c d) (w : World) :
    Calls Tryz.prog 75 #[.agg #[.int .i64 a, .int .i64 b, .int .i64 c, .int .i64 d]] w fun e w' => e = .returned (.bool false) ∧ w' = ((w.alloc (.cells #[.int .i64 a, .int .i64 b, .int .i64 c, .int .i64 d] 57)).alloc (.cells #[.int .i64 a, .int .i64 b] 23)).alloc (.cells #[.int .i64 c, .int .i64 d] 23) := by
  have hg := gd_yes h
  have hk := gd_no k
  go_enter Tryz.func75, Tryz.ntmps75
  go_wp2_with (go_at_call 52; refine (good_any _ _ _).mono ?_; rintro e w' ⟨rfl, rfl⟩)
  go_ret
  exact ⟨rfl, rfl⟩
theorem goodBox_yes (a b c d : Int) (h : Gd a b) (k : Gd c d) (w : World) :
    Calls Tryz.prog 75 #[.agg #[.int .i64 a, .int .i64 b, .int .i64 c, .int .i64 d]] w fun e w' => e = .returned (.bool true) ∧ w' = ((w.alloc (.cells #[.int .i64 a, .int .i64 b, .int .i64 c, .int .i64 d] 57)).alloc (.cells #[.int .i64 a, .int .i64 b] 23)).alloc (.cells #[.int .i64 c, .int .i64 d] 23) := by
  have hg := gd_yes h
  have hk := gd_yes k
  go_enter Tryz.func75, Tryz.ntmps75
  go_wp2_with (go_at_call 52; refine (good_any _ _ _).mono ?_; rintro e w' ⟨rfl, rfl⟩)
  go_ret
  exact ⟨rfl, rfl⟩
theorem seal_yes (a b c d : Int) (h : Gd a b) (k : Gd c d) (w : World) :
    Calls Tryz.prog 50 #[.agg #[.int .i64 a, .int .i64 b], .agg #[.int .i64 c, .int .i64 d]] w fun e w' => e = .returned (.tuple #[.agg #[.int .i64 a, .int .i64 b, .int .i64 c, .int .i64 d], .int .i64 0]) ∧ Below w.heap.size w w' := by
  go_enter Tryz.func50, Tryz.ntmps50
  go_wp2_with fail
  refine (goodBox_yes a b c d h k _).mono ?_
  rintro e w' ⟨rfl, rfl⟩
  go_wp2
  exact bodyPost_ret (v := .tuple #[.agg #[.int .i64 a, .int .i64 b, .int .i64 c, .int .i64 d], .int .i64 0]) (by simp [results, Tryz.results50, go_sem]) rfl ⟨rfl, Below.more (Below.more (Below.more (Below.more (Below.more (Below.more (below1 _ _) _) _) _) _) _) _⟩
theorem seal_low (a b c d : Int) (h : Gd a b) (k : ¬ Gd c d) (w : World) :
    Calls Tryz.prog 50 #[.agg #[.int .i64 a, .int .i64 b], .agg #[.int .i64 c, .int .i64 d]] w fun e w' => e = .returned (.tuple #[.agg #[.int .i64 0, .int .i64 0, .int .i64 0, .int .i64 0], .int .i64 3]) ∧ Below w.heap.size w w' := by
  go_enter Tryz.func50, Tryz.ntmps50
  go_wp2_with fail
  refine (goodBox_low a b c d h k _).mono ?_
  rintro e w' ⟨rfl, rfl⟩
  go_wp2
  exact bodyPost_ret (v := .tuple #[.agg #[.int .i64 0, .int .i64 0, .int .i64 0, .int .i64 0], .int .i64 3]) (by simp [results, Tryz.results50, go_sem]) rfl ⟨rfl, Below.more (Below.more (Below.more (Below.more (Below.more (Below.more (below1 _ _) _) _) _) _) _) _⟩
theorem seal_up (a b c d : Int) (h : ¬ Gd a b) (w : World) :
    Calls Tryz.prog 50 #[.agg #[.int .i64 a, .int .i64 b], .agg #[.int .i64 c, .int .i64 d]] w fun e w' => e = .returned (.tuple #[.agg #[.int .i64 0, .int .i64 0, .int .i64 0, .int .i64 0], .int .i64 3]) ∧ Below w.heap.size w w' := by
  go_enter Tryz.func50, Tryz.ntmps50
  go_wp2_with fail
  refine (goodBox_up a b c d h _).mono ?_
  rintro e w' ⟨rfl, rfl⟩
  go_wp2
  exact bodyPost_ret (v := .tuple #[.agg #[.int .i64 0, .int .i64 0, .int .i64 0, .int .i64 0], .int .i64 3]) (by simp [results, Tryz.results50, go_sem]) rfl ⟨rfl, Below.more (Below.more (Below.more (Below.more (Below.more (below1 _ _) _) _) _) _) _⟩
end Go.Proofs.YtpimbpfefhkojaaGreat.Rt
/- Contracts: Open of both. -/
namespace Go.Proofs.YtpimbpfefhkojaaGreat.Rt
open Go.RowKit

theorem gives_exact (b s c t : Int) (h : Gd b s) (k : Gd c t) (w : World) :
    Calls Tryz.prog 81 #[.agg #[.int .i64 b, .int .i64 s], .agg #[.int .i64 c, .int .i64 t]] w fun e w' => e = .returned (.bool (gv b s c t)) ∧ w' = (((w.alloc (.cells #[.int .i64 b, .int .i64 s] 23)).alloc (.cells #[.int .i64 c, .int .i64 t] 23)).alloc (.cells #[.int .i64 b, .int .i64 s] 23)).alloc (.cells #[.int .i64 c, .int .i64 t] 23) := by
  unfold gv
  have hg := gd_yes h
  have hk := gd_yes k
  cases hb : (b == c)
  · go_enter Tryz.func81, Tryz.ntmps81
    go_wp2_with (go_at_call 52; refine (good_any _ _ _).mono ?_; rintro e w' ⟨rfl, rfl⟩)
    go_ret
    exact ⟨ret_bool (by simp [hg, hk]), rfl⟩
  · go_enter Tryz.func81, Tryz.ntmps81
    go_wp2_with (go_at_call 52; refine (good_any _ _ _).mono ?_; rintro e w' ⟨rfl, rfl⟩)
    go_ret
    exact ⟨ret_bool (by simp [hg, hk]), rfl⟩
theorem rGives_exact (b s c t : Int) (h : Gd b s) (k : Gd c t) (w : World) :
    Calls Tryz.prog 12 #[.agg #[.int .i64 b, .int .i64 s], .agg #[.int .i64 c, .int .i64 t]] w fun e w' => e = .returned (.bool (gv b s c t)) ∧ w' = (((w.alloc (.cells #[.int .i64 b, .int .i64 s] 23)).alloc (.cells #[.int .i64 c, .int .i64 t] 23)).alloc (.cells #[.int .i64 b, .int .i64 s] 23)).alloc (.cells #[.int .i64 c, .int .i64 t] 23) := by
  unfold gv
  have hg := gd_yes h
  have hk := gd_yes k
  cases hb : (b == c)
  · go_enter Tryz.func12, Tryz.ntmps12
    go_wp2_with (go_at_call 29; refine (rGood_any _ _ _).mono ?_; rintro e w' ⟨rfl, rfl⟩)
    go_ret
    exact ⟨ret_bool (by simp [hg, hk]), rfl⟩
  · go_enter Tryz.func12, Tryz.ntmps12
    go_wp2_with (go_at_call 29; refine (rGood_any _ _ _).mono ?_; rintro e w' ⟨rfl, rfl⟩)
    go_ret
    exact ⟨ret_bool (by simp [hg, hk]), rfl⟩
theorem open_up (a b c d x y : Int) (h : ¬ Gd a b) (w : World) :
    Calls Tryz.prog 53 #[.agg #[.int .i64 a, .int .i64 b, .int .i64 c, .int .i64 d], .agg #[.int .i64 x, .int .i64 y]] w fun e w' => e = .returned (.tuple #[.agg #[.int .i64 0, .int .i64 0], .int .i64 3]) ∧ Below w.heap.size w w' := by
  go_enter Tryz.func53, Tryz.ntmps53
  go_wp2_with fail
  refine (goodBox_up a b c d h _).mono ?_
  rintro e w' ⟨rfl, rfl⟩
  go_wp2
  exact bodyPost_ret (v := .tuple #[.agg #[.int .i64 0, .int .i64 0], .int .i64 3]) (by simp [results, Tryz.results53, go_sem]) rfl ⟨rfl, Below.more (Below.more (Below.more (Below.more (below1 _ _) _) _) _) _⟩
theorem open_low (a b c d x y : Int) (h : Gd a b) (k : ¬ Gd c d) (w : World) :
    Calls Tryz.prog 53 #[.agg #[.int .i64 a, .int .i64 b, .int .i64 c, .int .i64 d], .agg #[.int .i64 x, .int .i64 y]] w fun e w' => e = .returned (.tuple #[.agg #[.int .i64 0, .int .i64 0], .int .i64 3]) ∧ Below w.heap.size w w' := by
  go_enter Tryz.func53, Tryz.ntmps53
  go_wp2_with fail
  refine (goodBox_low a b c d h k _).mono ?_
  rintro e w' ⟨rfl, rfl⟩
  go_wp2
  exact bodyPost_ret (v := .tuple #[.agg #[.int .i64 0, .int .i64 0], .int .i64 3]) (by simp [results, Tryz.results53, go_sem]) rfl ⟨rfl, Below.more (Below.more (Below.more (Below.more (Below.more (below1 _ _) _) _) _) _) _⟩
theorem open_bad (a b c d x y : Int) (h : Gd a b) (k : Gd c d) (m : ¬ Gd x y) (w : World) :
    Calls Tryz.prog 53 #[.agg #[.int .i64 a, .int .i64 b, .int .i64 c, .int .i64 d], .agg #[.int .i64 x, .int .i64 y]] w fun e w' => e = .returned (.tuple #[.agg #[.int .i64 0, .int .i64 0], .int .i64 3]) ∧ Below w.heap.size w w' := by
  go_enter Tryz.func53, Tryz.ntmps53
  go_wp2_with fail
  refine (goodBox_yes a b c d h k _).mono ?_
  rintro e w' ⟨rfl, rfl⟩
  go_wp2_with fail
  refine (good_no x y m _).mono ?_
  rintro e w' ⟨rfl, rfl⟩
  go_wp2
  exact bodyPost_ret (v := .tuple #[.agg #[.int .i64 0, .int .i64 0], .int .i64 3]) (by simp [results, Tryz.results53, go_sem]) rfl ⟨rfl, Below.more (Below.more (Below.more (Below.more (Below.more (Below.more (below1 _ _) _) _) _) _) _) _⟩
theorem open_off (a b c d x y : Int) (h : Gd a b) (k : Gd c d) (m : Gd x y) (g : gv x y a b = false) (w : World) :
    Calls Tryz.prog 53 #[.agg #[.int .i64 a, .int .i64 b, .int .i64 c, .int .i64 d], .agg #[.int .i64 x, .int .i64 y]] w fun e w' => e = .returned (.tuple #[.agg #[.int .i64 0, .int .i64 0], .int .i64 5]) ∧ Below w.heap.size w w' := by
  go_enter Tryz.func53, Tryz.ntmps53
  go_wp2_with fail
  refine (goodBox_yes a b c d h k _).mono ?_
  rintro e w' ⟨rfl, rfl⟩
  go_wp2_with fail
  refine (good_yes x y m _).mono ?_
  rintro e w' ⟨rfl, rfl⟩
  go_wp2_with fail
  refine (gives_exact x y a b m h _).mono ?_
  rintro e w' ⟨rfl, rfl⟩
  go_wp2
  exact bodyPost_ret (v := .tuple #[.agg #[.int .i64 0, .int .i64 0], .int .i64 5]) (by simp [results, Tryz.results53, go_sem]) rfl ⟨rfl, Below.more (Below.more (Below.more (Below.more (Below.more (Below.more (Below.more (Below.more (Below.more (Below.more (below1 _ _) _) _) _) _) _) _) _) _) _) _⟩
theorem open_yes (a b c d x y : Int) (h : Gd a b) (k : Gd c d) (m : Gd x y) (g : gv x y a b = true) (w : World) :
    Calls Tryz.prog 53 #[.agg #[.int .i64 a, .int .i64 b, .int .i64 c, .int .i64 d], .agg #[.int .i64 x, .int .i64 y]] w fun e w' => e = .returned (.tuple #[.agg #[.int .i64 c, .int .i64 d], .int .i64 0]) ∧ Below w.heap.size w w' := by
  go_enter Tryz.func53, Tryz.ntmps53
  go_wp2_with fail
  refine (goodBox_yes a b c d h k _).mono ?_
  rintro e w' ⟨rfl, rfl⟩
  go_wp2_with fail
  refine (good_yes x y m _).mono ?_
  rintro e w' ⟨rfl, rfl⟩
  go_wp2_with fail
  refine (gives_exact x y a b m h _).mono ?_
  rintro e w' ⟨rfl, rfl⟩
  go_wp2
  exact bodyPost_ret (v := .tuple #[.agg #[.int .i64 c, .int .i64 d], .int .i64 0]) (by simp [results, Tryz.results53, go_sem]) rfl ⟨rfl, Below.more (Below.more (Below.more (Below.more (Below.more (Below.more (Below.more (Below.more (Below.more (Below.more (below1 _ _) _) _) _) _) _) _) _) _) _) _⟩
end Go.Proofs.YtpimbpfefhkojaaGreat.Rt
