/- KeyMath, KeyA, KeyB, KeyC, KeyF, KeyD, joined. -/
import Derived.WalkKit
import Derived.ProofKit
import Derived.Laws.Bits64
import Derived.Below
import Derived.WalkSpells
import Derived.Deep.RegionHeld3
import Derived.Test.YtdkfifnhmfbagaaGreatDoorChecked
import Derived.LoopTactic
import Derived.Laws.BitsAllLaws
namespace Go.Proofs.YtdkfifnhmfbagaaGreatDoor.Rt
open Go.RowKit
theorem ret_int {k : IntKind} {a b : Int} (h : a = b) : Ending.returned (.int k a) = .returned (.int k b) := by rw [h]
theorem ret_bool {a b : Bool} (h : a = b) : Ending.returned (.bool a) = .returned (.bool b) := by rw [h]
def Gd (b s : Int) : Prop := 1 ≤ b ∧ b ≤ 65535 ∧ 0 ≤ s ∧ s ≤ 255
def gd (b s : Int) : Bool := decide (1 ≤ b) && (decide (b ≤ 65535) && (decide (0 ≤ s) && decide (s ≤ 255)))
theorem gd_yes {b s : Int} (h : Gd b s) : gd b s = true := by simp [gd, h.1, h.2.1, h.2.2.1, h.2.2.2]
theorem gd_no {b s : Int} (h : ¬ Gd b s) : gd b s = false := by
 rw [Bool.eq_false_iff]
 intro hh
 simp [gd] at hh
 exact h hh
theorem below1 (w : World) (o : Obj) : Below w.heap.size w (w.alloc o) := (Below.refl _ _).alloc (Nat.le_refl _) _
theorem Below.more {w0 w : World} (h : Below w0.heap.size w0 w) (o : Obj) : Below w0.heap.size w0 (w.alloc o) := h.alloc h.size _
theorem good_yes (b s : Int) (h : Gd b s) (w : World) :
  Calls Tryz.prog 89 #[.agg #[.int .i64 b, .int .i64 s]] w fun e w' => e = .returned (.bool true) ∧ w' = w.alloc (.cells #[.int .i64 b, .int .i64 s] 38) := by
 obtain ⟨h1, h2, h3, h4⟩ := h
 go_enter Tryz.func89, Tryz.ntmps89
 go_wp2
 go_ret
 exact ⟨rfl, rfl⟩
theorem good_no (b s : Int) (h : ¬ Gd b s) (w : World) :
  Calls Tryz.prog 89 #[.agg #[.int .i64 b, .int .i64 s]] w fun e w' => e = .returned (.bool false) ∧ w' = w.alloc (.cells #[.int .i64 b, .int .i64 s] 38) := by
 by_cases h1 : 1 ≤ b
 ·by_cases h2 : b ≤ 65535
  ·by_cases h3 : 0 ≤ s
   ·have h4 : decide (s ≤ 255) = false := by unfold Gd at h; simp; omega
    clear h
    go_enter Tryz.func89, Tryz.ntmps89
    go_wp2
    go_ret
    exact ⟨ret_bool (by first | rfl | exact h4), rfl⟩
   ·clear h
    go_enter Tryz.func89, Tryz.ntmps89
    go_wp2
    go_ret
    exact ⟨rfl, rfl⟩
  ·clear h
   go_enter Tryz.func89, Tryz.ntmps89
   go_wp2
   go_ret
   exact ⟨rfl, rfl⟩
 ·clear h
  go_enter Tryz.func89, Tryz.ntmps89
  go_wp2
  go_ret
  exact ⟨rfl, rfl⟩
theorem good_any (b s : Int) (w : World) :
  Calls Tryz.prog 89 #[.agg #[.int .i64 b, .int .i64 s]] w fun e w' => e = .returned (.bool (gd b s)) ∧ w' = w.alloc (.cells #[.int .i64 b, .int .i64 s] 38) := by
 by_cases h : Gd b s
 ·rw [gd_yes h]; exact good_yes b s h w
 ·rw [gd_no h]; exact good_no b s h w
theorem rGood_yes (b s : Int) (h : Gd b s) (w : World) :
  Calls Tryz.prog 146 #[.agg #[.int .i64 b, .int .i64 s]] w fun e w' => e = .returned (.bool true) ∧ w' = w.alloc (.cells #[.int .i64 b, .int .i64 s] 38) := by
 obtain ⟨h1, h2, h3, h4⟩ := h
 go_enter Tryz.func146, Tryz.ntmps146
 go_wp2
 go_ret
 exact ⟨rfl, rfl⟩
theorem rGood_no (b s : Int) (h : ¬ Gd b s) (w : World) :
  Calls Tryz.prog 146 #[.agg #[.int .i64 b, .int .i64 s]] w fun e w' => e = .returned (.bool false) ∧ w' = w.alloc (.cells #[.int .i64 b, .int .i64 s] 38) := by
 by_cases h1 : 1 ≤ b
 ·by_cases h2 : b ≤ 65535
  ·by_cases h3 : 0 ≤ s
   ·have h4 : decide (s ≤ 255) = false := by unfold Gd at h; simp; omega
    clear h
    go_enter Tryz.func146, Tryz.ntmps146
    go_wp2
    go_ret
    exact ⟨ret_bool (by first | rfl | exact h4), rfl⟩
   ·clear h
    go_enter Tryz.func146, Tryz.ntmps146
    go_wp2
    go_ret
    exact ⟨rfl, rfl⟩
  ·clear h
   go_enter Tryz.func146, Tryz.ntmps146
   go_wp2
   go_ret
   exact ⟨rfl, rfl⟩
 ·clear h
  go_enter Tryz.func146, Tryz.ntmps146
  go_wp2
  go_ret
  exact ⟨rfl, rfl⟩
theorem rGood_any (b s : Int) (w : World) :
  Calls Tryz.prog 146 #[.agg #[.int .i64 b, .int .i64 s]] w fun e w' => e = .returned (.bool (gd b s)) ∧ w' = w.alloc (.cells #[.int .i64 b, .int .i64 s] 38) := by
 by_cases h : Gd b s
 ·rw [gd_yes h]; exact rGood_yes b s h w
 ·rw [gd_no h]; exact rGood_no b s h w
theorem ahead_far (b s n : Int) (h : Gd b s) (hn : n < 0 ∨ 255 - s < n) (w : World) :
  Calls Tryz.prog 65 #[.agg #[.int .i64 b, .int .i64 s], .int .i64 n] w fun e w' => e = .returned (.tuple #[.agg #[.int .i64 0, .int .i64 0], .int .i64 4]) ∧ Below w.heap.size w w' := by
 have h4 := h.2.2.2
 have h3 := h.2.2.1
 by_cases h0 : n < 0
 ·go_enter Tryz.func65, Tryz.ntmps65
  go_wp2_with (go_at_call 89; refine (good_yes _ _ h _).mono ?_; rintro e w' ⟨rfl, rfl⟩)
  exact bodyPost_ret (v := .tuple #[.agg #[.int .i64 0, .int .i64 0], .int .i64 4]) (by simp [results, Tryz.results65, go_sem]) rfl ⟨rfl, Below.more (Below.more (below1 _ _) _) _⟩
 ·have h1 : 255 - s < n := by omega
  clear hn
  go_enter Tryz.func65, Tryz.ntmps65
  go_wp2_with (go_at_call 89; refine (good_yes _ _ h _).mono ?_; rintro e w' ⟨rfl, rfl⟩)
  exact bodyPost_ret (v := .tuple #[.agg #[.int .i64 0, .int .i64 0], .int .i64 4]) (by simp [results, Tryz.results65, go_sem]) rfl ⟨rfl, Below.more (Below.more (below1 _ _) _) _⟩
theorem ahead_yes (b s n : Int) (h : Gd b s) (h0 : 0 ≤ n) (h1 : n ≤ 255 - s) (w : World) :
  Calls Tryz.prog 65 #[.agg #[.int .i64 b, .int .i64 s], .int .i64 n] w fun e w' => e = .returned (.tuple #[.agg #[.int .i64 b, .int .i64 (s + n)], .int .i64 0]) ∧ Below w.heap.size w w' := by
 have h4 := h.2.2.2
 have h3 := h.2.2.1
 go_enter Tryz.func65, Tryz.ntmps65
 go_wp2_with (go_at_call 89; refine (good_yes _ _ h _).mono ?_; rintro e w' ⟨rfl, rfl⟩)
 exact bodyPost_ret (v := .tuple #[.agg #[.int .i64 b, .int .i64 (s + n)], .int .i64 0]) (by simp [results, Tryz.results65, go_sem]) rfl ⟨rfl, Below.more (Below.more (below1 _ _) _) _⟩
theorem rAhead_off (b s n : Int) (h : Gd b s) (hn : n < 0 ∨ 255 < n) (w : World) :
  Calls Tryz.prog 134 #[.agg #[.int .i64 b, .int .i64 s], .int .i64 n] w fun e w' => e = .returned (.tuple #[.agg #[.int .i64 0, .int .i64 0], .int .i64 4]) ∧ Below w.heap.size w w' := by
 by_cases h0 : n < 0
 ·clear hn
  go_enter Tryz.func134, Tryz.ntmps134
  go_wp2_with (go_at_call 146; refine (rGood_yes _ _ h _).mono ?_; rintro e w' ⟨rfl, rfl⟩)
  exact bodyPost_ret (v := .tuple #[.agg #[.int .i64 0, .int .i64 0], .int .i64 4]) (by simp [results, Tryz.results134, go_sem]) rfl ⟨rfl, Below.more (Below.more (below1 _ _) _) _⟩
 ·have h1 : 255 < n := by omega
  clear hn
  go_enter Tryz.func134, Tryz.ntmps134
  go_wp2_with (go_at_call 146; refine (rGood_yes _ _ h _).mono ?_; rintro e w' ⟨rfl, rfl⟩)
  exact bodyPost_ret (v := .tuple #[.agg #[.int .i64 0, .int .i64 0], .int .i64 4]) (by simp [results, Tryz.results134, go_sem]) rfl ⟨rfl, Below.more (Below.more (below1 _ _) _) _⟩
set_option maxHeartbeats 1000000 in
theorem rAhead_in (b s n : Int) (h : Gd b s) (h0 : 0 ≤ n) (h1 : n ≤ 255) (w : World) :
  Calls Tryz.prog 134 #[.agg #[.int .i64 b, .int .i64 s], .int .i64 n] w fun e w' => (if s + n ≤ 255 then e = .returned (.tuple #[.agg #[.int .i64 b, .int .i64 (s + n)], .int .i64 0]) else e = .returned (.tuple #[.agg #[.int .i64 0, .int .i64 0], .int .i64 4])) ∧ Below w.heap.size w w' := by
 have h4 := h.2.2.2
 have h3 := h.2.2.1
 go_enter Tryz.func134, Tryz.ntmps134
 go_wp2_with (go_at_call 146; refine (rGood_yes _ _ h _).mono ?_; rintro e w' ⟨rfl, rfl⟩)
 go_loopw [6] (fun i wr => ∃ k : Int, 0 ≤ k ∧ k ≤ n ∧ i = .int .i64 k ∧ wr = ((w.alloc (.cells #[.int .i64 b, .int .i64 (s + k)] 38)).alloc (.cells #[.int .i64 0, .int .i64 0] 38)).alloc (.cells #[.int .i64 b, .int .i64 s] 38)) (fun i _ => (n - intOf i).toNat)
 case atStart => exact ⟨0, by omega, by omega, rfl, by simp⟩
 case round =>
  obtain ⟨k, hk0, hk1, rfl, rfl⟩ := hrel
  by_cases hk : k < n
  ·go_wp2
   go_roundw
   case rel => exact ⟨k + 1, by omega, by omega, by go_num, by simp [Int.add_assoc]⟩
   case measure => simp [intOf]; omega
  ·obtain rfl : k = n := by omega
   by_cases hg : s + k ≤ 255
   ·have hG : Gd b (s + k) := ⟨h.1, h.2.1, by omega, hg⟩
    go_wp2_with (go_at_call 146; refine (rGood_yes _ _ hG _).mono ?_; rintro e w' ⟨rfl, rfl⟩)
    exact bodyPost_ret (v := .tuple #[.agg #[.int .i64 b, .int .i64 (s + k)], .int .i64 0]) (by simp [results, Tryz.results134, go_sem]) rfl ⟨by first | rfl | rw [if_pos hg], Below.more (Below.more (Below.more (below1 _ _) _) _) _⟩
   ·have hG : ¬ Gd b (s + k) := fun hh => hg hh.2.2.2
    go_wp2_with (go_at_call 146; refine (rGood_no _ _ hG _).mono ?_; rintro e w' ⟨rfl, rfl⟩)
    exact bodyPost_ret (v := .tuple #[.agg #[.int .i64 0, .int .i64 0], .int .i64 4]) (by simp [results, Tryz.results134, go_sem]) rfl ⟨by first | rfl | rw [if_neg hg], Below.more (Below.more (Below.more (below1 _ _) _) _) _⟩
theorem goodBox_yes (a b c d : Int) (h : Gd a b) (k : Gd c d) (w : World) :
  Calls Tryz.prog 117 #[.agg #[.int .i64 a, .int .i64 b, .int .i64 c, .int .i64 d]] w fun e w' => e = .returned (.bool true) ∧ w' = ((w.alloc (.cells #[.int .i64 a, .int .i64 b, .int .i64 c, .int .i64 d] 40)).alloc (.cells #[.int .i64 a, .int .i64 b] 38)).alloc (.cells #[.int .i64 c, .int .i64 d] 38) := by
 have hg := gd_yes h
 have hk := gd_yes k
 go_enter Tryz.func117, Tryz.ntmps117
 go_wp2_with (go_at_call 89; refine (good_any _ _ _).mono ?_; rintro e w' ⟨rfl, rfl⟩)
 go_ret
 exact ⟨rfl, rfl⟩
theorem seal_yes (a b c d : Int) (h : Gd a b) (k : Gd c d) (w : World) :
  Calls Tryz.prog 67 #[.agg #[.int .i64 a, .int .i64 b], .agg #[.int .i64 c, .int .i64 d]] w fun e w' => e = .returned (.tuple #[.agg #[.int .i64 a, .int .i64 b, .int .i64 c, .int .i64 d], .int .i64 0]) ∧ Below w.heap.size w w' := by
 go_enter Tryz.func67, Tryz.ntmps67
 go_wp2_with fail
 refine (goodBox_yes a b c d h k _).mono ?_
 rintro e w' ⟨rfl, rfl⟩
 go_wp2
 exact bodyPost_ret (v := .tuple #[.agg #[.int .i64 a, .int .i64 b, .int .i64 c, .int .i64 d], .int .i64 0]) (by simp [results, Tryz.results67, go_sem]) rfl ⟨rfl, Below.more (Below.more (Below.more (Below.more (Below.more (Below.more (below1 _ _) _) _) _) _) _) _⟩
theorem or256 (b s : Int) (h1 : 0 ≤ b) (h2 : b ≤ 65535) (h3 : 0 ≤ s) (h4 : s ≤ 255) : bits .or .u32 (b * 256) s = b * 256 + s := by
 rw [u32_or _ _ (by omega) (by omega) (by omega) (by omega), nat_join 8 _ _ (by omega) (by omega)]; omega
theorem and255 (v : Int) (h0 : 0 ≤ v) (h1 : v < 4294967296) : bits .and .u32 v 255 = v % 256 := by
 rw [u32_and _ _ (by omega) (by omega) (by omega) (by omega)]
 have : v.toNat &&& (255 : Int).toNat = v.toNat % 256 := Nat.and_two_pow_sub_one_eq_mod v.toNat 8
 rw [this]; omega
theorem pack_yes (b s : Int) (h : Gd b s) (w : World) :
  Calls Tryz.prog 95 #[.agg #[.int .i64 b, .int .i64 s]] w fun e w' => e = .returned (.tuple #[.int .u32 (b * 256 + s), .int .i64 0]) ∧ w' = (w.alloc (.cells #[.int .i64 b, .int .i64 s] 38)).alloc (.cells #[.int .i64 b, .int .i64 s] 38) := by
 obtain ⟨h1, h2, h3, h4⟩ := id h
 have ho := or256 b s (by omega) h2 h3 h4
 go_enter Tryz.func95, Tryz.ntmps95
 go_wp2_with (go_at_call 89; refine (good_yes _ _ h _).mono ?_; rintro e w' ⟨rfl, rfl⟩)
 go_ret2
 exact ⟨rfl, rfl⟩
theorem unpack_yes (v : Int) (h0 : 0 ≤ v) (h1 : v < 4294967296) (h : Gd (v / 256) (v % 256)) (w : World) :
  Calls Tryz.prog 139 #[.int .u32 v] w fun e w' => e = .returned (.tuple #[.agg #[.int .i64 (v / 256), .int .i64 (v % 256)], .int .i64 0]) ∧ w' = ((w.alloc (.cells #[.int .i64 (v / 256), .int .i64 (v % 256)] 38)).alloc (.cells #[.int .i64 (v / 256), .int .i64 (v % 256)] 38)).alloc (.cells #[.int .i64 (v / 256), .int .i64 (v % 256)] 38) := by
 have ha := and255 v h0 h1
 have hm : wrap64 (v % 256) = v % 256 := by unfold wrap64; omega
 go_enter Tryz.func139, Tryz.ntmps139
 go_wp2_with (go_at_call 89; refine (good_yes _ _ h _).mono ?_; rintro e w' ⟨rfl, rfl⟩)
 exact bodyPost_ret (v := .tuple #[.agg #[.int .i64 (v / 256), .int .i64 (v % 256)], .int .i64 0]) (by simp [results, Tryz.results139, go_sem]) rfl ⟨rfl, rfl⟩
theorem unpack_no (v : Int) (h0 : 0 ≤ v) (h1 : v < 4294967296) (h : ¬ Gd (v / 256) (v % 256)) (w : World) :
  Calls Tryz.prog 139 #[.int .u32 v] w fun e w' => e = .returned (.tuple #[.agg #[.int .i64 0, .int .i64 0], .int .i64 3]) ∧ w' = ((w.alloc (.cells #[.int .i64 0, .int .i64 0] 38)).alloc (.cells #[.int .i64 (v / 256), .int .i64 (v % 256)] 38)).alloc (.cells #[.int .i64 (v / 256), .int .i64 (v % 256)] 38) := by
 have ha := and255 v h0 h1
 have hm : wrap64 (v % 256) = v % 256 := by unfold wrap64; omega
 go_enter Tryz.func139, Tryz.ntmps139
 go_wp2_with (go_at_call 89; refine (good_no _ _ h _).mono ?_; rintro e w' ⟨rfl, rfl⟩)
 exact bodyPost_ret (v := .tuple #[.agg #[.int .i64 0, .int .i64 0], .int .i64 3]) (by simp [results, Tryz.results139, go_sem]) rfl ⟨rfl, rfl⟩
end Go.Proofs.YtdkfifnhmfbagaaGreatDoor.Rt
