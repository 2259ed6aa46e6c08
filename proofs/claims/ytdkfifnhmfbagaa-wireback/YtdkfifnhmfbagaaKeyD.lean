/- Contracts: Pack and Unpack of both; the fixed answers that every statement asks first. -/
import Derived.Test.YtdkfifnhmfbagaaKeyA
import Derived.Laws.BitsAllLaws
namespace Go.Proofs.Ytdkfifnhmfbagaa.Rt
open Go.RowKit

theorem or256 (b s : Int) (h1 : 0 ≤ b) (h2 : b ≤ 65535) (h3 : 0 ≤ s) (h4 : s ≤ 255) : bits .or .u32 (b * 256) s = b * 256 + s := by
  rw [u32_or _ _ (by omega) (by omega) (by omega) (by omega), nat_join 8 _ _ (by omega) (by omega)]; omega
theorem and255 (v : Int) (h0 : 0 ≤ v) (h1 : v < 4294967296) : bits .and .u32 v 255 = v % 256 := by
  rw [u32_and _ _ (by omega) (by omega) (by omega) (by omega)]
  have : v.toNat &&& (255 : Int).toNat = v.toNat % 256 := Nat.and_two_pow_sub_one_eq_mod v.toNat 8
  rw [this]; omega
theorem or32 (x y : Int) (h1 : 0 ≤ x) (h2 : x < 4294967296) (h3 : 0 ≤ y) (h4 : y < 4294967296) : bits .or .u64 (x * 4294967296) y = x * 4294967296 + y := by
  rw [u64_or _ _ (by omega) (by omega) (by omega) (by omega), nat_join 32 _ _ (by omega) (by omega)]; omega
theorem ret2 {x y x' y' : Value} (h : x = x') (k : y = y') : Ending.returned (.tuple #[x, y]) = .returned (.tuple #[x', y']) := by rw [h, k]

theorem pack_yes (b s : Int) (h : Gd b s) (w : World) :
    Calls Try.prog 71 #[.agg #[.int .i64 b, .int .i64 s]] w fun e w' => e = .returned (.tuple #[.int .u32 (b * 256 + s), .int .i64 0]) ∧ w' = (w.alloc (.cells #[.int .i64 b, .int .i64 s] 29)).alloc (.cells #[.int .i64 b, .int .i64 s] 29) := by
  obtain ⟨h1, h2, h3, h4⟩ := id h
  have ho := or256 b s (by omega) h2 h3 h4
  go_enter Try.func71, Try.ntmps71
  go_wp2_with (go_at_call 65; refine (good_yes _ _ h _).mono ?_; rintro e w' ⟨rfl, rfl⟩)
  go_ret2
  exact ⟨rfl, rfl⟩
theorem pack_no (b s : Int) (h : ¬ Gd b s) (w : World) :
    Calls Try.prog 71 #[.agg #[.int .i64 b, .int .i64 s]] w fun e w' => e = .returned (.tuple #[.int .u32 0, .int .i64 3]) ∧ w' = (w.alloc (.cells #[.int .i64 b, .int .i64 s] 29)).alloc (.cells #[.int .i64 b, .int .i64 s] 29) := by
  go_enter Try.func71, Try.ntmps71
  go_wp2_with (go_at_call 65; refine (good_no _ _ h _).mono ?_; rintro e w' ⟨rfl, rfl⟩)
  go_ret2
  exact ⟨rfl, rfl⟩
theorem unpack_yes (v : Int) (h0 : 0 ≤ v) (h1 : v < 4294967296) (h : Gd (v / 256) (v % 256)) (w : World) :
    Calls Try.prog 87 #[.int .u32 v] w fun e w' => e = .returned (.tuple #[.agg #[.int .i64 (v / 256), .int .i64 (v % 256)], .int .i64 0]) ∧ w' = ((w.alloc (.cells #[.int .i64 (v / 256), .int .i64 (v % 256)] 29)).alloc (.cells #[.int .i64 (v / 256), .int .i64 (v % 256)] 29)).alloc (.cells #[.int .i64 (v / 256), .int .i64 (v % 256)] 29) := by
  have ha := and255 v h0 h1
  have hm : wrap64 (v % 256) = v % 256 := by unfold wrap64; omega
  go_enter Try.func87, Try.ntmps87
  go_wp2_with (go_at_call 65; refine (good_yes _ _ h _).mono ?_; rintro e w' ⟨rfl, rfl⟩)
  exact bodyPost_ret (v := .tuple #[.agg #[.int .i64 (v / 256), .int .i64 (v % 256)], .int .i64 0]) (by simp [results, Try.results87, go_sem]) rfl ⟨rfl, rfl⟩
theorem unpack_no (v : Int) (h0 : 0 ≤ v) (h1 : v < 4294967296) (h : ¬ Gd (v / 256) (v % 256)) (w : World) :
    Calls Try.prog 87 #[.int .u32 v] w fun e w' => e = .returned (.tuple #[.agg #[.int .i64 0, .int .i64 0], .int .i64 3]) ∧ w' = ((w.alloc (.cells #[.int .i64 0, .int .i64 0] 29)).alloc (.cells #[.int .i64 (v / 256), .int .i64 (v % 256)] 29)).alloc (.cells #[.int .i64 (v / 256), .int .i64 (v % 256)] 29) := by
  have ha := and255 v h0 h1
  have hm : wrap64 (v % 256) = v % 256 := by unfold wrap64; omega
  go_enter Try.func87, Try.ntmps87
  go_wp2_with (go_at_call 65; refine (good_no _ _ h _).mono ?_; rintro e w' ⟨rfl, rfl⟩)
  exact bodyPost_ret (v := .tuple #[.agg #[.int .i64 0, .int .i64 0], .int .i64 3]) (by simp [results, Try.results87, go_sem]) rfl ⟨rfl, rfl⟩
end Go.Proofs.Ytdkfifnhmfbagaa.Rt
