/- Contracts: PackBox and UnpackBox of both. -/
import Derived.Test.YtdbnaoddnelebaaKeyD
namespace Go.Proofs.Ytdbnaoddnelebaa
open Go.RowKit

theorem packBox_yes (a b c d : Int) (h : Gd a b) (k : Gd c d) (w : World) :
    Calls Try.prog 22 #[.agg #[.int .i64 a, .int .i64 b, .int .i64 c, .int .i64 d]] w fun e w' => e = .returned (.tuple #[.int .u64 ((a * 256 + b) * 4294967296 + (c * 256 + d)), .int .i64 0]) ∧ Below w.heap.size w w' := by
  obtain ⟨h1, h2, h3, h4⟩ := id h
  obtain ⟨k1, k2, k3, k4⟩ := id k
  have ho := or32 (a * 256 + b) (c * 256 + d) (by omega) (by omega) (by omega) (by omega)
  go_enter Try.func22, Try.ntmps22
  go_wp2_with fail
  refine (pack_yes a b h _).mono ?_
  rintro e w' ⟨rfl, rfl⟩
  go_wp2_with fail
  refine (pack_yes c d k _).mono ?_
  rintro e w' ⟨rfl, rfl⟩
  go_wp2
  go_ret2
  exact ⟨rfl, Below.more (Below.more (Below.more (Below.more (below1 _ _) _) _) _) _⟩
theorem packBox_low (a b c d : Int) (h : Gd a b) (k : ¬ Gd c d) (w : World) :
    Calls Try.prog 22 #[.agg #[.int .i64 a, .int .i64 b, .int .i64 c, .int .i64 d]] w fun e w' => e = .returned (.tuple #[.int .u64 0, .int .i64 3]) ∧ Below w.heap.size w w' := by
  go_enter Try.func22, Try.ntmps22
  go_wp2_with fail
  refine (pack_yes a b h _).mono ?_
  rintro e w' ⟨rfl, rfl⟩
  go_wp2_with fail
  refine (pack_no c d k _).mono ?_
  rintro e w' ⟨rfl, rfl⟩
  go_wp2
  go_ret2
  exact ⟨rfl, Below.more (Below.more (Below.more (Below.more (below1 _ _) _) _) _) _⟩
theorem rPackBox_yes (a b c d : Int) (h : Gd a b) (k : Gd c d) (w : World) :
    Calls Try.prog 23 #[.agg #[.int .i64 a, .int .i64 b, .int .i64 c, .int .i64 d]] w fun e w' => e = .returned (.tuple #[.int .u64 ((a * 256 + b) * 4294967296 + (c * 256 + d)), .int .i64 0]) ∧ Below w.heap.size w w' := by
  obtain ⟨h1, h2, h3, h4⟩ := id h
  obtain ⟨k1, k2, k3, k4⟩ := id k
  have ho := or32 (a * 256 + b) (c * 256 + d) (by omega) (by omega) (by omega) (by omega)
  go_enter Try.func23, Try.ntmps23
  go_wp2_with fail
  refine (rPack_yes a b h _).mono ?_
  rintro e w' ⟨rfl, rfl⟩
  go_wp2_with fail
  refine (rPack_yes c d k _).mono ?_
  rintro e w' ⟨rfl, rfl⟩
  go_wp2
  go_ret2
  exact ⟨rfl, Below.more (Below.more (Below.more (Below.more (below1 _ _) _) _) _) _⟩
theorem rPackBox_low (a b c d : Int) (h : Gd a b) (k : ¬ Gd c d) (w : World) :
    Calls Try.prog 23 #[.agg #[.int .i64 a, .int .i64 b, .int .i64 c, .int .i64 d]] w fun e w' => e = .returned (.tuple #[.int .u64 0, .int .i64 3]) ∧ Below w.heap.size w w' := by
  go_enter Try.func23, Try.ntmps23
  go_wp2_with fail
  refine (rPack_yes a b h _).mono ?_
  rintro e w' ⟨rfl, rfl⟩
  go_wp2_with fail
  refine (rPack_no c d k _).mono ?_
  rintro e w' ⟨rfl, rfl⟩
  go_wp2
  go_ret2
  exact ⟨rfl, Below.more (Below.more (Below.more (Below.more (below1 _ _) _) _) _) _⟩
theorem packBox_up (a b c d : Int) (h : ¬ Gd a b) (w : World) :
    Calls Try.prog 22 #[.agg #[.int .i64 a, .int .i64 b, .int .i64 c, .int .i64 d]] w fun e w' => e = .returned (.tuple #[.int .u64 0, .int .i64 3]) ∧ Below w.heap.size w w' := by
  go_enter Try.func22, Try.ntmps22
  go_wp2_with fail
  refine (pack_no a b h _).mono ?_
  rintro e w' ⟨rfl, rfl⟩
  go_wp2
  go_ret2
  exact ⟨rfl, Below.more (Below.more (below1 _ _) _) _⟩
theorem rPackBox_up (a b c d : Int) (h : ¬ Gd a b) (w : World) :
    Calls Try.prog 23 #[.agg #[.int .i64 a, .int .i64 b, .int .i64 c, .int .i64 d]] w fun e w' => e = .returned (.tuple #[.int .u64 0, .int .i64 3]) ∧ Below w.heap.size w w' := by
  by_cases k : Gd c d
  · go_enter Try.func23, Try.ntmps23
    go_wp2_with fail
    refine (rPack_no a b h _).mono ?_
    rintro e w' ⟨rfl, rfl⟩
    go_wp2_with fail
    refine (rPack_yes c d k _).mono ?_
    rintro e w' ⟨rfl, rfl⟩
    go_wp2
    go_ret2
    exact ⟨rfl, Below.more (Below.more (Below.more (Below.more (below1 _ _) _) _) _) _⟩
  · go_enter Try.func23, Try.ntmps23
    go_wp2_with fail
    refine (rPack_no a b h _).mono ?_
    rintro e w' ⟨rfl, rfl⟩
    go_wp2_with fail
    refine (rPack_no c d k _).mono ?_
    rintro e w' ⟨rfl, rfl⟩
    go_wp2
    go_ret2
    exact ⟨rfl, Below.more (Below.more (Below.more (Below.more (below1 _ _) _) _) _) _⟩

theorem unpackBox_yes (v : Int) (h0 : 0 ≤ v) (h1 : v < 18446744073709551616) (h : Gd (v / 4294967296 / 256) (v / 4294967296 % 256)) (k : Gd (v % 4294967296 / 256) (v % 4294967296 % 256)) (w : World) :
    Calls Try.prog 24 #[.int .u64 v] w fun e w' => e = .returned (.tuple #[.agg #[.int .i64 (v / 4294967296 / 256), .int .i64 (v / 4294967296 % 256), .int .i64 (v % 4294967296 / 256), .int .i64 (v % 4294967296 % 256)], .int .i64 0]) ∧ Below w.heap.size w w' := by
  have hw : IntKind.u32.wrap v = v % 4294967296 := IntKind.wrap_u32' v
  go_enter Try.func24, Try.ntmps24
  go_wp2_with fail
  refine (unpack_yes _ (by omega) (by omega) h _).mono ?_
  rintro e w' ⟨rfl, rfl⟩
  go_wp2_with fail
  refine (unpack_yes (v % 4294967296) (by omega) (by omega) k _).mono ?_
  rintro e w' ⟨rfl, rfl⟩
  go_wp2
  exact bodyPost_ret (v := .tuple #[.agg #[.int .i64 (v / 4294967296 / 256), .int .i64 (v / 4294967296 % 256), .int .i64 (v % 4294967296 / 256), .int .i64 (v % 4294967296 % 256)], .int .i64 0]) (by simp [results, Try.results24, go_sem]) rfl ⟨rfl, Below.more (Below.more (Below.more (Below.more (Below.more (Below.more (Below.more (Below.more (below1 _ _) _) _) _) _) _) _) _) _⟩
theorem unpackBox_low (v : Int) (h0 : 0 ≤ v) (h1 : v < 18446744073709551616) (h : Gd (v / 4294967296 / 256) (v / 4294967296 % 256)) (k : ¬ Gd (v % 4294967296 / 256) (v % 4294967296 % 256)) (w : World) :
    Calls Try.prog 24 #[.int .u64 v] w fun e w' => e = .returned (.tuple #[.agg #[.int .i64 0, .int .i64 0, .int .i64 0, .int .i64 0], .int .i64 3]) ∧ Below w.heap.size w w' := by
  have hw : IntKind.u32.wrap v = v % 4294967296 := IntKind.wrap_u32' v
  go_enter Try.func24, Try.ntmps24
  go_wp2_with fail
  refine (unpack_yes _ (by omega) (by omega) h _).mono ?_
  rintro e w' ⟨rfl, rfl⟩
  go_wp2_with fail
  refine (unpack_no (v % 4294967296) (by omega) (by omega) k _).mono ?_
  rintro e w' ⟨rfl, rfl⟩
  go_wp2
  exact bodyPost_ret (v := .tuple #[.agg #[.int .i64 0, .int .i64 0, .int .i64 0, .int .i64 0], .int .i64 3]) (by simp [results, Try.results24, go_sem]) rfl ⟨rfl, Below.more (Below.more (Below.more (Below.more (Below.more (Below.more (Below.more (Below.more (below1 _ _) _) _) _) _) _) _) _) _⟩
theorem rUnpackBox_yes (v : Int) (h0 : 0 ≤ v) (h1 : v < 18446744073709551616) (h : Gd (v / 4294967296 / 256) (v / 4294967296 % 256)) (k : Gd (v % 4294967296 / 256) (v % 4294967296 % 256)) (w : World) :
    Calls Try.prog 25 #[.int .u64 v] w fun e w' => e = .returned (.tuple #[.agg #[.int .i64 (v / 4294967296 / 256), .int .i64 (v / 4294967296 % 256), .int .i64 (v % 4294967296 / 256), .int .i64 (v % 4294967296 % 256)], .int .i64 0]) ∧ Below w.heap.size w w' := by
  have hw : IntKind.u32.wrap v = v % 4294967296 := IntKind.wrap_u32' v
  go_enter Try.func25, Try.ntmps25
  go_wp2_with fail
  refine (rUnpack_yes _ (by omega) (by omega) h _).mono ?_
  rintro e w' ⟨rfl, rfl⟩
  go_wp2_with fail
  refine (rUnpack_yes (v % 4294967296) (by omega) (by omega) k _).mono ?_
  rintro e w' ⟨rfl, rfl⟩
  go_wp2
  exact bodyPost_ret (v := .tuple #[.agg #[.int .i64 (v / 4294967296 / 256), .int .i64 (v / 4294967296 % 256), .int .i64 (v % 4294967296 / 256), .int .i64 (v % 4294967296 % 256)], .int .i64 0]) (by simp [results, Try.results25, go_sem]) rfl ⟨rfl, Below.more (Below.more (Below.more (Below.more (Below.more (Below.more (Below.more (Below.more (below1 _ _) _) _) _) _) _) _) _) _⟩
theorem rUnpackBox_low (v : Int) (h0 : 0 ≤ v) (h1 : v < 18446744073709551616) (h : Gd (v / 4294967296 / 256) (v / 4294967296 % 256)) (k : ¬ Gd (v % 4294967296 / 256) (v % 4294967296 % 256)) (w : World) :
    Calls Try.prog 25 #[.int .u64 v] w fun e w' => e = .returned (.tuple #[.agg #[.int .i64 0, .int .i64 0, .int .i64 0, .int .i64 0], .int .i64 3]) ∧ Below w.heap.size w w' := by
  have hw : IntKind.u32.wrap v = v % 4294967296 := IntKind.wrap_u32' v
  go_enter Try.func25, Try.ntmps25
  go_wp2_with fail
  refine (rUnpack_yes _ (by omega) (by omega) h _).mono ?_
  rintro e w' ⟨rfl, rfl⟩
  go_wp2_with fail
  refine (rUnpack_no (v % 4294967296) (by omega) (by omega) k _).mono ?_
  rintro e w' ⟨rfl, rfl⟩
  go_wp2
  exact bodyPost_ret (v := .tuple #[.agg #[.int .i64 0, .int .i64 0, .int .i64 0, .int .i64 0], .int .i64 3]) (by simp [results, Try.results25, go_sem]) rfl ⟨rfl, Below.more (Below.more (Below.more (Below.more (Below.more (Below.more (Below.more (Below.more (below1 _ _) _) _) _) _) _) _) _) _⟩
theorem unpackBox_up (v : Int) (h0 : 0 ≤ v) (h1 : v < 18446744073709551616) (h : ¬ Gd (v / 4294967296 / 256) (v / 4294967296 % 256)) (w : World) :
    Calls Try.prog 24 #[.int .u64 v] w fun e w' => e = .returned (.tuple #[.agg #[.int .i64 0, .int .i64 0, .int .i64 0, .int .i64 0], .int .i64 3]) ∧ Below w.heap.size w w' := by
  have hw : IntKind.u32.wrap v = v % 4294967296 := IntKind.wrap_u32' v
  go_enter Try.func24, Try.ntmps24
  go_wp2_with fail
  refine (unpack_no _ (by omega) (by omega) h _).mono ?_
  rintro e w' ⟨rfl, rfl⟩
  go_wp2
  exact bodyPost_ret (v := .tuple #[.agg #[.int .i64 0, .int .i64 0, .int .i64 0, .int .i64 0], .int .i64 3]) (by simp [results, Try.results24, go_sem]) rfl ⟨rfl, Below.more (Below.more (Below.more (Below.more (below1 _ _) _) _) _) _⟩
theorem rUnpackBox_up1 (v : Int) (h0 : 0 ≤ v) (h1 : v < 18446744073709551616) (h : ¬ Gd (v / 4294967296 / 256) (v / 4294967296 % 256)) (k : Gd (v % 4294967296 / 256) (v % 4294967296 % 256)) (w : World) :
    Calls Try.prog 25 #[.int .u64 v] w fun e w' => e = .returned (.tuple #[.agg #[.int .i64 0, .int .i64 0, .int .i64 0, .int .i64 0], .int .i64 3]) ∧ Below w.heap.size w w' := by
  have hw : IntKind.u32.wrap v = v % 4294967296 := IntKind.wrap_u32' v
  go_enter Try.func25, Try.ntmps25
  go_wp2_with fail
  refine (rUnpack_no _ (by omega) (by omega) h _).mono ?_
  rintro e w' ⟨rfl, rfl⟩
  go_wp2_with fail
  refine (rUnpack_yes (v % 4294967296) (by omega) (by omega) k _).mono ?_
  rintro e w' ⟨rfl, rfl⟩
  go_wp2
  exact bodyPost_ret (v := .tuple #[.agg #[.int .i64 0, .int .i64 0, .int .i64 0, .int .i64 0], .int .i64 3]) (by simp [results, Try.results25, go_sem]) rfl ⟨rfl, Below.more (Below.more (Below.more (Below.more (Below.more (Below.more (Below.more (Below.more (below1 _ _) _) _) _) _) _) _) _) _⟩
theorem rUnpackBox_up2 (v : Int) (h0 : 0 ≤ v) (h1 : v < 18446744073709551616) (h : ¬ Gd (v / 4294967296 / 256) (v / 4294967296 % 256)) (k : ¬ Gd (v % 4294967296 / 256) (v % 4294967296 % 256)) (w : World) :
    Calls Try.prog 25 #[.int .u64 v] w fun e w' => e = .returned (.tuple #[.agg #[.int .i64 0, .int .i64 0, .int .i64 0, .int .i64 0], .int .i64 3]) ∧ Below w.heap.size w w' := by
  have hw : IntKind.u32.wrap v = v % 4294967296 := IntKind.wrap_u32' v
  go_enter Try.func25, Try.ntmps25
  go_wp2_with fail
  refine (rUnpack_no _ (by omega) (by omega) h _).mono ?_
  rintro e w' ⟨rfl, rfl⟩
  go_wp2_with fail
  refine (rUnpack_no (v % 4294967296) (by omega) (by omega) k _).mono ?_
  rintro e w' ⟨rfl, rfl⟩
  go_wp2
  exact bodyPost_ret (v := .tuple #[.agg #[.int .i64 0, .int .i64 0, .int .i64 0, .int .i64 0], .int .i64 3]) (by simp [results, Try.results25, go_sem]) rfl ⟨rfl, Below.more (Below.more (Below.more (Below.more (Below.more (Below.more (Below.more (Below.more (below1 _ _) _) _) _) _) _) _) _) _⟩
end Go.Proofs.Ytdbnaoddnelebaa
