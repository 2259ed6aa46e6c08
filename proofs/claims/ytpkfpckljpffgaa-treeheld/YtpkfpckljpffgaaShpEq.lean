/- What '==' says of two arrays of three numbers. -/
import Derived.Test.YtpkfpckljpffgaaChecked
import Derived.WalkKit
import Derived.ChangeKeysEq
namespace Go.Proofs.Ytpkfpckljpffgaa.Sh
open Go.RowKit

theorem eqItems3 {P : Program} {e : TypeId} {k : IntKind} {d : Nat} (he : P.underlying e = some (.int k))
    (p0 : ∀ (x y z : Value) (w : World), (part e #[x, y, z] 0).run P w = .ok x w)
    (p1 : ∀ (x y z : Value) (w : World), (part e #[x, y, z] (P.cellsOf e)).run P w = .ok y w)
    (p2 : ∀ (x y z : Value) (w : World), (part e #[x, y, z] (2 * P.cellsOf e)).run P w = .ok z w)
    (a b c a' b' c' : Int) (w : World) :
    (Op.eqItems (d + 1) e (P.cellsOf e) #[.int k a, .int k b, .int k c] #[.int k a', .int k b', .int k c'] [0, 1, 2]).run P w = .ok (a == a' && (b == b' && c == c')) w := by
  cases h1 : (a == a') <;> cases h2 : (b == b') <;> cases h3 : (c == c') <;>
    simp [Op.eqItems, Sem.run_bind, Sem.run_ite, p0, p1, p2, Result.andThen_ok, run_equalIn_int _ d e k k _ _ he, h1, h2, h3]
theorem part0 (x y z : Value) (w : World) : (part 3 #[x, y, z] 0).run Try.prog w = .ok x w := by kernel_rfl
theorem part1 (x y z : Value) (w : World) : (part 3 #[x, y, z] (Try.prog.cellsOf 3)).run Try.prog w = .ok y w := by kernel_rfl
theorem part2 (x y z : Value) (w : World) : (part 3 #[x, y, z] (2 * Try.prog.cellsOf 3)).run Try.prog w = .ok z w := by kernel_rfl
theorem info_int : (Try.prog.info? 3).isSome = true := by kernel_rfl
theorem eqArr3 (a b c a' b' c' : Int) (w : World) :
    (Op.equalIn 10000 54 (.agg #[.int .i64 a, .int .i64 b, .int .i64 c]) (.agg #[.int .i64 a', .int .i64 b', .int .i64 c'])).run Try.prog w = .ok (a == a' && (b == b' && c == c')) w := by
  obtain ⟨i, hi⟩ := Option.isSome_iff_exists.mp info_int
  rw [run_equalIn_array w 9999 _ _ Try.underlying54 hi]
  exact eqItems3 (d := 9998) Try.underlying3 part0 part1 part2 a b c a' b' c' w
theorem upart0 (x y z : Value) (w : World) : (part 5 #[x, y, z] 0).run Try.prog w = .ok x w := by kernel_rfl
theorem upart1 (x y z : Value) (w : World) : (part 5 #[x, y, z] (Try.prog.cellsOf 5)).run Try.prog w = .ok y w := by kernel_rfl
theorem upart2 (x y z : Value) (w : World) : (part 5 #[x, y, z] (2 * Try.prog.cellsOf 5)).run Try.prog w = .ok z w := by kernel_rfl
theorem info_u8 : (Try.prog.info? 5).isSome = true := by kernel_rfl
theorem eqArr3u (a b c a' b' c' : Int) (w : World) :
    (Op.equalIn 10000 78 (.agg #[.int .u8 a, .int .u8 b, .int .u8 c]) (.agg #[.int .u8 a', .int .u8 b', .int .u8 c'])).run Try.prog w = .ok (a == a' && (b == b' && c == c')) w := by
  obtain ⟨i, hi⟩ := Option.isSome_iff_exists.mp info_u8
  rw [run_equalIn_array w 9999 _ _ Try.underlying78 hi]
  exact eqItems3 (d := 9998) Try.underlying5 upart0 upart1 upart2 a b c a' b' c' w
end Go.Proofs.Ytpkfpckljpffgaa.Sh
