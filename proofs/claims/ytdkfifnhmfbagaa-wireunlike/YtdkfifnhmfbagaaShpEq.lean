/- What '==' says of two arrays of three numbers. -/
import Derived.Test.YtdkfifnhmfbagaaChecked
import Derived.WalkKit
import Derived.ChangeKeysEq
namespace Go.Proofs.Ytdkfifnhmfbagaa.Sh
open Go.RowKit

set_option maxRecDepth 20000
theorem eqItems3 {P : Program} {e : TypeId} {k : IntKind} {d : Nat} (he : P.underlying e = some (.int k))
    (p0 : ∀ (x y z : Value) (w : World), (part e #[x, y, z] 0).run P w = .ok x w)
    (p1 : ∀ (x y z : Value) (w : World), (part e #[x, y, z] (P.cellsOf e)).run P w = .ok y w)
    (p2 : ∀ (x y z : Value) (w : World), (part e #[x, y, z] (2 * P.cellsOf e)).run P w = .ok z w)
    (a b c a' b' c' : Int) (w : World) :
    (Op.eqItems (d + 1) e (P.cellsOf e) #[.int k a, .int k b, .int k c] #[.int k a', .int k b', .int k c'] [0, 1, 2]).run P w = .ok (a == a' && (b == b' && c == c')) w := by
  cases h1 : (a == a') <;> cases h2 : (b == b') <;> cases h3 : (c == c') <;>
    simp [Op.eqItems, Sem.run_bind, Sem.run_ite, p0, p1, p2, Result.andThen_ok, run_equalIn_int _ d e k k _ _ he, h1, h2, h3]
theorem part0 (x y z : Value) (w : World) : (part 3 #[x, y, z] 0).run Try.prog w = .ok x w := by kernel_rfl
theorem part1 (x y z : Value) (w : World) : (part 3 #[x, y, z] (Try.prog.cellsOf 3)).run Try.prog w = .ok y w := by kernel_rfl
theorem part2 (x y z : Value) (w : World) : (part 3 #[x, y, z] (2 * Try.prog.cellsOf 3)).run Try.prog w = .ok z w := by kernel_rfl
theorem info_int : (Try.prog.info? 3).isSome = true := by kernel_rfl
theorem upart0 (x y z : Value) (w : World) : (part 5 #[x, y, z] 0).run Try.prog w = .ok x w := by kernel_rfl
theorem upart1 (x y z : Value) (w : World) : (part 5 #[x, y, z] (Try.prog.cellsOf 5)).run Try.prog w = .ok y w := by kernel_rfl
theorem upart2 (x y z : Value) (w : World) : (part 5 #[x, y, z] (2 * Try.prog.cellsOf 5)).run Try.prog w = .ok z w := by kernel_rfl
theorem info_u8 : (Try.prog.info? 5).isSome = true := by kernel_rfl
end Go.Proofs.Ytdkfifnhmfbagaa.Sh
