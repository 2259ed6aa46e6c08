/- StE, StF, joined. -/
import Derived.Test.YtpimbpfefhkojaaGreatStJ1
import Derived.Shelf.Abstract
import Derived.WalkKit
import Derived.OwnWalkIn
import Derived.TacticsInMore
import Derived.LoopNIn
import Derived.LoopIn
import Derived.Maps.AppendAt
import Derived.RangeFuncBox
import Derived.RangeFuncNested
import Derived.Shelf.RegionOpen
import Derived.BigQuiet
import Derived.Sort.QuietIn
import Derived.WalkSmall
/- Contracts: List. -/
namespace Go.Proofs.YtpimbpfefhkojaaGreat.Rs
open Go.RowKit Go.Maps Go.Shelf
attribute [local go_sem] Oper.semAt_some
set_option linter.unusedVariables false
set_option linter.unusedSimpArgs false

theorem infoInt : (Tryz.prog.info? 3).map (fun i => (i.zero, i.size, i.bytes)) = some (some (.int .i64 0), 1, 8) := by kernel_rfl
/- Places as a slice's cells. -/
def nI (l : List Nat) : List Value := l.map fun k => .int .i64 ((k : Nat) : Int)
@[simp] theorem nI_length (l : List Nat) : (nI l).length = l.length := by simp [nI]
theorem nI_snoc (l : List Nat) (k : Nat) : nI (l ++ [k]) = nI l ++ [.int .i64 (k : Int)] := by simp [nI]
/- A slice of numbers that is new. -/
def NewL (w w' : World) (v : Value) (l : List Nat) : Prop := w'.ownsRow w.heap.size 3 1 v l.length (nI l)
end Go.Proofs.YtpimbpfefhkojaaGreat.Rs
/- Contracts: Take. -/
namespace Go.Proofs.YtpimbpfefhkojaaGreat.Rs
open Go.RowKit Go.Maps Go.Shelf
attribute [local go_sem] Oper.semAt_some
set_option linter.unusedVariables false
set_option linter.unusedSimpArgs false

@[simp] theorem wide_fn (f : Nat) : Fence.wide.fn f = True := by simp [Fence.wide]
attribute [local go_sem] wide_fn
/- What Take answers: the slots, the set, the error. -/
def TakeP (s : Nat) (n : Int) (w w' : World) (e : Ending) : Prop :=
  if n < 0 then e = .returned (.tuple #[.slice none 0 0, .int .u64 0, .int .i64 1])
  else if ((bl (nt s)).length : Int) < n then e = .returned (.tuple #[.slice none 0 0, .int .u64 0, .int .i64 18])
  else ∃ v, e = .returned (.tuple #[v, .int .u64 ((pf s ((bl (nt s)).take n.toNat) : Nat) : Int), .int .i64 0]) ∧ NewL w w' v ((bl (nt s)).take n.toNat)
theorem TakeP.neg {s : Nat} {n : Int} {w w' : World} (h : n < 0) : TakeP s n w w' (.returned (.tuple #[.slice none 0 0, .int .u64 0, .int .i64 1])) := by unfold TakeP; rw [if_pos h]
theorem TakeP.full {s M : Nat} {w w' : World} (h : (bl (nt s)).length < M) : TakeP s (M : Int) w w' (.returned (.tuple #[.slice none 0 0, .int .u64 0, .int .i64 18])) := by unfold TakeP; rw [if_neg (by omega), if_pos (by omega)]
theorem TakeP.ok {s M : Nat} {w w' : World} (h : M ≤ (bl (nt s)).length) {v : Value} (hv : NewL w w' v ((bl (nt s)).take M)) : TakeP s (M : Int) w w' (.returned (.tuple #[v, .int .u64 ((pf s ((bl (nt s)).take M) : Nat) : Int), .int .i64 0])) := by
  unfold TakeP
  rw [if_neg (by omega), if_neg (by omega)]
  exact ⟨v, rfl, hv⟩
theorem boxed_below {n : Nat} {W W' : World} {B : Nat} {t : TypeId} {v : Value} (h : Boxed W B t v) (hb : Below n W W') (hB : B < n) : Boxed W' B t v := (hb.block B hB).trans h
theorem boxed_later {W W' : World} {B : Nat} {t : TypeId} {v : Value} (h : Boxed W B t v) (hb : Below W.heap.size W W') : Boxed W' B t v := boxed_below h hb (Array.getElem?_eq_some_iff.1 h).1
theorem boxed_lt {W : World} {B : Nat} {t : TypeId} {v : Value} (h : Boxed W B t v) : B < W.heap.size := (Array.getElem?_eq_some_iff.1 h).1
theorem row_slice {W : World} {b : Nat} {e : TypeId} {v : Value} {n : Nat} {xs : List Value} (h : W.ownsRow b e 1 v n xs) : ∃ a cap, v = .slice a n cap := by
  rcases h.2 with ⟨rfl, rfl⟩ | ⟨g, cap, cur, rfl, _⟩
  · exact ⟨none, 0, rfl⟩
  · exact ⟨_, cap, rfl⟩
theorem row_wide {W : World} {b b' : Nat} {e : TypeId} {v : Value} {n : Nat} {xs : List Value} (h : W.ownsRow b e 1 v n xs) (hb : b' ≤ b) : W.ownsRow b' e 1 v n xs := by
  obtain ⟨h1, h2⟩ := h
  refine ⟨h1, ?_⟩
  rcases h2 with h2 | ⟨g, cap, cur, rfl, h3, r⟩
  · exact .inl h2
  · exact .inr ⟨g, cap, cur, rfl, by omega, r⟩
theorem row_drew {W : World} {b : Nat} {e : TypeId} {v : Value} {n : Nat} {xs : List Value} (h : W.ownsRow b e 1 v n xs) : W.drew.ownsRow b e 1 v n xs := h
theorem below_drew {n : Nat} {w W : World} (h : Below n w W) : Below n w W.drew := h.trans ⟨rfl, rfl, rfl, Nat.le_refl _, fun _ _ => rfl⟩
theorem boxed_drew {W : World} {B : Nat} {t : TypeId} {v : Value} (h : Boxed W B t v) : Boxed W.drew B t v := h
theorem two_boxes {W : World} {A B : Nat} {t : TypeId} {u : Value} (hB : Boxed W B t u) (hne : A ≠ B) (v' : Value) : Boxed (W.setCell ⟨A, 0, none⟩ v') B t u := hB.kept (grownBy_setCell' W A v') (by simp; omega)
theorem drewN_below (W : World) (k : Nat) : Below W.heap.size W (W.drewN k) := below_drewN (Below.refl _ _) _
end Go.Proofs.YtpimbpfefhkojaaGreat.Rs
