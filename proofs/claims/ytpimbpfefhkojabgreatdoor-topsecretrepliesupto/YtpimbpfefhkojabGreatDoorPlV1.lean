/- A block that an append leaves; rows of unlike types lie apart. -/
import Derived.Test.YtpimbpfefhkojabGreatDoorRsMm
import Derived.Maps.AppendAt
namespace Go.Proofs.YtpimbpfefhkojabGreatDoor
open Go.RowKit Go.Maps
open Rs (Slot own_ne)
set_option linter.unusedVariables false
set_option linter.unusedSimpArgs false

section
variable {W W' : World}
theorem own_ne2 {b b' : Nat} {e e' : TypeId} {sz sz' : Nat} {v v' : Value} {n n' : Nat} {xs xs' : List Value} (h : W.ownsRow b e sz v n xs) (h' : W.ownsRow b' e' sz' v' n' xs') (hne : e ≠ e') {g : Nat} (hg : v'.ownBlock = some g) : v.ownBlock ≠ some g := by
  rcases h'.2 with ⟨rfl, _⟩ | ⟨g', cap, cur, rfl, h3, h4, _⟩
  · simp [Value.ownBlock] at hg
  · simp [Value.ownBlock] at hg
    subst hg
    exact own_ne h ⟨cur, h4, Nat.zero_le _⟩ hne
end
end Go.Proofs.YtpimbpfefhkojabGreatDoor
