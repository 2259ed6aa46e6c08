/- Contracts: Held of both. -/
import Derived.Test.YtpimbpfefhkojabGreatDoorTrD
import Derived.Test.YtpimbpfefhkojabGreatDoorShK
namespace Go.Proofs.YtpimbpfefhkojabGreatDoor
open Go.RowKit
open Rt (Ky zK kcs)
open Rs (En zE rcs RoAt EnAt tkn tk)
open Sh (belB msk)
set_option linter.unusedVariables false
set_option linter.unusedSimpArgs false

theorem hld_and (r : Nat → En) (v : Int) : (bits .and .u64 ((tk r : Nat) : Int) (msk v) != 0) = hld r v := by
  have h := Sh.hit_and v ((tk r : Nat) : Int) (by omega) (by have := Rs.tk_lt r; omega)
  obtain ⟨m0, m1⟩ := Sh.msk_bd v
  rw [u64_and _ _ m0 m1 (by omega) (by have := Rs.tk_lt r; omega), Nat.and_comm, ← u64_and _ _ (by omega) (by have := Rs.tk_lt r; omega) m0 m1, hit_hld] at h
  exact h
end Go.Proofs.YtpimbpfefhkojabGreatDoor
