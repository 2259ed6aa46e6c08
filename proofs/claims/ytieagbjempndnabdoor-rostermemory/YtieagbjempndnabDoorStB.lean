/- Contracts: how many slots (the library's OnesCount64, Count). -/
import Derived.Test.YtieagbjempndnabDoorStA
import Derived.Test.YtieagbjempndnabDoorStPop
import Derived.Laws.Bits128
namespace Go.Proofs.YtieagbjempndnabDoor
open Go.RowKit
set_option linter.unusedVariables false
set_option linter.unusedSimpArgs false

set_option maxHeartbeats 1000000 in
theorem ones_any (x : Nat) (hx : x < 18446744073709551616) (w : World) : Calls Tryd.prog 33 #[.int .u64 (x : Int)] w fun e w' => e = .returned (.int .i64 (((bl x).length : Nat) : Int)) ∧ w' = w := by
  rw [bl_ct]
  have hA := stA_lt hx
  have hB := stB_lt hA
  have hv := pc8 hx
  obtain ⟨y, hy⟩ : ∃ y, stA 6148914691236517205 x = y := ⟨_, rfl⟩
  obtain ⟨z, hz⟩ : ∃ z, stB 3689348814741910323 y = z := ⟨_, rfl⟩
  rw [hy] at hA hB hv
  rw [hz] at hB hv
  have a1 : bits .and .u64 ((x / 2 : Nat) : Int) 6148914691236517205 = ((x / 2 &&& 6148914691236517205 : Nat) : Int) := u64_and_nat (x / 2) 6148914691236517205 (by omega) (by decide)
  have a2 : bits .and .u64 (x : Int) 6148914691236517205 = ((x &&& 6148914691236517205 : Nat) : Int) := u64_and_nat x 6148914691236517205 hx (by decide)
  have a3 : IntKind.u64.wrap (((x / 2 &&& 6148914691236517205 : Nat) : Int) + ((x &&& 6148914691236517205 : Nat) : Int)) = (y : Int) := by
    unfold stA at hy
    rw [u64_fit _ (by omega) (by omega)]
    omega
  have b1 : bits .and .u64 ((y / 4 : Nat) : Int) 3689348814741910323 = ((y / 4 &&& 3689348814741910323 : Nat) : Int) := u64_and_nat (y / 4) 3689348814741910323 (by omega) (by decide)
  have b2 : bits .and .u64 (y : Int) 3689348814741910323 = ((y &&& 3689348814741910323 : Nat) : Int) := u64_and_nat y 3689348814741910323 hA (by decide)
  have b3 : IntKind.u64.wrap (((y / 4 &&& 3689348814741910323 : Nat) : Int) + ((y &&& 3689348814741910323 : Nat) : Int)) = (z : Int) := by
    unfold stB at hz
    rw [u64_fit _ (by omega) (by omega)]
    omega
  have c1 : IntKind.u64.wrap (((z / 16 : Nat) : Int) + (z : Int)) = ((z / 16 + z : Nat) : Int) := by rw [u64_fit _ (by omega) (by omega)]; omega
  have c2 : bits .and .u64 ((z / 16 + z : Nat) : Int) 1085102592571150095 = ((z / 16 + z &&& 1085102592571150095 : Nat) : Int) := u64_and_nat (z / 16 + z) 1085102592571150095 (by omega) (by decide)
  unfold stC at hv
  obtain ⟨v, hv2⟩ : ∃ v, pc 8 x = v := ⟨_, rfl⟩
  obtain ⟨s1, s2, s3, s4⟩ := pc_sum x v hv2
  rw [hv, hv2] at c2
  obtain ⟨u, hu⟩ : ∃ u, v + v / 256 = u := ⟨_, rfl⟩
  rw [hu] at s1 s2 s3 s4
  obtain ⟨t, ht⟩ : ∃ t, u + u / 65536 = t := ⟨_, rfl⟩
  rw [ht] at s2 s3 s4
  obtain ⟨q, hq⟩ : ∃ q, t + t / 4294967296 = q := ⟨_, rfl⟩
  rw [hq] at s3 s4
  have d1 : IntKind.u64.wrap ((v : Int) + ((v / 256 : Nat) : Int)) = (u : Int) := by rw [u64_fit _ (by omega) (by omega)]; omega
  have d2 : IntKind.u64.wrap ((u : Int) + ((u / 65536 : Nat) : Int)) = (t : Int) := by rw [u64_fit _ (by omega) (by omega)]; omega
  have d3 : IntKind.u64.wrap ((t : Int) + ((t / 4294967296 : Nat) : Int)) = (q : Int) := by rw [u64_fit _ (by omega) (by omega)]; omega
  have d4 : IntKind.i64.wrap (q : Int) = (q : Int) := i64_fit _ (by omega) (by omega)
  have d5 := i64_and127 (q : Int)
  have n1 : (x : Int) / 2 = ((x / 2 : Nat) : Int) := by omega
  have n2 : (y : Int) / 4 = ((y / 4 : Nat) : Int) := by omega
  have n3 : (z : Int) / 16 = ((z / 16 : Nat) : Int) := by omega
  have n4 : (v : Int) / 256 = ((v / 256 : Nat) : Int) := by omega
  have n5 : (u : Int) / 65536 = ((u / 65536 : Nat) : Int) := by omega
  have n6 : (t : Int) / 4294967296 = ((t / 4294967296 : Nat) : Int) := by omega
  have HS : Hid (q % 128 = ct 64 x) := s4
  clear hy hz hv hv2 hu ht hq s1 s2 s3 s4 hA hB
  generalize (x / 2 &&& 6148914691236517205) = k1 at *
  generalize (x &&& 6148914691236517205) = k2 at *
  generalize (y / 4 &&& 3689348814741910323) = k3 at *
  generalize (y &&& 3689348814741910323) = k4 at *
  generalize (z / 16 + z) = k5 at *
  generalize x / 2 = l1 at *
  generalize y / 4 = l2 at *
  generalize z / 16 = l3 at *
  generalize v / 256 = l4 at *
  generalize u / 65536 = l5 at *
  generalize t / 4294967296 = l6 at *
  go_enter Tryd.func33, Tryd.ntmps33
  go_wp2
  go_ret
  refine ⟨ret_int ?_, rfl⟩
  have := HS.out
  omega
set_option maxHeartbeats 400000 in
theorem count_any (x : Nat) (hx : x < 18446744073709551616) (w : World) : Calls Tryd.prog 23 #[.int .u64 (x : Int)] w fun e w' => e = .returned (.int .i64 (((bl x).length : Nat) : Int)) ∧ w' = w := by
  go_enter Tryd.func23, Tryd.ntmps23
  go_wp2_with (go_at_call 33; refine (ones_any x hx _).mono ?_; rintro e w' ⟨rfl, rfl⟩)
  go_ret
  exact ⟨rfl, rfl⟩
end Go.Proofs.YtieagbjempndnabDoor
