/- Contracts of sum's and the document's Extend and Sum. -/
import Derived.Test.YtohgflimdoebiaaChecked
import Derived.Test.YtohgflimdoebiaaSumMath
import Derived.WalkKit
import Derived.ProofKit
import Derived.Below
import Derived.WalkSpells
namespace Go.Proofs.Ytohgflimdoebiaa.Sm
open Go.RowKit
set_option linter.unusedVariables false

theorem ret_int {k : IntKind} {a b : Int} (h : a = b) : Ending.returned (.int k a) = .returned (.int k b) := by rw [h]
theorem ret_bool {a b : Bool} (h : a = b) : Ending.returned (.bool a) = .returned (.bool b) := by rw [h]
theorem bit1_odd {z : Nat} (h : z % 2 = 1) : bit1 z = z / 2 ^^^ 3988292384 := by unfold bit1 crcPoly; rw [if_pos h]
theorem bit1_even {z : Nat} (h : z % 2 = 0) : bit1 z = z / 2 := by unfold bit1; rw [if_neg (by omega)]
theorem take_snoc (s : ByteArray) (k : Nat) (h : k < s.size) : s.data.toList.take (k + 1) = s.data.toList.take k ++ [s[k]] := by
  rw [List.take_succ_eq_append_getElem (by simpa using h)]; rfl
theorem reg_snoc (r : Nat) (s : ByteArray) (k : Nat) (h : k < s.size) : reg r (s.data.toList.take (k + 1)) = byte1 (reg r (s.data.toList.take k)) s[k] := by
  rw [take_snoc s k h, reg_append]; rfl
theorem xorPoly (y : Nat) (h : y < 4294967296) : bits .xor .u32 (y : Int) 3988292384 = ((y ^^^ 3988292384 : Nat) : Int) := u32_xor_nat y 3988292384 h (by decide)
set_option maxHeartbeats 400000 in
theorem take_any (r : Nat) (b : UInt8) (w : World) (hr : r < 4294967296) : Calls Try.prog 94 #[.int .u32 (r : Int), .int .u8 (b.toNat : Int)] w fun e w' => e = .returned (.int .u32 ((byte1 r b : Nat) : Int)) ∧ w' = w := by
  have hb := b.toNat_lt
  obtain ⟨x, hx⟩ : ∃ x, r ^^^ b.toNat = x := ⟨_, rfl⟩
  have e0 : bits .xor .u32 (r : Int) (b.toNat : Int) = (x : Int) := by rw [u32_xor_nat r b.toNat hr (by omega), hx]
  have hx32 : x < 4294967296 := by rw [← hx]; exact xor_byte_lt hr b
  have HX : Hid (byte1 r b = bitsN 8 x) := by unfold Hid byte1; rw [bits8_N, hx]
  clear hx
  go_enter Try.func94, Try.ntmps94
  go_wp2_with fail
  go_loop [0, 10] (fun y i => ∃ k : Nat, k ≤ 8 ∧ i = .int .i64 (k : Int) ∧ y = .int .u32 ((bitsN k x : Nat) : Int)) (fun _ i => 8 - (intOf i).toNat)
  case atStart => exact ⟨0, by omega, rfl, rfl⟩
  case round =>
    obtain ⟨k, hk, rfl, rfl⟩ := hrel
    by_cases hk8 : k < 8
    · have k8 : (k : Int) < 8 := by omega
      have hz := bitsN_lt k hx32
      have hs := bitsN_succ k x
      obtain ⟨z, hz0⟩ : ∃ z, bitsN k x = z := ⟨_, rfl⟩
      rw [hz0] at hz hs ⊢
      have HS : Hid (bitsN (k + 1) x = bit1 z) := hs
      clear hz0 hs e0
      have ea : bits .and .u32 (z : Int) 1 = ((z % 2 : Nat) : Int) := by
        have := u32_and_nat z 1 hz (by decide)
        rw [nat_mask1] at this
        exact this
      obtain ⟨y, hy⟩ : ∃ y, z / 2 = y := ⟨_, rfl⟩
      have hy2 : (z : Int) / 2 = (y : Int) := by omega
      have hy32 : y < 4294967296 := by omega
      have exo := xorPoly y hy32
      rcases Nat.mod_two_eq_zero_or_one z with h2 | h2
      · rw [h2] at ea
        have HE : Hid (bit1 z = y) := by unfold Hid; rw [bit1_even h2, hy]
        clear h2 hy
        go_wp2_with fail
        go_round
        case rel => exact ⟨k + 1, by omega, by go_num, by rw [HS.out, HE.out]⟩
        case measure => simp [intOf]; omega
      · rw [h2] at ea
        have HE : Hid (bit1 z = y ^^^ 3988292384) := by unfold Hid; rw [bit1_odd h2, hy]
        clear h2 hy
        go_wp2_with fail
        go_round
        case rel => exact ⟨k + 1, by omega, by go_num, by rw [HS.out, HE.out]⟩
        case measure => simp [intOf]; omega
    · have k8 : decide ((k : Int) < 8) = false := by simp; omega
      obtain rfl : k = 8 := by omega
      go_wp2_with fail
      go_ret
      exact ⟨ret_int (by rw [HX.out]), rfl⟩
theorem turnU (n : Nat) (h : n < 4294967296) : bits .xor .u32 IntKind.u32.max (n : Int) = ((4294967295 - n : Nat) : Int) := by
  have e : IntKind.u32.max = ((4294967295 : Nat) : Int) := by decide
  rw [e, u32_xor_nat 4294967295 n (by decide) h, turned n h]
set_option maxHeartbeats 400000 in
theorem ext_any (n : Nat) (s : ByteArray) (w : World) (hn : n < 4294967296) (hs : s.size ≤ 281474976710656) : Calls Try.prog 81 #[.int .u32 (n : Int), .string s] w fun e w' => e = .returned (.int .u32 ((ext n s.data.toList : Nat) : Int)) ∧ w' = w := by
  have ht := turnU n hn
  obtain ⟨m, hm⟩ : ∃ m, 4294967295 - n = m := ⟨_, rfl⟩
  have hm32 : m < 4294967296 := by omega
  have HM : Hid (4294967295 - n = m) := hm
  rw [hm] at ht
  clear hm
  go_enter Try.func81, Try.ntmps81
  go_wp2_with fail
  clear ht
  go_loop [5, 11] (fun y i => ∃ k : Nat, k ≤ s.size ∧ i = .int .i64 (k : Int) ∧ y = .int .u32 ((reg m (s.data.toList.take k) : Nat) : Int)) (fun _ i => s.size - (intOf i).toNat)
  case atStart => exact ⟨0, by omega, rfl, rfl⟩
  case round =>
    obtain ⟨k, hk, rfl, rfl⟩ := hrel
    by_cases hlt : k < s.size
    · have i2 : (k : Int) < (s.size : Int) := by omega
      have hz := reg_lt (s.data.toList.take k) hm32
      have HS : Hid (reg m (s.data.toList.take (k + 1)) = byte1 (reg m (s.data.toList.take k)) s[k]) := reg_snoc m s k hlt
      go_wp2_with fail
      refine (take_any _ s[k] _ hz).mono ?_
      rintro e w' ⟨rfl, rfl⟩
      go_wp2_with fail
      go_round
      case rel => exact ⟨k + 1, by omega, by go_num, by rw [HS.out]⟩
      case measure => simp [intOf]; omega
    · have i2 : decide ((k : Int) < (s.size : Int)) = false := by simp; omega
      obtain rfl : k = s.size := by omega
      have hz := reg_lt (s.data.toList.take s.size) hm32
      have ht := turnU _ hz
      go_wp2_with fail
      go_ret
      exact ⟨ret_int (by rw [List.take_of_length_le (by simp)]; unfold ext; rw [HM.out]), rfl⟩
theorem sum_any (s : ByteArray) (w : World) (hs : s.size ≤ 281474976710656) : Calls Try.prog 66 #[.string s] w fun e w' => e = .returned (.int .u32 ((ext 0 s.data.toList : Nat) : Int)) ∧ w' = w := by
  go_enter Try.func66, Try.ntmps66
  go_wp2_with fail
  refine (ext_any 0 s _ (by decide) hs).mono ?_
  rintro e w' ⟨rfl, rfl⟩
  go_wp2_with fail
  go_ret
  exact ⟨rfl, rfl⟩
theorem turnR (n : Nat) (h : n < 4294967296) : IntKind.u32.wrap (4294967295 - (n : Int)) = ((4294967295 - n : Nat) : Int) := by
  rw [IntKind.wrap_u32']; omega
set_option maxHeartbeats 800000 in
theorem rExt_any (n : Nat) (s : ByteArray) (w : World) (hn : n < 4294967296) (hs : s.size ≤ 281474976710656) : Calls Try.prog 82 #[.int .u32 (n : Int), .string s] w fun e w' => e = .returned (.int .u32 ((ext n s.data.toList : Nat) : Int)) ∧ w' = w := by
  have ht := turnR n hn
  obtain ⟨m, hm⟩ : ∃ m, 4294967295 - n = m := ⟨_, rfl⟩
  have hm32 : m < 4294967296 := by omega
  have HM : Hid (4294967295 - n = m) := hm
  rw [hm] at ht
  clear hm
  go_enter Try.func82, Try.ntmps82
  go_wp2_with fail
  clear ht
  go_loop [5, 6] (fun y i => ∃ k : Nat, k ≤ s.size ∧ i = .int .i64 (k : Int) ∧ y = .int .u32 ((reg m (s.data.toList.take k) : Nat) : Int)) (fun _ i => s.size - (intOf i).toNat)
  case atStart => exact ⟨0, by omega, rfl, rfl⟩
  case round =>
    obtain ⟨k, hk, rfl, rfl⟩ := hrel
    by_cases hlt : k < s.size
    · have i2 : (k : Int) < (s.size : Int) := by omega
      have hz := reg_lt (s.data.toList.take k) hm32
      have hsn := reg_snoc m s k hlt
      obtain ⟨r, hr⟩ : ∃ r, reg m (s.data.toList.take k) = r := ⟨_, rfl⟩
      rw [hr] at hz hsn ⊢
      have hb := (s[k]).toNat_lt
      obtain ⟨x, hx⟩ : ∃ x, r ^^^ (s[k]).toNat = x := ⟨_, rfl⟩
      have e0 : bits .xor .u32 (r : Int) ((s[k]).toNat : Int) = (x : Int) := by rw [u32_xor_nat r (s[k]).toNat hz (by omega), hx]
      have hx32 : x < 4294967296 := by rw [← hx]; exact xor_byte_lt hz s[k]
      have HS : Hid (reg m (s.data.toList.take (k + 1)) = bitsN 8 x) := by unfold Hid; rw [hsn]; unfold byte1; rw [bits8_N, hx]
      clear hx hsn hr
      go_wp2_with fail
      clear e0
      go_loop [5, 7] (fun y i => ∃ t : Nat, t ≤ 8 ∧ i = .int .i64 (t : Int) ∧ y = .int .u32 ((bitsN t x : Nat) : Int)) (fun _ i => 8 - (intOf i).toNat)
      case atStart => exact ⟨0, by omega, rfl, rfl⟩
      case round =>
        obtain ⟨t, ht, rfl, rfl⟩ := hrel
        by_cases ht8 : t < 8
        · have t8 : (t : Int) < 8 := by omega
          have hz := bitsN_lt t hx32
          have hs := bitsN_succ t x
          obtain ⟨z, hz0⟩ : ∃ z, bitsN t x = z := ⟨_, rfl⟩
          rw [hz0] at hz hs ⊢
          have HT : Hid (bitsN (t + 1) x = bit1 z) := hs
          clear hz0 hs
          obtain ⟨y, hy⟩ : ∃ y, z / 2 = y := ⟨_, rfl⟩
          have hy2 : (z : Int) / 2 = (y : Int) := by omega
          have hy32 : y < 4294967296 := by omega
          have hwy : IntKind.u32.wrap (y : Int) = (y : Int) := by rw [IntKind.wrap_u32']; omega
          have exo := xorPoly y hy32
          rcases Nat.mod_two_eq_zero_or_one z with h2 | h2
          · have ea : (z : Int) % 2 = 0 := by omega
            have HE : Hid (bit1 z = y) := by unfold Hid; rw [bit1_even h2, hy]
            clear h2 hy
            go_wp2_with fail
            go_round
            case rel => exact ⟨t + 1, by omega, by go_num, by rw [HT.out, HE.out]⟩
            case measure => simp [intOf]; omega
          · have ea : (z : Int) % 2 = 1 := by omega
            have HE : Hid (bit1 z = y ^^^ 3988292384) := by unfold Hid; rw [bit1_odd h2, hy]
            clear h2 hy
            go_wp2_with fail
            go_round
            case rel => exact ⟨t + 1, by omega, by go_num, by rw [HT.out, HE.out]⟩
            case measure => simp [intOf]; omega
        · have t8 : decide ((t : Int) < 8) = false := by simp; omega
          obtain rfl : t = 8 := by omega
          go_wp2_with fail
          go_round
          case rel => exact ⟨k + 1, by omega, by go_num, by rw [HS.out]⟩
          case measure => simp [intOf]; omega
    · have i2 : decide ((k : Int) < (s.size : Int)) = false := by simp; omega
      obtain rfl : k = s.size := by omega
      have hz := reg_lt (s.data.toList.take s.size) hm32
      have ht := turnR _ hz
      go_wp2_with fail
      go_ret
      exact ⟨ret_int (by rw [List.take_of_length_le (by simp)]; unfold ext; rw [HM.out]), rfl⟩
theorem rSum_any (s : ByteArray) (w : World) (hs : s.size ≤ 281474976710656) : Calls Try.prog 69 #[.string s] w fun e w' => e = .returned (.int .u32 ((ext 0 s.data.toList : Nat) : Int)) ∧ w' = w := by
  go_enter Try.func69, Try.ntmps69
  go_wp2_with fail
  refine (rExt_any 0 s _ (by decide) hs).mono ?_
  rintro e w' ⟨rfl, rfl⟩
  go_wp2_with fail
  go_ret
  exact ⟨rfl, rfl⟩
end Go.Proofs.Ytohgflimdoebiaa.Sm
