/- Contracts of Unbytes (sum's and the document's), and of the fixed answers. -/
import Derived.Test.YtphdmlmacdklaaaSumB
namespace Go.Proofs.Ytphdmlmacdklaaa
open Go.RowKit Go.Maps
set_option linter.unusedVariables false

theorem str_ne {X Y : ByteArray} (h : X ≠ Y) : (X.toList == Y.toList) = false := by
  rw [beq_eq_false_iff_ne, ByteArray.toList_eq, ByteArray.toList_eq]
  intro e
  exact h (ByteArray.ext (Array.ext' e))
def ub (l : List UInt8) : Nat := l.foldl (fun a b => 256 * a + b.toNat) 0
theorem ub_snoc (l : List UInt8) (b : UInt8) : ub (l ++ [b]) = 256 * ub l + b.toNat := by simp [ub]
theorem ub_at (s : ByteArray) (k : Nat) (h : k < s.size) : ub (s.data.toList.take (k + 1)) = 256 * ub (s.data.toList.take k) + s[k].toNat := by
  rw [take_snoc s k h, ub_snoc]
theorem ub_lt (s : ByteArray) (k : Nat) (h : k ≤ s.size) : ub (s.data.toList.take k) < 256 ^ k := by
  induction k with
  | zero => simp [ub]
  | succ k ih =>
    have := ih (by omega)
    have hb := (s[k]'(by omega)).toNat_lt
    rw [ub_at s k (by omega), Nat.pow_succ]
    omega
def un (s : ByteArray) : Nat := if s.size = 4 then ub s.data.toList else 0
def ue (s : ByteArray) : Int := if s.size = 4 then 0 else 6
theorem or_byte (z b : Nat) (hz : z < 16777216) (hb : b < 256) : bits .or .u32 ((z : Int) * 256) (b : Int) = ((256 * z + b : Nat) : Int) := by
  have e : (z : Int) * 256 = ((256 * z : Nat) : Int) := by omega
  rw [e, u32_or_nat _ _ (by omega) (by omega), nat_join 8 _ _ (by omega) (by omega)]
theorem lt24 {x k : Nat} (hk : k < 4) (h : x < 256 ^ k) : x < 16777216 := Nat.lt_of_lt_of_le h (by have : 256 ^ k ≤ 256 ^ 3 := Nat.pow_le_pow_right (by decide) (by omega); simpa using this)
set_option maxHeartbeats 400000 in
theorem unb_any (s : ByteArray) (w : World) (hs : s.size ≤ 281474976710656) : Calls Try.prog 13 #[.string s] w fun e w' => e = .returned (.tuple #[.int .u32 ((un s : Nat) : Int), .int .i64 (ue s)]) ∧ w' = w := by
  by_cases h4 : s.size = 4
  · have e1 : un s = ub s.data.toList := by unfold un; rw [if_pos h4]
    have e2 : ue s = 0 := by unfold ue; rw [if_pos h4]
    rw [e1, e2]
    have HL : Hid (s.size = 4) := h4
    have hne : ((s.size : Int) == 4) = true := by simp [h4]
    have hl : (s.size : Int) = 4 := by omega
    clear e1 e2 h4
    go_enter Try.func13, Try.ntmps13
    go_wp2_with fail
    go_loop [4, 11] (fun y i => ∃ k : Nat, k ≤ 4 ∧ i = .int .i64 (k : Int) ∧ y = .int .u32 ((ub (s.data.toList.take k) : Nat) : Int)) (fun _ i => 4 - (intOf i).toNat)
    case atStart => exact ⟨0, by omega, rfl, rfl⟩
    case round =>
      obtain ⟨k, hk, rfl, rfl⟩ := hrel
      by_cases hlt : k < 4
      · have i2 : (k : Int) < 4 := by omega
        have hks : k < s.size := by rw [HL.out]; exact hlt
        have hu := lt24 hlt (ub_lt s k (by omega))
        have hb := s[k].toNat_lt
        have hub := ub_at s k hks
        obtain ⟨z, hz⟩ : ∃ z, ub (s.data.toList.take k) = z := ⟨_, rfl⟩
        rw [hz] at hu hub ⊢
        have HU : Hid (ub (s.data.toList.take (k + 1)) = 256 * z + s[k].toNat) := hub
        have hor := or_byte z s[k].toNat hu hb
        clear hz hub hl hne
        go_wp2_with fail
        go_round
        case rel => exact ⟨k + 1, by omega, by go_num, by rw [HU.out]; go_num⟩
        case measure => simp [intOf]; omega
      · have i2 : decide ((k : Int) < 4) = false := by simp; omega
        obtain rfl : k = 4 := by omega
        go_wp2_with fail
        go_ret2
        exact ⟨by rw [List.take_of_length_le (by have := HL.out; simp; omega)]; rfl, rfl⟩
  · have e1 : un s = 0 := by unfold un; rw [if_neg h4]
    have e2 : ue s = 6 := by unfold ue; rw [if_neg h4]
    rw [e1, e2]
    have hne : ((s.size : Int) == 4) = false := by simp; omega
    go_enter Try.func13, Try.ntmps13
    go_wp2_with fail
    go_ret2
    exact ⟨rfl, rfl⟩
set_option maxHeartbeats 400000 in
theorem rUnb_any (s : ByteArray) (w : World) (hs : s.size ≤ 281474976710656) : Calls Try.prog 14 #[.string s] w fun e w' => e = .returned (.tuple #[.int .u32 ((un s : Nat) : Int), .int .i64 (ue s)]) ∧ w' = w := by
  by_cases h4 : s.size = 4
  · have e1 : un s = ub s.data.toList := by unfold un; rw [if_pos h4]
    have e2 : ue s = 0 := by unfold ue; rw [if_pos h4]
    rw [e1, e2]
    have HL : Hid (s.size = 4) := h4
    have hne : ((s.size : Int) == 4) = true := by simp [h4]
    clear e1 e2 h4
    go_enter Try.func14, Try.ntmps14
    go_wp2_with fail
    go_loop [4, 5] (fun y i => ∃ k : Nat, k ≤ 4 ∧ i = .int .i64 (k : Int) ∧ y = .int .u32 ((ub (s.data.toList.take k) : Nat) : Int)) (fun _ i => 4 - (intOf i).toNat)
    case atStart => exact ⟨0, by omega, rfl, rfl⟩
    case round =>
      obtain ⟨k, hk, rfl, rfl⟩ := hrel
      by_cases hlt : k < 4
      · have i2 : (k : Int) < 4 := by omega
        have hks : k < s.size := by rw [HL.out]; exact hlt
        have hu := lt24 hlt (ub_lt s k (by omega))
        have hb := s[k].toNat_lt
        have hub := ub_at s k hks
        obtain ⟨z, hz⟩ : ∃ z, ub (s.data.toList.take k) = z := ⟨_, rfl⟩
        rw [hz] at hu hub ⊢
        have HU : Hid (ub (s.data.toList.take (k + 1)) = 256 * z + s[k].toNat) := hub
        clear hz hub hne
        go_wp2_with fail
        go_round
        case rel => exact ⟨k + 1, by omega, by go_num, by rw [HU.out]; go_num⟩
        case measure => simp [intOf]; omega
      · have i2 : decide ((k : Int) < 4) = false := by simp; omega
        obtain rfl : k = 4 := by omega
        go_wp2_with fail
        go_ret2
        exact ⟨by rw [List.take_of_length_le (by have := HL.out; simp; omega)]; rfl, rfl⟩
  · have e1 : un s = 0 := by unfold un; rw [if_neg h4]
    have e2 : ue s = 6 := by unfold ue; rw [if_neg h4]
    rw [e1, e2]
    have hne : ((s.size : Int) == 4) = false := by simp; omega
    go_enter Try.func14, Try.ntmps14
    go_wp2_with fail
    go_ret2
    exact ⟨rfl, rfl⟩
theorem live1 : ext 0 [49, 50, 51, 52, 53, 54, 55, 56, 57] = 3421780262 := by decide +kernel
theorem live2 : tx (hx 1) = ⟨#[48, 48, 48, 48, 48, 48, 48, 49]⟩ := by apply ByteArray.ext; decide +kernel
theorem live3 : tx (b4 16909060) = ⟨#[1, 2, 3, 4]⟩ := by apply ByteArray.ext; decide +kernel
theorem lives_any (w : World) : Calls Try.prog 8 #[] w fun e w' => e = .returned (.bool true) ∧ Below w.heap.size w w' := by
  go_enter Try.func8, Try.ntmps8
  go_wp2_with fail
  refine (sum_any _ _ (by decide)).mono ?_
  rintro e w1 ⟨rfl, rfl⟩
  rw [live1]
  go_wp2_with fail
  refine (hex_any 1 _ (by decide)).mono ?_
  rintro e w2 ⟨rfl, hb2⟩
  rw [live2]
  go_wp2_with fail
  refine (bytes_any 16909060 _ (by decide)).mono ?_
  rintro e w3 ⟨rfl, hb3⟩
  rw [live3]
  go_wp2_with fail
  go_ret
  exact ⟨rfl, hb2.trans (hb3.mono hb2.size)⟩
end Go.Proofs.Ytphdmlmacdklaaa
