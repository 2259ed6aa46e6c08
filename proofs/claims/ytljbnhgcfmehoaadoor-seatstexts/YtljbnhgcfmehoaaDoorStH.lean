/- Contracts: the library's FormatUint in base 16; Hex, the program's and the document's. -/
import Derived.Test.YtljbnhgcfmehoaaDoorStC
import Derived.Test.YtljbnhgcfmehoaaDoorShelf2
import Derived.Deep.WholeRow
import Derived.Laws.IdiomStrings
import Derived.Laws.ShiftsVarLaws
import Derived.Deep.DeepCutAuto
namespace Go.Proofs.YtljbnhgcfmehoaaDoor
open Go.RowKit Go.Maps Go.Shelf
set_option linter.unusedVariables false
set_option linter.unusedSimpArgs false

theorem ret_str {a b : ByteArray} (h : a = b) : Ending.returned (.string a) = .returned (.string b) := by rw [h]
/- A text of numbers below 256. -/
def tx (l : List Nat) : ByteArray := ⟨(l.map UInt8.ofNat).toArray⟩
@[simp] theorem tx_size (l : List Nat) : (tx l).size = l.length := by simp [tx, ByteArray.size]
theorem tx_cons (a : Nat) (l : List Nat) : tx [a] ++ tx l = tx (a :: l) := by
  unfold tx
  apply ByteArray.ext
  simp [ByteArray.data_append]
theorem tx_append (a b : List Nat) : tx a ++ tx b = tx (a ++ b) := by
  unfold tx
  apply ByteArray.ext
  simp [ByteArray.data_append]
/- A digit; the last k digits, the highest first. -/
def dg (d : Nat) : Nat := if d < 10 then 48 + d else 87 + d
theorem dg_lt (d : Nat) (h : d < 16) : dg d < 256 := by unfold dg; split <;> omega
theorem dg_inj {a b : Nat} (ha : a < 16) (hb : b < 16) (h : dg a = dg b) : a = b := by unfold dg at h; split at h <;> split at h <;> omega
theorem dgs : ∀ (d : Nat) (h : d < 16), (({ data := #[48, 49, 50, 51, 52, 53, 54, 55, 56, 57, 97, 98, 99, 100, 101, 102, 103, 104, 105, 106, 107, 108, 109, 110, 111, 112, 113, 114, 115, 116, 117, 118, 119, 120, 121, 122] } : ByteArray)[d]'(Nat.lt_of_lt_of_le h (by decide))).toNat = dg d := by
  have : ∀ d : Fin 16, (({ data := #[48, 49, 50, 51, 52, 53, 54, 55, 56, 57, 97, 98, 99, 100, 101, 102, 103, 104, 105, 106, 107, 108, 109, 110, 111, 112, 113, 114, 115, 116, 117, 118, 119, 120, 121, 122] } : ByteArray)[d.1]'(Nat.lt_of_lt_of_le d.2 (by decide))).toNat = dg d.1 := by decide
  exact fun d h => this ⟨d, h⟩
theorem dg_cut (d : Nat) (h : d < 16) : ({ data := #[48, 49, 50, 51, 52, 53, 54, 55, 56, 57, 97, 98, 99, 100, 101, 102] } : ByteArray).extract d (d + 1) = tx [dg d] := by
  have : ∀ d : Fin 16, (({ data := #[48, 49, 50, 51, 52, 53, 54, 55, 56, 57, 97, 98, 99, 100, 101, 102] } : ByteArray).extract d.1 (d.1 + 1)).data = (tx [dg d.1]).data := by decide
  exact ByteArray.ext (this ⟨d, h⟩)
def hk (n : Nat) : Nat → List Nat
  | 0 => []
  | k + 1 => dg (n / 16 ^ k % 16) :: hk n k
theorem hk_length (n k : Nat) : (hk n k).length = k := by induction k with
  | zero => rfl
  | succ k ih => simp [hk, ih]
theorem hk_lt (n k : Nat) : ∀ x ∈ hk n k, x < 256 := by induction k with
  | zero => intro x hx; cases hx
  | succ k ih =>
    intro x hx
    rcases List.mem_cons.1 hx with rfl | h
    · exact dg_lt _ (by omega)
    · exact ih x h
/- The set's 16 digits. -/
def hx (s : Nat) : ByteArray := tx (hk s 16)
theorem hk_more (s L : Nat) (h : s < 16 ^ L) : ∀ d, hk s (L + d) = List.replicate d 48 ++ hk s L
  | 0 => rfl
  | d + 1 => by
    have h0 : s / 16 ^ (L + d) = 0 := Nat.div_eq_of_lt (Nat.lt_of_lt_of_le h (Nat.pow_le_pow_right (by omega) (by omega)))
    rw [show L + (d + 1) = (L + d) + 1 by omega, hk, h0, hk_more s L h d, List.replicate_succ]
    rfl
set_option maxHeartbeats 1000000 in
theorem rHex_any (n : Nat) (hn : n < 18446744073709551616) (w : World) : Calls Tryd.prog 29 #[.int .u64 (n : Int)] w fun e w' => e = .returned (.string (hx n)) ∧ w' = w := by
  go_enter Tryd.func29, Tryd.ntmps29
  go_wp2_with fail
  go_loop [0, 3, 4] (fun x t i => ∃ k : Nat, k ≤ 16 ∧ i = .int .i64 (k : Int) ∧ x = .int .u64 ((n / 16 ^ k : Nat) : Int) ∧ t = .string (tx (hk n k))) (fun _ _ i => 16 - (intOf i).toNat)
  case atStart => exact ⟨0, by omega, rfl, by simp, rfl⟩
  case round =>
    obtain ⟨k, hk8, rfl, rfl, rfl⟩ := hrel
    by_cases hlt : k < 16
    · have k8 : (k : Int) < 16 := by omega
      obtain ⟨z, hz⟩ : ∃ z, n / 16 ^ k = z := ⟨_, rfl⟩
      have hz32 : z < 18446744073709551616 := by rw [← hz]; exact Nat.lt_of_le_of_lt (Nat.div_le_self _ _) hn
      obtain ⟨d, hd⟩ : ∃ d, z % 16 = d := ⟨_, rfl⟩
      obtain ⟨y, hy⟩ : ∃ y, z / 16 = y := ⟨_, rfl⟩
      have f1 : (z : Int) % 16 = (d : Int) := by omega
      have f2 : (z : Int) / 16 = (y : Int) := by omega
      have d16 : d < 16 := by omega
      have HY : Hid (n / 16 ^ (k + 1) = y ∧ hk n (k + 1) = dg d :: hk n k) := ⟨by rw [Nat.pow_succ, ← Nat.div_div_eq_div_mul, hz, hy], by show dg (n / 16 ^ k % 16) :: hk n k = _; rw [hz, hd]⟩
      rw [hz]
      obtain ⟨T, hT⟩ : ∃ T, tx (hk n k) = T := ⟨_, rfl⟩
      have HT : Hid (tx (hk n k) = T) := hT
      have hTs : T.size ≤ 16 := by rw [← hT, tx_size, hk_length]; exact hk8
      have hTm : ¬ 9223372036854775807 < min (d + 1) 16 - d + T.size := by omega
      rw [hT]
      clear hz hd hy hT
      go_wp2_with fail
      go_round
      case rel => exact ⟨k + 1, by omega, by go_num, by rw [HY.out.1], by rw [dg_cut d d16, ← HT.out, tx_cons, HY.out.2]⟩
      case measure => simp [intOf]; omega
    · have k8 : decide ((k : Int) < 16) = false := by simp; omega
      obtain rfl : k = 16 := by omega
      go_wp2_with fail
      go_ret
      exact ⟨rfl, rfl⟩
set_option maxHeartbeats 400000 in
theorem pow2_any (w : World) : Calls Tryd.prog 72 #[.int .i64 16] w fun e w' => e = .returned (.bool true) ∧ w' = w := by
  go_enter Tryd.func72, Tryd.ntmps72
  go_wp2
  go_ret
  exact ⟨rfl, rfl⟩
theorem tzu_any (w : World) (h : Tb w) : Calls Tryd.prog 73 #[.int .u64 16] w fun e w' => e = .returned (.int .i64 4) ∧ w' = w :=
  Any7.bits_TrailingZeros Tryd.lays7x27 16 (by decide) w (fun _ => h.2)
theorem zero92 : (∀ w, (zeroValue 92).run Tryd.prog w = .ok (.agg (Array.replicate 65 (.int .u8 0))) w) ∧ (Tryd.prog.info? 92).map (·.size) = some 65 := zero_of_info (by kernel_rfl)
end Go.Proofs.YtljbnhgcfmehoaaDoor
