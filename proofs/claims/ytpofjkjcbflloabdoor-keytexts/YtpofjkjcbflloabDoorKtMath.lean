/- Numerals, and the texts of keys, as lists of bytes. -/
import Derived.WalkKit
import Derived.ProofKit
import Derived.Below
import Derived.WalkSpells
import Derived.Deep.RegionHeld3
import Derived.Lib.ItoaNum
import Derived.Lib.AtoiTie
import Derived.Lib.Strings
import Derived.Lib.IndexMore
namespace Go.Proofs.YtpofjkjcbflloabDoor
open Go.RowKit Go.Lib

theorem dec_digit : ∀ (u : Nat), ∀ x ∈ decDigits u, 48 ≤ x.toNat ∧ x.toNat ≤ 57 := by
  intro u
  induction u using Nat.strongRecOn with
  | _ u ih =>
    rw [decDigits]
    split
    · rename_i h
      intro x hx
      simp at hx; subst hx
      simp [UInt8.toNat_ofNat']; omega
    · rename_i h
      intro x hx
      rcases List.mem_append.1 hx with hx | hx
      · exact ih (u / 10) (by omega) x hx
      · simp at hx; subst hx
        simp [UInt8.toNat_ofNat']; omega
theorem decFrom_append (acc : Nat) (l r : List UInt8) : decFrom acc (l ++ r) = (decFrom acc l).bind fun m => decFrom m r := by
  induction l generalizing acc with
  | nil => simp [decFrom]
  | cons b l ih =>
    simp only [List.cons_append, decFrom]
    split
    · exact ih _
    · rfl
theorem decFrom_one (acc d : Nat) (hd : d < 10) : decFrom acc [UInt8.ofNat (48 + d)] = some (acc * 10 + d) := by
  have e : (UInt8.ofNat (48 + d)).toNat = 48 + d := by simp [UInt8.toNat_ofNat']; omega
  have h : 48 ≤ 48 + d ∧ 48 + d ≤ 57 := by omega
  simp only [decFrom, digitVal, e]
  rw [if_pos h]
  simp
theorem decFrom_dec : ∀ (u : Nat), decFrom 0 (decDigits u) = some u := by
  intro u
  induction u using Nat.strongRecOn with
  | _ u ih =>
    rw [decDigits]
    split
    · rename_i h
      rw [decFrom_one 0 u h]; simp
    · rename_i h
      rw [decFrom_append, ih (u / 10) (by omega)]
      simp only [Option.bind_some]
      rw [decFrom_one _ _ (by omega)]
      simp; omega
theorem dec_ne (u : Nat) : decDigits u ≠ [] := by
  intro h
  have h1 := decDigits_length u
  have h2 := nDigits_pos u
  rw [h] at h1; simp at h1; omega
theorem atoi_dec (u : Nat) : atoi (decDigits u) = some (u : Int) := by
  have hf := decFrom_dec u
  have hd := dec_digit u
  cases h : decDigits u with
  | nil => exact absurd h (dec_ne u)
  | cons b r =>
    rw [h] at hf hd
    have hb := hd b (by simp)
    have n1 : (b == 45) = false := by rw [beq_eq_false_iff_ne]; intro e; subst e; simp at hb
    have n2 : (b == 43) = false := by rw [beq_eq_false_iff_ne]; intro e; subst e; simp at hb
    simp [atoi, n1, n2, decNat, hf]
theorem nd_le : ∀ (k u : Nat), u < 10 ^ (k + 1) → nDigits u ≤ k + 1
  | 0, u, h => by rw [nDigits_small (by simpa using h)]; exact Nat.le_refl _
  | k + 1, u, h => by
    by_cases h1 : u < 10
    · rw [nDigits_small h1]; omega
    · rw [nDigits_big h1]
      have := nd_le k (u / 10) (by rw [Nat.pow_succ] at h; omega)
      omega
theorem dec_len (u : Nat) (h : u ≤ 65535) : (decDigits u).length ≤ 5 := by
  rw [decDigits_length]; exact nd_le 4 u (by omega)
theorem atoiAll_dec (u : Nat) (h : u ≤ 65535) : atoiAll (decDigits u) = .ok (u : Int) := by
  rw [atoiAll_short _ (by have := dec_len u h; omega), atoi_dec]; rfl
theorem cut_dec (u : Nat) (r : List UInt8) : cut (decDigits u ++ 46 :: r) [46] = (decDigits u, r, true) := by
  have hi : index (decDigits u ++ 46 :: r) [46] = ((decDigits u).length : Int) := by
    refine index_first (by simp) ?_ ?_
    · simp [occAt]
    · intro j hj
      unfold occAt
      rw [List.drop_append_of_le_length (by omega), List.drop_eq_getElem_cons hj]
      have := dec_digit u (decDigits u)[j] (List.getElem_mem hj)
      simp only [List.cons_append, List.isPrefixOf, Bool.and_eq_false_iff]
      left
      rw [beq_eq_false_iff_ne]
      intro e
      rw [← e] at this
      simp at this
  unfold cut
  rw [hi, if_pos (by omega)]
  simp
theorem trim_k (r : List UInt8) : trimPrefix (107 :: r) [107] = r := by simp [trimPrefix, hasPrefix]
theorem itoa_nat (u : Nat) : itoa (u : Int) = decDigits u := by
  unfold itoa
  rw [if_neg (by omega)]; simp
/- The text of a key, as the program and the document build it. -/
def tt (b s : Int) : ByteArray := (((⟨#[107]⟩ : ByteArray) ++ ⟨(itoa b).toArray⟩) ++ ⟨#[46]⟩) ++ ⟨(itoa s).toArray⟩
theorem tt_list (b s : Nat) : (tt b s).data.toList = 107 :: (decDigits b ++ 46 :: decDigits s) := by
  unfold tt
  rw [itoa_nat, itoa_nat]
  simp [ByteArray.data_append]
theorem tt_size (b s : Nat) : (tt b s).size = (decDigits b).length + (decDigits s).length + 2 := by
  rw [Lib.size_eq, tt_list]; simp; omega
theorem tt_ne (b s : Nat) : tt b s ≠ ⟨#[]⟩ := by
  intro h
  have := tt_size b s
  rw [h] at this
  have h0 : (⟨#[]⟩ : ByteArray).size = 0 := rfl
  omega
/- The first k digits. -/
theorem dec_at (u k : Nat) (hk : k < nDigits u) : (decDigits u)[k]? = some (UInt8.ofNat (48 + u / 10 ^ (nDigits u - 1 - k) % 10)) := by
  rw [decDigits_eq]
  simp [hk, dg]
theorem dec_step (u k : Nat) (hk : k < nDigits u) : 10 * (u / 10 ^ (nDigits u - k)) + u / 10 ^ (nDigits u - 1 - k) % 10 = u / 10 ^ (nDigits u - (k + 1)) := by
  have e : nDigits u - k = (nDigits u - (k + 1)) + 1 := by omega
  have e2 : nDigits u - 1 - k = nDigits u - (k + 1) := by omega
  rw [e, e2, Nat.pow_succ, ← Nat.div_div_eq_div_mul]
  omega
end Go.Proofs.YtpofjkjcbflloabDoor
