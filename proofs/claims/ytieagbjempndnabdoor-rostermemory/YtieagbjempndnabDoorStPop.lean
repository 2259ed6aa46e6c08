/- How many bits of a word are set: the library's sum of neighbouring fields. -/
import Derived.Test.YtieagbjempndnabDoorStMath
namespace Go.Proofs.YtieagbjempndnabDoor
set_option linter.unusedVariables false

theorem and_split (k a b m M : Nat) (ha : a < 2 ^ k) (hm : m < 2 ^ k) : (2 ^ k * b + a) &&& (2 ^ k * M + m) = 2 ^ k * (b &&& M) + (a &&& m) := by
  apply Nat.eq_of_testBit_eq
  intro i
  rw [Nat.testBit_and, Nat.testBit_two_pow_mul_add _ ha, Nat.testBit_two_pow_mul_add _ hm, Nat.testBit_two_pow_mul_add _ (Nat.and_lt_two_pow _ hm)]
  by_cases h : i < k
  · simp [h, Nat.testBit_and]
  · simp [h, Nat.testBit_and]
def stA (M x : Nat) : Nat := (x / 2 &&& M) + (x &&& M)
def stB (M x : Nat) : Nat := (x / 4 &&& M) + (x &&& M)
def stC (M x : Nat) : Nat := (x / 16 + x) &&& M
def mk (c : Nat) : Nat → Nat
  | 0 => 0
  | n + 1 => 256 * mk c n + c
theorem stA_split (a b M : Nat) (ha : a < 256) : stA (256 * M + 85) (256 * b + a) = 256 * stA M b + stA 85 a := by
  unfold stA
  have h1 : (256 * b + a) / 2 = 2 ^ 8 * (b / 2) + (2 ^ 7 * (b % 2) + a / 2) := by omega
  have h2 : (2 ^ 7 * (b % 2) + a / 2) &&& 85 = a / 2 &&& 85 := by
    have := and_split 7 (a / 2) (b % 2) 85 0 (by omega) (by decide)
    rw [Nat.mul_zero, Nat.zero_add, Nat.and_zero, Nat.mul_zero, Nat.zero_add] at this
    exact this
  have h3 := and_split 8 (2 ^ 7 * (b % 2) + a / 2) (b / 2) 85 M (by omega) (by decide)
  have h4 := and_split 8 a b 85 M (by omega) (by decide)
  rw [h2] at h3
  rw [h1, show (256 : Nat) = 2 ^ 8 by decide, h3, h4]
  omega
theorem stB_split (a b M : Nat) (ha : a < 256) : stB (256 * M + 51) (256 * b + a) = 256 * stB M b + stB 51 a := by
  unfold stB
  have h1 : (256 * b + a) / 4 = 2 ^ 8 * (b / 4) + (2 ^ 6 * (b % 4) + a / 4) := by omega
  have h2 : (2 ^ 6 * (b % 4) + a / 4) &&& 51 = a / 4 &&& 51 := by
    have := and_split 6 (a / 4) (b % 4) 51 0 (by omega) (by decide)
    rw [Nat.mul_zero, Nat.zero_add, Nat.and_zero, Nat.mul_zero, Nat.zero_add] at this
    exact this
  have h3 := and_split 8 (2 ^ 6 * (b % 4) + a / 4) (b / 4) 51 M (by omega) (by decide)
  have h4 := and_split 8 a b 51 M (by omega) (by decide)
  rw [h2] at h3
  rw [h1, show (256 : Nat) = 2 ^ 8 by decide, h3, h4]
  omega
theorem stC_split (a b M : Nat) (ha : a / 16 ≤ 4) (ha2 : a % 16 ≤ 4) (hb : b % 16 ≤ 4) : stC (256 * M + 15) (256 * b + a) = 256 * stC M b + (a / 16 + a % 16) := by
  unfold stC
  have h1 : (256 * b + a) / 16 + (256 * b + a) = 2 ^ 8 * (b / 16 + b) + (2 ^ 4 * (b % 16 + a / 16) + (a / 16 + a % 16)) := by omega
  have h3 := and_split 8 (2 ^ 4 * (b % 16 + a / 16) + (a / 16 + a % 16)) (b / 16 + b) 15 M (by omega) (by decide)
  have h2 : (2 ^ 4 * (b % 16 + a / 16) + (a / 16 + a % 16)) &&& 15 = a / 16 + a % 16 := by
    have := and_split 4 (a / 16 + a % 16) (b % 16 + a / 16) 15 0 (by omega) (by decide)
    rw [Nat.mul_zero, Nat.zero_add, Nat.and_zero, Nat.mul_zero, Nat.zero_add] at this
    rw [this, nat_mask4]
    omega
  rw [h2] at h3
  rw [h1, show (256 : Nat) = 2 ^ 8 by decide, h3]
theorem byte_facts : ∀ a : Fin 256, stA 85 a.1 < 256 ∧ stB 51 (stA 85 a.1) / 16 ≤ 4 ∧ stB 51 (stA 85 a.1) % 16 ≤ 4 ∧ stB 51 (stA 85 a.1) / 16 + stB 51 (stA 85 a.1) % 16 = ct 8 a.1 ∧ ct 8 a.1 ≤ 8 := by decide +kernel
def pc : Nat → Nat → Nat
  | 0, _ => 0
  | n + 1, x => 256 * pc n (x / 256) + ct 8 (x % 256)
theorem pc_spec : ∀ (n x : Nat), x < 256 ^ n → stB (mk 51 n) (stA (mk 85 n) x) % 16 ≤ 4 ∧ stC (mk 15 n) (stB (mk 51 n) (stA (mk 85 n) x)) = pc n x
  | 0, x, h => by
    have : x = 0 := by simpa using h
    subst this
    decide
  | n + 1, x, h => by
    obtain ⟨ih1, ih2⟩ := pc_spec n (x / 256) (by rw [Nat.pow_succ] at h; omega)
    obtain ⟨h1, h2, h3, h4, h5⟩ := byte_facts ⟨x % 256, by omega⟩
    dsimp only at h1 h2 h3 h4 h5
    have e1 : stA (mk 85 (n + 1)) x = 256 * stA (mk 85 n) (x / 256) + stA 85 (x % 256) := by
      have := stA_split (x % 256) (x / 256) (mk 85 n) (by omega)
      rw [show 256 * (x / 256) + x % 256 = x by omega] at this
      exact this
    have e2 := stB_split (stA 85 (x % 256)) (stA (mk 85 n) (x / 256)) (mk 51 n) h1
    rw [e1, show mk 51 (n + 1) = 256 * mk 51 n + 51 from rfl, e2, show mk 15 (n + 1) = 256 * mk 15 n + 15 from rfl, stC_split _ _ _ h2 h3 ih1, ih2, h4, pc]
    exact ⟨by omega, rfl⟩
theorem ct_split (n x : Nat) : ct (n + 8) x = ct 8 (x % 256) + ct n (x / 256) := by
  have e : x / 2 / 2 / 2 / 2 / 2 / 2 / 2 / 2 = x / 256 := by omega
  simp only [ct]
  rw [e]
  omega
theorem ct8_le (y : Nat) : ct 8 (y % 256) ≤ 8 := (byte_facts ⟨y % 256, by omega⟩).2.2.2.2
/- The eight sums, one above the other. -/
theorem pc_parts (x : Nat) : ∃ p0 p1 p2 p3 p4 p5 p6 p7, p0 ≤ 8 ∧ p1 ≤ 8 ∧ p2 ≤ 8 ∧ p3 ≤ 8 ∧ p4 ≤ 8 ∧ p5 ≤ 8 ∧ p6 ≤ 8 ∧ p7 ≤ 8 ∧
    pc 8 x = p0 + 256 * p1 + 65536 * p2 + 16777216 * p3 + 4294967296 * p4 + 1099511627776 * p5 + 281474976710656 * p6 + 72057594037927936 * p7 ∧ ct 64 x = p0 + p1 + p2 + p3 + p4 + p5 + p6 + p7 := by
  refine ⟨_, _, _, _, _, _, _, _, ct8_le x, ct8_le (x / 256), ct8_le (x / 256 / 256), ct8_le (x / 256 / 256 / 256), ct8_le (x / 256 / 256 / 256 / 256), ct8_le (x / 256 / 256 / 256 / 256 / 256), ct8_le (x / 256 / 256 / 256 / 256 / 256 / 256), ct8_le (x / 256 / 256 / 256 / 256 / 256 / 256 / 256), ?_, ?_⟩
  · simp only [pc]
    omega
  · have e0 := ct_split 56 x
    have e1 := ct_split 48 (x / 256)
    have e2 := ct_split 40 (x / 256 / 256)
    have e3 := ct_split 32 (x / 256 / 256 / 256)
    have e4 := ct_split 24 (x / 256 / 256 / 256 / 256)
    have e5 := ct_split 16 (x / 256 / 256 / 256 / 256 / 256)
    have e6 := ct_split 8 (x / 256 / 256 / 256 / 256 / 256 / 256)
    have e7 := ct_split 0 (x / 256 / 256 / 256 / 256 / 256 / 256 / 256)
    simp only [show ∀ y, ct 0 y = 0 from fun _ => rfl, Nat.add_zero, Nat.zero_add, Nat.reduceAdd] at e0 e1 e2 e3 e4 e5 e6 e7
    rw [e0, e1, e2, e3, e4, e5, e6, e7]
    omega
theorem div_of {a q n r : Nat} (h : a = r + n * q) (hr : r < n) : a / n = q := by
  subst h
  rw [Nat.add_mul_div_left _ _ (by omega), Nat.div_eq_of_lt hr, Nat.zero_add]
theorem sum1 {p0 p1 p2 p3 p4 p5 p6 p7 : Nat} (h0 : p0 ≤ 8) : (p0 + 256 * p1 + 65536 * p2 + 16777216 * p3 + 4294967296 * p4 + 1099511627776 * p5 + 281474976710656 * p6 + 72057594037927936 * p7) / 256 = p1 + 256 * p2 + 65536 * p3 + 16777216 * p4 + 4294967296 * p5 + 1099511627776 * p6 + 281474976710656 * p7 :=
  div_of (r := p0) (by clear h0; omega) (by omega)
theorem lin1 (p0 p1 p2 p3 p4 p5 p6 p7 : Nat) : (p0 + 256 * p1 + 65536 * p2 + 16777216 * p3 + 4294967296 * p4 + 1099511627776 * p5 + 281474976710656 * p6 + 72057594037927936 * p7) + (p1 + 256 * p2 + 65536 * p3 + 16777216 * p4 + 4294967296 * p5 + 1099511627776 * p6 + 281474976710656 * p7)
    = (p0 + p1 + 256 * (p1 + p2)) + 65536 * ((p2 + p3) + 256 * (p3 + p4) + 65536 * (p4 + p5) + 16777216 * (p5 + p6) + 4294967296 * (p6 + p7) + 1099511627776 * p7) := by omega
theorem lin2 (p0 p1 p2 p3 p4 p5 p6 p7 : Nat) : (p0 + p1 + 256 * (p1 + p2)) + 65536 * ((p2 + p3) + 256 * (p3 + p4) + 65536 * (p4 + p5) + 16777216 * (p5 + p6) + 4294967296 * (p6 + p7) + 1099511627776 * p7) + ((p2 + p3) + 256 * (p3 + p4) + 65536 * (p4 + p5) + 16777216 * (p5 + p6) + 4294967296 * (p6 + p7) + 1099511627776 * p7)
    = (p0 + p1 + p2 + p3 + 256 * (p1 + p2 + p3 + p4) + 65536 * (p2 + p3 + p4 + p5) + 16777216 * (p3 + p4 + p5 + p6)) + 4294967296 * ((p4 + p5 + p6 + p7) + 256 * (p5 + p6 + p7) + 65536 * (p6 + p7) + 16777216 * p7) := by omega
theorem lin3 (p0 p1 p2 p3 p4 p5 p6 p7 : Nat) : (p0 + p1 + p2 + p3 + 256 * (p1 + p2 + p3 + p4) + 65536 * (p2 + p3 + p4 + p5) + 16777216 * (p3 + p4 + p5 + p6)) + 4294967296 * ((p4 + p5 + p6 + p7) + 256 * (p5 + p6 + p7) + 65536 * (p6 + p7) + 16777216 * p7) + ((p4 + p5 + p6 + p7) + 256 * (p5 + p6 + p7) + 65536 * (p6 + p7) + 16777216 * p7)
    = (p0 + p1 + p2 + p3 + p4 + p5 + p6 + p7) + 128 * (2 * (p1 + p2 + p3 + p4 + p5 + p6 + p7) + 512 * (p2 + p3 + p4 + p5 + p6 + p7) + 131072 * (p3 + p4 + p5 + p6 + p7) + 33554432 * ((p4 + p5 + p6 + p7) + 256 * (p5 + p6 + p7) + 65536 * (p6 + p7) + 16777216 * p7)) := by omega
theorem sums {p0 p1 p2 p3 p4 p5 p6 p7 v u t : Nat} (h0 : p0 ≤ 8) (h1 : p1 ≤ 8) (h2 : p2 ≤ 8) (h3 : p3 ≤ 8) (h4 : p4 ≤ 8) (h5 : p5 ≤ 8) (h6 : p6 ≤ 8) (h7 : p7 ≤ 8)
    (e1 : v = p0 + 256 * p1 + 65536 * p2 + 16777216 * p3 + 4294967296 * p4 + 1099511627776 * p5 + 281474976710656 * p6 + 72057594037927936 * p7)
    (hu : v + v / 256 = u) (ht : u + u / 65536 = t) : u < 18446744073709551616 ∧ t < 18446744073709551616 ∧ t + t / 4294967296 < 9223372036854775808 ∧ (t + t / 4294967296) % 128 = p0 + p1 + p2 + p3 + p4 + p5 + p6 + p7 := by
  rw [e1, sum1 h0, lin1] at hu
  have d2 : u / 65536 = (p2 + p3) + 256 * (p3 + p4) + 65536 * (p4 + p5) + 16777216 * (p5 + p6) + 4294967296 * (p6 + p7) + 1099511627776 * p7 := div_of hu.symm (by clear hu ht e1; omega)
  rw [d2, ← hu, lin2] at ht
  have d3 : t / 4294967296 = (p4 + p5 + p6 + p7) + 256 * (p5 + p6 + p7) + 65536 * (p6 + p7) + 16777216 * p7 := div_of ht.symm (by clear hu ht e1 d2; omega)
  rw [d3, ← hu, ← ht, lin3]
  clear hu ht e1 d2 d3
  refine ⟨by omega, by omega, by omega, ?_⟩
  rw [Nat.add_mul_mod_self_left]
  omega
theorem pc_sum (x : Nat) (v : Nat) (hv : pc 8 x = v) : v + v / 256 < 18446744073709551616 ∧ (v + v / 256) + (v + v / 256) / 65536 < 18446744073709551616 ∧
    ((v + v / 256) + (v + v / 256) / 65536) + ((v + v / 256) + (v + v / 256) / 65536) / 4294967296 < 9223372036854775808 ∧
    (((v + v / 256) + (v + v / 256) / 65536) + ((v + v / 256) + (v + v / 256) / 65536) / 4294967296) % 128 = ct 64 x := by
  obtain ⟨p0, p1, p2, p3, p4, p5, p6, p7, h0, h1, h2, h3, h4, h5, h6, h7, e1, e2⟩ := pc_parts x
  rw [hv] at e1
  rw [e2]
  exact sums h0 h1 h2 h3 h4 h5 h6 h7 e1 rfl rfl
theorem stA_lt {x : Nat} (h : x < 18446744073709551616) : stA 6148914691236517205 x < 18446744073709551616 := by
  unfold stA
  have h1 : x / 2 &&& 6148914691236517205 ≤ 6148914691236517205 := Nat.and_le_right
  have h2 : x &&& 6148914691236517205 ≤ 6148914691236517205 := Nat.and_le_right
  omega
theorem stB_lt {x : Nat} (h : x < 18446744073709551616) : stB 3689348814741910323 x ≤ 7378697629483820646 := by
  unfold stB
  have h1 : x / 4 &&& 3689348814741910323 ≤ 3689348814741910323 := Nat.and_le_right
  have h2 : x &&& 3689348814741910323 ≤ 3689348814741910323 := Nat.and_le_right
  omega
theorem mk85 : mk 85 8 = 6148914691236517205 := by decide
theorem mk51 : mk 51 8 = 3689348814741910323 := by decide
theorem mk15 : mk 15 8 = 1085102592571150095 := by decide
theorem pc8 {x : Nat} (h : x < 18446744073709551616) : stC 1085102592571150095 (stB 3689348814741910323 (stA 6148914691236517205 x)) = pc 8 x := by
  have := (pc_spec 8 x h).2
  rw [mk85, mk51, mk15] at this
  exact this
end Go.Proofs.YtieagbjempndnabDoor
