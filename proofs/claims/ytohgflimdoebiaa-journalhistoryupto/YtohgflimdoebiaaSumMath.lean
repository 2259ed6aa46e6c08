/- The cyclic sum's reckoning: the register, bit by bit; that it is linear, one to one, and tells four neighbouring bytes. -/
import Derived.Laws.BitsAllLaws
namespace Go.Proofs.Ytohgflimdoebiaa.Sm
set_option linter.unusedVariables false

def crcPoly : Nat := 3988292384
/- One bit falls out. -/
def bit1 (r : Nat) : Nat := if r % 2 = 1 then (r / 2) ^^^ crcPoly else r / 2
def bits8 (r : Nat) : Nat := bit1 (bit1 (bit1 (bit1 (bit1 (bit1 (bit1 (bit1 r)))))))
def bitsN : Nat → Nat → Nat
  | 0, r => r
  | k + 1, r => bitsN k (bit1 r)
def byte1 (r : Nat) (b : UInt8) : Nat := bits8 (r ^^^ b.toNat)
def reg (r : Nat) : List UInt8 → Nat
  | [] => r
  | b :: l => reg (byte1 r b) l
theorem bitsN_succ (k r : Nat) : bitsN (k + 1) r = bit1 (bitsN k r) := by
  induction k generalizing r with
  | zero => rfl
  | succ k ih => exact ih (bit1 r)
theorem bits8_N (r : Nat) : bits8 r = bitsN 8 r := rfl
theorem bit1_lt {r : Nat} (h : r < 4294967296) : bit1 r < 4294967296 := by
  unfold bit1
  split
  · exact Nat.xor_lt_two_pow (n := 32) (by omega) (by decide)
  · omega
theorem bits8_lt {r : Nat} (h : r < 4294967296) : bits8 r < 4294967296 :=
  bit1_lt (bit1_lt (bit1_lt (bit1_lt (bit1_lt (bit1_lt (bit1_lt (bit1_lt h)))))))
theorem bitsN_lt : ∀ (k : Nat) {r : Nat}, r < 4294967296 → bitsN k r < 4294967296
  | 0, _, h => h
  | k + 1, _, h => bitsN_lt k (bit1_lt h)
theorem xor_byte_lt {r : Nat} (h : r < 4294967296) (b : UInt8) : r ^^^ b.toNat < 4294967296 :=
  Nat.xor_lt_two_pow (n := 32) h (Nat.lt_of_lt_of_le b.toNat_lt (by decide))
theorem byte1_lt {r : Nat} (h : r < 4294967296) (b : UInt8) : byte1 r b < 4294967296 := bits8_lt (xor_byte_lt h b)
theorem reg_lt : ∀ (l : List UInt8) {r : Nat}, r < 4294967296 → reg r l < 4294967296
  | [], _, h => h
  | b :: l, _, h => reg_lt l (byte1_lt h b)
theorem reg_append (l m : List UInt8) (r : Nat) : reg r (l ++ m) = reg (reg r l) m := by
  induction l generalizing r with
  | nil => rfl
  | cons b l ih => exact ih _
/- Linear. -/
theorem xor_mod2 (a b : Nat) : (a ^^^ b) % 2 = (a % 2 + b % 2) % 2 := by
  have := Nat.xor_mod_two_pow (a := a) (b := b) (n := 1)
  simp only [Nat.pow_one] at this
  rw [this]
  rcases Nat.mod_two_eq_zero_or_one a with h | h <;> rcases Nat.mod_two_eq_zero_or_one b with k | k <;> rw [h, k] <;> rfl
theorem xor_div2 (a b : Nat) : (a ^^^ b) / 2 = a / 2 ^^^ b / 2 := by
  have := Nat.xor_div_two_pow (a := a) (b := b) (n := 1)
  simpa using this
theorem xor_swap (a b c : Nat) : a ^^^ b ^^^ c = a ^^^ c ^^^ b := by rw [Nat.xor_assoc, Nat.xor_comm b c, ← Nat.xor_assoc]
theorem bit1_xor (a b : Nat) : bit1 (a ^^^ b) = bit1 a ^^^ bit1 b := by
  unfold bit1
  rw [xor_div2, xor_mod2]
  rcases Nat.mod_two_eq_zero_or_one a with h | h <;> rcases Nat.mod_two_eq_zero_or_one b with k | k <;> rw [h, k] <;> simp
  · rw [Nat.xor_assoc]
  · rw [xor_swap]
  · rw [xor_swap (a / 2) crcPoly, Nat.xor_assoc, Nat.xor_assoc, Nat.xor_self, Nat.xor_zero]
theorem bits8_xor (a b : Nat) : bits8 (a ^^^ b) = bits8 a ^^^ bits8 b := by
  unfold bits8
  simp only [bit1_xor]
/- Four rows of which the fourth is the exclusive or of the others. -/
theorem xor4_step {a b c d : Nat} (h : a ^^^ b ^^^ c ^^^ d = 0) : bits8 a ^^^ bits8 b ^^^ bits8 c ^^^ bits8 d = 0 := by
  rw [← bits8_xor, ← bits8_xor, ← bits8_xor, h]; rfl
theorem xor_mid (a b c d x y z u : Nat) : (a ^^^ x) ^^^ (b ^^^ y) ^^^ (c ^^^ z) ^^^ (d ^^^ u) = (a ^^^ b ^^^ c ^^^ d) ^^^ (x ^^^ y ^^^ z ^^^ u) := by
  apply Nat.eq_of_testBit_eq
  intro i
  simp only [Nat.testBit_xor]
  cases a.testBit i <;> cases b.testBit i <;> cases c.testBit i <;> cases d.testBit i <;> cases x.testBit i <;> cases y.testBit i <;> cases z.testBit i <;> cases u.testBit i <;> rfl
theorem byte_xor4 (x y z : UInt8) : x.toNat ^^^ y.toNat ^^^ z.toNat ^^^ (x ^^^ y ^^^ z).toNat = 0 := by
  rw [UInt8.toNat_xor, UInt8.toNat_xor, Nat.xor_self]
theorem mixes : ∀ (l m k : List UInt8) (a b c d : Nat), l.length = m.length → m.length = k.length → a ^^^ b ^^^ c ^^^ d = 0 →
    reg a l ^^^ reg b m ^^^ reg c k ^^^ reg d (List.zipWith (· ^^^ ·) (List.zipWith (· ^^^ ·) l m) k) = 0
  | [], [], [], a, b, c, d, _, _, h => h
  | x :: l, y :: m, z :: k, a, b, c, d, h1, h2, h => by
    refine mixes l m k _ _ _ _ (by simpa using h1) (by simpa using h2) (xor4_step ?_)
    rw [xor_mid, h, byte_xor4]; rfl
/- One to one. -/
theorem xor_eq_zero' {a b : Nat} (h : a ^^^ b = 0) : a = b := by
  have : a ^^^ b ^^^ b = 0 ^^^ b := by rw [h]
  rw [Nat.xor_assoc, Nat.xor_self, Nat.xor_zero, Nat.zero_xor] at this
  exact this
theorem bit1_small {z k : Nat} (hz : z < 4294967296) (hk : k ≤ 31) (h : bit1 z < 2 ^ k) : z = 2 * bit1 z := by
  unfold bit1 at h ⊢
  split at h
  · exfalso
    have h31 : (z / 2 ^^^ crcPoly).testBit 31 = true := by
      rw [Nat.testBit_xor]
      have e1 : (z / 2).testBit 31 = false := Nat.testBit_lt_two_pow (by omega)
      have e2 : crcPoly.testBit 31 = true := by decide
      rw [e1, e2]; rfl
    have := Nat.ge_two_pow_of_testBit h31
    have : 2 ^ k ≤ 2 ^ 31 := Nat.pow_le_pow_right (by omega) hk
    omega
  · rename_i hne
    rw [if_neg hne]; omega
theorem bitsN_small : ∀ (n k : Nat) {z : Nat}, z < 4294967296 → k + n ≤ 32 → bitsN n z < 2 ^ k → z = 2 ^ n * bitsN n z
  | 0, _, z, _, _, _ => by show z = 1 * z; omega
  | n + 1, k, z, hz, hk, h => by
    have h' : bitsN n (bit1 z) < 2 ^ k := h
    have e := bitsN_small n k (bit1_lt hz) (by omega) h'
    have h2 : bit1 z < 2 ^ (k + n) := by
      rw [e, Nat.pow_add, Nat.mul_comm]
      exact Nat.mul_lt_mul_of_pos_right h' (Nat.two_pow_pos n)
    have e2 := bit1_small hz (k := k + n) (by omega) h2
    show z = 2 ^ (n + 1) * bitsN n (bit1 z)
    rw [Nat.pow_succ, Nat.mul_comm (2 ^ n) 2, Nat.mul_assoc, ← e]
    exact e2
theorem bits8_small {z k : Nat} (hz : z < 4294967296) (hk : k ≤ 24) (h : bits8 z < 2 ^ k) : z = 256 * bits8 z :=
  bitsN_small 8 k hz (by omega) h
theorem bits8_zero {z : Nat} (hz : z < 4294967296) (h : bits8 z = 0) : z = 0 := by
  have := bits8_small hz (k := 0) (by omega) (by rw [h]; decide)
  rw [h] at this; exact this
theorem bits8_inj {a b : Nat} (ha : a < 4294967296) (hb : b < 4294967296) (h : bits8 a = bits8 b) : a = b :=
  xor_eq_zero' (bits8_zero (Nat.xor_lt_two_pow (n := 32) ha hb) (by rw [bits8_xor, h, Nat.xor_self]))
theorem reg_inj : ∀ (l : List UInt8) {a b : Nat}, a < 4294967296 → b < 4294967296 → reg a l = reg b l → a = b
  | [], _, _, _, _, h => h
  | x :: l, a, b, ha, hb, h => by
    have h1 := reg_inj l (byte1_lt ha x) (byte1_lt hb x) h
    have h2 := bits8_inj (xor_byte_lt ha x) (xor_byte_lt hb x) h1
    have h3 : a ^^^ x.toNat ^^^ (b ^^^ x.toNat) = 0 := by rw [h2, Nat.xor_self]
    apply xor_eq_zero'
    rw [← h3]
    apply Nat.eq_of_testBit_eq
    intro i
    simp only [Nat.testBit_xor]
    cases a.testBit i <;> cases b.testBit i <;> cases x.toNat.testBit i <;> rfl
/- The difference of two registers. -/
theorem reg_diff : ∀ (l m : List UInt8) (a b : Nat), l.length = m.length → reg a l ^^^ reg b m = reg (a ^^^ b) (List.zipWith (· ^^^ ·) l m)
  | [], [], _, _, _ => rfl
  | x :: l, y :: m, a, b, h => by
    have e : byte1 a x ^^^ byte1 b y = byte1 (a ^^^ b) (x ^^^ y) := by
      unfold byte1
      rw [← bits8_xor, UInt8.toNat_xor]
      congr 1
      apply Nat.eq_of_testBit_eq
      intro i
      simp only [Nat.testBit_xor]
      cases a.testBit i <;> cases b.testBit i <;> cases x.toNat.testBit i <;> cases y.toNat.testBit i <;> rfl
    show reg (byte1 a x) l ^^^ reg (byte1 b y) m = reg (byte1 (a ^^^ b) (x ^^^ y)) (List.zipWith (· ^^^ ·) l m)
    rw [reg_diff l m _ _ (by simpa using h), e]
theorem reg_small : ∀ (l : List UInt8) (r : Nat), r < 4294967296 → l.length ≤ 4 → reg r l = 0 → r < 2 ^ (8 * l.length)
  | [], r, _, _, h => by have h' : r = 0 := h; rw [h']; decide
  | x :: l, r, hr, hl, h => by
    have hl' : l.length ≤ 3 := by simpa using hl
    have h1 := reg_small l (byte1 r x) (byte1_lt hr x) (by omega) h
    have e := bits8_small (xor_byte_lt hr x) (k := 8 * l.length) (by omega) h1
    have h2 : r ^^^ x.toNat < 2 ^ (8 * l.length + 8) := by
      rw [e, Nat.pow_add, Nat.mul_comm]
      exact Nat.mul_lt_mul_of_pos_right h1 (by decide)
    have hx : x.toNat < 2 ^ (8 * l.length + 8) := by
      have : 2 ^ 8 ≤ 2 ^ (8 * l.length + 8) := Nat.pow_le_pow_right (by omega) (by omega)
      have := x.toNat_lt
      omega
    have h3 := Nat.xor_lt_two_pow h2 hx
    rw [Nat.xor_assoc, Nat.xor_self, Nat.xor_zero] at h3
    simpa [Nat.mul_add] using h3
theorem reg_zero : ∀ (l : List UInt8), l.length ≤ 4 → reg 0 l = 0 → ∀ x ∈ l, x = 0
  | [], _, _ => by simp
  | x :: l, hl, h => by
    have hl' : l.length ≤ 3 := by simpa using hl
    have h1 := reg_small l (byte1 0 x) (byte1_lt (by decide) x) (by omega) h
    have e := bits8_small (xor_byte_lt (by decide) x) (k := 8 * l.length) (by omega) h1
    have hx := x.toNat_lt
    have e' : x.toNat = 256 * bits8 (0 ^^^ x.toNat) := by
      have e0 : 0 ^^^ x.toNat = x.toNat := Nat.zero_xor _
      rw [← e, e0]
    have hz : bits8 (0 ^^^ x.toNat) = 0 := by omega
    have hx0 : x.toNat = 0 := by omega
    have h2 : reg 0 l = 0 := by
      have : byte1 0 x = 0 := hz
      have h' : reg (byte1 0 x) l = 0 := h
      rwa [this] at h'
    intro y hy
    rcases List.mem_cons.1 hy with rfl | hy
    · exact UInt8.toNat_inj.1 hx0
    · exact reg_zero l (by omega) h2 y hy
theorem zip_zero : ∀ (l m : List UInt8), l.length = m.length → (∀ x ∈ List.zipWith (· ^^^ ·) l m, x = 0) → l = m
  | [], [], _, _ => rfl
  | x :: l, y :: m, h, hz => by
    have h0 : x ^^^ y = 0 := hz _ (by simp)
    have e : x = y := by
      have : (x ^^^ y).toNat = 0 := by rw [h0]; rfl
      rw [UInt8.toNat_xor] at this
      exact UInt8.toNat_inj.1 (xor_eq_zero' this)
    rw [e, zip_zero l m (by simpa using h) (fun z hz' => hz z (by simp [hz']))]
/- Two texts that differ within four neighbouring bytes. -/
theorem tells (p x y q : List UInt8) (r : Nat) (hr : r < 4294967296) (hl : x.length = y.length) (h4 : x.length ≤ 4) (h : reg r (p ++ x ++ q) = reg r (p ++ y ++ q)) : x = y := by
  rw [reg_append, reg_append, reg_append, reg_append] at h
  have hp := reg_lt p hr
  have h1 := reg_inj q (reg_lt x hp) (reg_lt y hp) h
  have h2 := reg_diff x y (reg r p) (reg r p) hl
  rw [h1, Nat.xor_self, Nat.xor_self] at h2
  exact zip_zero x y hl (reg_zero _ (by simp; omega) h2.symm)
/- All bits turned. -/
theorem turned (r : Nat) (h : r < 4294967296) : 4294967295 ^^^ r = 4294967295 - r := by
  have e := Nat.testBit_two_pow_sub_succ (x := r) (n := 32) h
  apply Nat.eq_of_testBit_eq
  intro i
  have e' : 4294967295 - r = 2 ^ 32 - (r + 1) := by omega
  rw [e', e, Nat.testBit_xor]
  have e3 : (4294967295 : Nat).testBit i = decide (i < 32) := Nat.testBit_two_pow_sub_one 32 i
  rw [e3]
  by_cases hi : i < 32
  · simp [hi]
  · have h32 : (2 : Nat) ^ 32 ≤ 2 ^ i := Nat.pow_le_pow_right (by omega) (by omega)
    have : r.testBit i = false := Nat.testBit_lt_two_pow (Nat.lt_of_lt_of_le (show r < 2 ^ 32 by omega) h32)
    simp [hi, this]
def ext (n : Nat) (l : List UInt8) : Nat := 4294967295 - reg (4294967295 - n) l
theorem ext_lt (n : Nat) (l : List UInt8) : ext n l < 4294967296 := by unfold ext; omega
theorem ext_nil {n : Nat} (h : n < 4294967296) : ext n [] = n := by unfold ext reg; omega
theorem ext_append (n : Nat) (l m : List UInt8) : ext n (l ++ m) = ext (ext n l) m := by
  have := reg_lt l (r := 4294967295 - n) (by omega)
  unfold ext
  rw [reg_append, Nat.sub_sub_self (by omega)]
theorem ext_mixes (l m k : List UInt8) (h1 : l.length = m.length) (h2 : m.length = k.length) : ext 0 l ^^^ ext 0 m ^^^ ext 0 k ^^^ ext 0 (List.zipWith (· ^^^ ·) (List.zipWith (· ^^^ ·) l m) k) = 0 := by
  have h := mixes l m k 4294967295 4294967295 4294967295 4294967295 h1 h2 (by decide)
  unfold ext
  simp only [Nat.sub_zero]
  rw [← turned _ (reg_lt l (by decide)), ← turned _ (reg_lt m (by decide)), ← turned _ (reg_lt k (by decide)), ← turned _ (reg_lt _ (by decide)), xor_mid, h]
  decide
theorem ext_tells (p x y q : List UInt8) (hl : x.length = y.length) (h4 : x.length ≤ 4) (h : ext 0 (p ++ x ++ q) = ext 0 (p ++ y ++ q)) : x = y := by
  refine tells p x y q 4294967295 (by decide) hl h4 ?_
  have a := reg_lt (p ++ x ++ q) (r := 4294967295) (by decide)
  have b := reg_lt (p ++ y ++ q) (r := 4294967295) (by decide)
  unfold ext at h
  simp only [Nat.sub_zero] at h
  omega
end Go.Proofs.Ytohgflimdoebiaa.Sm
