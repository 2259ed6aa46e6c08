/- SumMath, SumA, SumB, SumC, SumD, SumE, joined. -/
import Derived.Laws.BitsAllLaws
import Derived.Test.YtohgflimdoebiaaChecked
import Derived.WalkKit
import Derived.ProofKit
import Derived.Below
import Derived.WalkSpells
import Derived.Laws.IdiomStrings
import Derived.Deep.RegionHeld3
import Derived.Deep.AppendLies
import Derived.Laws.OwnMore
/- The cyclic sum's reckoning: the register, bit by bit; that it is linear, one to one, and tells four neighbouring bytes. -/
namespace Go.Proofs.Ytohgflimdoebiaa.Sm
set_option linter.unusedVariables false

def crcPoly : Nat := 3988292384
/- One bit falls out. -/
def bit1 (r : Nat) : Nat := if r % 2 = 1 then (r / 2) ^^^ crcPoly else r / 2
def bits8 (r : Nat) : Nat := bit1 (bit1 (bit1 (bit1 (bit1 (bit1 (bit1 (bit1 r)))))))
def bitsN : Nat → Nat → Nat
  | 0, r => r
  | k + 1, r => bitsN k (bit1 r)
def byte1 (r : Nat) (b : UInt8) : Nat := bits8 (r ^^^ b.toNat)
def reg (r : Nat) : List UInt8 → Nat
  | [] => r
  | b :: l => reg (byte1 r b) l
theorem bitsN_succ (k r : Nat) : bitsN (k + 1) r = bit1 (bitsN k r) := by
  induction k generalizing r with
  | zero => rfl
  | succ k ih => exact ih (bit1 r)
theorem bits8_N (r : Nat) : bits8 r = bitsN 8 r := rfl
theorem bit1_lt {r : Nat} (h : r < 4294967296) : bit1 r < 4294967296 := by
  unfold bit1
  split
  · exact Nat.xor_lt_two_pow (n := 32) (by omega) (by decide)
  · omega
theorem bits8_lt {r : Nat} (h : r < 4294967296) : bits8 r < 4294967296 :=
  bit1_lt (bit1_lt (bit1_lt (bit1_lt (bit1_lt (bit1_lt (bit1_lt (bit1_lt h)))))))
theorem bitsN_lt : ∀ (k : Nat) {r : Nat}, r < 4294967296 → bitsN k r < 4294967296
  | 0, _, h => h
  | k + 1, _, h => bitsN_lt k (bit1_lt h)
theorem xor_byte_lt {r : Nat} (h : r < 4294967296) (b : UInt8) : r ^^^ b.toNat < 4294967296 :=
  Nat.xor_lt_two_pow (n := 32) h (Nat.lt_of_lt_of_le b.toNat_lt (by decide))
theorem byte1_lt {r : Nat} (h : r < 4294967296) (b : UInt8) : byte1 r b < 4294967296 := bits8_lt (xor_byte_lt h b)
theorem reg_lt : ∀ (l : List UInt8) {r : Nat}, r < 4294967296 → reg r l < 4294967296
  | [], _, h => h
  | b :: l, _, h => reg_lt l (byte1_lt h b)
theorem reg_append (l m : List UInt8) (r : Nat) : reg r (l ++ m) = reg (reg r l) m := by
  induction l generalizing r with
  | nil => rfl
  | cons b l ih => exact ih _
/- Linear. -/
theorem xor_mod2 (a b : Nat) : (a ^^^ b) % 2 = (a % 2 + b % 2) % 2 := by
  have := Nat.xor_mod_two_pow (a := a) (b := b) (n := 1)
  simp only [Nat.pow_one] at this
  rw [this]
  rcases Nat.mod_two_eq_zero_or_one a with h | h <;> rcases Nat.mod_two_eq_zero_or_one b with k | k <;> rw [h, k] <;> rfl
theorem xor_div2 (a b : Nat) : (a ^^^ b) / 2 = a / 2 ^^^ b / 2 := by
  have := Nat.xor_div_two_pow (a := a) (b := b) (n := 1)
  simpa using this
theorem xor_swap (a b c : Nat) : a ^^^ b ^^^ c = a ^^^ c ^^^ b := by rw [Nat.xor_assoc, Nat.xor_comm b c, ← Nat.xor_assoc]
theorem bit1_xor (a b : Nat) : bit1 (a ^^^ b) = bit1 a ^^^ bit1 b := by
  unfold bit1
  rw [xor_div2, xor_mod2]
  rcases Nat.mod_two_eq_zero_or_one a with h | h <;> rcases Nat.mod_two_eq_zero_or_one b with k | k <;> rw [h, k] <;> simp
  · rw [Nat.xor_assoc]
  · rw [xor_swap]
  · rw [xor_swap (a / 2) crcPoly, Nat.xor_assoc, Nat.xor_assoc, Nat.xor_self, Nat.xor_zero]
theorem bits8_xor (a b : Nat) : bits8 (a ^^^ b) = bits8 a ^^^ bits8 b := by
  unfold bits8
  simp only [bit1_xor]
/- Four rows of which the fourth is the exclusive or of the others. -/
theorem xor4_step {a b c d : Nat} (h : a ^^^ b ^^^ c ^^^ d = 0) : bits8 a ^^^ bits8 b ^^^ bits8 c ^^^ bits8 d = 0 := by
  rw [← bits8_xor, ← bits8_xor, ← bits8_xor, h]; rfl
theorem xor_mid (a b c d x y z u : Nat) : (a ^^^ x) ^^^ (b ^^^ y) ^^^ (c ^^^ z) ^^^ (d ^^^ u) = (a ^^^ b ^^^ c ^^^ d) ^^^ (x ^^^ y ^^^ z ^^^ u) := by
  apply Nat.eq_of_testBit_eq
  intro i
  simp only [Nat.testBit_xor]
  cases a.testBit i <;> cases b.testBit i <;> cases c.testBit i <;> cases d.testBit i <;> cases x.testBit i <;> cases y.testBit i <;> cases z.testBit i <;> cases u.testBit i <;> rfl
theorem byte_xor4 (x y z : UInt8) : x.toNat ^^^ y.toNat ^^^ z.toNat ^^^ (x ^^^ y ^^^ z).toNat = 0 := by
  rw [UInt8.toNat_xor, UInt8.toNat_xor, Nat.xor_self]
theorem mixes : ∀ (l m k : List UInt8) (a b c d : Nat), l.length = m.length → m.length = k.length → a ^^^ b ^^^ c ^^^ d = 0 →
    reg a l ^^^ reg b m ^^^ reg c k ^^^ reg d (List.zipWith (· ^^^ ·) (List.zipWith (· ^^^ ·) l m) k) = 0
  | [], [], [], a, b, c, d, _, _, h => h
  | x :: l, y :: m, z :: k, a, b, c, d, h1, h2, h => by
    refine mixes l m k _ _ _ _ (by simpa using h1) (by simpa using h2) (xor4_step ?_)
    rw [xor_mid, h, byte_xor4]; rfl
/- One to one. -/
theorem xor_eq_zero' {a b : Nat} (h : a ^^^ b = 0) : a = b := by
  have : a ^^^ b ^^^ b = 0 ^^^ b := by rw [h]
  rw [Nat.xor_assoc, Nat.xor_self, Nat.xor_zero, Nat.zero_xor] at this
  exact this
theorem bit1_small {z k : Nat} (hz : z < 4294967296) (hk : k ≤ 31) (h : bit1 z < 2 ^ k) : z = 2 * bit1 z := by
  unfold bit1 at h ⊢
  split at h
  · exfalso
    have h31 : (z / 2 ^^^ crcPoly).testBit 31 = true := by
      rw [Nat.testBit_xor]
      have e1 : (z / 2).testBit 31 = false := Nat.testBit_lt_two_pow (by omega)
      have e2 : crcPoly.testBit 31 = true := by decide
      rw [e1, e2]; rfl
    have := Nat.ge_two_pow_of_testBit h31
    have : 2 ^ k ≤ 2 ^ 31 := Nat.pow_le_pow_right (by omega) hk
    omega
  · rename_i hne
    rw [if_neg hne]; omega
theorem bitsN_small : ∀ (n k : Nat) {z : Nat}, z < 4294967296 → k + n ≤ 32 → bitsN n z < 2 ^ k → z = 2 ^ n * bitsN n z
  | 0, _, z, _, _, _ => by show z = 1 * z; omega
  | n + 1, k, z, hz, hk, h => by
    have h' : bitsN n (bit1 z) < 2 ^ k := h
    have e := bitsN_small n k (bit1_lt hz) (by omega) h'
    have h2 : bit1 z < 2 ^ (k + n) := by
      rw [e, Nat.pow_add, Nat.mul_comm]
      exact Nat.mul_lt_mul_of_pos_right h' (Nat.two_pow_pos n)
    have e2 := bit1_small hz (k := k + n) (by omega) h2
    show z = 2 ^ (n + 1) * bitsN n (bit1 z)
    rw [Nat.pow_succ, Nat.mul_comm (2 ^ n) 2, Nat.mul_assoc, ← e]
    exact e2
theorem bits8_small {z k : Nat} (hz : z < 4294967296) (hk : k ≤ 24) (h : bits8 z < 2 ^ k) : z = 256 * bits8 z :=
  bitsN_small 8 k hz (by omega) h
theorem bits8_zero {z : Nat} (hz : z < 4294967296) (h : bits8 z = 0) : z = 0 := by
  have := bits8_small hz (k := 0) (by omega) (by rw [h]; decide)
  rw [h] at this; exact this
theorem bits8_inj {a b : Nat} (ha : a < 4294967296) (hb : b < 4294967296) (h : bits8 a = bits8 b) : a = b :=
  xor_eq_zero' (bits8_zero (Nat.xor_lt_two_pow (n := 32) ha hb) (by rw [bits8_xor, h, Nat.xor_self]))
theorem reg_inj : ∀ (l : List UInt8) {a b : Nat}, a < 4294967296 → b < 4294967296 → reg a l = reg b l → a = b
  | [], _, _, _, _, h => h
  | x :: l, a, b, ha, hb, h => by
    have h1 := reg_inj l (byte1_lt ha x) (byte1_lt hb x) h
    have h2 := bits8_inj (xor_byte_lt ha x) (xor_byte_lt hb x) h1
    have h3 : a ^^^ x.toNat ^^^ (b ^^^ x.toNat) = 0 := by rw [h2, Nat.xor_self]
    apply xor_eq_zero'
    rw [← h3]
    apply Nat.eq_of_testBit_eq
    intro i
    simp only [Nat.testBit_xor]
    cases a.testBit i <;> cases b.testBit i <;> cases x.toNat.testBit i <;> rfl
/- The difference of two registers. -/
theorem reg_diff : ∀ (l m : List UInt8) (a b : Nat), l.length = m.length → reg a l ^^^ reg b m = reg (a ^^^ b) (List.zipWith (· ^^^ ·) l m)
  | [], [], _, _, _ => rfl
  | x :: l, y :: m, a, b, h => by
    have e : byte1 a x ^^^ byte1 b y = byte1 (a ^^^ b) (x ^^^ y) := by
      unfold byte1
      rw [← bits8_xor, UInt8.toNat_xor]
      congr 1
      apply Nat.eq_of_testBit_eq
      intro i
      simp only [Nat.testBit_xor]
      cases a.testBit i <;> cases b.testBit i <;> cases x.toNat.testBit i <;> cases y.toNat.testBit i <;> rfl
    show reg (byte1 a x) l ^^^ reg (byte1 b y) m = reg (byte1 (a ^^^ b) (x ^^^ y)) (List.zipWith (· ^^^ ·) l m)
    rw [reg_diff l m _ _ (by simpa using h), e]
theorem reg_small : ∀ (l : List UInt8) (r : Nat), r < 4294967296 → l.length ≤ 4 → reg r l = 0 → r < 2 ^ (8 * l.length)
  | [], r, _, _, h => by have h' : r = 0 := h; rw [h']; decide
  | x :: l, r, hr, hl, h => by
    have hl' : l.length ≤ 3 := by simpa using hl
    have h1 := reg_small l (byte1 r x) (byte1_lt hr x) (by omega) h
    have e := bits8_small (xor_byte_lt hr x) (k := 8 * l.length) (by omega) h1
    have h2 : r ^^^ x.toNat < 2 ^ (8 * l.length + 8) := by
      rw [e, Nat.pow_add, Nat.mul_comm]
      exact Nat.mul_lt_mul_of_pos_right h1 (by decide)
    have hx : x.toNat < 2 ^ (8 * l.length + 8) := by
      have : 2 ^ 8 ≤ 2 ^ (8 * l.length + 8) := Nat.pow_le_pow_right (by omega) (by omega)
      have := x.toNat_lt
      omega
    have h3 := Nat.xor_lt_two_pow h2 hx
    rw [Nat.xor_assoc, Nat.xor_self, Nat.xor_zero] at h3
    simpa [Nat.mul_add] using h3
theorem reg_zero : ∀ (l : List UInt8), l.length ≤ 4 → reg 0 l = 0 → ∀ x ∈ l, x = 0
  | [], _, _ => by simp
  | x :: l, hl, h => by
    have hl' : l.length ≤ 3 := by simpa using hl
    have h1 := reg_small l (byte1 0 x) (byte1_lt (by decide) x) (by omega) h
    have e := bits8_small (xor_byte_lt (by decide) x) (k := 8 * l.length) (by omega) h1
    have hx := x.toNat_lt
    have e' : x.toNat = 256 * bits8 (0 ^^^ x.toNat) := by
      have e0 : 0 ^^^ x.toNat = x.toNat := Nat.zero_xor _
      rw [← e, e0]
    have hz : bits8 (0 ^^^ x.toNat) = 0 := by omega
    have hx0 : x.toNat = 0 := by omega
    have h2 : reg 0 l = 0 := by
      have : byte1 0 x = 0 := hz
      have h' : reg (byte1 0 x) l = 0 := h
      rwa [this] at h'
    intro y hy
    rcases List.mem_cons.1 hy with rfl | hy
    · exact UInt8.toNat_inj.1 hx0
    · exact reg_zero l (by omega) h2 y hy
theorem zip_zero : ∀ (l m : List UInt8), l.length = m.length → (∀ x ∈ List.zipWith (· ^^^ ·) l m, x = 0) → l = m
  | [], [], _, _ => rfl
  | x :: l, y :: m, h, hz => by
    have h0 : x ^^^ y = 0 := hz _ (by simp)
    have e : x = y := by
      have : (x ^^^ y).toNat = 0 := by rw [h0]; rfl
      rw [UInt8.toNat_xor] at this
      exact UInt8.toNat_inj.1 (xor_eq_zero' this)
    rw [e, zip_zero l m (by simpa using h) (fun z hz' => hz z (by simp [hz']))]
/- Two texts that differ within four neighbouring bytes. -/
theorem tells (p x y q : List UInt8) (r : Nat) (hr : r < 4294967296) (hl : x.length = y.length) (h4 : x.length ≤ 4) (h : reg r (p ++ x ++ q) = reg r (p ++ y ++ q)) : x = y := by
  rw [reg_append, reg_append, reg_append, reg_append] at h
  have hp := reg_lt p hr
  have h1 := reg_inj q (reg_lt x hp) (reg_lt y hp) h
  have h2 := reg_diff x y (reg r p) (reg r p) hl
  rw [h1, Nat.xor_self, Nat.xor_self] at h2
  exact zip_zero x y hl (reg_zero _ (by simp; omega) h2.symm)
/- All bits turned. -/
theorem turned (r : Nat) (h : r < 4294967296) : 4294967295 ^^^ r = 4294967295 - r := by
  have e := Nat.testBit_two_pow_sub_succ (x := r) (n := 32) h
  apply Nat.eq_of_testBit_eq
  intro i
  have e' : 4294967295 - r = 2 ^ 32 - (r + 1) := by omega
  rw [e', e, Nat.testBit_xor]
  have e3 : (4294967295 : Nat).testBit i = decide (i < 32) := Nat.testBit_two_pow_sub_one 32 i
  rw [e3]
  by_cases hi : i < 32
  · simp [hi]
  · have h32 : (2 : Nat) ^ 32 ≤ 2 ^ i := Nat.pow_le_pow_right (by omega) (by omega)
    have : r.testBit i = false := Nat.testBit_lt_two_pow (Nat.lt_of_lt_of_le (show r < 2 ^ 32 by omega) h32)
    simp [hi, this]
def ext (n : Nat) (l : List UInt8) : Nat := 4294967295 - reg (4294967295 - n) l
theorem ext_lt (n : Nat) (l : List UInt8) : ext n l < 4294967296 := by unfold ext; omega
theorem ext_nil {n : Nat} (h : n < 4294967296) : ext n [] = n := by unfold ext reg; omega
theorem ext_append (n : Nat) (l m : List UInt8) : ext n (l ++ m) = ext (ext n l) m := by
  have := reg_lt l (r := 4294967295 - n) (by omega)
  unfold ext
  rw [reg_append, Nat.sub_sub_self (by omega)]
theorem ext_mixes (l m k : List UInt8) (h1 : l.length = m.length) (h2 : m.length = k.length) : ext 0 l ^^^ ext 0 m ^^^ ext 0 k ^^^ ext 0 (List.zipWith (· ^^^ ·) (List.zipWith (· ^^^ ·) l m) k) = 0 := by
  have h := mixes l m k 4294967295 4294967295 4294967295 4294967295 h1 h2 (by decide)
  unfold ext
  simp only [Nat.sub_zero]
  rw [← turned _ (reg_lt l (by decide)), ← turned _ (reg_lt m (by decide)), ← turned _ (reg_lt k (by decide)), ← turned _ (reg_lt _ (by decide)), xor_mid, h]
  decide
theorem ext_tells (p x y q : List UInt8) (hl : x.length = y.length) (h4 : x.length ≤ 4) (h : ext 0 (p ++ x ++ q) = ext 0 (p ++ y ++ q)) : x = y := by
  refine tells p x y q 4294967295 (by decide) hl h4 ?_
  have a := reg_lt (p ++ x ++ q) (r := 4294967295) (by decide)
  have b := reg_lt (p ++ y ++ q) (r := 4294967295) (by decide)
  unfold ext at h
  simp only [Nat.sub_zero] at h
  omega
end Go.Proofs.Ytohgflimdoebiaa.Sm
/- Contracts of sum's and the document's Extend and Sum. -/
namespace Go.Proofs.Ytohgflimdoebiaa.Sm
open Go.RowKit
set_option linter.unusedVariables false

theorem ret_int {k : IntKind} {a b : Int} (h : a = b) : Ending.returned (.int k a) = .returned (.int k b) := by rw [h]
theorem ret_bool {a b : Bool} (h : a = b) : Ending.returned (.bool a) = .returned (.bool b) := by rw [h]
theorem bit1_odd {z : Nat} (h : z % 2 = 1) : bit1 z = z / 2 ^^^ 3988292384 := by unfold bit1 crcPoly; rw [if_pos h]
theorem bit1_even {z : Nat} (h : z % 2 = 0) : bit1 z = z / 2 := by unfold bit1; rw [if_neg (by omega)]
theorem take_snoc (s : ByteArray) (k : Nat) (h : k < s.size) : s.data.toList.take (k + 1) = s.data.toList.take k ++ [s[k]] := by
  rw [List.take_succ_eq_append_getElem (by simpa using h)]; rfl
theorem reg_snoc (r : Nat) (s : ByteArray) (k : Nat) (h : k < s.size) : reg r (s.data.toList.take (k + 1)) = byte1 (reg r (s.data.toList.take k)) s[k] := by
  rw [take_snoc s k h, reg_append]; rfl
theorem xorPoly (y : Nat) (h : y < 4294967296) : bits .xor .u32 (y : Int) 3988292384 = ((y ^^^ 3988292384 : Nat) : Int) := u32_xor_nat y 3988292384 h (by decide)
set_option maxHeartbeats 400000 in
theorem take_any (r : Nat) (b : UInt8) (w : World) (hr : r < 4294967296) : Calls Try.prog 94 #[.int .u32 (r : Int), .int .u8 (b.toNat : Int)] w fun e w' => e = .returned (.int .u32 ((byte1 r b : Nat) : Int)) ∧ w' = w := by
  have hb := b.toNat_lt
  obtain ⟨x, hx⟩ : ∃ x, r ^^^ b.toNat = x := ⟨_, rfl⟩
  have e0 : bits .xor .u32 (r : Int) (b.toNat : Int) = (x : Int) := by rw [u32_xor_nat r b.toNat hr (by omega), hx]
  have hx32 : x < 4294967296 := by rw [← hx]; exact xor_byte_lt hr b
  have HX : Hid (byte1 r b = bitsN 8 x) := by unfold Hid byte1; rw [bits8_N, hx]
  clear hx
  go_enter Try.func94, Try.ntmps94
  go_wp2_with fail
  go_loop [0, 10] (fun y i => ∃ k : Nat, k ≤ 8 ∧ i = .int .i64 (k : Int) ∧ y = .int .u32 ((bitsN k x : Nat) : Int)) (fun _ i => 8 - (intOf i).toNat)
  case atStart => exact ⟨0, by omega, rfl, rfl⟩
  case round =>
    obtain ⟨k, hk, rfl, rfl⟩ := hrel
    by_cases hk8 : k < 8
    · have k8 : (k : Int) < 8 := by omega
      have hz := bitsN_lt k hx32
      have hs := bitsN_succ k x
      obtain ⟨z, hz0⟩ : ∃ z, bitsN k x = z := ⟨_, rfl⟩
      rw [hz0] at hz hs ⊢
      have HS : Hid (bitsN (k + 1) x = bit1 z) := hs
      clear hz0 hs e0
      have ea : bits .and .u32 (z : Int) 1 = ((z % 2 : Nat) : Int) := by
        have := u32_and_nat z 1 hz (by decide)
        rw [nat_mask1] at this
        exact this
      obtain ⟨y, hy⟩ : ∃ y, z / 2 = y := ⟨_, rfl⟩
      have hy2 : (z : Int) / 2 = (y : Int) := by omega
      have hy32 : y < 4294967296 := by omega
      have exo := xorPoly y hy32
      rcases Nat.mod_two_eq_zero_or_one z with h2 | h2
      · rw [h2] at ea
        have HE : Hid (bit1 z = y) := by unfold Hid; rw [bit1_even h2, hy]
        clear h2 hy
        go_wp2_with fail
        go_round
        case rel => exact ⟨k + 1, by omega, by go_num, by rw [HS.out, HE.out]⟩
        case measure => simp [intOf]; omega
      · rw [h2] at ea
        have HE : Hid (bit1 z = y ^^^ 3988292384) := by unfold Hid; rw [bit1_odd h2, hy]
        clear h2 hy
        go_wp2_with fail
        go_round
        case rel => exact ⟨k + 1, by omega, by go_num, by rw [HS.out, HE.out]⟩
        case measure => simp [intOf]; omega
    · have k8 : decide ((k : Int) < 8) = false := by simp; omega
      obtain rfl : k = 8 := by omega
      go_wp2_with fail
      go_ret
      exact ⟨ret_int (by rw [HX.out]), rfl⟩
theorem turnU (n : Nat) (h : n < 4294967296) : bits .xor .u32 IntKind.u32.max (n : Int) = ((4294967295 - n : Nat) : Int) := by
  have e : IntKind.u32.max = ((4294967295 : Nat) : Int) := by decide
  rw [e, u32_xor_nat 4294967295 n (by decide) h, turned n h]
set_option maxHeartbeats 400000 in
theorem ext_any (n : Nat) (s : ByteArray) (w : World) (hn : n < 4294967296) (hs : s.size ≤ 281474976710656) : Calls Try.prog 81 #[.int .u32 (n : Int), .string s] w fun e w' => e = .returned (.int .u32 ((ext n s.data.toList : Nat) : Int)) ∧ w' = w := by
  have ht := turnU n hn
  obtain ⟨m, hm⟩ : ∃ m, 4294967295 - n = m := ⟨_, rfl⟩
  have hm32 : m < 4294967296 := by omega
  have HM : Hid (4294967295 - n = m) := hm
  rw [hm] at ht
  clear hm
  go_enter Try.func81, Try.ntmps81
  go_wp2_with fail
  clear ht
  go_loop [5, 11] (fun y i => ∃ k : Nat, k ≤ s.size ∧ i = .int .i64 (k : Int) ∧ y = .int .u32 ((reg m (s.data.toList.take k) : Nat) : Int)) (fun _ i => s.size - (intOf i).toNat)
  case atStart => exact ⟨0, by omega, rfl, rfl⟩
  case round =>
    obtain ⟨k, hk, rfl, rfl⟩ := hrel
    by_cases hlt : k < s.size
    · have i2 : (k : Int) < (s.size : Int) := by omega
      have hz := reg_lt (s.data.toList.take k) hm32
      have HS : Hid (reg m (s.data.toList.take (k + 1)) = byte1 (reg m (s.data.toList.take k)) s[k]) := reg_snoc m s k hlt
      go_wp2_with fail
      refine (take_any _ s[k] _ hz).mono ?_
      rintro e w' ⟨rfl, rfl⟩
      go_wp2_with fail
      go_round
      case rel => exact ⟨k + 1, by omega, by go_num, by rw [HS.out]⟩
      case measure => simp [intOf]; omega
    · have i2 : decide ((k : Int) < (s.size : Int)) = false := by simp; omega
      obtain rfl : k = s.size := by omega
      have hz := reg_lt (s.data.toList.take s.size) hm32
      have ht := turnU _ hz
      go_wp2_with fail
      go_ret
      exact ⟨ret_int (by rw [List.take_of_length_le (by simp)]; unfold ext; rw [HM.out]), rfl⟩
theorem sum_any (s : ByteArray) (w : World) (hs : s.size ≤ 281474976710656) : Calls Try.prog 66 #[.string s] w fun e w' => e = .returned (.int .u32 ((ext 0 s.data.toList : Nat) : Int)) ∧ w' = w := by
  go_enter Try.func66, Try.ntmps66
  go_wp2_with fail
  refine (ext_any 0 s _ (by decide) hs).mono ?_
  rintro e w' ⟨rfl, rfl⟩
  go_wp2_with fail
  go_ret
  exact ⟨rfl, rfl⟩
theorem turnR (n : Nat) (h : n < 4294967296) : IntKind.u32.wrap (4294967295 - (n : Int)) = ((4294967295 - n : Nat) : Int) := by
  rw [IntKind.wrap_u32']; omega
set_option maxHeartbeats 800000 in
theorem rExt_any (n : Nat) (s : ByteArray) (w : World) (hn : n < 4294967296) (hs : s.size ≤ 281474976710656) : Calls Try.prog 82 #[.int .u32 (n : Int), .string s] w fun e w' => e = .returned (.int .u32 ((ext n s.data.toList : Nat) : Int)) ∧ w' = w := by
  have ht := turnR n hn
  obtain ⟨m, hm⟩ : ∃ m, 4294967295 - n = m := ⟨_, rfl⟩
  have hm32 : m < 4294967296 := by omega
  have HM : Hid (4294967295 - n = m) := hm
  rw [hm] at ht
  clear hm
  go_enter Try.func82, Try.ntmps82
  go_wp2_with fail
  clear ht
  go_loop [5, 6] (fun y i => ∃ k : Nat, k ≤ s.size ∧ i = .int .i64 (k : Int) ∧ y = .int .u32 ((reg m (s.data.toList.take k) : Nat) : Int)) (fun _ i => s.size - (intOf i).toNat)
  case atStart => exact ⟨0, by omega, rfl, rfl⟩
  case round =>
    obtain ⟨k, hk, rfl, rfl⟩ := hrel
    by_cases hlt : k < s.size
    · have i2 : (k : Int) < (s.size : Int) := by omega
      have hz := reg_lt (s.data.toList.take k) hm32
      have hsn := reg_snoc m s k hlt
      obtain ⟨r, hr⟩ : ∃ r, reg m (s.data.toList.take k) = r := ⟨_, rfl⟩
      rw [hr] at hz hsn ⊢
      have hb := (s[k]).toNat_lt
      obtain ⟨x, hx⟩ : ∃ x, r ^^^ (s[k]).toNat = x := ⟨_, rfl⟩
      have e0 : bits .xor .u32 (r : Int) ((s[k]).toNat : Int) = (x : Int) := by rw [u32_xor_nat r (s[k]).toNat hz (by omega), hx]
      have hx32 : x < 4294967296 := by rw [← hx]; exact xor_byte_lt hz s[k]
      have HS : Hid (reg m (s.data.toList.take (k + 1)) = bitsN 8 x) := by unfold Hid; rw [hsn]; unfold byte1; rw [bits8_N, hx]
      clear hx hsn hr
      go_wp2_with fail
      clear e0
      go_loop [5, 7] (fun y i => ∃ t : Nat, t ≤ 8 ∧ i = .int .i64 (t : Int) ∧ y = .int .u32 ((bitsN t x : Nat) : Int)) (fun _ i => 8 - (intOf i).toNat)
      case atStart => exact ⟨0, by omega, rfl, rfl⟩
      case round =>
        obtain ⟨t, ht, rfl, rfl⟩ := hrel
        by_cases ht8 : t < 8
        · have t8 : (t : Int) < 8 := by omega
          have hz := bitsN_lt t hx32
          have hs := bitsN_succ t x
          obtain ⟨z, hz0⟩ : ∃ z, bitsN t x = z := ⟨_, rfl⟩
          rw [hz0] at hz hs ⊢
          have HT : Hid (bitsN (t + 1) x = bit1 z) := hs
          clear hz0 hs
          obtain ⟨y, hy⟩ : ∃ y, z / 2 = y := ⟨_, rfl⟩
          have hy2 : (z : Int) / 2 = (y : Int) := by omega
          have hy32 : y < 4294967296 := by omega
          have hwy : IntKind.u32.wrap (y : Int) = (y : Int) := by rw [IntKind.wrap_u32']; omega
          have exo := xorPoly y hy32
          rcases Nat.mod_two_eq_zero_or_one z with h2 | h2
          · have ea : (z : Int) % 2 = 0 := by omega
            have HE : Hid (bit1 z = y) := by unfold Hid; rw [bit1_even h2, hy]
            clear h2 hy
            go_wp2_with fail
            go_round
            case rel => exact ⟨t + 1, by omega, by go_num, by rw [HT.out, HE.out]⟩
            case measure => simp [intOf]; omega
          · have ea : (z : Int) % 2 = 1 := by omega
            have HE : Hid (bit1 z = y ^^^ 3988292384) := by unfold Hid; rw [bit1_odd h2, hy]
            clear h2 hy
            go_wp2_with fail
            go_round
            case rel => exact ⟨t + 1, by omega, by go_num, by rw [HT.out, HE.out]⟩
            case measure => simp [intOf]; omega
        · have t8 : decide ((t : Int) < 8) = false := by simp; omega
          obtain rfl : t = 8 := by omega
          go_wp2_with fail
          go_round
          case rel => exact ⟨k + 1, by omega, by go_num, by rw [HS.out]⟩
          case measure => simp [intOf]; omega
    · have i2 : decide ((k : Int) < (s.size : Int)) = false := by simp; omega
      obtain rfl : k = s.size := by omega
      have hz := reg_lt (s.data.toList.take s.size) hm32
      have ht := turnR _ hz
      go_wp2_with fail
      go_ret
      exact ⟨ret_int (by rw [List.take_of_length_le (by simp)]; unfold ext; rw [HM.out]), rfl⟩
theorem rSum_any (s : ByteArray) (w : World) (hs : s.size ≤ 281474976710656) : Calls Try.prog 69 #[.string s] w fun e w' => e = .returned (.int .u32 ((ext 0 s.data.toList : Nat) : Int)) ∧ w' = w := by
  go_enter Try.func69, Try.ntmps69
  go_wp2_with fail
  refine (rExt_any 0 s _ (by decide) hs).mono ?_
  rintro e w' ⟨rfl, rfl⟩
  go_wp2_with fail
  go_ret
  exact ⟨rfl, rfl⟩
end Go.Proofs.Ytohgflimdoebiaa.Sm
/- Contracts of Bytes, Unbytes, Hex: sum's and the document's. -/
namespace Go.Proofs.Ytohgflimdoebiaa.Sm
open Go.RowKit Go.Maps
set_option linter.unusedVariables false

theorem ret_str {a b : ByteArray} (h : a = b) : Ending.returned (.string a) = .returned (.string b) := by rw [h]
def tx (l : List Nat) : ByteArray := ⟨(l.map UInt8.ofNat).toArray⟩
theorem tx_size (l : List Nat) : (tx l).size = l.length := by simp [tx, ByteArray.size]
theorem conv_at (w : World) (g cap n : Nat) (l : List Nat) (hn : l.length = n) (hc : ∀ j (h : j < l.length), w.cell? ⟨g, j, none⟩ = some (.int .u8 ((l[j] : Nat) : Int))) (hlt : ∀ x ∈ l, x < 256) : (convert 120 9 (.slice (some ⟨g, 0, none⟩) n cap)).run Try.prog w = .ok (.string (tx l)) w := by
  subst hn
  have hc := run_convert_bytes_back (P := Try.prog) w 120 9 5 ⟨g, 0, none⟩ cap (l.map UInt8.ofNat) Try.underlying120 Try.underlying5 Try.underlying9 (fun j hj => by
      simp at hj
      have e : ((⟨g, 0, none⟩ : Addr).add j) = ⟨g, j, none⟩ := by unfold Addr.add; split <;> simp_all
      rw [e, hc j hj]
      have hlt := hlt l[j] (List.getElem_mem hj)
      simp [UInt8.toNat_ofNat']; omega)
  rw [List.length_map] at hc
  exact hc
def b4 (n : Nat) : List Nat := [n / 16777216, n / 65536 % 256, n / 256 % 256, n % 256]
theorem b4_lt (n : Nat) (h : n < 4294967296) : ∀ x ∈ b4 n, x < 256 := by intro x hx; simp [b4] at hx; omega
theorem conv_b4 (n : Nat) (h : n < 4294967296) (w : World) (T : TypeId) : (convert 120 9 (.slice (some ⟨w.heap.size, 0, none⟩) 4 4)).run Try.prog (w.alloc (.cells #[.int .u8 ((n : Int) / 16777216), .int .u8 ((n : Int) / 65536 % 256), .int .u8 ((n : Int) / 256 % 256), .int .u8 ((n : Int) % 256)] T)) = .ok (.string (tx (b4 n))) (w.alloc (.cells #[.int .u8 ((n : Int) / 16777216), .int .u8 ((n : Int) / 65536 % 256), .int .u8 ((n : Int) / 256 % 256), .int .u8 ((n : Int) % 256)] T)) := by
  refine conv_at _ w.heap.size 4 4 (b4 n) rfl ?_ (b4_lt n h)
  intro j hj
  have hj4 : j < 4 := hj
  have : j = 0 ∨ j = 1 ∨ j = 2 ∨ j = 3 := by omega
  rcases this with rfl | rfl | rfl | rfl <;> simp [go_sem, b4]
set_option maxRecDepth 100000 in
set_option maxHeartbeats 400000 in
theorem bytes_any (n : Nat) (w : World) (hn : n < 4294967296) : Calls Try.prog 65 #[.int .u32 (n : Int)] w fun e w' => e = .returned (.string (tx (b4 n))) ∧ Below w.heap.size w w' := by
  go_enter Try.func65, Try.ntmps65
  go_wp2_with fail
  refine wp_loop_rounds 5 ?_
  rw [rounds_succ]; go_wp2_with fail
  rw [rounds_succ]; go_wp2_with fail
  rw [rounds_succ]; go_wp2_with fail
  rw [rounds_succ]; go_wp2_with fail
  rw [rounds_succ]; go_wp2_with fail
  rw [conv_b4 n hn w _]
  go_wp2_with fail
  go_ret
  exact ⟨rfl, (Below.refl _ _).alloc (Nat.le_refl _) _⟩
set_option maxRecDepth 100000 in
set_option maxHeartbeats 400000 in
theorem rBytes_any (n : Nat) (w : World) (hn : n < 4294967296) : Calls Try.prog 68 #[.int .u32 (n : Int)] w fun e w' => e = .returned (.string (tx (b4 n))) ∧ Below w.heap.size w w' := by
  go_enter Try.func68, Try.ntmps68
  go_wp2_with fail
  rw [conv_b4 n hn w _]
  go_wp2_with fail
  go_ret
  exact ⟨rfl, (Below.refl _ _).alloc (Nat.le_refl _) _⟩
def dg (d : Nat) : Nat := if d < 10 then 48 + d else 87 + d
theorem dg_lt (d : Nat) (h : d < 16) : dg d < 256 := by unfold dg; split <;> omega
theorem dg_inj {a b : Nat} (ha : a < 16) (hb : b < 16) (h : dg a = dg b) : a = b := by unfold dg at h; split at h <;> split at h <;> omega
theorem dgs : ∀ (d : Nat) (h : d < 16), (({ data := #[48, 49, 50, 51, 52, 53, 54, 55, 56, 57, 97, 98, 99, 100, 101, 102] } : ByteArray)[d]'h).toNat = dg d := by
  have : ∀ d : Fin 16, (({ data := #[48, 49, 50, 51, 52, 53, 54, 55, 56, 57, 97, 98, 99, 100, 101, 102] } : ByteArray)[d.1]'d.2).toNat = dg d.1 := by decide
  exact fun d h => this ⟨d, h⟩
def hx (n : Nat) : List Nat := [dg (n / 268435456), dg (n / 16777216 % 16), dg (n / 1048576 % 16), dg (n / 65536 % 16), dg (n / 4096 % 16), dg (n / 256 % 16), dg (n / 16 % 16), dg (n % 16)]
theorem hx_lt (n : Nat) (h : n < 4294967296) : ∀ x ∈ hx n, x < 256 := by
  intro x hx'
  simp only [hx, List.mem_cons, List.not_mem_nil, or_false] at hx'
  rcases hx' with rfl | rfl | rfl | rfl | rfl | rfl | rfl | rfl <;> exact dg_lt _ (by omega)
theorem and15 (z d : Nat) (hz : z < 4294967296) (hd : z % 16 = d) : bits .and .u32 (z : Int) 15 = (d : Int) := by
  have := u32_and_nat z 15 hz (by decide)
  rw [nat_mask4, hd] at this
  exact this
theorem conv_hx (c7 c6 c5 c4 c3 c2 c1 c0 : Nat) (w : World) (T : TypeId) (h : ∀ x ∈ [c7, c6, c5, c4, c3, c2, c1, c0], x < 256) : (convert 120 9 (.slice (some ⟨w.heap.size, 0, none⟩) 8 8)).run Try.prog (w.alloc (.cells #[.int .u8 ((c7 : Nat) : Int), .int .u8 ((c6 : Nat) : Int), .int .u8 ((c5 : Nat) : Int), .int .u8 ((c4 : Nat) : Int), .int .u8 ((c3 : Nat) : Int), .int .u8 ((c2 : Nat) : Int), .int .u8 ((c1 : Nat) : Int), .int .u8 ((c0 : Nat) : Int)] T)) = .ok (.string (tx [c7, c6, c5, c4, c3, c2, c1, c0])) (w.alloc (.cells #[.int .u8 ((c7 : Nat) : Int), .int .u8 ((c6 : Nat) : Int), .int .u8 ((c5 : Nat) : Int), .int .u8 ((c4 : Nat) : Int), .int .u8 ((c3 : Nat) : Int), .int .u8 ((c2 : Nat) : Int), .int .u8 ((c1 : Nat) : Int), .int .u8 ((c0 : Nat) : Int)] T)) := by
  refine conv_at _ w.heap.size 8 8 [c7, c6, c5, c4, c3, c2, c1, c0] rfl ?_ h
  intro j hj
  have hj4 : j < 8 := hj
  have : j = 0 ∨ j = 1 ∨ j = 2 ∨ j = 3 ∨ j = 4 ∨ j = 5 ∨ j = 6 ∨ j = 7 := by omega
  rcases this with rfl | rfl | rfl | rfl | rfl | rfl | rfl | rfl <;> simp [go_sem]
theorem tx_cons (a : Nat) (l : List Nat) : tx [a] ++ tx l = tx (a :: l) := by
  unfold tx
  apply ByteArray.ext
  simp [ByteArray.data_append]
theorem dg_cut (d : Nat) (h : d < 16) : ({ data := #[48, 49, 50, 51, 52, 53, 54, 55, 56, 57, 97, 98, 99, 100, 101, 102] } : ByteArray).extract d (d + 1) = tx [dg d] := by
  have : ∀ d : Fin 16, (({ data := #[48, 49, 50, 51, 52, 53, 54, 55, 56, 57, 97, 98, 99, 100, 101, 102] } : ByteArray).extract d.1 (d.1 + 1)).data = (tx [dg d.1]).data := by decide
  exact ByteArray.ext (this ⟨d, h⟩)
def hk (n : Nat) : Nat → List Nat
  | 0 => []
  | k + 1 => dg (n / 16 ^ k % 16) :: hk n k
theorem hk_eight (n : Nat) (h : n < 4294967296) : hk n 8 = hx n := by
  have e : n / 16 ^ 7 % 16 = n / 268435456 := by omega
  simp only [hk, hx, e]
  simp
theorem hk_length (n k : Nat) : (hk n k).length = k := by induction k with
  | zero => rfl
  | succ k ih => simp [hk, ih]
end Go.Proofs.Ytohgflimdoebiaa.Sm
/- Contracts of Unbytes (sum's and the document's), and of the fixed answers. -/
namespace Go.Proofs.Ytohgflimdoebiaa.Sm
open Go.RowKit Go.Maps
set_option linter.unusedVariables false

theorem str_ne {X Y : ByteArray} (h : X ≠ Y) : (X.toList == Y.toList) = false := by
  rw [beq_eq_false_iff_ne, ByteArray.toList_eq, ByteArray.toList_eq]
  intro e
  exact h (ByteArray.ext (Array.ext' e))
def ub (l : List UInt8) : Nat := l.foldl (fun a b => 256 * a + b.toNat) 0
theorem ub_snoc (l : List UInt8) (b : UInt8) : ub (l ++ [b]) = 256 * ub l + b.toNat := by simp [ub]
theorem ub_at (s : ByteArray) (k : Nat) (h : k < s.size) : ub (s.data.toList.take (k + 1)) = 256 * ub (s.data.toList.take k) + s[k].toNat := by
  rw [take_snoc s k h, ub_snoc]
theorem ub_lt (s : ByteArray) (k : Nat) (h : k ≤ s.size) : ub (s.data.toList.take k) < 256 ^ k := by
  induction k with
  | zero => simp [ub]
  | succ k ih =>
    have := ih (by omega)
    have hb := (s[k]'(by omega)).toNat_lt
    rw [ub_at s k (by omega), Nat.pow_succ]
    omega
def un (s : ByteArray) : Nat := if s.size = 4 then ub s.data.toList else 0
def ue (s : ByteArray) : Int := if s.size = 4 then 0 else 6
theorem or_byte (z b : Nat) (hz : z < 16777216) (hb : b < 256) : bits .or .u32 ((z : Int) * 256) (b : Int) = ((256 * z + b : Nat) : Int) := by
  have e : (z : Int) * 256 = ((256 * z : Nat) : Int) := by omega
  rw [e, u32_or_nat _ _ (by omega) (by omega), nat_join 8 _ _ (by omega) (by omega)]
theorem lt24 {x k : Nat} (hk : k < 4) (h : x < 256 ^ k) : x < 16777216 := Nat.lt_of_lt_of_le h (by have : 256 ^ k ≤ 256 ^ 3 := Nat.pow_le_pow_right (by decide) (by omega); simpa using this)
theorem live1 : ext 0 [49, 50, 51, 52, 53, 54, 55, 56, 57] = 3421780262 := by decide +kernel
theorem live2 : tx (hx 1) = ⟨#[48, 48, 48, 48, 48, 48, 48, 49]⟩ := by apply ByteArray.ext; decide +kernel
theorem live3 : tx (b4 16909060) = ⟨#[1, 2, 3, 4]⟩ := by apply ByteArray.ext; decide +kernel
end Go.Proofs.Ytohgflimdoebiaa.Sm
/- Rows of bytes in memory, and their conversion to a text. -/
namespace Go.Proofs.Ytohgflimdoebiaa.Sm
open Go.RowKit Go.Maps
set_option linter.unusedVariables false

def u8b (l : List UInt8) : List Value := l.map fun b : UInt8 => Value.int .u8 (b.toNat : Int)
@[simp] theorem u8b_length (l : List UInt8) : (u8b l).length = l.length := by simp [u8b]
theorem u8b_append (a b : List UInt8) : u8b (a ++ b) = u8b a ++ u8b b := by simp [u8b]
theorem info8 : (Try.prog.info? 5).map (fun i => (i.zero, i.size, i.bytes)) = some (some (.int .u8 0), 1, 1) := by kernel_rfl
theorem conv_u8 {w : World} {B : Nat} {v : Value} {l : List UInt8} {n : Nat} (hn : l.length = n) (h : w.ownsRow B 5 1 v n (u8b l)) : (convert 120 9 v).run Try.prog w = .ok (.string ⟨l.toArray⟩) w := by
  subst hn
  rcases h.2 with ⟨h0, hn⟩ | ⟨r, cap, cur, hv, _⟩
  · subst h0
    have hp : l = [] := List.length_eq_zero_iff.1 hn
    subst hp
    rw [run_convert_bytes_string w 120 9 5 none 0 0 Try.underlying120 Try.underlying5 Try.underlying9 ]
    rfl
  · subst hv
    exact run_convert_bytes_back (P := Try.prog) w 120 9 5 ⟨r, 0, none⟩ cap l Try.underlying120 Try.underlying5 Try.underlying9 (fun j hj => by
      have e : ((⟨r, 0, none⟩ : Addr).add j) = ⟨r, j, none⟩ := by unfold Addr.add; split <;> simp_all
      rw [e, h.cellAt j (by omega)]
      simp [u8b, hj])
end Go.Proofs.Ytohgflimdoebiaa.Sm
/- A row of bytes made of a text, and stores into it. -/
namespace Go.Proofs.Ytohgflimdoebiaa.Sm
open Go.RowKit Go.Maps
set_option linter.unusedVariables false

/- The block g holds these bytes from its beginning on, and none of them is frozen. -/
structure Bs (w : World) (g : Nat) (l : List UInt8) : Prop where
  cell : ∀ j b, l[j]? = some b → w.cell? ⟨g, j, none⟩ = some (.int .u8 (b.toNat : Int))
  free : ∀ j, j < l.length → w.frozen? ⟨g, j, none⟩ = false
theorem bs_conv (w : World) (s : ByteArray) (e : TypeId) (cap : Nat) : Bs (w.drew.alloc (.cells (bytesRow s cap) e ((bytesRow s cap).size, (bytesRow s cap).size + 1))) w.heap.size s.data.toList := by
  obtain ⟨C, hC⟩ : ∃ C, bytesRow s cap = C := ⟨_, rfl⟩
  have hds : s.data.size = s.size := rfl
  have hs : s.size ≤ C.size := by
    rw [← hC]
    unfold bytesRow
    simp
  have hget : ∀ (j : Nat) (b : UInt8), s.data.toList[j]? = some b → C[j]? = some (Value.int .u8 (b.toNat : Int)) := by
    intro j b hj
    have hj2 : j < s.data.size := by have := (List.getElem?_eq_some_iff.1 hj).1; simpa using this
    rw [← hC]
    unfold bytesRow
    rw [Array.getElem?_append_left (by simpa using hj2)]
    simp at hj
    simp [hj]
  rw [hC]
  have hb : (w.drew.alloc (.cells C e (C.size, C.size + 1))).heap[w.heap.size]? = some (.cells C e (C.size, C.size + 1)) := by
    show (w.heap.push _)[w.heap.size]? = _
    simp
  refine ⟨fun j b hj => ?_, fun j hj => ?_⟩
  · rw [← hget j b hj]
    unfold World.cell?
    simp only [hb]
    rfl
  · have hl : s.data.toList.length = s.size := by rw [Array.length_toList]; rfl
    have hj2 : j < C.size := by omega
    unfold World.frozen?
    simp only [hb]
    simp; omega
theorem Bs.below {w w' : World} {g : Nat} {l : List UInt8} (h : Bs w g l) (hb : Below w.heap.size w w') (hg : g < w.heap.size) : Bs w' g l :=
  ⟨fun j b hj => (hb.cell (p := ⟨g, j, none⟩) hg).trans (h.cell j b hj), fun j hj => (hb.frozen (p := ⟨g, j, none⟩) hg).trans (h.free j hj)⟩
theorem Bs.store {w : World} {g : Nat} {l : List UInt8} (h : Bs w g l) (i : Nat) (b : UInt8) (hi : i < l.length) : Bs (w.setCell ⟨g, i, none⟩ (.int .u8 (b.toNat : Int))) g (l.set i b) := by
  refine ⟨fun j c hj => ?_, fun j hj => ?_⟩
  · by_cases e : i = j
    · subst e
      rw [List.getElem?_set_self (by omega)] at hj
      simp at hj
      subst hj
      exact World.cell?_setCell_same w _ _ (h.cell i l[i] (List.getElem?_eq_getElem hi))
    · rw [List.getElem?_set_ne e] at hj
      rw [World.cell?_setCell_other _ _ _ _ (by intro e2; cases e2; exact e rfl)]
      exact h.cell j c hj
  · rw [World.frozen?_setCell]
    exact h.free j (by simpa using hj)
theorem Bs.conv {w : World} {g cap n : Nat} {l : List UInt8} (h : Bs w g l) (hn : l.length = n) : (convert 120 9 (.slice (some ⟨g, 0, none⟩) n cap)).run Try.prog w = .ok (.string ⟨l.toArray⟩) w := by
  subst hn
  exact run_convert_bytes_back (P := Try.prog) w 120 9 5 ⟨g, 0, none⟩ cap l Try.underlying120 Try.underlying5 Try.underlying9 (fun j hj => by
      have e : ((⟨g, 0, none⟩ : Addr).add j) = ⟨g, j, none⟩ := by unfold Addr.add; split <;> simp_all
      rw [e, h.cell j l[j] (List.getElem?_eq_getElem hj)])
end Go.Proofs.Ytohgflimdoebiaa.Sm
