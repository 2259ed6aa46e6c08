/- Rows of bits as lists, the greatest bit first; their bytes; the bits of bytes. -/
import Derived.WalkKit
import Derived.ProofKit
import Derived.Laws.Bits64
import Derived.Below
import Derived.WalkSpells
import Derived.Deep.RegionHeld3
namespace Go.Proofs.Ytdkfifnhmfbagaa.Bt
open Go.RowKit

def bv : List Bool → Nat
  | [] => 0
  | b :: l => b.toNat * 2 ^ l.length + bv l
def bo (v : Nat) : Nat → List Bool
  | 0 => []
  | n + 1 => decide (v / 2 ^ n % 2 = 1) :: bo v n
@[simp] theorem bo_length (v n : Nat) : (bo v n).length = n := by induction n with
  | zero => rfl
  | succ n ih => simp [bo, ih]
theorem bv_lt : ∀ l : List Bool, bv l < 2 ^ l.length
  | [] => by simp [bv]
  | b :: l => by
    have := bv_lt l
    have hb : b.toNat ≤ 1 := by cases b <;> simp
    have h2 : b.toNat * 2 ^ l.length ≤ 1 * 2 ^ l.length := Nat.mul_le_mul_right _ hb
    simp only [bv, List.length_cons, Nat.pow_succ]
    omega
theorem bv_append (a b : List Bool) : bv (a ++ b) = bv a * 2 ^ b.length + bv b := by
  induction a with
  | nil => simp [bv]
  | cons x a ih => simp only [List.cons_append, bv, ih, List.length_append, Nat.pow_add, Nat.add_mul, Nat.mul_assoc]; omega
theorem bv_inj : ∀ (a b : List Bool), a.length = b.length → bv a = bv b → a = b
  | [], [], _, _ => rfl
  | [], b :: l, h, _ => by simp at h
  | b :: l, [], h, _ => by simp at h
  | x :: a, y :: b, h, e => by
    simp at h
    have ha := bv_lt a
    have hb := bv_lt b
    simp only [bv, h] at e
    rw [h] at ha
    have hxy : x = y := by
      cases x <;> cases y <;> simp at e <;> first | rfl | omega
    subst hxy
    rw [bv_inj a b h (by omega)]
theorem bv_bo (v n : Nat) : bv (bo v n) = v % 2 ^ n := by
  induction n with
  | zero => simp [bo, bv, Nat.mod_one]
  | succ n ih =>
    simp only [bo, bv, bo_length, ih]
    have h : (decide (v / 2 ^ n % 2 = 1)).toNat = v / 2 ^ n % 2 := by
      have : v / 2 ^ n % 2 < 2 := Nat.mod_lt _ (by decide)
      by_cases h : v / 2 ^ n % 2 = 1
      · simp [h]
      · have : v / 2 ^ n % 2 = 0 := by omega
        simp [this]
    rw [h, Nat.pow_succ, Nat.mod_mul, Nat.mul_comm]
    omega
theorem bo_bv (l : List Bool) : bo (bv l) l.length = l :=
  bv_inj _ _ (by simp) (by rw [bv_bo, Nat.mod_eq_of_lt (bv_lt l)])
theorem bo_eq {v n : Nat} {l : List Bool} (hl : l.length = n) (h : bv l = v % 2 ^ n) : bo v n = l := bv_inj _ _ (by simp [hl]) (by rw [bv_bo, h])
theorem bo_mod (v n : Nat) : bo (v % 2 ^ n) n = bo v n := bv_inj _ _ (by simp) (by rw [bv_bo, bv_bo, Nat.mod_mod])
theorem bo_split (v a b : Nat) : bo v (a + b) = bo (v / 2 ^ b) a ++ bo v b := by
  refine bv_inj _ _ (by simp) ?_
  rw [bv_append, bv_bo, bv_bo, bv_bo, bo_length, Nat.add_comm a b, Nat.pow_add, Nat.mod_mul, Nat.mul_comm]
  omega
theorem bo_one (v n : Nat) : bo v (n + 1) = bo (v / 2) n ++ [decide (v % 2 = 1)] := by
  rw [bo_split v n 1]; simp [bo]
/- The middle of a row of bits. -/
theorem bv_mid (a m z : List Bool) : bv m = bv (a ++ m ++ z) / 2 ^ z.length % 2 ^ m.length := by
  rw [bv_append, bv_append]
  have hz := bv_lt z
  have hm := bv_lt m
  rw [Nat.mul_comm, Nat.mul_add_div (Nat.two_pow_pos _), Nat.div_eq_of_lt hz, Nat.add_zero, Nat.mul_comm, Nat.mul_add_mod, Nat.mod_eq_of_lt hm]
theorem bv_mid' (l : List Bool) (c n : Nat) (h : c + n ≤ l.length) : bv ((l.drop c).take n) = bv l / 2 ^ (l.length - c - n) % 2 ^ n := by
  have e : l = l.take c ++ (l.drop c).take n ++ l.drop (c + n) := by
    rw [List.append_assoc, ← List.drop_drop, List.take_append_drop, List.take_append_drop]
  have := bv_mid (l.take c) ((l.drop c).take n) (l.drop (c + n))
  rw [← e] at this
  have h1 : ((l.drop c).take n).length = n := by simp; omega
  have h2 : (l.drop (c + n)).length = l.length - c - n := by simp; omega
  rw [h1, h2] at this
  exact this
theorem bv_zero_iff (l : List Bool) : bv l = 0 ↔ l = List.replicate l.length false := by
  have h0 : ∀ n, bv (List.replicate n false) = 0 := fun n => by
    induction n with
    | zero => rfl
    | succ n ih => simp [List.replicate_succ, bv, ih]
  constructor
  · intro h; exact bv_inj _ _ (by simp) (by rw [h, h0])
  · intro h; rw [h]; exact h0 _

/- One byte of a row of bits, noughts behind it. -/
def by8 (t : List Bool) : Nat := bv (t.take 8) * 2 ^ (8 - min 8 t.length)
def pkn (l : List Bool) (n : Nat) : List Nat := (List.range n).map fun i => by8 (l.drop (8 * i))
def pk (l : List Bool) : List Nat := pkn l ((l.length + 7) / 8)
@[simp] theorem pkn_length (l : List Bool) (n : Nat) : (pkn l n).length = n := by simp [pkn]
theorem pk_length (l : List Bool) : (pk l).length = (l.length + 7) / 8 := by simp [pk]
theorem pkn_get (l : List Bool) (n i : Nat) (hi : i < n) : (pkn l n)[i]? = some (by8 (l.drop (8 * i))) := by simp [pkn, hi]
theorem pkn_succ (l : List Bool) (n : Nat) : pkn l (n + 1) = pkn l n ++ [by8 (l.drop (8 * n))] := by simp [pkn, List.range_succ]
theorem by8_lt (t : List Bool) : by8 t < 256 := by
  unfold by8
  have h := bv_lt (t.take 8)
  rw [List.length_take] at h
  have e : 256 = 2 ^ (min 8 t.length) * 2 ^ (8 - min 8 t.length) := by rw [← Nat.pow_add, show min 8 t.length + (8 - min 8 t.length) = 8 by omega]
  rw [e]
  exact Nat.mul_lt_mul_of_pos_right h (Nat.two_pow_pos _)
theorem by8_nil : by8 [] = 0 := by simp [by8, bv]
theorem by8_short (t : List Bool) (h : t.length ≤ 8) : by8 t = bv t * 2 ^ (8 - t.length) := by
  unfold by8
  rw [List.take_of_length_le h, Nat.min_eq_right h]
theorem by8_long (t b : List Bool) (h : 8 ≤ t.length) : by8 (t ++ b) = by8 t := by
  unfold by8
  rw [List.take_append_of_le_length h, Nat.min_eq_left h, Nat.min_eq_left (by simp; omega)]
theorem pk_full {l : List Bool} (h : l.length % 8 = 0) : pkn l (l.length / 8 + 1) = pk l ++ [0] := by
  rw [pkn_succ, pk, show (l.length + 7) / 8 = l.length / 8 by omega, show 8 * (l.length / 8) = l.length by omega]
  simp [by8_nil]
theorem pk_part {l : List Bool} (h : l.length % 8 ≠ 0) : pkn l (l.length / 8 + 1) = pk l := by
  rw [pk, show (l.length + 7) / 8 = l.length / 8 + 1 by omega]
/- Some bits more, within the last byte. -/
theorem pk_more (l b : List Bool) (h1 : 1 ≤ b.length) (h2 : b.length ≤ 8 - l.length % 8) (x : Nat)
    (hx : x = by8 (l.drop (8 * (l.length / 8))) + bv b * 2 ^ (8 - l.length % 8 - b.length)) : pk (l ++ b) = (pkn l (l.length / 8 + 1)).set (l.length / 8) x := by
  have hn : ((l ++ b).length + 7) / 8 = l.length / 8 + 1 := by simp; omega
  rw [pk, hn]
  apply List.ext_getElem?
  intro i
  rcases Nat.lt_trichotomy i (l.length / 8) with h | h | h
  · rw [pkn_get _ _ _ (by omega), List.getElem?_set_ne (by omega), pkn_get _ _ _ (by omega), List.drop_append_of_le_length (by omega), by8_long _ _ (by simp; omega)]
  · subst h
    rw [pkn_get _ _ _ (by omega), List.getElem?_set_self (by simp), List.drop_append_of_le_length (by omega)]
    have ht : (l.drop (8 * (l.length / 8))).length = l.length % 8 := by simp; omega
    rw [by8_short _ (by simp; omega), hx, by8_short _ (by omega), bv_append, List.length_append, ht, Nat.add_mul, Nat.mul_assoc, ← Nat.pow_add]
    congr 3
    · rw [show b.length + (8 - (l.length % 8 + b.length)) = 8 - l.length % 8 by omega]
    · rw [Nat.sub_sub]
  · rw [List.getElem?_eq_none (by simp; omega), List.getElem?_eq_none (by simp; omega)]
/- The bits of bytes. -/
def tb (s : List Nat) : List Bool := s.flatMap fun b => bo b 8
@[simp] theorem tb_length (s : List Nat) : (tb s).length = 8 * s.length := by
  induction s with
  | nil => rfl
  | cons x s ih =>
    show (bo x 8 ++ tb s).length = _
    rw [List.length_append, ih]; simp; omega
theorem tb_append (a b : List Nat) : tb (a ++ b) = tb a ++ tb b := by simp [tb]
theorem tb_drop (s : List Nat) (i : Nat) : (tb s).drop (8 * i) = tb (s.drop i) := by
  rcases Nat.lt_or_ge i s.length with h | h
  · have e : s = s.take i ++ s.drop i := by simp
    have hl : (tb (s.take i)).length = 8 * i := by rw [tb_length]; simp; omega
    calc (tb s).drop (8 * i) = (tb (s.take i) ++ tb (s.drop i)).drop (8 * i) := by rw [← tb_append, ← e]
      _ = _ := by rw [← hl]; exact List.drop_left' rfl
  · rw [List.drop_eq_nil_of_le (by simp; omega), List.drop_eq_nil_of_le h]; rfl
theorem tb_byte (s : List Nat) (i : Nat) (h : i < s.length) : ((tb s).drop (8 * i)).take 8 = bo s[i] 8 := by
  rw [tb_drop, List.drop_eq_getElem_cons h]
  simp only [tb, List.flatMap_cons]
  exact List.take_left' (by simp)
theorem pk_tb (s : List Nat) (h : ∀ x ∈ s, x < 256) : pk (tb s) = s := by
  apply List.ext_getElem?
  intro i
  rcases Nat.lt_or_ge i s.length with hi | hi
  · rw [pk, pkn_get _ _ _ (by simp; omega), List.getElem?_eq_getElem hi]
    unfold by8
    rw [tb_byte s i hi, bv_bo, tb_drop, tb_length, Nat.min_eq_left (by simp; omega)]
    have := h s[i] (List.getElem_mem hi)
    simp; omega
  · rw [List.getElem?_eq_none hi, List.getElem?_eq_none (by rw [pk_length]; simp; omega)]
/- The middle of one byte. -/
theorem tb_part (s : List Nat) (c n : Nat) (hn : n ≤ 8 - c % 8) (hc : c / 8 < s.length) : bv (((tb s).drop c).take n) = s[c / 8] / 2 ^ (8 - c % 8 - n) % 2 ^ n := by
  have e : ((tb s).drop c).take n = ((bo s[c / 8] 8).drop (c % 8)).take n := by
    rw [← tb_byte s (c / 8) hc, List.drop_take, List.drop_drop, List.take_take, Nat.min_eq_left hn, show 8 * (c / 8) + c % 8 = c by omega]
  rw [e, bv_mid' _ _ _ (by simp; omega), bv_bo, bo_length]
  have h8 : (2:Nat) ^ 8 = 2 ^ (8 - c % 8 - n) * 2 ^ (c % 8 + n) := by rw [← Nat.pow_add, show 8 - c % 8 - n + (c % 8 + n) = 8 by omega]
  rw [h8, Nat.mod_mul, Nat.add_mul_div_left _ _ (Nat.two_pow_pos _), Nat.div_eq_of_lt (Nat.mod_lt _ (Nat.two_pow_pos _)), Nat.zero_add, Nat.mod_mod_of_dvd _ (Nat.pow_dvd_pow 2 (by omega))]
theorem tb_pk (l : List Bool) : tb (pk l) = l ++ List.replicate (8 * ((l.length + 7) / 8) - l.length) false := by
  have h8 : ∀ t : List Bool, bo (by8 t) 8 = t.take 8 ++ List.replicate (8 - min 8 t.length) false := fun t => by
    refine bo_eq (by simp; omega) ?_
    rw [Nat.mod_eq_of_lt (by8_lt t), bv_append, (bv_zero_iff (List.replicate _ false)).2 (by simp)]
    simp [by8]
  have hn : ∀ n, n ≤ (l.length + 7) / 8 → tb (pkn l n) = l.take (8 * n) ++ List.replicate (8 * n - l.length) false := fun n => by
    induction n with
    | zero => intro _; simp [pkn, tb]
    | succ n ih =>
      intro hn
      rw [pkn_succ, tb_append, ih (by omega)]
      have e1 : 8 * n - l.length = 0 := by omega
      simp only [tb, List.flatMap_cons, List.flatMap_nil, List.append_nil, h8, e1, List.replicate_zero]
      rw [← List.append_assoc, show 8 * (n + 1) = 8 * n + 8 by omega, List.take_add]
      congr 2
      simp; omega
  rw [pk, hn _ (Nat.le_refl _), List.take_of_length_le (by omega)]
theorem pk_lt (l : List Bool) : ∀ x ∈ pk l, x < 256 := by
  intro x hx
  simp [pk, pkn] at hx
  obtain ⟨i, _, rfl⟩ := hx
  exact by8_lt _
theorem pk_pad (l : List Bool) (k : Nat) (h : (l.length + k + 7) / 8 = (l.length + 7) / 8) : pk (l ++ List.replicate k false) = pk l := by
  unfold pk
  rw [List.length_append, List.length_replicate, h]
  apply List.ext_getElem?
  intro i
  rcases Nat.lt_or_ge i ((l.length + 7) / 8) with hi | hi
  · rw [pkn_get _ _ _ hi, pkn_get _ _ _ hi, List.drop_append_of_le_length (by omega)]
    rcases Nat.lt_or_ge (l.drop (8 * i)).length 8 with h1 | h1
    · have hk : (l.drop (8 * i)).length + k ≤ 8 := by simp at h1 ⊢; omega
      rw [by8_short _ (by simpa using hk), by8_short _ (by omega), bv_append, (bv_zero_iff (List.replicate k false)).2 (by simp)]
      rw [Nat.add_zero, List.length_append, List.length_replicate, Nat.mul_assoc, ← Nat.pow_add]
      rw [show k + (8 - ((l.drop (8 * i)).length + k)) = 8 - (l.drop (8 * i)).length by omega]
    · rw [by8_long _ _ h1]
  · rw [List.getElem?_eq_none (by simpa using hi), List.getElem?_eq_none (by simpa using hi)]
end Go.Proofs.Ytdkfifnhmfbagaa.Bt
