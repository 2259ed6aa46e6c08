/- BitMath, BitA, BitK, BitTake, BitDone, BitSpec, joined. -/
import Derived.WalkKit
import Derived.ProofKit
import Derived.Laws.Bits64
import Derived.Below
import Derived.WalkSpells
import Derived.Deep.RegionHeld3
import Derived.Test.YtpimbpfefhkojaaGreatChecked
import Derived.LoopTactic
import Derived.Maps.AppendAt
import Derived.Laws.OwnMore
import Derived.Deep.AppendLies
import Derived.Laws.BitsAllLaws
import Derived.Deep.RegionWith
import Derived.Deep.DrawnRows
import Derived.BigQuiet
import Derived.Laws.IdiomStrings
/- Rows of bits as lists, the greatest bit first; their bytes; the bits of bytes. -/
namespace Go.Proofs.YtpimbpfefhkojaaGreat.Bt
open Go.RowKit

def bv : List Bool → Nat
  | [] => 0
  | b :: l => b.toNat * 2 ^ l.length + bv l
def bo (v : Nat) : Nat → List Bool
  | 0 => []
  | n + 1 => decide (v / 2 ^ n % 2 = 1) :: bo v n
@[simp] theorem bo_length (v n : Nat) : (bo v n).length = n := by induction n with
  | zero => rfl
  | succ n ih => simp [bo, ih]
theorem bv_lt : ∀ l : List Bool, bv l < 2 ^ l.length
  | [] => by simp [bv]
  | b :: l => by
    have := bv_lt l
    have hb : b.toNat ≤ 1 := by cases b <;> simp
    have h2 : b.toNat * 2 ^ l.length ≤ 1 * 2 ^ l.length := Nat.mul_le_mul_right _ hb
    simp only [bv, List.length_cons, Nat.pow_succ]
    omega
theorem bv_append (a b : List Bool) : bv (a ++ b) = bv a * 2 ^ b.length + bv b := by
  induction a with
  | nil => simp [bv]
  | cons x a ih => simp only [List.cons_append, bv, ih, List.length_append, Nat.pow_add, Nat.add_mul, Nat.mul_assoc]; omega
theorem bv_inj : ∀ (a b : List Bool), a.length = b.length → bv a = bv b → a = b
  | [], [], _, _ => rfl
  | [], b :: l, h, _ => by simp at h
  | b :: l, [], h, _ => by simp at h
  | x :: a, y :: b, h, e => by
    simp at h
    have ha := bv_lt a
    have hb := bv_lt b
    simp only [bv, h] at e
    rw [h] at ha
    have hxy : x = y := by
      cases x <;> cases y <;> simp at e <;> first | rfl | omega
    subst hxy
    rw [bv_inj a b h (by omega)]
theorem bv_bo (v n : Nat) : bv (bo v n) = v % 2 ^ n := by
  induction n with
  | zero => simp [bo, bv, Nat.mod_one]
  | succ n ih =>
    simp only [bo, bv, bo_length, ih]
    have h : (decide (v / 2 ^ n % 2 = 1)).toNat = v / 2 ^ n % 2 := by
      have : v / 2 ^ n % 2 < 2 := Nat.mod_lt _ (by decide)
      by_cases h : v / 2 ^ n % 2 = 1
      · simp [h]
      · have : v / 2 ^ n % 2 = 0 := by omega
        simp [this]
    rw [h, Nat.pow_succ, Nat.mod_mul, Nat.mul_comm]
    omega
theorem bo_bv (l : List Bool) : bo (bv l) l.length = l :=
  bv_inj _ _ (by simp) (by rw [bv_bo, Nat.mod_eq_of_lt (bv_lt l)])
theorem bo_eq {v n : Nat} {l : List Bool} (hl : l.length = n) (h : bv l = v % 2 ^ n) : bo v n = l := bv_inj _ _ (by simp [hl]) (by rw [bv_bo, h])
theorem bo_mod (v n : Nat) : bo (v % 2 ^ n) n = bo v n := bv_inj _ _ (by simp) (by rw [bv_bo, bv_bo, Nat.mod_mod])
theorem bo_split (v a b : Nat) : bo v (a + b) = bo (v / 2 ^ b) a ++ bo v b := by
  refine bv_inj _ _ (by simp) ?_
  rw [bv_append, bv_bo, bv_bo, bv_bo, bo_length, Nat.add_comm a b, Nat.pow_add, Nat.mod_mul, Nat.mul_comm]
  omega
theorem bo_one (v n : Nat) : bo v (n + 1) = bo (v / 2) n ++ [decide (v % 2 = 1)] := by
  rw [bo_split v n 1]; simp [bo]
/- The middle of a row of bits. -/
theorem bv_mid (a m z : List Bool) : bv m = bv (a ++ m ++ z) / 2 ^ z.length % 2 ^ m.length := by
  rw [bv_append, bv_append]
  have hz := bv_lt z
  have hm := bv_lt m
  rw [Nat.mul_comm, Nat.mul_add_div (Nat.two_pow_pos _), Nat.div_eq_of_lt hz, Nat.add_zero, Nat.mul_comm, Nat.mul_add_mod, Nat.mod_eq_of_lt hm]
theorem bv_mid' (l : List Bool) (c n : Nat) (h : c + n ≤ l.length) : bv ((l.drop c).take n) = bv l / 2 ^ (l.length - c - n) % 2 ^ n := by
  have e : l = l.take c ++ (l.drop c).take n ++ l.drop (c + n) := by
    rw [List.append_assoc, ← List.drop_drop, List.take_append_drop, List.take_append_drop]
  have := bv_mid (l.take c) ((l.drop c).take n) (l.drop (c + n))
  rw [← e] at this
  have h1 : ((l.drop c).take n).length = n := by simp; omega
  have h2 : (l.drop (c + n)).length = l.length - c - n := by simp; omega
  rw [h1, h2] at this
  exact this
theorem bv_zero_iff (l : List Bool) : bv l = 0 ↔ l = List.replicate l.length false := by
  have h0 : ∀ n, bv (List.replicate n false) = 0 := fun n => by
    induction n with
    | zero => rfl
    | succ n ih => simp [List.replicate_succ, bv, ih]
  constructor
  · intro h; exact bv_inj _ _ (by simp) (by rw [h, h0])
  · intro h; rw [h]; exact h0 _

/- One byte of a row of bits, noughts behind it. -/
def by8 (t : List Bool) : Nat := bv (t.take 8) * 2 ^ (8 - min 8 t.length)
def pkn (l : List Bool) (n : Nat) : List Nat := (List.range n).map fun i => by8 (l.drop (8 * i))
def pk (l : List Bool) : List Nat := pkn l ((l.length + 7) / 8)
@[simp] theorem pkn_length (l : List Bool) (n : Nat) : (pkn l n).length = n := by simp [pkn]
theorem pk_length (l : List Bool) : (pk l).length = (l.length + 7) / 8 := by simp [pk]
theorem pkn_get (l : List Bool) (n i : Nat) (hi : i < n) : (pkn l n)[i]? = some (by8 (l.drop (8 * i))) := by simp [pkn, hi]
theorem pkn_succ (l : List Bool) (n : Nat) : pkn l (n + 1) = pkn l n ++ [by8 (l.drop (8 * n))] := by simp [pkn, List.range_succ]
theorem by8_lt (t : List Bool) : by8 t < 256 := by
  unfold by8
  have h := bv_lt (t.take 8)
  rw [List.length_take] at h
  have e : 256 = 2 ^ (min 8 t.length) * 2 ^ (8 - min 8 t.length) := by rw [← Nat.pow_add, show min 8 t.length + (8 - min 8 t.length) = 8 by omega]
  rw [e]
  exact Nat.mul_lt_mul_of_pos_right h (Nat.two_pow_pos _)
theorem by8_nil : by8 [] = 0 := by simp [by8, bv]
theorem by8_short (t : List Bool) (h : t.length ≤ 8) : by8 t = bv t * 2 ^ (8 - t.length) := by
  unfold by8
  rw [List.take_of_length_le h, Nat.min_eq_right h]
theorem by8_long (t b : List Bool) (h : 8 ≤ t.length) : by8 (t ++ b) = by8 t := by
  unfold by8
  rw [List.take_append_of_le_length h, Nat.min_eq_left h, Nat.min_eq_left (by simp; omega)]
theorem pk_full {l : List Bool} (h : l.length % 8 = 0) : pkn l (l.length / 8 + 1) = pk l ++ [0] := by
  rw [pkn_succ, pk, show (l.length + 7) / 8 = l.length / 8 by omega, show 8 * (l.length / 8) = l.length by omega]
  simp [by8_nil]
theorem pk_part {l : List Bool} (h : l.length % 8 ≠ 0) : pkn l (l.length / 8 + 1) = pk l := by
  rw [pk, show (l.length + 7) / 8 = l.length / 8 + 1 by omega]
/- Some bits more, within the last byte. -/
theorem pk_more (l b : List Bool) (h1 : 1 ≤ b.length) (h2 : b.length ≤ 8 - l.length % 8) (x : Nat)
    (hx : x = by8 (l.drop (8 * (l.length / 8))) + bv b * 2 ^ (8 - l.length % 8 - b.length)) : pk (l ++ b) = (pkn l (l.length / 8 + 1)).set (l.length / 8) x := by
  have hn : ((l ++ b).length + 7) / 8 = l.length / 8 + 1 := by simp; omega
  rw [pk, hn]
  apply List.ext_getElem?
  intro i
  rcases Nat.lt_trichotomy i (l.length / 8) with h | h | h
  · rw [pkn_get _ _ _ (by omega), List.getElem?_set_ne (by omega), pkn_get _ _ _ (by omega), List.drop_append_of_le_length (by omega), by8_long _ _ (by simp; omega)]
  · subst h
    rw [pkn_get _ _ _ (by omega), List.getElem?_set_self (by simp), List.drop_append_of_le_length (by omega)]
    have ht : (l.drop (8 * (l.length / 8))).length = l.length % 8 := by simp; omega
    rw [by8_short _ (by simp; omega), hx, by8_short _ (by omega), bv_append, List.length_append, ht, Nat.add_mul, Nat.mul_assoc, ← Nat.pow_add]
    congr 3
    · rw [show b.length + (8 - (l.length % 8 + b.length)) = 8 - l.length % 8 by omega]
    · rw [Nat.sub_sub]
  · rw [List.getElem?_eq_none (by simp; omega), List.getElem?_eq_none (by simp; omega)]
/- The bits of bytes. -/
def tb (s : List Nat) : List Bool := s.flatMap fun b => bo b 8
@[simp] theorem tb_length (s : List Nat) : (tb s).length = 8 * s.length := by
  induction s with
  | nil => rfl
  | cons x s ih =>
    show (bo x 8 ++ tb s).length = _
    rw [List.length_append, ih]; simp; omega
theorem tb_append (a b : List Nat) : tb (a ++ b) = tb a ++ tb b := by simp [tb]
theorem tb_drop (s : List Nat) (i : Nat) : (tb s).drop (8 * i) = tb (s.drop i) := by
  rcases Nat.lt_or_ge i s.length with h | h
  · have e : s = s.take i ++ s.drop i := by simp
    have hl : (tb (s.take i)).length = 8 * i := by rw [tb_length]; simp; omega
    calc (tb s).drop (8 * i) = (tb (s.take i) ++ tb (s.drop i)).drop (8 * i) := by rw [← tb_append, ← e]
      _ = _ := by rw [← hl]; exact List.drop_left' rfl
  · rw [List.drop_eq_nil_of_le (by simp; omega), List.drop_eq_nil_of_le h]; rfl
theorem tb_byte (s : List Nat) (i : Nat) (h : i < s.length) : ((tb s).drop (8 * i)).take 8 = bo s[i] 8 := by
  rw [tb_drop, List.drop_eq_getElem_cons h]
  simp only [tb, List.flatMap_cons]
  exact List.take_left' (by simp)
theorem pk_tb (s : List Nat) (h : ∀ x ∈ s, x < 256) : pk (tb s) = s := by
  apply List.ext_getElem?
  intro i
  rcases Nat.lt_or_ge i s.length with hi | hi
  · rw [pk, pkn_get _ _ _ (by simp; omega), List.getElem?_eq_getElem hi]
    unfold by8
    rw [tb_byte s i hi, bv_bo, tb_drop, tb_length, Nat.min_eq_left (by simp; omega)]
    have := h s[i] (List.getElem_mem hi)
    simp; omega
  · rw [List.getElem?_eq_none hi, List.getElem?_eq_none (by rw [pk_length]; simp; omega)]
/- The middle of one byte. -/
theorem tb_part (s : List Nat) (c n : Nat) (hn : n ≤ 8 - c % 8) (hc : c / 8 < s.length) : bv (((tb s).drop c).take n) = s[c / 8] / 2 ^ (8 - c % 8 - n) % 2 ^ n := by
  have e : ((tb s).drop c).take n = ((bo s[c / 8] 8).drop (c % 8)).take n := by
    rw [← tb_byte s (c / 8) hc, List.drop_take, List.drop_drop, List.take_take, Nat.min_eq_left hn, show 8 * (c / 8) + c % 8 = c by omega]
  rw [e, bv_mid' _ _ _ (by simp; omega), bv_bo, bo_length]
  have h8 : (2:Nat) ^ 8 = 2 ^ (8 - c % 8 - n) * 2 ^ (c % 8 + n) := by rw [← Nat.pow_add, show 8 - c % 8 - n + (c % 8 + n) = 8 by omega]
  rw [h8, Nat.mod_mul, Nat.add_mul_div_left _ _ (Nat.two_pow_pos _), Nat.div_eq_of_lt (Nat.mod_lt _ (Nat.two_pow_pos _)), Nat.zero_add, Nat.mod_mod_of_dvd _ (Nat.pow_dvd_pow 2 (by omega))]
theorem tb_pk (l : List Bool) : tb (pk l) = l ++ List.replicate (8 * ((l.length + 7) / 8) - l.length) false := by
  have h8 : ∀ t : List Bool, bo (by8 t) 8 = t.take 8 ++ List.replicate (8 - min 8 t.length) false := fun t => by
    refine bo_eq (by simp; omega) ?_
    rw [Nat.mod_eq_of_lt (by8_lt t), bv_append, (bv_zero_iff (List.replicate _ false)).2 (by simp)]
    simp [by8]
  have hn : ∀ n, n ≤ (l.length + 7) / 8 → tb (pkn l n) = l.take (8 * n) ++ List.replicate (8 * n - l.length) false := fun n => by
    induction n with
    | zero => intro _; simp [pkn, tb]
    | succ n ih =>
      intro hn
      rw [pkn_succ, tb_append, ih (by omega)]
      have e1 : 8 * n - l.length = 0 := by omega
      simp only [tb, List.flatMap_cons, List.flatMap_nil, List.append_nil, h8, e1, List.replicate_zero]
      rw [← List.append_assoc, show 8 * (n + 1) = 8 * n + 8 by omega, List.take_add]
      congr 2
      simp; omega
  rw [pk, hn _ (Nat.le_refl _), List.take_of_length_le (by omega)]
theorem pk_lt (l : List Bool) : ∀ x ∈ pk l, x < 256 := by
  intro x hx
  simp [pk, pkn] at hx
  obtain ⟨i, _, rfl⟩ := hx
  exact by8_lt _
theorem pk_pad (l : List Bool) (k : Nat) (h : (l.length + k + 7) / 8 = (l.length + 7) / 8) : pk (l ++ List.replicate k false) = pk l := by
  unfold pk
  rw [List.length_append, List.length_replicate, h]
  apply List.ext_getElem?
  intro i
  rcases Nat.lt_or_ge i ((l.length + 7) / 8) with hi | hi
  · rw [pkn_get _ _ _ hi, pkn_get _ _ _ hi, List.drop_append_of_le_length (by omega)]
    rcases Nat.lt_or_ge (l.drop (8 * i)).length 8 with h1 | h1
    · have hk : (l.drop (8 * i)).length + k ≤ 8 := by simp at h1 ⊢; omega
      rw [by8_short _ (by simpa using hk), by8_short _ (by omega), bv_append, (bv_zero_iff (List.replicate k false)).2 (by simp)]
      rw [Nat.add_zero, List.length_append, List.length_replicate, Nat.mul_assoc, ← Nat.pow_add]
      rw [show k + (8 - ((l.drop (8 * i)).length + k)) = 8 - (l.drop (8 * i)).length by omega]
    · rw [by8_long _ _ h1]
  · rw [List.getElem?_eq_none (by simpa using hi), List.getElem?_eq_none (by simpa using hi)]
end Go.Proofs.YtpimbpfefhkojaaGreat.Bt
/- Contracts of the small functions of package bits. -/
namespace Go.Proofs.YtpimbpfefhkojaaGreat.Bt
open Go.RowKit
set_option linter.unusedVariables false

theorem ret_int {k : IntKind} {a b : Int} (h : a = b) : Ending.returned (.int k a) = .returned (.int k b) := by rw [h]
theorem ret_bool {a b : Bool} (h : a = b) : Ending.returned (.bool a) = .returned (.bool b) := by rw [h]
def Gw (n : Int) : Prop := 1 ≤ n ∧ n ≤ 64
def gw (n : Int) : Bool := decide (1 ≤ n) && decide (n ≤ 64)
theorem gw_yes {n : Int} (h : Gw n) : gw n = true := by simp [gw, h.1, h.2]
theorem gw_no {n : Int} (h : ¬ Gw n) : gw n = false := by
  rw [Bool.eq_false_iff]
  intro hh
  simp [gw] at hh
  exact h hh
theorem div_zero_iff (v k : Nat) : ((v : Int) / 2 ^ k == 0) = decide (v < 2 ^ k) := by
  have e : (v : Int) / 2 ^ k = ((v / 2 ^ k : Nat) : Int) := by simp
  rw [e]
  have h := Nat.two_pow_pos k
  by_cases hv : v < 2 ^ k
  · simp [hv, Nat.div_eq_of_lt hv]
  · have : 0 < v / 2 ^ k := Nat.div_pos (by omega) h
    simp [hv]; omega
end Go.Proofs.YtpimbpfefhkojaaGreat.Bt
/- What a world has kept but for some blocks; a writer in memory. -/
namespace Go.Proofs.YtpimbpfefhkojaaGreat.Bt
open Go.RowKit Go.Maps

structure Kept (F : Nat → Prop) (w w' : World) : Prop where
  os : w'.os = w.os
  tape : w'.tape = w.tape
  output : w'.output = w.output
  size : w.heap.size ≤ w'.heap.size
  block : ∀ k, k < w.heap.size → ¬ F k → w'.heap[k]? = w.heap[k]?
theorem Kept.refl (F : Nat → Prop) (w : World) : Kept F w w := ⟨rfl, rfl, rfl, Nat.le_refl _, fun _ _ _ => rfl⟩
theorem Kept.trans {F F' : Nat → Prop} {a b c : World} (h : Kept F a b) (k : Kept F' b c) (hF : ∀ i, i < a.heap.size → F' i → F i) : Kept F a c :=
  ⟨k.os.trans h.os, k.tape.trans h.tape, k.output.trans h.output, Nat.le_trans h.size k.size, fun i hi hn => (k.block i (Nat.lt_of_lt_of_le hi h.size) (fun h' => hn (hF i hi h'))).trans (h.block i hi hn)⟩
theorem Kept.mono {F F' : Nat → Prop} {a b : World} (h : Kept F a b) (hF : ∀ i, i < a.heap.size → F i → F' i) : Kept F' a b := ⟨h.os, h.tape, h.output, h.size, fun i hi hn => h.block i hi (fun h' => hn (hF i hi h'))⟩
theorem Kept.drew {F : Nat → Prop} {a w : World} (h : Kept F a w) : Kept F a w.drew := ⟨h.os, h.tape, h.output, h.size, h.block⟩
theorem Kept.alloc {F : Nat → Prop} {a w : World} (h : Kept F a w) (o : Obj) : Kept F a (w.alloc o) :=
  h.trans (F' := F) ⟨rfl, rfl, rfl, by simp, fun k hk _ => Below.heap_alloc _ _ _ hk⟩ (fun _ _ h => h)
theorem Kept.setCell {F : Nat → Prop} {a w : World} (h : Kept F a w) {p : Addr} (hp : p.block < a.heap.size → F p.block) (u : Value) : Kept F a (w.setCell p u) :=
  h.trans (F' := fun k => k = p.block) ⟨rfl, rfl, rfl, by simp [World.setCell], fun k hk hn => Below.heap_setCell _ _ _ _ hn⟩ (fun i hi e => by subst e; exact hp hi)
theorem Kept.grown {F : Nat → Prop} {a w w' : World} {row : Option Nat} (h : Kept F a w) (hg : w.grownBy w' row) (hr : ∀ k, row = some k → k < a.heap.size → F k) : Kept F a w' :=
  h.trans (F' := fun k => row = some k) ⟨hg.os, hg.tape, hg.output, hg.size, fun k hk hn => hg.block k hk (fun e => hn e.symm)⟩ (fun i hi e => hr i e hi)
theorem Kept.ofBelow {F : Nat → Prop} {w w' : World} (h : Below w.heap.size w w') : Kept F w w' := ⟨h.os, h.tape, h.output, h.size, fun k hk _ => h.block k hk⟩
theorem Kept.below {F : Nat → Prop} {w w' : World} {B : Nat} (h : Kept F w w') (hB : B ≤ w.heap.size) (hF : ∀ k, F k → B ≤ k) : Below B w w' :=
  ⟨h.os, h.tape, h.output, h.size, fun k hk => h.block k (by omega) (fun e => by have := hF k e; omega)⟩
theorem Kept.cell {F : Nat → Prop} {w w' : World} (h : Kept F w w') {a : Addr} {v : Value} (hc : w.cell? a = some v) (hn : ¬ F a.block) : w'.cell? a = some v :=
  (World.cell?_of_block (h.block a.block (World.block_lt_of_cell? w a hc) hn)).trans hc
theorem Kept.row {F : Nat → Prop} {w w' : World} {base e size n : Nat} {v : Value} {xs : List Value} (h : Kept F w w') (hr : w.ownsRow base e size v n xs) (hn : ∀ k, v.ownBlock = some k → ¬ F k) : w'.ownsRow base e size v n xs := by
  refine ⟨hr.1, ?_⟩
  rcases hr.2 with h0 | ⟨g, cap, cur, rfl, hb, hgg, rest⟩
  · exact .inl h0
  · refine .inr ⟨g, cap, cur, rfl, hb, ?_, rest⟩
    rw [h.block g (Array.getElem?_eq_some_iff.1 hgg).1 (hn g rfl)]
    exact hgg
def u8s (l : List Nat) : List Value := l.map fun n : Nat => Value.int .u8 (n : Int)
@[simp] theorem u8s_length (l : List Nat) : (u8s l).length = l.length := by simp [u8s]
theorem u8s_append (a b : List Nat) : u8s (a ++ b) = u8s a ++ u8s b := by simp [u8s]
theorem u8s_set (l : List Nat) (i x : Nat) : (u8s l).set i (.int .u8 (x : Int)) = u8s (l.set i x) := by simp [u8s, List.map_set]
theorem info8 : (Tryz.prog.info? 5).map (fun i => (i.zero, i.size, i.bytes)) = some (some (.int .u8 0), 1, 1) := by kernel_rfl
/- A writer in memory: the bits l; v: its bytes' slice. -/
def Fw (g : Nat) (v : Value) (k : Nat) : Prop := k = g ∨ v.ownBlock = some k
theorem blk_set {w : World} {g i : Nat} {cs : Array Value} {t : TypeId} (h : w.heap[g]? = some (.cells cs t)) (v : Value) : (w.setCell ⟨g, i, none⟩ v).heap[g]? = some (.cells (cs.setIfInBounds i v) t) := heap_setCell_same w g i cs t v h
/- A writer whose last byte is there, its bits not yet. -/
/- The bits are put. -/
theorem wrap64_nat (d : Nat) (h : d < 4611686018427387904) : IntKind.i64.wrap (d : Int) = (d : Int) := by simp [IntKind.wrap, IntKind.bits, IntKind.signed]; omega
theorem shl_nat (t d z : Nat) (hd : d ≤ 8) (hz : t * 2 ^ d = z) (h : z < 18446744073709551616) : Op.shift .shl .u64 (t : Int) .i64 (d : Int) = pure (.int .u64 (z : Int)) := by
  rw [shift_shl_any .u64 .i64 (t : Int) (d : Int) (by omega)]
  have e : min ((d : Int).toNat) IntKind.u64.bits = d := by simp [IntKind.bits]; omega
  have e2 : (t : Int) * 2 ^ d = (z : Int) := by rw [← hz]; simp
  rw [e, e2, IntKind.wrap_u64, show (z : Int) % 18446744073709551616 = (z : Int) by omega]
theorem shl_wrap (t d z : Nat) (hz : t * 2 ^ d = z) (h : z < 18446744073709551616) : IntKind.u64.wrap ((t : Int) * 2 ^ d) = (z : Int) := by
  have e2 : (t : Int) * 2 ^ d = (z : Int) := by rw [← hz]; simp
  rw [e2, IntKind.wrap_u64]; omega
/- A round of Put. -/
theorem cell_one_at (w : World) (x : Value) (t : TypeId) (n : Nat) (hn : n = w.heap.size) : ∀ j u, [x][j]? = some u → (w.alloc (.cells #[x] t)).cell? ((⟨n, 0, none⟩ : Addr).add j) = some u := by
  subst hn
  intro j u hj
  match j, hj with
  | 0, hj => simp at hj; subst hj; simp [Addr.add, go_sem]
theorem or8 (p x y : Nat) (hx : x % 2 ^ p = 0) (hy : y < 2 ^ p) (h1 : x < 256) (h2 : y < 256) : bits .or .u8 (x : Int) (y : Int) = ((x + y : Nat) : Int) := by
  rw [u8_or_nat x y h1 h2, nat_join p x y hx hy]
theorem and64 (v n : Nat) (hv : v < 18446744073709551616) (hn : n ≤ 8) : bits .and .u64 (v : Int) ((2 ^ n - 1 : Nat) : Int) = ((v % 2 ^ n : Nat) : Int) := by
  have : 2 ^ n ≤ 2 ^ 8 := Nat.pow_le_pow_right (by decide) hn
  rw [u64_and_nat v (2 ^ n - 1) hv (by omega), Nat.and_two_pow_sub_one_eq_mod]
end Go.Proofs.YtpimbpfefhkojaaGreat.Bt
/- Contract: Take, Left, Done of a reader. -/
namespace Go.Proofs.YtpimbpfefhkojaaGreat.Bt
open Go.RowKit Go.Maps
set_option linter.unusedVariables false
attribute [local go_sem ↓] Go.wp_at_zero Go.wp_at_succ

theorem wrap_fit (x : Int) (h1 : -9223372036854775808 ≤ x) (h2 : x ≤ 9223372036854775807) : IntKind.i64.wrap x = x := by simp [IntKind.wrap, IntKind.bits, IntKind.signed]; omega
/- The bytes of a text, as numbers. -/
def bys (s : ByteArray) : List Nat := s.data.toList.map fun b => b.toNat
theorem bys_length (s : ByteArray) : (bys s).length = s.size := by simp [bys]
/- A reader in memory: at place c of the text s. -/
theorem or64 (q V2 t : Nat) (h0 : V2 % 2 ^ q = 0) (ht : t < 2 ^ q) (h1 : V2 < 18446744073709551616) (h2 : t < 18446744073709551616) : bits .or .u64 (V2 : Int) (t : Int) = ((V2 + t : Nat) : Int) := by
  rw [u64_or_nat V2 t h1 h2, nat_join q V2 t h0 ht]
theorem bys_get (s : ByteArray) (p : Nat) (h : p < s.size) : (bys s)[p]'(by rw [bys_length]; exact h) = (s[p]'h).toNat := by
  simp [bys]; rfl
/- A round of Take. -/
theorem take_round (s : ByteArray) (c n k q a p d : Nat) (ha : c + (n - k) = a) (hp : a / 8 = p) (hq : q ≤ 8 - a % 8) (hd : 8 - a % 8 - q = d) (hqk : q ≤ k) (hk : k ≤ n) (hn : c + n ≤ 8 * s.size) (hps : p < s.size) :
    bv (((tb (bys s)).drop c).take (n - (k - q))) = bv (((tb (bys s)).drop c).take (n - k)) * 2 ^ q + (s[p]'hps).toNat / 2 ^ d % 2 ^ q := by
  have e : ((tb (bys s)).drop c).take (n - (k - q)) = ((tb (bys s)).drop c).take (n - k) ++ ((tb (bys s)).drop a).take q := by
    rw [show n - (k - q) = (n - k) + q by omega, List.take_add, List.drop_drop, ha]
  have hl : (((tb (bys s)).drop a).take q).length = q := by simp [bys_length]; omega
  rw [e, bv_append, hl]
  have := tb_part (bys s) a q hq (by rw [bys_length, hp]; exact hps)
  rw [this, hd]
  subst hp
  rw [bys_get s (a / 8) hps]
/- What a row of bits has left: is it done? -/
def dn (l : List Bool) (c : Nat) : Bool := decide (l.length - c < 8) && decide (bv (l.drop c) = 0)
end Go.Proofs.YtpimbpfefhkojaaGreat.Bt
/- Contracts: Bytes of a writer, Done of a reader. -/
namespace Go.Proofs.YtpimbpfefhkojaaGreat.Bt
open Go.RowKit Go.Maps
set_option linter.unusedVariables false
attribute [local go_sem ↓] Go.wp_at_zero Go.wp_at_succ

/- A text of these bytes. -/
def tx (l : List Nat) : ByteArray := ⟨(l.map UInt8.ofNat).toArray⟩
theorem tx_size (l : List Nat) : (tx l).size = l.length := by simp [tx, ByteArray.size]
theorem bys_tx (l : List Nat) (h : ∀ x ∈ l, x < 256) : bys (tx l) = l := by
  simp only [bys, tx, List.map_map]
  conv => rhs; rw [← List.map_id l]
  apply List.map_congr_left
  intro x hx
  have := h x hx
  simp [UInt8.toNat_ofNat']; omega
theorem tx_bys (s : ByteArray) : tx (bys s) = s := by
  cases s with
  | mk d => simp [bys, tx, List.map_map, Function.comp_def]
end Go.Proofs.YtpimbpfefhkojaaGreat.Bt
/- What Pack and Unpack answer, as plain functions. -/
namespace Go.Proofs.YtpimbpfefhkojaaGreat.Bt
open Go.RowKit Go.Maps
set_option linter.unusedVariables false

def okF (f : Nat × Int) : Bool := gw f.2 && decide (f.1 < 2 ^ f.2.toNat)
def bitsF (fs : List (Nat × Int)) : List Bool := fs.flatMap fun f => bo f.1 f.2.toNat
theorem bitsF_append (a b : List (Nat × Int)) : bitsF (a ++ b) = bitsF a ++ bitsF b := by simp [bitsF]
theorem okF_width {f : Nat × Int} (h : okF f = true) : 1 ≤ f.2 ∧ f.2 ≤ 64 ∧ f.1 < 2 ^ f.2.toNat := by simp [okF, gw] at h; omega
theorem bitsF_le (fs : List (Nat × Int)) (h : ∀ f ∈ fs, okF f = true) : (bitsF fs).length ≤ 64 * fs.length := by
  induction fs with
  | nil => simp [bitsF]
  | cons f fs ih =>
    have h1 := ih (fun g hg => h g (by simp [hg]))
    have h2 := okF_width (h f (by simp))
    have e : bitsF (f :: fs) = bo f.1 f.2.toNat ++ bitsF fs := rfl
    rw [e, List.length_append, bo_length, List.length_cons]
    omega
def pkS (fs : List (Nat × Int)) : ByteArray := if fs.all okF then tx (pk (bitsF fs)) else tx []
def pkE (fs : List (Nat × Int)) : Int := if fs.all okF then 0 else 6
theorem take_snoc {α : Type} (l : List α) (k : Nat) (d : α) (hk : k < l.length) : l.take (k + 1) = l.take k ++ [l.getD k d] := by
  rw [List.take_add_one]; simp [List.getElem?_eq_getElem hk]
theorem all_take {α : Type} (p : α → Bool) (l : List α) (k : Nat) (d : α) (hk : k < l.length) (h : p (l.getD k d) = false) : l.all p = false := by
  rw [Bool.eq_false_iff]
  intro ha
  rw [List.all_eq_true] at ha
  have := ha (l.getD k d) (by simp [hk])
  rw [h] at this
  cases this
/- Taking bits by widths. -/
def tks (T : List Bool) (st : Option (Nat × List Nat)) (w : Int) : Option (Nat × List Nat) :=
  match st with
  | none => none
  | some (c, vs) => if 1 ≤ w ∧ w ≤ 64 ∧ w ≤ ((T.length - c : Nat) : Int) then some (c + w.toNat, vs ++ [bv ((T.drop c).take w.toNat)]) else none
def tk (T : List Bool) (ws : List Int) : Option (Nat × List Nat) := ws.foldl (tks T) (some (0, []))
theorem tks_none (T : List Bool) (ws : List Int) : ws.foldl (tks T) none = none := by
  induction ws with
  | nil => rfl
  | cons w ws ih => simpa [tks] using ih
theorem tk_snoc (T : List Bool) (ws : List Int) (w : Int) : tk T (ws ++ [w]) = tks T (tk T ws) w := by simp [tk]
theorem tk_take (T : List Bool) (ws : List Int) (k : Nat) (hk : k < ws.length) : tk T (ws.take (k + 1)) = tks T (tk T (ws.take k)) (ws.getD k 0) := by
  rw [take_snoc ws k 0 hk, tk_snoc]
theorem tk_none (T : List Bool) (ws : List Int) (k : Nat) (h : tk T (ws.take k) = none) : tk T ws = none := by
  have e : ws = ws.take k ++ ws.drop k := by simp
  unfold tk at *
  rw [e, List.foldl_append, h, tks_none]
theorem tk_le (T : List Bool) : ∀ (ws : List Int) (c0 : Nat) (v0 : List Nat) (c : Nat) (vs : List Nat), c0 ≤ T.length → ws.foldl (tks T) (some (c0, v0)) = some (c, vs) → c ≤ T.length ∧ vs.length = v0.length + ws.length
  | [], c0, v0, c, vs, h0, h => by simp at h; obtain ⟨rfl, rfl⟩ := h; simp; omega
  | w :: ws, c0, v0, c, vs, h0, h => by
    simp only [List.foldl_cons, tks] at h
    split at h
    · rename_i hw
      have := tk_le T ws _ _ c vs (by omega) h
      simp at this ⊢; omega
    · rw [tks_none] at h; cases h
def un (T : List Bool) (ws : List Int) : Option (List Nat) :=
  match tk T ws with
  | none => none
  | some (c, vs) => if dn T c then some vs else none
def unL (T : List Bool) (ws : List Int) : List Nat := (un T ws).getD []
def unE (T : List Bool) (ws : List Int) : Int := if (un T ws).isSome then 0 else 6
theorem un_bad {T : List Bool} {ws : List Int} (h : tk T ws = none) : unL T ws = [] ∧ unE T ws = 6 := by simp [unL, unE, un, h]
theorem un_open {T : List Bool} {ws : List Int} {c : Nat} {vs : List Nat} (h : tk T ws = some (c, vs)) (hd : dn T c = false) : unL T ws = [] ∧ unE T ws = 6 := by simp [unL, unE, un, h, hd]
theorem un_good {T : List Bool} {ws : List Int} {c : Nat} {vs : List Nat} (h : tk T ws = some (c, vs)) (hd : dn T c = true) : unL T ws = vs ∧ unE T ws = 0 := by simp [unL, unE, un, h, hd]
/- Fields in memory. -/
def RdF (w : World) (a : Option Addr) (fs : List (Nat × Int)) : Prop :=
  ∀ i, i < fs.length → ∃ b o, a = some ⟨b, o, none⟩ ∧ w.cell? ⟨b, o + i * 2, none⟩ = some (.int .u64 ((fs.getD i (0, 0)).1 : Int)) ∧ w.cell? ⟨b, o + i * 2 + 1, none⟩ = some (.int .i64 (fs.getD i (0, 0)).2) ∧ (fs.getD i (0, 0)).1 < 18446744073709551616
theorem RdF.later {w w' : World} {a : Option Addr} {fs : List (Nat × Int)} (h : RdF w a fs) (hb : Below w.heap.size w w') : RdF w' a fs := fun i hi => by
  obtain ⟨b, o, e, c0, c1, c2⟩ := h i hi
  exact ⟨b, o, e, cell_later hb c0, cell_later hb c1, c2⟩
theorem RdF.nil (w : World) (a : Option Addr) : RdF w a [] := fun i hi => by cases hi
theorem RdF.spot {w : World} {a : Option Addr} {fs : List (Nat × Int)} (h : RdF w a fs) (h0 : fs ≠ []) : ∃ b o, a = some ⟨b, o, none⟩ ∧ ∀ i, i < fs.length → w.cell? ⟨b, o + i * 2, none⟩ = some (.int .u64 ((fs.getD i (0, 0)).1 : Int)) ∧ w.cell? ⟨b, o + i * 2 + 1, none⟩ = some (.int .i64 (fs.getD i (0, 0)).2) ∧ (fs.getD i (0, 0)).1 < 18446744073709551616 := by
  have hp : 0 < fs.length := List.length_pos_iff.2 h0
  obtain ⟨b, o, e, _⟩ := h 0 hp
  refine ⟨b, o, e, fun i hi => ?_⟩
  obtain ⟨b', o', e', c0, c1⟩ := h i hi
  rw [e] at e'
  simp at e'
  obtain ⟨rfl, rfl⟩ := e'
  exact ⟨c0, c1⟩
/- Integers in memory. -/
def RdI (w : World) (a : Option Addr) (ws : List Int) : Prop :=
  ∀ i, i < ws.length → ∃ b o, a = some ⟨b, o, none⟩ ∧ w.cell? ⟨b, o + i, none⟩ = some (.int .i64 (ws.getD i 0))
theorem RdI.later {w w' : World} {a : Option Addr} {ws : List Int} (h : RdI w a ws) (hb : Below w.heap.size w w') : RdI w' a ws := fun i hi => by
  obtain ⟨b, o, e, c0⟩ := h i hi
  exact ⟨b, o, e, cell_later hb c0⟩
theorem RdI.nil (w : World) (a : Option Addr) : RdI w a [] := fun i hi => by cases hi
theorem RdI.spot {w : World} {a : Option Addr} {ws : List Int} (h : RdI w a ws) (h0 : ws ≠ []) : ∃ b o, a = some ⟨b, o, none⟩ ∧ ∀ i, i < ws.length → w.cell? ⟨b, o + i, none⟩ = some (.int .i64 (ws.getD i 0)) := by
  have hp : 0 < ws.length := List.length_pos_iff.2 h0
  obtain ⟨b, o, e, _⟩ := h 0 hp
  refine ⟨b, o, e, fun i hi => ?_⟩
  obtain ⟨b', o', e', c0⟩ := h i hi
  rw [e] at e'
  simp at e'
  obtain ⟨rfl, rfl⟩ := e'
  exact c0
def u64s (l : List Nat) : List Value := l.map fun n : Nat => Value.int .u64 (n : Int)
@[simp] theorem u64s_length (l : List Nat) : (u64s l).length = l.length := by simp [u64s]
theorem u64s_snoc (l : List Nat) (x : Nat) : u64s (l ++ [x]) = u64s l ++ [.int .u64 (x : Int)] := by simp [u64s]
theorem info64 : (Tryz.prog.info? 125).map (fun i => (i.zero, i.size, i.bytes)) = some (some (.int .u64 0), 1, 8) := by kernel_rfl
theorem below1 (w : World) (o : Obj) : Below w.heap.size w (w.alloc o) := (Below.refl _ _).alloc (Nat.le_refl _) _
theorem Below.more {w0 w : World} (h : Below w0.heap.size w0 w) (o : Obj) : Below w0.heap.size w0 (w.alloc o) := h.alloc h.size _
theorem Below.then {w0 w w' : World} (h : Below w0.heap.size w0 w) (hb : Below w.heap.size w w') : Below w0.heap.size w0 w' := h.trans (hb.mono h.size)
end Go.Proofs.YtpimbpfefhkojaaGreat.Bt
