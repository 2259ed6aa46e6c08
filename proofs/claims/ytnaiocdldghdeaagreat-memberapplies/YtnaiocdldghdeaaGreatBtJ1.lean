/- BitMath, BitA, BitK, BitTake, BitDone, BitSpec, joined. -/
import Derived.WalkKit
import Derived.ProofKit
import Derived.Laws.Bits64
import Derived.Below
import Derived.WalkSpells
import Derived.Deep.RegionHeld3
import Derived.Test.YtnaiocdldghdeaaGreatChecked
import Derived.LoopTactic
import Derived.Maps.AppendAt
import Derived.Laws.OwnMore
import Derived.Deep.AppendLies
import Derived.Laws.BitsAllLaws
import Derived.Deep.RegionWith
import Derived.Deep.DrawnRows
import Derived.BigQuiet
import Derived.Laws.IdiomStrings
/- Rows of bits as lists, the greatest bit first; their bytes; the bits of bytes. -/
namespace Go.Proofs.YtnaiocdldghdeaaGreat.Bt
open Go.RowKit

def bv : List Bool → Nat
  | [] => 0
  | b :: l => b.toNat * 2 ^ l.length + bv l
def bo (v : Nat) : Nat → List Bool
  | 0 => []
  | n + 1 => decide (v / 2 ^ n % 2 = 1) :: bo v n
@[simp] theorem bo_length (v n : Nat) : (bo v n).length = n := by induction n with
  | zero => rfl
  | succ n ih => simp [bo, ih]
theorem bv_lt : ∀ l : List Bool, bv l < 2 ^ l.length
  | [] => by simp [bv]
  | b :: l => by
    have := bv_lt l
    have hb : b.toNat ≤ 1 := by cases b <;> simp
    have h2 : b.toNat * 2 ^ l.length ≤ 1 * 2 ^ l.length := Nat.mul_le_mul_right _ hb
    simp only [bv, List.length_cons, Nat.pow_succ]
    omega
theorem bv_inj : ∀ (a b : List Bool), a.length = b.length → bv a = bv b → a = b
  | [], [], _, _ => rfl
  | [], b :: l, h, _ => by simp at h
  | b :: l, [], h, _ => by simp at h
  | x :: a, y :: b, h, e => by
    simp at h
    have ha := bv_lt a
    have hb := bv_lt b
    simp only [bv, h] at e
    rw [h] at ha
    have hxy : x = y := by
      cases x <;> cases y <;> simp at e <;> first | rfl | omega
    subst hxy
    rw [bv_inj a b h (by omega)]
theorem bv_bo (v n : Nat) : bv (bo v n) = v % 2 ^ n := by
  induction n with
  | zero => simp [bo, bv, Nat.mod_one]
  | succ n ih =>
    simp only [bo, bv, bo_length, ih]
    have h : (decide (v / 2 ^ n % 2 = 1)).toNat = v / 2 ^ n % 2 := by
      have : v / 2 ^ n % 2 < 2 := Nat.mod_lt _ (by decide)
      by_cases h : v / 2 ^ n % 2 = 1
      · simp [h]
      · have : v / 2 ^ n % 2 = 0 := by omega
        simp [this]
    rw [h, Nat.pow_succ, Nat.mod_mul, Nat.mul_comm]
    omega
theorem bo_bv (l : List Bool) : bo (bv l) l.length = l :=
  bv_inj _ _ (by simp) (by rw [bv_bo, Nat.mod_eq_of_lt (bv_lt l)])
/- One byte of a row of bits, noughts behind it. -/
def by8 (t : List Bool) : Nat := bv (t.take 8) * 2 ^ (8 - min 8 t.length)
def pkn (l : List Bool) (n : Nat) : List Nat := (List.range n).map fun i => by8 (l.drop (8 * i))
def pk (l : List Bool) : List Nat := pkn l ((l.length + 7) / 8)
@[simp] theorem pkn_length (l : List Bool) (n : Nat) : (pkn l n).length = n := by simp [pkn]
/- The bits of bytes. -/
def tb (s : List Nat) : List Bool := s.flatMap fun b => bo b 8
@[simp] theorem tb_length (s : List Nat) : (tb s).length = 8 * s.length := by
  induction s with
  | nil => rfl
  | cons x s ih =>
    show (bo x 8 ++ tb s).length = _
    rw [List.length_append, ih]; simp; omega
end Go.Proofs.YtnaiocdldghdeaaGreat.Bt
/- Contracts of the small functions of package bits. -/
namespace Go.Proofs.YtnaiocdldghdeaaGreat.Bt
open Go.RowKit
set_option linter.unusedVariables false

theorem ret_int {k : IntKind} {a b : Int} (h : a = b) : Ending.returned (.int k a) = .returned (.int k b) := by rw [h]
theorem ret_bool {a b : Bool} (h : a = b) : Ending.returned (.bool a) = .returned (.bool b) := by rw [h]
end Go.Proofs.YtnaiocdldghdeaaGreat.Bt
/- What a world has kept but for some blocks; a writer in memory. -/
namespace Go.Proofs.YtnaiocdldghdeaaGreat.Bt
open Go.RowKit Go.Maps

structure Kept (F : Nat → Prop) (w w' : World) : Prop where
  os : w'.os = w.os
  tape : w'.tape = w.tape
  output : w'.output = w.output
  size : w.heap.size ≤ w'.heap.size
  block : ∀ k, k < w.heap.size → ¬ F k → w'.heap[k]? = w.heap[k]?
theorem Kept.refl (F : Nat → Prop) (w : World) : Kept F w w := ⟨rfl, rfl, rfl, Nat.le_refl _, fun _ _ _ => rfl⟩
theorem Kept.trans {F F' : Nat → Prop} {a b c : World} (h : Kept F a b) (k : Kept F' b c) (hF : ∀ i, i < a.heap.size → F' i → F i) : Kept F a c :=
  ⟨k.os.trans h.os, k.tape.trans h.tape, k.output.trans h.output, Nat.le_trans h.size k.size, fun i hi hn => (k.block i (Nat.lt_of_lt_of_le hi h.size) (fun h' => hn (hF i hi h'))).trans (h.block i hi hn)⟩
theorem Kept.mono {F F' : Nat → Prop} {a b : World} (h : Kept F a b) (hF : ∀ i, i < a.heap.size → F i → F' i) : Kept F' a b := ⟨h.os, h.tape, h.output, h.size, fun i hi hn => h.block i hi (fun h' => hn (hF i hi h'))⟩
theorem Kept.drew {F : Nat → Prop} {a w : World} (h : Kept F a w) : Kept F a w.drew := ⟨h.os, h.tape, h.output, h.size, h.block⟩
theorem Kept.alloc {F : Nat → Prop} {a w : World} (h : Kept F a w) (o : Obj) : Kept F a (w.alloc o) :=
  h.trans (F' := F) ⟨rfl, rfl, rfl, by simp, fun k hk _ => Below.heap_alloc _ _ _ hk⟩ (fun _ _ h => h)
theorem Kept.setCell {F : Nat → Prop} {a w : World} (h : Kept F a w) {p : Addr} (hp : p.block < a.heap.size → F p.block) (u : Value) : Kept F a (w.setCell p u) :=
  h.trans (F' := fun k => k = p.block) ⟨rfl, rfl, rfl, by simp [World.setCell], fun k hk hn => Below.heap_setCell _ _ _ _ hn⟩ (fun i hi e => by subst e; exact hp hi)
theorem Kept.grown {F : Nat → Prop} {a w w' : World} {row : Option Nat} (h : Kept F a w) (hg : w.grownBy w' row) (hr : ∀ k, row = some k → k < a.heap.size → F k) : Kept F a w' :=
  h.trans (F' := fun k => row = some k) ⟨hg.os, hg.tape, hg.output, hg.size, fun k hk hn => hg.block k hk (fun e => hn e.symm)⟩ (fun i hi e => hr i e hi)
theorem Kept.below {F : Nat → Prop} {w w' : World} {B : Nat} (h : Kept F w w') (hB : B ≤ w.heap.size) (hF : ∀ k, F k → B ≤ k) : Below B w w' :=
  ⟨h.os, h.tape, h.output, h.size, fun k hk => h.block k (by omega) (fun e => by have := hF k e; omega)⟩
theorem Kept.cell {F : Nat → Prop} {w w' : World} (h : Kept F w w') {a : Addr} {v : Value} (hc : w.cell? a = some v) (hn : ¬ F a.block) : w'.cell? a = some v :=
  (World.cell?_of_block (h.block a.block (World.block_lt_of_cell? w a hc) hn)).trans hc
theorem Kept.row {F : Nat → Prop} {w w' : World} {base e size n : Nat} {v : Value} {xs : List Value} (h : Kept F w w') (hr : w.ownsRow base e size v n xs) (hn : ∀ k, v.ownBlock = some k → ¬ F k) : w'.ownsRow base e size v n xs := by
  refine ⟨hr.1, ?_⟩
  rcases hr.2 with h0 | ⟨g, cap, cur, rfl, hb, hgg, rest⟩
  · exact .inl h0
  · refine .inr ⟨g, cap, cur, rfl, hb, ?_, rest⟩
    rw [h.block g (Array.getElem?_eq_some_iff.1 hgg).1 (hn g rfl)]
    exact hgg
def u8s (l : List Nat) : List Value := l.map fun n : Nat => Value.int .u8 (n : Int)
@[simp] theorem u8s_length (l : List Nat) : (u8s l).length = l.length := by simp [u8s]
end Go.Proofs.YtnaiocdldghdeaaGreat.Bt
/- Contract: Take, Left, Done of a reader. -/
namespace Go.Proofs.YtnaiocdldghdeaaGreat.Bt
open Go.RowKit Go.Maps
set_option linter.unusedVariables false
attribute [local go_sem ↓] Go.wp_at_zero Go.wp_at_succ

/- What a row of bits has left: is it done? -/
def dn (l : List Bool) (c : Nat) : Bool := decide (l.length - c < 8) && decide (bv (l.drop c) = 0)
end Go.Proofs.YtnaiocdldghdeaaGreat.Bt
/- Contracts: Bytes of a writer, Done of a reader. -/
namespace Go.Proofs.YtnaiocdldghdeaaGreat.Bt
open Go.RowKit Go.Maps
set_option linter.unusedVariables false
attribute [local go_sem ↓] Go.wp_at_zero Go.wp_at_succ

/- A text of these bytes. -/
def tx (l : List Nat) : ByteArray := ⟨(l.map UInt8.ofNat).toArray⟩
end Go.Proofs.YtnaiocdldghdeaaGreat.Bt
/- What Pack and Unpack answer, as plain functions. -/
namespace Go.Proofs.YtnaiocdldghdeaaGreat.Bt
open Go.RowKit Go.Maps
set_option linter.unusedVariables false

/- Taking bits by widths. -/
def tks (T : List Bool) (st : Option (Nat × List Nat)) (w : Int) : Option (Nat × List Nat) :=
  match st with
  | none => none
  | some (c, vs) => if 1 ≤ w ∧ w ≤ 64 ∧ w ≤ ((T.length - c : Nat) : Int) then some (c + w.toNat, vs ++ [bv ((T.drop c).take w.toNat)]) else none
def tk (T : List Bool) (ws : List Int) : Option (Nat × List Nat) := ws.foldl (tks T) (some (0, []))
def un (T : List Bool) (ws : List Int) : Option (List Nat) :=
  match tk T ws with
  | none => none
  | some (c, vs) => if dn T c then some vs else none
/- Fields in memory. -/
def RdF (w : World) (a : Option Addr) (fs : List (Nat × Int)) : Prop :=
  ∀ i, i < fs.length → ∃ b o, a = some ⟨b, o, none⟩ ∧ w.cell? ⟨b, o + i * 2, none⟩ = some (.int .u64 ((fs.getD i (0, 0)).1 : Int)) ∧ w.cell? ⟨b, o + i * 2 + 1, none⟩ = some (.int .i64 (fs.getD i (0, 0)).2) ∧ (fs.getD i (0, 0)).1 < 18446744073709551616
theorem RdF.later {w w' : World} {a : Option Addr} {fs : List (Nat × Int)} (h : RdF w a fs) (hb : Below w.heap.size w w') : RdF w' a fs := fun i hi => by
  obtain ⟨b, o, e, c0, c1, c2⟩ := h i hi
  exact ⟨b, o, e, cell_later hb c0, cell_later hb c1, c2⟩
theorem RdF.nil (w : World) (a : Option Addr) : RdF w a [] := fun i hi => by cases hi
/- Integers in memory. -/
def RdI (w : World) (a : Option Addr) (ws : List Int) : Prop :=
  ∀ i, i < ws.length → ∃ b o, a = some ⟨b, o, none⟩ ∧ w.cell? ⟨b, o + i, none⟩ = some (.int .i64 (ws.getD i 0))
theorem RdI.later {w w' : World} {a : Option Addr} {ws : List Int} (h : RdI w a ws) (hb : Below w.heap.size w w') : RdI w' a ws := fun i hi => by
  obtain ⟨b, o, e, c0⟩ := h i hi
  exact ⟨b, o, e, cell_later hb c0⟩
theorem RdI.nil (w : World) (a : Option Addr) : RdI w a [] := fun i hi => by cases hi
def u64s (l : List Nat) : List Value := l.map fun n : Nat => Value.int .u64 (n : Int)
@[simp] theorem u64s_length (l : List Nat) : (u64s l).length = l.length := by simp [u64s]
theorem below1 (w : World) (o : Obj) : Below w.heap.size w (w.alloc o) := (Below.refl _ _).alloc (Nat.le_refl _) _
theorem Below.more {w0 w : World} (h : Below w0.heap.size w0 w) (o : Obj) : Below w0.heap.size w0 (w.alloc o) := h.alloc h.size _
theorem Below.then {w0 w w' : World} (h : Below w0.heap.size w0 w) (hb : Below w.heap.size w w') : Below w0.heap.size w0 w' := h.trans (hb.mono h.size)
end Go.Proofs.YtnaiocdldghdeaaGreat.Bt
