/- What Pack and Unpack answer, as plain functions. -/
import Derived.Test.YtdkfifnhmfbagaaBitDone
namespace Go.Proofs.Ytdkfifnhmfbagaa.Bt
open Go.RowKit Go.Maps
set_option linter.unusedVariables false

def okF (f : Nat × Int) : Bool := gw f.2 && decide (f.1 < 2 ^ f.2.toNat)
def bitsF (fs : List (Nat × Int)) : List Bool := fs.flatMap fun f => bo f.1 f.2.toNat
theorem bitsF_append (a b : List (Nat × Int)) : bitsF (a ++ b) = bitsF a ++ bitsF b := by simp [bitsF]
theorem okF_width {f : Nat × Int} (h : okF f = true) : 1 ≤ f.2 ∧ f.2 ≤ 64 ∧ f.1 < 2 ^ f.2.toNat := by simp [okF, gw] at h; omega
theorem bitsF_le (fs : List (Nat × Int)) (h : ∀ f ∈ fs, okF f = true) : (bitsF fs).length ≤ 64 * fs.length := by
  induction fs with
  | nil => simp [bitsF]
  | cons f fs ih =>
    have h1 := ih (fun g hg => h g (by simp [hg]))
    have h2 := okF_width (h f (by simp))
    have e : bitsF (f :: fs) = bo f.1 f.2.toNat ++ bitsF fs := rfl
    rw [e, List.length_append, bo_length, List.length_cons]
    omega
def pkS (fs : List (Nat × Int)) : ByteArray := if fs.all okF then tx (pk (bitsF fs)) else tx []
def pkE (fs : List (Nat × Int)) : Int := if fs.all okF then 0 else 6
theorem take_snoc {α : Type} (l : List α) (k : Nat) (d : α) (hk : k < l.length) : l.take (k + 1) = l.take k ++ [l.getD k d] := by
  rw [List.take_add_one]; simp [List.getElem?_eq_getElem hk]
theorem all_take {α : Type} (p : α → Bool) (l : List α) (k : Nat) (d : α) (hk : k < l.length) (h : p (l.getD k d) = false) : l.all p = false := by
  rw [Bool.eq_false_iff]
  intro ha
  rw [List.all_eq_true] at ha
  have := ha (l.getD k d) (by simp [hk])
  rw [h] at this
  cases this
/- Taking bits by widths. -/
def tks (T : List Bool) (st : Option (Nat × List Nat)) (w : Int) : Option (Nat × List Nat) :=
  match st with
  | none => none
  | some (c, vs) => if 1 ≤ w ∧ w ≤ 64 ∧ w ≤ ((T.length - c : Nat) : Int) then some (c + w.toNat, vs ++ [bv ((T.drop c).take w.toNat)]) else none
def tk (T : List Bool) (ws : List Int) : Option (Nat × List Nat) := ws.foldl (tks T) (some (0, []))
theorem tks_none (T : List Bool) (ws : List Int) : ws.foldl (tks T) none = none := by
  induction ws with
  | nil => rfl
  | cons w ws ih => simpa [tks] using ih
theorem tk_snoc (T : List Bool) (ws : List Int) (w : Int) : tk T (ws ++ [w]) = tks T (tk T ws) w := by simp [tk]
theorem tk_take (T : List Bool) (ws : List Int) (k : Nat) (hk : k < ws.length) : tk T (ws.take (k + 1)) = tks T (tk T (ws.take k)) (ws.getD k 0) := by
  rw [take_snoc ws k 0 hk, tk_snoc]
theorem tk_none (T : List Bool) (ws : List Int) (k : Nat) (h : tk T (ws.take k) = none) : tk T ws = none := by
  have e : ws = ws.take k ++ ws.drop k := by simp
  unfold tk at *
  rw [e, List.foldl_append, h, tks_none]
theorem tk_le (T : List Bool) : ∀ (ws : List Int) (c0 : Nat) (v0 : List Nat) (c : Nat) (vs : List Nat), c0 ≤ T.length → ws.foldl (tks T) (some (c0, v0)) = some (c, vs) → c ≤ T.length ∧ vs.length = v0.length + ws.length
  | [], c0, v0, c, vs, h0, h => by simp at h; obtain ⟨rfl, rfl⟩ := h; simp; omega
  | w :: ws, c0, v0, c, vs, h0, h => by
    simp only [List.foldl_cons, tks] at h
    split at h
    · rename_i hw
      have := tk_le T ws _ _ c vs (by omega) h
      simp at this ⊢; omega
    · rw [tks_none] at h; cases h
def un (T : List Bool) (ws : List Int) : Option (List Nat) :=
  match tk T ws with
  | none => none
  | some (c, vs) => if dn T c then some vs else none
def unL (T : List Bool) (ws : List Int) : List Nat := (un T ws).getD []
def unE (T : List Bool) (ws : List Int) : Int := if (un T ws).isSome then 0 else 6
theorem un_bad {T : List Bool} {ws : List Int} (h : tk T ws = none) : unL T ws = [] ∧ unE T ws = 6 := by simp [unL, unE, un, h]
theorem un_open {T : List Bool} {ws : List Int} {c : Nat} {vs : List Nat} (h : tk T ws = some (c, vs)) (hd : dn T c = false) : unL T ws = [] ∧ unE T ws = 6 := by simp [unL, unE, un, h, hd]
theorem un_good {T : List Bool} {ws : List Int} {c : Nat} {vs : List Nat} (h : tk T ws = some (c, vs)) (hd : dn T c = true) : unL T ws = vs ∧ unE T ws = 0 := by simp [unL, unE, un, h, hd]
/- Fields in memory. -/
def RdF (w : World) (a : Option Addr) (fs : List (Nat × Int)) : Prop :=
  ∀ i, i < fs.length → ∃ b o, a = some ⟨b, o, none⟩ ∧ w.cell? ⟨b, o + i * 2, none⟩ = some (.int .u64 ((fs.getD i (0, 0)).1 : Int)) ∧ w.cell? ⟨b, o + i * 2 + 1, none⟩ = some (.int .i64 (fs.getD i (0, 0)).2) ∧ (fs.getD i (0, 0)).1 < 18446744073709551616
theorem RdF.later {w w' : World} {a : Option Addr} {fs : List (Nat × Int)} (h : RdF w a fs) (hb : Below w.heap.size w w') : RdF w' a fs := fun i hi => by
  obtain ⟨b, o, e, c0, c1, c2⟩ := h i hi
  exact ⟨b, o, e, cell_later hb c0, cell_later hb c1, c2⟩
theorem RdF.nil (w : World) (a : Option Addr) : RdF w a [] := fun i hi => by cases hi
theorem RdF.spot {w : World} {a : Option Addr} {fs : List (Nat × Int)} (h : RdF w a fs) (h0 : fs ≠ []) : ∃ b o, a = some ⟨b, o, none⟩ ∧ ∀ i, i < fs.length → w.cell? ⟨b, o + i * 2, none⟩ = some (.int .u64 ((fs.getD i (0, 0)).1 : Int)) ∧ w.cell? ⟨b, o + i * 2 + 1, none⟩ = some (.int .i64 (fs.getD i (0, 0)).2) ∧ (fs.getD i (0, 0)).1 < 18446744073709551616 := by
  have hp : 0 < fs.length := List.length_pos_iff.2 h0
  obtain ⟨b, o, e, _⟩ := h 0 hp
  refine ⟨b, o, e, fun i hi => ?_⟩
  obtain ⟨b', o', e', c0, c1⟩ := h i hi
  rw [e] at e'
  simp at e'
  obtain ⟨rfl, rfl⟩ := e'
  exact ⟨c0, c1⟩
/- Integers in memory. -/
def RdI (w : World) (a : Option Addr) (ws : List Int) : Prop :=
  ∀ i, i < ws.length → ∃ b o, a = some ⟨b, o, none⟩ ∧ w.cell? ⟨b, o + i, none⟩ = some (.int .i64 (ws.getD i 0))
theorem RdI.later {w w' : World} {a : Option Addr} {ws : List Int} (h : RdI w a ws) (hb : Below w.heap.size w w') : RdI w' a ws := fun i hi => by
  obtain ⟨b, o, e, c0⟩ := h i hi
  exact ⟨b, o, e, cell_later hb c0⟩
theorem RdI.nil (w : World) (a : Option Addr) : RdI w a [] := fun i hi => by cases hi
theorem RdI.spot {w : World} {a : Option Addr} {ws : List Int} (h : RdI w a ws) (h0 : ws ≠ []) : ∃ b o, a = some ⟨b, o, none⟩ ∧ ∀ i, i < ws.length → w.cell? ⟨b, o + i, none⟩ = some (.int .i64 (ws.getD i 0)) := by
  have hp : 0 < ws.length := List.length_pos_iff.2 h0
  obtain ⟨b, o, e, _⟩ := h 0 hp
  refine ⟨b, o, e, fun i hi => ?_⟩
  obtain ⟨b', o', e', c0⟩ := h i hi
  rw [e] at e'
  simp at e'
  obtain ⟨rfl, rfl⟩ := e'
  exact c0
def u64s (l : List Nat) : List Value := l.map fun n : Nat => Value.int .u64 (n : Int)
@[simp] theorem u64s_length (l : List Nat) : (u64s l).length = l.length := by simp [u64s]
theorem u64s_snoc (l : List Nat) (x : Nat) : u64s (l ++ [x]) = u64s l ++ [.int .u64 (x : Int)] := by simp [u64s]
theorem info64 : (Try.prog.info? 75).map (fun i => (i.zero, i.size, i.bytes)) = some (some (.int .u64 0), 1, 8) := by kernel_rfl
theorem Wr.below {B : Nat} {w w' : World} {g : Nat} {l : List Bool} {x : Value} (h : Wr B w g l x) (hk : Kept (Fw g x) w w') {B0 : Nat} (h0 : B0 ≤ g) : Below B0 w w' := by
  have hg := (Array.getElem?_eq_some_iff.1 h.blk).1
  refine hk.below (by omega) (fun k hk => ?_)
  rcases hk with rfl | hk
  · exact h0
  · have := (h.row.lt k hk).1; have := h.lt; omega
theorem below1 (w : World) (o : Obj) : Below w.heap.size w (w.alloc o) := (Below.refl _ _).alloc (Nat.le_refl _) _
theorem Below.more {w0 w : World} (h : Below w0.heap.size w0 w) (o : Obj) : Below w0.heap.size w0 (w.alloc o) := h.alloc h.size _
theorem Below.then {w0 w w' : World} (h : Below w0.heap.size w0 w) (hb : Below w.heap.size w w') : Below w0.heap.size w0 w' := h.trans (hb.mono h.size)
end Go.Proofs.Ytdkfifnhmfbagaa.Bt
