/- Frames on plain data: the pieces of a payload, and whole lists of pieces. -/
import Derived.Test.YtohgflimdoebiaaFrK
namespace Go.Proofs.Ytohgflimdoebiaa
open Go.RowKit Go.Maps
set_option linter.unusedVariables false
set_option maxRecDepth 4000
set_option linter.unusedSimpArgs false

def np (L : Nat) : Nat := (pt L).toNat
theorem np_spec (L : Nat) (h : L ≤ 5865) : pt (L : Int) = (np L : Int) ∧ 1 ≤ np L ∧ np L ≤ 255 ∧ L ≤ 23 * np L ∧ (np L = 1 ∨ 23 * (np L - 1) < L) := by
  unfold np pt
  rw [if_neg (by omega)]
  split <;> omega
theorem pt_no (L : Nat) (h : ¬ L ≤ 5865) : pt (L : Int) = 0 := by unfold pt; rw [if_pos (by omega)]
def dt (s : ByteArray) (i : Nat) : ByteArray := s.extract (23 * i) (min (23 * i + 23) s.size)
theorem dt_list (s : ByteArray) (i : Nat) (h : 23 * i ≤ s.size) : (dt s i).data.toList = (s.data.toList.drop (23 * i)).take 23 := by
  unfold dt
  rw [extract_list]
  have hl := dlen s
  by_cases h23 : 23 * i + 23 ≤ s.size
  · rw [Nat.min_eq_left h23]; congr 1; omega
  · rw [Nat.min_eq_right (by omega), List.take_of_length_le (by rw [List.length_drop, hl]; omega), List.take_of_length_le (by rw [List.length_drop, hl]; omega)]
theorem dt_size (s : ByteArray) (i : Nat) (h : 23 * i ≤ s.size) : (dt s i).size = min 23 (s.size - 23 * i) := by
  rw [← dlen, dt_list s i h, List.length_take, List.length_drop, dlen]
def pcs (q : Int) (s : ByteArray) : List Pc := (List.range (np s.size)).map fun i : Nat => ⟨q, (i : Int), (np s.size : Int), dt s i⟩
@[simp] theorem pcs_length (q : Int) (s : ByteArray) : (pcs q s).length = np s.size := by simp [pcs]
theorem pcs_get (q : Int) (s : ByteArray) (i : Nat) (h : i < np s.size) : (pcs q s).getD i pc0 = ⟨q, (i : Int), (np s.size : Int), dt s i⟩ := by
  simp [pcs, List.getD_eq_getElem?_getD, h]
theorem np_at (L : Nat) (h : L ≤ 5865) (i : Nat) (hi : i < np L) : 23 * i ≤ L ∧ (i < np L - 1 → 23 * i + 23 ≤ L) := by
  obtain ⟨_, h1, h2, h3, h4⟩ := np_spec L h
  omega
theorem piece_right (q : Int) (s : ByteArray) (hq : gs q = true) (h : s.size ≤ 5865) (i : Nat) (hi : i < np s.size) : rt q i (np s.size : Int) (dt s i).size = true := by
  obtain ⟨_, h1, h2, h3, h4⟩ := np_spec s.size h
  obtain ⟨h5, h6⟩ := np_at s.size h i hi
  have hd := dt_size s i h5
  simp [gs] at hq
  rw [rt_iff, hd]
  unfold lea
  split <;> (try split) <;> omega
def rtP (x : Pc) : Bool := rt x.q x.p x.n x.d.size
def bkP (x : Pc) : ByteArray := bl x.q x.p x.n x.d
def blks (q : Int) (s : ByteArray) : List ByteArray := (pcs q s).map bkP
@[simp] theorem blks_length (q : Int) (s : ByteArray) : (blks q s).length = np s.size := by simp [blks]
theorem blks_get (q : Int) (s : ByteArray) (i : Nat) (h : i < np s.size) : (blks q s).getD i ⟨#[]⟩ = bl q i (np s.size : Int) (dt s i) := by
  simp [blks, pcs, List.getD_eq_getElem?_getD, h, bkP]
theorem take_snoc {α : Type} (l : List α) (k : Nat) (d : α) (hk : k < l.length) : l.take (k + 1) = l.take k ++ [l.getD k d] := by
  rw [List.take_add_one]; simp [List.getElem?_eq_getElem hk]
structure Wh (l : List Pc) : Prop where
  ne : l ≠ []
  each : ∀ i, i < l.length → rtP (l.getD i pc0) = true ∧ (l.getD i pc0).q = (l.getD 0 pc0).q ∧ (l.getD i pc0).p = (i : Int) ∧ (l.getD i pc0).n = (l.length : Int)
def ct (l : List Pc) : List UInt8 := l.flatMap fun x => x.d.data.toList
theorem ct_append (l m : List Pc) : ct (l ++ m) = ct l ++ ct m := by simp [ct]
theorem ct_one (x : Pc) : ct [x] = x.d.data.toList := by simp [ct]
theorem ct_snoc (l : List Pc) (k : Nat) (h : k < l.length) : ct (l.take (k + 1)) = ct (l.take k) ++ (l.getD k pc0).d.data.toList := by
  rw [take_snoc l k pc0 h, ct_append, ct_one]
theorem wh_pcs (q : Int) (s : ByteArray) (hq : gs q = true) (h : s.size ≤ 5865) : Wh (pcs q s) := by
  obtain ⟨_, h1, h2, h3, h4⟩ := np_spec s.size h
  refine ⟨fun e => by have := congrArg List.length e; simp at this; omega, fun i hi => ?_⟩
  rw [pcs_length] at hi
  rw [pcs_get q s i hi, pcs_get q s 0 (by omega), pcs_length]
  exact ⟨piece_right q s hq h i hi, rfl, rfl, rfl⟩
theorem ct_take (q : Int) (s : ByteArray) (h : s.size ≤ 5865) : ∀ k, k ≤ np s.size → ct ((pcs q s).take k) = s.data.toList.take (23 * k)
  | 0, _ => by simp [ct]
  | k + 1, hk => by
    have ih := ct_take q s h k (by omega)
    obtain ⟨h5, h6⟩ := np_at s.size h k (by omega)
    rw [ct_snoc _ k (by rw [pcs_length]; omega), ih, pcs_get q s k (by omega), dt_list s k h5, Nat.mul_succ, List.take_add]
theorem ct_pcs (q : Int) (s : ByteArray) (h : s.size ≤ 5865) : ct (pcs q s) = s.data.toList := by
  obtain ⟨_, h1, h2, h3, h4⟩ := np_spec s.size h
  have e := ct_take q s h (np s.size) (Nat.le_refl _)
  rw [List.take_of_length_le (by simp)] at e
  rw [e, List.take_of_length_le (by rw [dlen]; exact h3)]
theorem Wh.sizes {l : List Pc} (h : Wh l) (i : Nat) (hi : i < l.length) : (i < l.length - 1 → (l.getD i pc0).d.size = 23) ∧ (l.getD i pc0).d.size ≤ 23 ∧ (1 < l.length → 1 ≤ (l.getD i pc0).d.size) ∧ gs (l.getD i pc0).q = true ∧ l.length ≤ 255 := by
  obtain ⟨h1, h2, h3, h4⟩ := h.each i hi
  obtain ⟨r1, r2, r3, r4, r5, r6, r7, r8⟩ := (rt_iff _ _ _ _).1 h1
  rw [h3, h4] at r7
  rw [h4] at r4
  unfold lea at r7
  have hg : gs (l.getD i pc0).q = true := by unfold gs; rw [Bool.and_eq_true]; exact ⟨decide_eq_true r1, decide_eq_true r2⟩
  refine ⟨fun hl => ?_, by omega, fun hl => ?_, hg, by omega⟩
  · rw [if_pos (by omega)] at r7; omega
  · split at r7 <;> (try split at r7) <;> omega
theorem Wh.len {l : List Pc} (h : Wh l) : ∀ k, k < l.length → (ct (l.take k)).length = 23 * k
  | 0, _ => by simp [ct]
  | k + 1, hk => by
    have ih := h.len k (by omega)
    rw [ct_snoc l k (by omega), List.length_append, ih, dlen, (h.sizes k (by omega)).1 (by omega)]
    omega
theorem Wh.total {l : List Pc} (h : Wh l) : (ct l).length ≤ 5865 ∧ np (ct l).length = l.length := by
  have h0 : 0 < l.length := List.length_pos_iff.2 h.ne
  have e1 := h.len (l.length - 1) (by omega)
  have e2 := ct_snoc l (l.length - 1) (by omega)
  rw [Nat.sub_add_cancel h0, List.take_of_length_le (Nat.le_refl _)] at e2
  have e3 := congrArg List.length e2
  rw [List.length_append, e1, dlen] at e3
  obtain ⟨-, s2, s3, -, s5⟩ := h.sizes (l.length - 1) (by omega)
  have hL : (ct l).length ≤ 5865 := by omega
  refine ⟨hL, ?_⟩
  obtain ⟨_, n1, n2, n3, n4⟩ := np_spec (ct l).length hL
  omega
theorem Wh.split {l : List Pc} (h : Wh l) (i : Nat) (hi : i < l.length) : ct l = ct (l.take i) ++ (l.getD i pc0).d.data.toList ++ ct (l.drop (i + 1)) := by
  rw [← ct_snoc l i hi, ← ct_append, List.take_append_drop]
theorem get_getD {α : Type} (l : List α) (i : Nat) (h : i < l.length) (d : α) : l[i] = l.getD i d := by simp [List.getD_eq_getElem?_getD, h]
theorem Wh.back {l : List Pc} (h : Wh l) : pcs (l.getD 0 pc0).q ⟨(ct l).toArray⟩ = l := by
  obtain ⟨hL, hn⟩ := h.total
  have hsz : (⟨(ct l).toArray⟩ : ByteArray).size = (ct l).length := by simp [ByteArray.size]
  apply List.ext_getElem
  · rw [pcs_length, hsz, hn]
  · intro i hi1 hi2
    rw [get_getD _ i hi1 pc0, get_getD _ i hi2 pc0, pcs_get _ _ i (by rw [hsz, hn]; exact hi2), hsz, hn]
    obtain ⟨-, e2, e3, e4⟩ := h.each i hi2
    obtain ⟨s1, s2, -⟩ := h.sizes i hi2
    have hd : dt ⟨(ct l).toArray⟩ i = (l.getD i pc0).d := by
      have h23 : 23 * i ≤ (⟨(ct l).toArray⟩ : ByteArray).size := by
        rw [hsz, h.split i hi2, List.length_append, List.length_append, h.len i hi2]; omega
      apply ByteArray.ext
      apply Array.ext'
      rw [dt_list _ i h23]
      show ((ct l).drop (23 * i)).take 23 = _
      rw [h.split i hi2, List.append_assoc, List.drop_left' (h.len i hi2)]
      by_cases hlast : i < l.length - 1
      · exact List.take_left' (by rw [dlen]; exact s1 hlast)
      · have ed : l.drop (i + 1) = [] := List.drop_eq_nil_of_le (by omega)
        rw [ed]
        have : ct [] = [] := rfl
        rw [this, List.append_nil, List.take_of_length_le (by rw [dlen]; exact s2)]
    rw [hd, ← e2, ← e3, ← e4]
theorem pc_eta (x : Pc) : (⟨x.q, x.p, x.n, x.d⟩ : Pc) = x := rfl
end Go.Proofs.Ytohgflimdoebiaa
