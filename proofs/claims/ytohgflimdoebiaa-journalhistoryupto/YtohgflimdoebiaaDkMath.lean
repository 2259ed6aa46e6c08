/- Disks, without a program: places' texts, writes, images. -/
import Derived.Maps.Own
import Derived.Maps.OwnSet
import Derived.Maps.Views
import Derived.WalkKit
namespace Go.Proofs.Ytohgflimdoebiaa.Dk
open Go.Maps
set_option linter.unusedVariables false
set_option linter.unusedSimpArgs false

abbrev Bl := Int → ByteArray
def nob : ByteArray := ⟨#[]⟩
theorem nob_size : nob.size = 0 := rfl
theorem nob_of {s : ByteArray} (h : s.size = 0) : s = ⟨#[]⟩ := by
  obtain ⟨a⟩ := s
  have : a.size = 0 := h
  rw [Array.eq_empty_of_size_eq_zero this]
theorem nob_no {s : ByteArray} (h : s.size ≠ 0) : s.toList.isEmpty = false := by
  rw [ByteArray.toList_eq]
  obtain ⟨⟨l⟩⟩ := s
  cases l with
  | nil => exact absurd rfl h
  | cons a l => rfl
def setB (B : Bl) (x : Int) (s : ByteArray) : Bl := fun y => if y = x then s else B y
@[simp] theorem setB_same (B : Bl) (x : Int) (s : ByteArray) : setB B x s x = s := by simp [setB]
theorem setB_other (B : Bl) {x y : Int} (s : ByteArray) (h : y ≠ x) : setB B x s y = B y := by simp [setB, h]
def fnI (l : List ByteArray) : Bl := fun x => if 0 ≤ x then l.getD x.toNat ⟨#[]⟩ else ⟨#[]⟩
def rp (B : Bl) (L : List (Int × ByteArray)) : Bl := L.foldl (fun B p => setB B p.1 p.2) B
theorem rp_snoc (B : Bl) (L : List (Int × ByteArray)) (p : Int × ByteArray) : rp B (L ++ [p]) = setB (rp B L) p.1 p.2 := by simp [rp]
def Gp (p : Int × ByteArray) : Prop := 0 ≤ p.1 ∧ p.1 < 2048 ∧ p.2.size ≤ 32
/- Texts that a disk may have. -/
structure Dom (f : Bl) : Prop where
  at' : ∀ x, (f x).size ≠ 0 → 0 ≤ x ∧ x < 2048
  len : ∀ x, (f x).size ≤ 32
theorem Dom.set {f : Bl} (h : Dom f) {x : Int} {s : ByteArray} (hg : Gp (x, s)) : Dom (setB f x s) where
  at' := fun y hy => by
    by_cases e : y = x
    · subst e; exact ⟨hg.1, hg.2.1⟩
    · rw [setB_other _ _ e] at hy; exact h.at' y hy
  len := fun y => by
    by_cases e : y = x
    · subst e; rw [setB_same]; exact hg.2.2
    · rw [setB_other _ _ e]; exact h.len y
theorem Dom.rp {f : Bl} (h : Dom f) : ∀ (L : List (Int × ByteArray)), (∀ p ∈ L, Gp p) → Dom (rp f L) := by
  intro L
  induction L generalizing f with
  | nil => intro _; exact h
  | cons p L ih =>
    intro hL
    exact ih (h.set (x := p.1) (s := p.2) (hL p (by simp))) (fun q hq => hL q (by simp [hq]))
theorem getD_no {α : Type} {d : α} (l : List α) (i : Nat) (h : l.length ≤ i) : l.getD i d = d := by simp [List.getD_eq_getElem?_getD, List.getElem?_eq_none h]
theorem getD_yes {α : Type} {d : α} (l : List α) (i : Nat) (h : i < l.length) : l.getD i d = l[i] := by simp [List.getD_eq_getElem?_getD, List.getElem?_eq_getElem h]
theorem Dom.img {l : List ByteArray} (h1 : l.length ≤ 2048) (h2 : ∀ t ∈ l, t.size ≤ 32) : Dom (fnI l) where
  at' := fun x hx => by
    unfold fnI at hx
    split at hx
    · rename_i h0
      by_cases hl : x.toNat < l.length
      · exact ⟨h0, by omega⟩
      · rw [getD_no _ _ (by omega)] at hx; exact absurd rfl hx
    · exact absurd rfl hx
  len := fun x => by
    unfold fnI
    split
    · by_cases hl : x.toNat < l.length
      · rw [getD_yes _ _ hl]; exact h2 _ (List.getElem_mem hl)
      · rw [getD_no _ _ (by omega)]; exact Nat.zero_le _
    · exact Nat.zero_le _
theorem fnI_nil : fnI [] = fun _ => ⟨#[]⟩ := by funext x; unfold fnI; split <;> rfl
theorem fnI_take (l : List ByteArray) (k : Nat) (hk : k < l.length) : fnI (l.take (k + 1)) = setB (fnI (l.take k)) (k : Int) (l.getD k ⟨#[]⟩) := by
  funext x
  by_cases e : x = (k : Int)
  · subst e
    rw [setB_same]
    simp [fnI, List.getD_eq_getElem?_getD, List.getElem?_take]
  · rw [setB_other _ _ e]
    unfold fnI
    split
    · have : x.toNat ≠ k := by omega
      simp only [List.getD_eq_getElem?_getD, List.getElem?_take]
      by_cases h1 : x.toNat < k
      · simp [h1, show x.toNat < k + 1 by omega]
      · simp [h1, show ¬ x.toNat < k + 1 by omega]
    · rfl
/- Behind the last text. -/
def topn (B : Bl) : Nat → Nat
  | 0 => 0
  | k + 1 => if (B (k : Int)).size = 0 then topn B k else k + 1
theorem topn_le (B : Bl) : ∀ k, topn B k ≤ k
  | 0 => Nat.le_refl _
  | k + 1 => by unfold topn; split; exact Nat.le_succ_of_le (topn_le B k); exact Nat.le_refl _
theorem topn_last (B : Bl) : ∀ k, topn B k = 0 ∨ (B ((topn B k : Nat) - 1 : Int)).size ≠ 0
  | 0 => .inl rfl
  | k + 1 => by
    unfold topn
    split
    · exact topn_last B k
    · rename_i h; right; simpa using h
theorem topn_above (B : Bl) : ∀ k (i : Nat), topn B k ≤ i → i < k → (B (i : Int)).size = 0
  | 0, _, _, h => by omega
  | k + 1, i, h1, h2 => by
    unfold topn at h1
    split at h1
    · rename_i h
      by_cases e : i = k
      · subst e; exact h
      · exact topn_above B k i h1 (by omega)
    · omega
def top (B : Bl) : Nat := topn B 2048
theorem top_le (B : Bl) : top B ≤ 2048 := topn_le B 2048
theorem top_eq {B : Bl} {t : Nat} (h1 : t ≤ 2048) (h2 : t = 0 ∨ (B ((t : Int) - 1)).size ≠ 0) (h3 : ∀ i : Nat, t ≤ i → i < 2048 → (B (i : Int)).size = 0) : top B = t := by
  have hl := topn_le B 2048
  unfold top
  rcases Nat.lt_trichotomy (topn B 2048) t with h | h | h
  · rcases h2 with rfl | h2
    · omega
    · have := topn_above B 2048 (t - 1) (by omega) (by omega)
      rw [show ((t - 1 : Nat) : Int) = (t : Int) - 1 by omega] at this
      exact absurd this h2
  · exact h
  · rcases topn_last B 2048 with h0 | h0
    · omega
    · have := h3 (topn B 2048 - 1) (by omega) (by omega)
      rw [show ((topn B 2048 - 1 : Nat) : Int) = (topn B 2048 : Int) - 1 by omega] at this
      exact absurd this h0
def tx (B : Bl) (n : Nat) : List ByteArray := (List.range n).map fun i : Nat => B (i : Int)
@[simp] theorem tx_length (B : Bl) (n : Nat) : (tx B n).length = n := by simp [tx]
def im (B : Bl) : List ByteArray := tx B (top B)
theorem im_length (B : Bl) : (im B).length = top B := by simp [im]
theorem tx_getD (B : Bl) (n i : Nat) (h : i < n) : (tx B n).getD i ⟨#[]⟩ = B (i : Int) := by simp [tx, h]
theorem tx_take (B : Bl) (n k : Nat) (h : k ≤ n) : (tx B n).take k = tx B k := by
  simp [tx, ← List.map_take, List.take_range, Nat.min_eq_left h]
/- A disk: the image that it began with, its writes, its power. -/
structure St where
  img : List ByteArray
  log : List (Int × ByteArray)
  left : Int
def St.bl (s : St) : Bl := rp (fnI s.img) s.log
structure St.Ok (s : St) : Prop where
  i1 : s.img.length ≤ 2048
  i2 : ∀ t ∈ s.img, t.size ≤ 32
  l1 : ∀ p ∈ s.log, Gp p
  p1 : -1 ≤ s.left
  p2 : s.left ≤ 9223372036854775807
theorem St.Ok.dom {s : St} (h : s.Ok) : Dom s.bl := (Dom.img h.i1 h.i2).rp _ h.l1
theorem St.Ok.dom0 {s : St} (h : s.Ok) : Dom (fnI s.img) := Dom.img h.i1 h.i2
def nu : St := ⟨[], [], -1⟩
theorem nu_ok : nu.Ok := ⟨by simp [nu], by simp [nu], by simp [nu], by simp [nu], by simp [nu]⟩
def rf (left x : Int) : Int := if left = 0 then 11 else if x < 0 ∨ 2048 ≤ x then 8 else 0
def we (left x : Int) (s : ByteArray) : Int := if left = 0 then 11 else if x < 0 ∨ 2048 ≤ x then 8 else if 32 < s.size then 9 else 0
def nl (left : Int) : Int := if left = -1 then -1 else left - 1
def nx (s : St) (x : Int) (t : ByteArray) : St := if we s.left x t = 0 then ⟨s.img, s.log ++ [(x, t)], nl s.left⟩ else s
theorem we_zero {left x : Int} {s : ByteArray} (h : we left x s = 0) : left ≠ 0 ∧ Gp (x, s) := by
  unfold we at h
  split at h
  · cases h
  · rename_i h0
    split at h
    · cases h
    · rename_i h1
      split at h
      · cases h
      · rename_i h2
        exact ⟨h0, by show 0 ≤ x; omega, by show x < 2048; omega, by show s.size ≤ 32; omega⟩
theorem we_good {left x : Int} {s : ByteArray} (h0 : left ≠ 0) (h : Gp (x, s)) : we left x s = 0 := by
  obtain ⟨h1, h2, h3⟩ := h
  simp at h1 h2 h3
  unfold we
  rw [if_neg h0, if_neg (by omega), if_neg (by omega)]
theorem nx_ok {s : St} (h : s.Ok) (x : Int) (t : ByteArray) : (nx s x t).Ok := by
  unfold nx
  split
  · rename_i hw
    obtain ⟨h0, hg⟩ := we_zero hw
    have := h.p1
    have := h.p2
    refine ⟨h.i1, h.i2, ?_, ?_, ?_⟩
    · intro p hp
      rcases List.mem_append.1 hp with hp | hp
      · exact h.l1 p hp
      · simp at hp; subst hp; exact hg
    · show -1 ≤ nl s.left
      unfold nl; split <;> omega
    · show nl s.left ≤ _
      unfold nl; split <;> omega
  · exact h
def ct (s : St) (n : Nat) : St := ⟨s.img, s.log.take n, -1⟩
theorem ct_ok {s : St} (h : s.Ok) (n : Nat) : (ct s n).Ok := ⟨h.i1, h.i2, fun p hp => h.l1 p (List.mem_of_mem_take hp), by simp [ct], by simp [ct]⟩
/- Writes as cells of memory. -/
def cellsW (L : List (Int × ByteArray)) : List Value := L.flatMap fun p => [.int .i64 p.1, .string p.2]
theorem cellsW_cons (p : Int × ByteArray) (L : List (Int × ByteArray)) : cellsW (p :: L) = .int .i64 p.1 :: .string p.2 :: cellsW L := rfl
theorem cellsW_append (L M : List (Int × ByteArray)) : cellsW (L ++ M) = cellsW L ++ cellsW M := by simp [cellsW]
theorem cellsW_length (L : List (Int × ByteArray)) : (cellsW L).length = L.length * 2 := by
  induction L with
  | nil => rfl
  | cons p L ih => rw [cellsW_cons]; simp [ih]; omega
theorem cellsW_get (L : List (Int × ByteArray)) : ∀ (i : Nat), i < L.length → (cellsW L)[i * 2]? = some (.int .i64 (L.getD i (0, ⟨#[]⟩)).1) ∧ (cellsW L)[i * 2 + 1]? = some (.string (L.getD i (0, ⟨#[]⟩)).2) := by
  induction L with
  | nil => intro i h; simp at h
  | cons p L ih =>
    intro i h
    cases i with
    | zero => simp [cellsW_cons]
    | succ i =>
      have := ih i (by simpa using h)
      rw [cellsW_cons, show (i + 1) * 2 = i * 2 + 1 + 1 by omega]
      simpa using this
theorem cellsW_take (L : List (Int × ByteArray)) (k : Nat) : (cellsW L).take (k * 2) = cellsW (L.take k) := by
  induction L generalizing k with
  | nil => simp [cellsW]
  | cons p L ih =>
    cases k with
    | zero => simp [cellsW]
    | succ k => rw [cellsW_cons, List.take_succ_cons, cellsW_cons, ← ih k, show (k + 1) * 2 = k * 2 + 1 + 1 by omega]; rfl
theorem cellsW_one (L : List (Int × ByteArray)) : ∀ u ∈ cellsW L, u.oneCell' = true := by
  intro u hu
  simp [cellsW] at hu
  obtain ⟨x, y, _, rfl | rfl⟩ := hu <;> rfl
def cellsS (l : List ByteArray) : List Value := l.map fun s => .string s
@[simp] theorem cellsS_length (l : List ByteArray) : (cellsS l).length = l.length := by simp [cellsS]
theorem cellsS_one (l : List ByteArray) : ∀ u ∈ cellsS l, u.oneCell' = true := by
  intro u hu
  simp [cellsS] at hu
  obtain ⟨x, _, rfl⟩ := hu
  rfl
theorem cellsS_set (l : List ByteArray) (i : Nat) (s : ByteArray) : (cellsS l).set i (.string s) = cellsS (l.set i s) := by simp [cellsS, List.map_set]
/- A map that holds the texts that aren't empty. -/
def el (s : ByteArray) : DataW Unit := .lit (.string s.data.toList)
theorem el_inj {s t : ByteArray} (h : el s = el t) : s = t := by
  simp [el] at h
  obtain ⟨a⟩ := s; obtain ⟨b⟩ := t
  simp at h; rw [h]
structure MapIs (D : DataW Unit) (f : Bl) : Prop where
  keys : ∀ kl, Maps.has D kl = true → ∃ x, kl = .int .i64 x ∧ (f x).size ≠ 0 ∧ ∀ z, D.atKey kl z = el (f x)
  has : ∀ x, (f x).size ≠ 0 → Maps.has D (.int .i64 x) = true
theorem MapIs.empty : MapIs (.map []) (fun _ => ⟨#[]⟩) where
  keys := fun kl h => by simp [Maps.has] at h
  has := fun x h => absurd rfl h
theorem MapIs.look {D : DataW Unit} {f : Bl} (h : MapIs D f) (x : Int) : D.atKey (.int .i64 x) (el ⟨#[]⟩) = el (f x) := by
  cases hh : Maps.has D (.int .i64 x) with
  | true =>
    obtain ⟨y, e, _, hz⟩ := h.keys _ hh
    cases e
    exact hz _
  | false =>
    rw [atKey_of_not_has hh]
    by_cases e : (f x).size = 0
    · rw [nob_of e]
    · rw [h.has x e] at hh; cases hh
theorem MapIs.put {D : DataW Unit} {f : Bl} (h : MapIs D f) (hD : IsMap D) (x : Int) {s : ByteArray} (hs : s.size ≠ 0) : MapIs (D.put (.int .i64 x) (el s)) (setB f x s) where
  keys := fun kl hh => by
    by_cases e : kl = .int .i64 x
    · subst e
      exact ⟨x, rfl, by simpa using hs, fun z => by rw [setB_same]; exact atKey_put_same hD (show WideAt.IsKeyLit (.int .i64 x) from trivial) _ _⟩
    · rw [has_put_other e] at hh
      obtain ⟨y, rfl, hy, hz⟩ := h.keys kl hh
      have : y ≠ x := fun hyx => e (by rw [hyx])
      exact ⟨y, rfl, by rw [setB_other _ _ this]; exact hy, fun z => by rw [atKey_put_other e, setB_other _ _ this]; exact hz z⟩
  has := fun y hy => by
    by_cases e : y = x
    · subst e; exact has_put_same hD (show WideAt.IsKeyLit (.int .i64 y) from trivial) _
    · rw [setB_other _ _ e] at hy
      rw [has_put_other (fun hk => e (by cases hk; rfl))]
      exact h.has y hy
theorem MapIs.del {D : DataW Unit} {f : Bl} (h : MapIs D f) (x : Int) : MapIs (D.del (.int .i64 x)) (setB f x ⟨#[]⟩) where
  keys := fun kl hh => by
    by_cases e : kl = .int .i64 x
    · subst e
      rw [has_del_same] at hh; cases hh
    · rw [has_del_other e] at hh
      obtain ⟨y, rfl, hy, hz⟩ := h.keys kl hh
      have : y ≠ x := fun hyx => e (by rw [hyx])
      exact ⟨y, rfl, by rw [setB_other _ _ this]; exact hy, fun z => by rw [atKey_del_other e, setB_other _ _ this]; exact hz z⟩
  has := fun y hy => by
    by_cases e : y = x
    · subst e; rw [setB_same] at hy; exact absurd rfl hy
    · rw [setB_other _ _ e] at hy
      rw [has_del_other (fun hk => e (by cases hk; rfl))]
      exact h.has y hy
end Go.Proofs.Ytohgflimdoebiaa.Dk
