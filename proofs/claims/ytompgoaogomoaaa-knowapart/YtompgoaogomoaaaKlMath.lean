/- Plain mathematics of the least keys: of each base the least step among the good keys of a list, rising by base. -/
import Derived.Test.YtompgoaogomoaaaKeyMath
namespace Go.Proofs.Ytompgoaogomoaaa.Rt

def setf (f : Int → Option Int) (b s : Int) : Int → Option Int := fun x => if x = b then some s else f x
/- One key more: a key that isn't good is passed over. -/
def up (f : Int → Option Int) (k : Int × Int) : Int → Option Int :=
  if gd k.1 k.2 then (match f k.1 with | none => setf f k.1 k.2 | some s => if k.2 < s then setf f k.1 k.2 else f) else f
def fo (ks : List (Int × Int)) : Int → Option Int := ks.foldl up (fun _ => none)
def lpart (f : Int → Option Int) (n : Nat) : List (Int × Int) := (List.range n).filterMap fun i : Nat => (f ((i : Int) + 1)).map fun s => ((i : Int) + 1, s)
def lstf (f : Int → Option Int) : List (Int × Int) := lpart f 65535
def lst (ks : List (Int × Int)) : List (Int × Int) := lstf (fo ks)

theorem fo_snoc (ks : List (Int × Int)) (k : Int × Int) : fo (ks ++ [k]) = up (fo ks) k := by simp [fo, List.foldl_append]
theorem up_bad {f : Int → Option Int} {k : Int × Int} (h : ¬ Gd k.1 k.2) : up f k = f := by simp [up, gd_no h]
theorem up_new {f : Int → Option Int} {k : Int × Int} (h : Gd k.1 k.2) (hf : f k.1 = none) : up f k = setf f k.1 k.2 := by simp [up, gd_yes h, hf]
theorem up_less {f : Int → Option Int} {k : Int × Int} {s : Int} (h : Gd k.1 k.2) (hf : f k.1 = some s) (hs : k.2 < s) : up f k = setf f k.1 k.2 := by simp [up, gd_yes h, hf, hs]
theorem up_more {f : Int → Option Int} {k : Int × Int} {s : Int} (h : Gd k.1 k.2) (hf : f k.1 = some s) (hs : ¬ k.2 < s) : up f k = f := by simp [up, gd_yes h, hf, hs]

/- What the function says: the least step of that base. -/
def Mn (ks : List (Int × Int)) (b s : Int) : Prop := (b, s) ∈ ks ∧ Gd b s ∧ ∀ t, (b, t) ∈ ks → Gd b t → s ≤ t
theorem mn_unique {ks : List (Int × Int)} {b s t : Int} (h : Mn ks b s) (k : Mn ks b t) : s = t := by
  have h1 := h.2.2 t k.1 k.2.1
  have h2 := k.2.2 s h.1 h.2.1
  omega
theorem fo_spec (ks : List (Int × Int)) : (∀ b s, fo ks b = some s → Mn ks b s) ∧ (∀ b t, (b, t) ∈ ks → Gd b t → ∃ s, fo ks b = some s) := by
  suffices h : ∀ rs : List (Int × Int), (∀ b s, fo rs.reverse b = some s → Mn rs.reverse b s) ∧ (∀ b t, (b, t) ∈ rs.reverse → Gd b t → ∃ s, fo rs.reverse b = some s) by
    have := h ks.reverse; rwa [List.reverse_reverse] at this
  intro rs
  induction rs with
  | nil => exact ⟨fun b s h => by simp [fo] at h, fun b t h => by simp at h⟩
  | cons k rs ih =>
    rw [List.reverse_cons]
    generalize rs.reverse = ks at ih
    obtain ⟨i1, i2⟩ := ih
    rw [fo_snoc]
    obtain ⟨kb, kt⟩ := k
    by_cases hg : Gd kb kt
    · cases hf : fo ks kb with
      | none =>
        rw [up_new hg hf]
        have hno : ∀ t, (kb, t) ∈ ks → ¬ Gd kb t := fun t ht hgt => by obtain ⟨s, hs⟩ := i2 kb t ht hgt; rw [hf] at hs; cases hs
        refine ⟨fun b s h => ?_, fun b t h hgt => ?_⟩
        · simp only [setf] at h
          split at h
          · rename_i e; subst e; simp only [Option.some.injEq] at h; subst h
            refine ⟨by simp, hg, fun t ht hgt => ?_⟩
            rcases List.mem_append.1 ht with ht | ht
            · exact absurd hgt (hno t ht)
            · simp at ht; omega
          · rename_i e
            obtain ⟨m1, m2, m3⟩ := i1 b s h
            refine ⟨List.mem_append.2 (Or.inl m1), m2, fun t ht hgt => ?_⟩
            rcases List.mem_append.1 ht with ht | ht
            · exact m3 t ht hgt
            · simp at ht; exact absurd ht.1 e
        · simp only [setf]
          split
          · exact ⟨_, rfl⟩
          · rename_i e
            rcases List.mem_append.1 h with h | h
            · exact i2 b t h hgt
            · simp at h; exact absurd h.1 e
      | some s0 =>
        obtain ⟨n1, n2, n3⟩ := i1 kb s0 hf
        by_cases hs : kt < s0
        · rw [up_less hg hf hs]
          refine ⟨fun b s h => ?_, fun b t h hgt => ?_⟩
          · simp only [setf] at h
            split at h
            · rename_i e; subst e; simp only [Option.some.injEq] at h; subst h
              refine ⟨by simp, hg, fun t ht hgt => ?_⟩
              rcases List.mem_append.1 ht with ht | ht
              · have := n3 t ht hgt; omega
              · simp at ht; omega
            · rename_i e
              obtain ⟨m1, m2, m3⟩ := i1 b s h
              refine ⟨List.mem_append.2 (Or.inl m1), m2, fun t ht hgt => ?_⟩
              rcases List.mem_append.1 ht with ht | ht
              · exact m3 t ht hgt
              · simp at ht; exact absurd ht.1 e
          · simp only [setf]
            split
            · exact ⟨_, rfl⟩
            · rename_i e
              rcases List.mem_append.1 h with h | h
              · exact i2 b t h hgt
              · simp at h; exact absurd h.1 e
        · rw [up_more hg hf hs]
          refine ⟨fun b s h => ?_, fun b t h hgt => ?_⟩
          · obtain ⟨m1, m2, m3⟩ := i1 b s h
            refine ⟨List.mem_append.2 (Or.inl m1), m2, fun t ht hgt => ?_⟩
            rcases List.mem_append.1 ht with ht | ht
            · exact m3 t ht hgt
            · simp at ht
              obtain ⟨rfl, rfl⟩ := ht
              rw [hf] at h; simp only [Option.some.injEq] at h; omega
          · rcases List.mem_append.1 h with h | h
            · exact i2 b t h hgt
            · simp at h; obtain ⟨rfl, rfl⟩ := h; exact ⟨_, hf⟩
    · rw [up_bad hg]
      refine ⟨fun b s h => ?_, fun b t h hgt => ?_⟩
      · obtain ⟨m1, m2, m3⟩ := i1 b s h
        refine ⟨List.mem_append.2 (Or.inl m1), m2, fun t ht hgt => ?_⟩
        rcases List.mem_append.1 ht with ht | ht
        · exact m3 t ht hgt
        · simp at ht; obtain ⟨rfl, rfl⟩ := ht; exact absurd hgt hg
      · rcases List.mem_append.1 h with h | h
        · exact i2 b t h hgt
        · simp at h; obtain ⟨rfl, rfl⟩ := h; exact absurd hgt hg
theorem fo_iff (ks : List (Int × Int)) (b s : Int) : fo ks b = some s ↔ Mn ks b s := by
  refine ⟨(fo_spec ks).1 b s, fun h => ?_⟩
  obtain ⟨t, ht⟩ := (fo_spec ks).2 b s h.1 h.2.1
  rw [ht, mn_unique h ((fo_spec ks).1 b t ht)]
theorem fo_in {ks : List (Int × Int)} {b s : Int} (h : fo ks b = some s) : Gd b s := ((fo_iff ks b s).1 h).2.1
theorem fo_congr {ks ls : List (Int × Int)} (h : ∀ k, k ∈ ks ↔ k ∈ ls) : fo ks = fo ls := by
  funext b
  have e : ∀ s, fo ks b = some s ↔ fo ls b = some s := fun s => by
    rw [fo_iff, fo_iff]
    exact ⟨fun ⟨a1, a2, a3⟩ => ⟨(h _).1 a1, a2, fun t ht => a3 t ((h _).2 ht)⟩, fun ⟨a1, a2, a3⟩ => ⟨(h _).2 a1, a2, fun t ht => a3 t ((h _).1 ht)⟩⟩
  cases h1 : fo ks b with
  | none => cases h2 : fo ls b with
    | none => rfl
    | some s => rw [(e s).2 h2] at h1; cases h1
  | some s => exact ((e s).1 h1).symm

theorem lpart_succ (f : Int → Option Int) (n : Nat) : lpart f (n + 1) = lpart f n ++ (match f ((n : Int) + 1) with | none => [] | some s => [((n : Int) + 1, s)]) := by
  simp only [lpart, List.range_succ, List.filterMap_append, List.filterMap_cons, List.filterMap_nil]
  cases f ((n : Int) + 1) <;> rfl
theorem mem_lpart {f : Int → Option Int} {n : Nat} {b s : Int} : (b, s) ∈ lpart f n ↔ 1 ≤ b ∧ b ≤ n ∧ f b = some s := by
  simp only [lpart, List.mem_filterMap, List.mem_range, Option.map_eq_some_iff, Prod.mk.injEq]
  constructor
  · rintro ⟨i, hi, t, ht, rfl, rfl⟩
    exact ⟨by omega, by omega, ht⟩
  · rintro ⟨h1, h2, h3⟩
    exact ⟨(b - 1).toNat, by omega, s, by rw [show (((b - 1).toNat : Nat) : Int) + 1 = b by omega]; exact h3, by omega, rfl⟩
theorem sorted_lpart (f : Int → Option Int) (n : Nat) : (lpart f n).Pairwise (fun p q => p.1 < q.1) := by
  induction n with
  | zero => simp [lpart]
  | succ n ih =>
    rw [lpart_succ, List.pairwise_append]
    refine ⟨ih, by cases f ((n : Int) + 1) <;> simp, fun p hp q hq => ?_⟩
    obtain ⟨b, s⟩ := p
    have := mem_lpart.1 hp
    cases hf : f ((n : Int) + 1) with
    | none => rw [hf] at hq; cases hq
    | some t => rw [hf] at hq; simp at hq; subst hq; simp only []; omega
theorem lpart_le (f : Int → Option Int) (n : Nat) : (lpart f n).length ≤ n := by
  have := List.length_filterMap_le (fun i : Nat => (f ((i : Int) + 1)).map fun s => ((i : Int) + 1, s)) (List.range n)
  simpa [lpart] using this
theorem lpart_mono (f : Int → Option Int) {n m : Nat} (h : n ≤ m) : ∃ r, lpart f m = lpart f n ++ r := by
  obtain ⟨k, rfl⟩ := Nat.exists_eq_add_of_le h
  clear h
  induction k with
  | zero => exact ⟨[], by simp⟩
  | succ k ih =>
    obtain ⟨r, hr⟩ := ih
    exact ⟨r ++ _, by rw [← Nat.add_assoc, lpart_succ, hr, List.append_assoc]⟩
theorem mem_lst {ks : List (Int × Int)} {b s : Int} : (b, s) ∈ lst ks ↔ Mn ks b s := by
  unfold lst lstf
  rw [mem_lpart, fo_iff]
  exact ⟨fun h => h.2.2, fun h => ⟨h.2.1.1, by have := h.2.1.2.1; omega, h⟩⟩
theorem sorted_lst (ks : List (Int × Int)) : (lst ks).Pairwise (fun p q => p.1 < q.1) := sorted_lpart (fo ks) 65535
theorem good_lst {ks : List (Int × Int)} {k : Int × Int} (h : k ∈ lst ks) : Gd k.1 k.2 := by obtain ⟨b, s⟩ := k; exact (mem_lst.1 h).2.1
theorem lst_congr {ks ls : List (Int × Int)} (h : ∀ k, k ∈ ks ↔ k ∈ ls) : lst ks = lst ls := by unfold lst; rw [fo_congr h]
theorem rising_unique {l : List (Int × Int)} (h : l.Pairwise (fun p q => p.1 < q.1)) {b s t : Int} (h1 : (b, s) ∈ l) (h2 : (b, t) ∈ l) : s = t := by
  induction l with
  | nil => cases h1
  | cons x l ih =>
    obtain ⟨hx, hl⟩ := List.pairwise_cons.1 h
    rcases List.mem_cons.1 h1 with e1 | e1
    · rcases List.mem_cons.1 h2 with e2 | e2
      · rw [← e1] at e2; simp at e2; exact e2.symm
      · have := hx _ e2; rw [← e1] at this; simp at this
    · rcases List.mem_cons.1 h2 with e2 | e2
      · have := hx _ e1; rw [← e2] at this; simp at this
      · exact ih hl e1 e2
theorem lst_lst (ks : List (Int × Int)) : lst (lst ks) = lst ks := by
  have e : fo (lst ks) = fo ks := by
    funext b
    have q : ∀ s, fo (lst ks) b = some s ↔ fo ks b = some s := fun s => by
      rw [fo_iff, fo_iff]
      exact ⟨fun h => mem_lst.1 h.1, fun h => ⟨mem_lst.2 h, h.2.1, fun t ht _ => by rw [mn_unique h (mem_lst.1 ht)]; exact Int.le_refl _⟩⟩
    cases h1 : fo ks b with
    | none => cases h2 : fo (lst ks) b with
      | none => rfl
      | some s => rw [(q s).1 h2] at h1; cases h1
    | some s => exact (q s).2 h1
  unfold lst at e ⊢; rw [e]
/- Two rising lists with the same members are one. -/
theorem rising_ext : ∀ {l m : List (Int × Int)}, l.Pairwise (fun p q => p.1 < q.1) → m.Pairwise (fun p q => p.1 < q.1) → (∀ k, k ∈ l ↔ k ∈ m) → l = m
  | [], [], _, _, _ => rfl
  | [], y :: m, _, _, h => by have := (h y).2 (by simp); cases this
  | x :: l, [], _, _, h => by have := (h x).1 (by simp); cases this
  | x :: l, y :: m, hl, hm, h => by
    obtain ⟨hx, hl'⟩ := List.pairwise_cons.1 hl
    obtain ⟨hy, hm'⟩ := List.pairwise_cons.1 hm
    have e : x = y := by
      rcases List.mem_cons.1 ((h x).1 (by simp)) with e | e
      · exact e
      · rcases List.mem_cons.1 ((h y).2 (by simp)) with e' | e'
        · exact e'.symm
        · have h1 := hy _ e; have h2 := hx _ e'; omega
    subst e
    rw [rising_ext hl' hm' fun k => ⟨fun hk => ?_, fun hk => ?_⟩]
    · rcases List.mem_cons.1 ((h k).1 (List.mem_cons_of_mem _ hk)) with e | e
      · subst e; have := hx _ hk; omega
      · exact e
    · rcases List.mem_cons.1 ((h k).2 (List.mem_cons_of_mem _ hk)) with e | e
      · subst e; have := hy _ hk; omega
      · exact e
end Go.Proofs.Ytompgoaogomoaaa.Rt
