/- The people of a roster on plain data. -/
import Derived.Test.YtieagbjempndnaaDoorRsMath6
import Derived.Test.YtieagbjempndnaaDoorStI
import Derived.Lib.SlicesCompact
namespace Go.Proofs.YtieagbjempndnaaDoor
set_option linter.unusedVariables false
set_option linter.unusedSimpArgs false

/- Who is on, in the slots' order. -/
def wl (f : Nat → En) : Nat → List Int
  | 0 => []
  | k + 1 => if tkn (f k) then wl f k ++ [(f k).who] else wl f k
theorem wl_len (f : Nat → En) : ∀ k, (wl f k).length ≤ k
  | 0 => by simp [wl]
  | k + 1 => by
    have := wl_len f k
    unfold wl
    split
    · simp; omega
    · omega
theorem mem_wl {f : Nat → En} {x : Int} : ∀ {k : Nat}, x ∈ wl f k ↔ ∃ i, i < k ∧ tkn (f i) = true ∧ (f i).who = x
  | 0 => by simp [wl]
  | k + 1 => by
    have ih := mem_wl (f := f) (x := x) (k := k)
    unfold wl
    cases ht : tkn (f k) with
    | true =>
      rw [if_pos rfl, List.mem_append, ih]
      constructor
      · rintro (⟨i, h1, h2, h3⟩ | h)
        · exact ⟨i, by omega, h2, h3⟩
        · exact ⟨k, by omega, ht, (List.mem_singleton.1 h).symm⟩
      · rintro ⟨i, h1, h2, h3⟩
        by_cases e : i = k
        · subst e; right; simp [h3]
        · left; exact ⟨i, by omega, h2, h3⟩
    | false =>
      rw [if_neg (by simp), ih]
      constructor
      · rintro ⟨i, h1, h2, h3⟩; exact ⟨i, by omega, h2, h3⟩
      · rintro ⟨i, h1, h2, h3⟩
        by_cases e : i = k
        · subst e; rw [ht] at h2; cases h2
        · exact ⟨i, by omega, h2, h3⟩
/- Sorted, each once. -/
def leI (x y : Int) : Bool := decide (x ≤ y)
def srt (f : Nat → En) : List Int := (wl f 64).mergeSort fun x y => decide (x ≤ y)
def ppl (f : Nat → En) : List Int := Lib.compact (srt f)
theorem srt_pw (f : Nat → En) : (srt f).Pairwise (· ≤ ·) := by
  have h := List.pairwise_mergeSort (le := fun x y : Int => decide (x ≤ y)) (fun a b c h1 h2 => by simp at h1 h2 ⊢; omega) (fun a b => by simp; omega) (wl f 64)
  rw [List.pairwise_iff_getElem] at h ⊢
  intro i j hi hj hij
  exact of_decide_eq_true (h i j hi hj hij)
theorem srt_perm (f : Nat → En) : (srt f).Perm (wl f 64) := List.mergeSort_perm _ _
theorem srt_len (f : Nat → En) : (srt f).length = (wl f 64).length := (srt_perm f).length_eq
theorem srt_le {f : Nat → En} {i j : Nat} (hij : i ≤ j) (hj : j < (srt f).length) : (srt f).toArray[i]! ≤ (srt f).toArray[j]! := by
  rw [getElem!_pos _ i (by simp; omega), getElem!_pos _ j (by simp; omega)]
  by_cases e : i = j
  · subst e; exact Int.le_refl _
  · exact List.pairwise_iff_getElem.1 (srt_pw f) i j (by omega) hj (by omega)
theorem compact_facts (f : Nat → En) : ∀ m, m ≤ (srt f).length → (Lib.compactUpTo (srt f).toArray m).Pairwise (· < ·) ∧ ∀ x, x ∈ Lib.compactUpTo (srt f).toArray m ↔ ∃ j, j < m ∧ (srt f).toArray[j]! = x
  | 0, _ => by
    refine ⟨by simp [Lib.compactUpTo], fun x => ?_⟩
    simp [Lib.compactUpTo]
  | m + 1, hm => by
    obtain ⟨h1, h2⟩ := compact_facts f m (by omega)
    rw [Lib.compactUpTo_succ]
    cases hk : Lib.keeps (srt f).toArray m with
    | true =>
      rw [if_pos rfl]
      refine ⟨?_, fun x => ?_⟩
      · rw [List.pairwise_append]
        refine ⟨h1, by simp, fun a ha b hb => ?_⟩
        rw [List.mem_singleton] at hb
        subst hb
        obtain ⟨j, hj, rfl⟩ := (h2 a).1 ha
        have h3 : (srt f).toArray[m]! ≠ (srt f).toArray[m - 1]! := by
          unfold Lib.keeps at hk
          rcases (of_decide_eq_true hk) with e | e
          · omega
          · exact e
        have h4 := srt_le (f := f) (i := j) (j := m - 1) (by omega) (by omega)
        have h5 := srt_le (f := f) (i := m - 1) (j := m) (by omega) (by omega)
        omega
      · rw [List.mem_append, h2, List.mem_singleton]
        constructor
        · rintro (⟨j, hj, e⟩ | e)
          · exact ⟨j, by omega, e⟩
          · exact ⟨m, by omega, e.symm⟩
        · rintro ⟨j, hj, e⟩
          by_cases hjm : j = m
          · subst hjm; right; exact e.symm
          · left; exact ⟨j, by omega, e⟩
    | false =>
      rw [if_neg (by simp), List.append_nil]
      refine ⟨h1, fun x => ?_⟩
      rw [h2]
      constructor
      · rintro ⟨j, hj, e⟩; exact ⟨j, by omega, e⟩
      · rintro ⟨j, hj, e⟩
        by_cases hjm : j = m
        · subst hjm
          unfold Lib.keeps at hk
          have h3 := of_decide_eq_false hk
          have h4 : j ≠ 0 := fun e => h3 (.inl e)
          have h5 : (srt f).toArray[j]! = (srt f).toArray[j - 1]! := Classical.byContradiction fun e => h3 (.inr e)
          exact ⟨j - 1, by omega, by rw [← h5]; exact e⟩
        · exact ⟨j, by omega, e⟩
theorem ppl_pw (f : Nat → En) : (ppl f).Pairwise (· < ·) := (compact_facts f _ (Nat.le_refl _)).1
theorem mem_ppl {f : Nat → En} {x : Int} : x ∈ ppl f ↔ ∃ i, i < 64 ∧ tkn (f i) = true ∧ (f i).who = x := by
  show x ∈ Lib.compactUpTo (srt f).toArray (srt f).length ↔ _
  rw [(compact_facts f _ (Nat.le_refl _)).2 x, ← mem_wl, ← (srt_perm f).mem_iff]
  constructor
  · rintro ⟨j, hj, e⟩
    rw [← e, getElem!_pos _ j (by simpa using hj)]
    simp
  · intro h
    obtain ⟨j, hj, e⟩ := List.getElem_of_mem h
    exact ⟨j, hj, by rw [getElem!_pos _ j (by simpa using hj)]; simpa using e⟩
theorem filter_len (p : Nat → Bool) : ∀ l : List Nat, (l.filter p).length ≤ l.length := fun l => List.length_filter_le p l
theorem ppl_len_le (f : Nat → En) : (ppl f).length ≤ (srt f).length := by
  show (((List.range (srt f).length).filter _).map _).length ≤ _
  rw [List.length_map]
  have := filter_len (Lib.keeps (srt f).toArray) (List.range (srt f).length)
  simpa using this
theorem ppl_len (f : Nat → En) : (ppl f).length ≤ 64 := Nat.le_trans (ppl_len_le f) (by rw [srt_len]; exact wl_len f 64)
/- Whoever is told next. -/
def elg (f : Nat → En) (k j : Nat) : Bool := tkn (f j) && (decide (k = 0) || decide ((ppl f).getD (k - 1) 0 < (f j).who))
theorem ppl_lt {f : Nat → En} {i j : Nat} (hij : i < j) (hj : j < (ppl f).length) : (ppl f).getD i 0 < (ppl f).getD j 0 := by
  have := List.pairwise_iff_getElem.1 (ppl_pw f) i j (by omega) hj hij
  rwa [List.getD_eq_getElem?_getD, List.getElem?_eq_getElem (by omega), List.getD_eq_getElem?_getD, List.getElem?_eq_getElem (by omega)]
theorem elg_at {f : Nat → En} {k j : Nat} (hj : j < 64) (hk : k ≤ (ppl f).length) (h : elg f k j = true) : ∃ m, k ≤ m ∧ m < (ppl f).length ∧ (ppl f).getD m 0 = (f j).who := by
  simp only [elg, Bool.and_eq_true, Bool.or_eq_true, decide_eq_true_eq] at h
  obtain ⟨m, hm, e⟩ := List.getElem_of_mem (mem_ppl.2 ⟨j, hj, h.1, rfl⟩ : (f j).who ∈ ppl f)
  have e2 : (ppl f).getD m 0 = (f j).who := by rw [List.getD_eq_getElem?_getD, List.getElem?_eq_getElem hm]; exact e
  refine ⟨m, ?_, hm, e2⟩
  rcases h.2 with h0 | h0
  · omega
  · rcases Nat.lt_or_ge m k with g | g
    · have : (ppl f).getD m 0 ≤ (ppl f).getD (k - 1) 0 := by
        by_cases e3 : m = k - 1
        · rw [e3]; exact Int.le_refl _
        · exact Int.le_of_lt (ppl_lt (by omega) (by omega))
      omega
    · exact g
theorem elg_of {f : Nat → En} {k : Nat} (hk : k < (ppl f).length) : ∃ j, j < 64 ∧ elg f k j = true ∧ (f j).who = (ppl f).getD k 0 := by
  have hm : (ppl f).getD k 0 ∈ ppl f := by rw [List.getD_eq_getElem?_getD, List.getElem?_eq_getElem hk]; exact List.getElem_mem _
  obtain ⟨j, hj, ht, e⟩ := mem_ppl.1 hm
  refine ⟨j, hj, ?_, e⟩
  simp only [elg, Bool.and_eq_true, Bool.or_eq_true, decide_eq_true_eq]
  refine ⟨ht, ?_⟩
  by_cases h0 : k = 0
  · exact .inl h0
  · right; rw [e]; exact ppl_lt (by omega) hk
theorem elg_none {f : Nat → En} {k : Nat} (hk : k ≤ (ppl f).length) (h : ∀ j, j < 64 → elg f k j = false) : k = (ppl f).length := by
  rcases Nat.lt_or_ge k (ppl f).length with g | g
  · obtain ⟨j, hj, he, _⟩ := elg_of g
    rw [h j hj] at he
    cases he
  · omega
theorem elg_least {f : Nat → En} {k b : Nat} (hk : k ≤ (ppl f).length) (hb : b < 64) (he : elg f k b = true) (h : ∀ j, j < 64 → elg f k j = true → (f b).who ≤ (f j).who) : k < (ppl f).length ∧ (f b).who = (ppl f).getD k 0 := by
  obtain ⟨m, h1, h2, h3⟩ := elg_at hb hk he
  have hk2 : k < (ppl f).length := by omega
  refine ⟨hk2, ?_⟩
  obtain ⟨j, hj, ej, e⟩ := elg_of hk2
  have h4 := h j hj ej
  by_cases e2 : m = k
  · subst e2; exact h3.symm
  · have := ppl_lt (f := f) (i := k) (j := m) (by omega) h2
    omega
/- As many as are on. -/
theorem wl_cnt (f : Nat → En) : ∀ k, k ≤ 64 → (wl f k).length = (bf (tk f) 0 k).length
  | 0, _ => rfl
  | k + 1, hk => by
    have ih := wl_cnt f k (by omega)
    rw [bf_snoc, List.length_append, ← ih, Nat.zero_add, tk_bit f (show k < 64 by omega), show wl f (k + 1) = if tkn (f k) then wl f k ++ [(f k).who] else wl f k from rfl]
    split <;> simp
theorem wl_nodup {f : Nat → En} (h : Rt f) : ∀ k, k ≤ 64 → (wl f k).Nodup
  | 0, _ => by simp [wl]
  | k + 1, hk => by
    have ih := wl_nodup h k (by omega)
    unfold wl
    split
    · rename_i ht
      rw [List.nodup_append]
      refine ⟨ih, by simp, fun a ha b hb e => ?_⟩
      rw [List.mem_singleton] at hb
      obtain ⟨i, h1, h2, h3⟩ := mem_wl.1 ha
      have := h.same (show i < 64 by omega) (show k < 64 by omega) (x := a) (by simp [at', h2, h3]) (by simp [at', ht]; rw [e, hb])
      omega
    · exact ih
theorem ppl_cnt {f : Nat → En} (h : Rt f) : (ppl f).length = cnt f := by
  have hn : (srt f).Nodup := (srt_perm f).nodup_iff.2 (wl_nodup h 64 (Nat.le_refl _))
  have ha : ppl f = srt f := by
    unfold ppl
    apply Lib.compact_all
    intro j hj
    unfold Lib.keeps
    refine decide_eq_true ?_
    by_cases e : j = 0
    · exact .inl e
    · refine .inr ?_
      rw [getElem!_pos _ j (by simpa using hj), getElem!_pos _ (j - 1) (by simp; omega)]
      intro e2
      exact List.pairwise_iff_getElem.1 hn (j - 1) j (by omega) hj (by omega) (by simpa using e2.symm)
  rw [ha, srt_len, wl_cnt f 64 (Nat.le_refl _)]
  rfl
end Go.Proofs.YtieagbjempndnaaDoor
