/- What is had of what was told and seen, on plain data: the least set, its table, and what hangs on it. -/
import Derived.Test.YtompgoaogomoaaaKeyMath
namespace Go.Proofs.Ytompgoaogomoaaa.Kn
open Rt (Gd gd gd_yes gd_no)
set_option linter.unusedVariables false
set_option linter.unusedSimpArgs false

abbrev K2 := Int × Int
abbrev B2 := K2 × K2
/- What is had behind so many rounds of opening. -/
def Hn (T : List K2) (B : List B2) : Nat → K2 → Prop
  | 0, k => Gd k.1 k.2 ∧ (32768 ≤ k.1 ∨ ∃ s, (k.1, s) ∈ T ∧ Gd k.1 s ∧ s ≤ k.2)
  | n + 1, k => Hn T B n k ∨ (Gd k.1 k.2 ∧ ∃ u s, (u, (k.1, s)) ∈ B ∧ Gd k.1 s ∧ s ≤ k.2 ∧ Hn T B n u)
def Had (T : List K2) (B : List B2) (k : K2) : Prop := ∃ n, Hn T B n k
section
variable {T T' : List K2} {B B' : List B2} {k u l : K2} {b s t : Int} {n m : Nat} {f g : Nat → Int}
theorem hn_good : ∀ {n : Nat} {k : K2}, Hn T B n k → Gd k.1 k.2
  | 0, _, h => h.1
  | n + 1, _, .inl h => hn_good h
  | n + 1, _, .inr h => h.1
theorem hn_mono (h : Hn T B n k) (hm : n ≤ m) : Hn T B m k := by
  induction m with
  | zero => obtain rfl : n = 0 := by omega
            exact h
  | succ m ih =>
    rcases Nat.lt_or_ge n (m + 1) with h1 | h1
    · exact .inl (ih (by omega))
    · obtain rfl : n = m + 1 := by omega
      exact h
theorem hn_on : ∀ {n : Nat}, Hn T B n (b, s) → s ≤ t → Gd b t → Hn T B n (b, t)
  | 0, h, hs, hg => ⟨hg, h.2.imp id fun ⟨r, h1, h2, h3⟩ => ⟨r, h1, h2, Int.le_trans h3 hs⟩⟩
  | n + 1, .inl h, hs, hg => .inl (hn_on h hs hg)
  | n + 1, .inr ⟨_, v, r, h1, h2, h3, h4⟩, hs, hg => .inr ⟨hg, v, r, h1, h2, Int.le_trans h3 hs, h4⟩
theorem had_good (h : Had T B k) : Gd k.1 k.2 := h.elim fun _ h => hn_good h
theorem had_own (hg : Gd k.1 k.2) (h : 32768 ≤ k.1) : Had T B k := ⟨0, hg, .inl h⟩
theorem had_told (hg : Gd k.1 k.2) (h : k ∈ T) : Had T B k := ⟨0, hg, .inr ⟨k.2, h, hg, Int.le_refl _⟩⟩
theorem had_on (h : Had T B (b, s)) (hs : s ≤ t) (hg : Gd b t) : Had T B (b, t) := h.elim fun n h => ⟨n, hn_on h hs hg⟩
theorem had_box (h : (u, l) ∈ B) (hg : Gd l.1 l.2) (hu : Had T B u) : Had T B l := hu.elim fun n hn => ⟨n + 1, .inr ⟨hg, u, l.2, h, hg, Int.le_refl _, hn⟩⟩
/- The least of what is closed so. -/
theorem had_least {P : K2 → Prop} (h1 : ∀ k : K2, Gd k.1 k.2 → 32768 ≤ k.1 → P k) (h2 : ∀ k : K2, Gd k.1 k.2 → k ∈ T → P k) (h3 : ∀ b s t, P (b, s) → s ≤ t → Gd b t → P (b, t)) (h4 : ∀ u l : K2, (u, l) ∈ B → Gd l.1 l.2 → Had T B u → P u → P l) (h : Had T B k) : P k := by
  obtain ⟨n, hn⟩ := h
  induction n generalizing k with
  | zero =>
    obtain ⟨hg, h | ⟨s, hm, hs, hle⟩⟩ := hn
    · exact h1 k hg h
    · exact h3 k.1 s k.2 (h2 (k.1, s) hs hm) hle hg
  | succ n ih =>
    rcases hn with h | ⟨hg, u, s, hm, hs, hle, hu⟩
    · exact ih h
    · exact h3 k.1 s k.2 (h4 u (k.1, s) hm hs ⟨n, hu⟩ (ih hu)) hle hg
/- It hangs on the sets alone, and grows with them. -/
theorem had_sub (hT : ∀ k : K2, Gd k.1 k.2 → k ∈ T → Had T' B' k) (hB : ∀ u l : K2, (u, l) ∈ B → Gd u.1 u.2 → Gd l.1 l.2 → (u, l) ∈ B') (h : Had T B k) : Had T' B' k :=
  had_least (P := Had T' B') (fun k hg h => had_own hg h) hT (fun b s t h hs hg => had_on h hs hg) (fun u l hm hg hu h => had_box (hB u l hm (had_good hu) hg) hg h) h
theorem had_congr (h1 : ∀ k : K2, Gd k.1 k.2 → (k ∈ T ↔ k ∈ T')) (h2 : ∀ u l : K2, Gd u.1 u.2 → Gd l.1 l.2 → ((u, l) ∈ B ↔ (u, l) ∈ B')) : Had T B k ↔ Had T' B' k :=
  ⟨had_sub (fun k hg h => had_told hg ((h1 k hg).1 h)) fun u l h hu hl => (h2 u l hu hl).1 h, had_sub (fun k hg h => had_told hg ((h1 k hg).2 h)) fun u l h hu hl => (h2 u l hu hl).2 h⟩
/- Nothing out of nothing: told, or the load of a box whose under is had without that box. -/
theorem hn_without {x : K2} {p : B2} (hp : p.2.1 = x.1 ∧ p.2.2 ≤ x.2) (hx : Gd x.1 x.2) : ∀ {m : Nat} {k : K2}, ¬ Hn T B m x → Hn T B m k → Hn T (B.filter fun q => decide (q ≠ p)) m k
  | 0, k, _, h => h
  | m + 1, k, hn, .inl h => .inl (hn_without hp hx (fun h => hn (.inl h)) h)
  | m + 1, k, hn, .inr ⟨hg, u, s, hm, hs, hle, hu⟩ => by
    refine .inr ⟨hg, u, s, List.mem_filter.2 ⟨hm, ?_⟩, hs, hle, hn_without hp hx (fun h => hn (.inl h)) hu⟩
    rw [decide_eq_true_iff]
    intro he
    refine hn (.inr ⟨hx, u, p.2.2, ?_, ?_, hp.2, hu⟩)
    · rw [← hp.1]; rw [he] at hm; have := hm; rw [← he] at this; simpa [← he] using hm
    · rw [← hp.1, ← he]; exact hs
theorem had_without {x : K2} (h : Had T B x) (hx : x.1 < 32768) : (∃ s, (x.1, s) ∈ T ∧ Gd x.1 s ∧ s ≤ x.2) ∨ ∃ u s, (u, (x.1, s)) ∈ B ∧ Gd x.1 s ∧ s ≤ x.2 ∧ Had T (B.filter fun q => decide (q ≠ (u, (x.1, s)))) u := by
  obtain ⟨n, hn⟩ := h
  induction n with
  | zero =>
    obtain ⟨hg, h | h⟩ := hn
    · omega
    · exact .inl h
  | succ n ih =>
    by_cases h0 : Hn T B n x
    · exact ih h0
    · rcases hn with h | ⟨hg, u, s, hm, hs, hle, hu⟩
      · exact absurd h h0
      · exact .inr ⟨u, s, hm, hs, hle, n, hn_without (x := x) (p := (u, (x.1, s))) ⟨rfl, hle⟩ hg h0 hu⟩
/- The table: of each of the server's names the least step, and one more; 0 says none. -/
def wtv (v : Int) : Nat := if v = 0 then 257 else v.toNat
def inT (f : Nat → Int) (k : K2) : Bool := gd k.1 k.2 && (decide (32768 ≤ k.1) || (!decide (f k.1.toNat = 0) && decide (f k.1.toNat - 1 ≤ k.2)))
def upT (f : Nat → Int) (b : Nat) (v : Int) : Nat → Int := fun i => if i = b then v else f i
def Low (f : Nat → Int) (k : K2) : Prop := ¬ f k.1.toNat = 0 ∧ f k.1.toNat - 1 ≤ k.2
structure Snd (T : List K2) (B : List B2) (f : Nat → Int) : Prop where
  out : ∀ b, f b = 0 ∨ (b < 32768 ∧ 1 ≤ f b ∧ f b ≤ 256 ∧ Had T B ((b : Int), f b - 1))
structure Tab (T : List K2) (B : List B2) (f : Nat → Int) : Prop where
  snd : Snd T B f
  low : ∀ k : K2, Had T B k → k.1 < 32768 → Low f k
theorem gd_iff : gd b s = true ↔ Gd b s := by
  refine ⟨fun h => ?_, gd_yes⟩
  by_cases hg : Gd b s
  · exact hg
  · rw [gd_no hg] at h; cases h
theorem inT_iff : inT f k = true ↔ Gd k.1 k.2 ∧ (32768 ≤ k.1 ∨ Low f k) := by
  unfold inT Low
  rw [Bool.and_eq_true, Bool.or_eq_true, Bool.and_eq_true, gd_iff]
  simp
theorem snd_in (h : Snd T B f) (hi : inT f k = true) : Had T B k := by
  obtain ⟨hg, h1 | ⟨h1, h2⟩⟩ := inT_iff.1 hi
  · exact had_own hg h1
  · rcases h.out k.1.toNat with h3 | ⟨h3, h4, h5, h6⟩
    · exact absurd h3 h1
    · have hb : ((k.1.toNat : Nat) : Int) = k.1 := Int.toNat_of_nonneg (by have := hg.1; omega)
      rw [hb] at h6
      exact had_on (b := k.1) (t := k.2) h6 h2 hg
theorem Tab.iff (h : Tab T B f) : inT f k = true ↔ Had T B k :=
  ⟨snd_in h.snd, fun hk => inT_iff.2 ⟨had_good hk, by rcases Int.lt_or_le k.1 32768 with h1 | h1; exact .inr (h.low k hk h1); exact .inl h1⟩⟩
theorem Tab.eq (h : Tab T B f) (h' : Tab T' B' g) (hc : ∀ k : K2, Had T B k ↔ Had T' B' k) : f = g := by
  funext b
  have one : ∀ {T T' : List K2} {B B' : List B2} {f g : Nat → Int}, Tab T B f → Tab T' B' g → (∀ k : K2, Had T B k → Had T' B' k) → f b ≠ 0 → g b ≠ 0 ∧ g b ≤ f b := by
    intro T T' B B' f g h h' hc h0
    rcases h.snd.out b with h1 | ⟨h1, h2, h3, h4⟩
    · exact absurd h1 h0
    · obtain ⟨h5, h6⟩ := h'.low _ (hc _ h4) (by show (b : Int) < 32768; omega)
      have e : ((b : Int)).toNat = b := by omega
      dsimp only at h5 h6
      rw [e] at h5 h6
      exact ⟨h5, by omega⟩
  by_cases h0 : f b = 0
  · by_cases h1 : g b = 0
    · rw [h0, h1]
    · exact absurd h0 (one h' h (fun k => (hc k).2) h1).1
  · have h1 := one h h' (fun k => (hc k).1) h0
    have h2 := one h' h (fun k => (hc k).2) h1.1
    omega
theorem Snd.zero : Snd T B fun _ => 0 := ⟨fun _ => .inl rfl⟩
theorem Snd.put (h : Snd T B f) (hk : Had T B k) (hb : k.1 < 32768) : Snd T B (upT f k.1.toNat (k.2 + 1)) := by
  have hg := had_good hk
  refine ⟨fun b => ?_⟩
  unfold upT
  split
  · rename_i e
    subst e
    have e : ((k.1.toNat : Nat) : Int) = k.1 := Int.toNat_of_nonneg (by have := hg.1; omega)
    refine .inr ⟨by have := hg.1; omega, by have := hg.2.2.1; omega, by have := hg.2.2.2; omega, ?_⟩
    rw [e, show k.2 + 1 - 1 = k.2 by omega]
    exact hk
  · exact h.out b
theorem Low.put (h : Low f k) {l : K2} (hl : f l.1.toNat = 0 ∨ l.2 + 1 < f l.1.toNat) (h0 : 0 ≤ l.2) : Low (upT f l.1.toNat (l.2 + 1)) k := by
  unfold Low upT at *
  split
  · rename_i e
    rw [e] at h
    omega
  · exact h
theorem Low.own {l : K2} (h0 : 0 ≤ l.2) : Low (upT f l.1.toNat (l.2 + 1)) l := by
  unfold Low upT
  rw [if_pos rfl]
  omega
theorem low_not {l : K2} (h : ¬ (f l.1.toNat = 0 ∨ l.2 + 1 < f l.1.toNat)) : Low f l := by unfold Low; omega
theorem Tab.of (h : Snd T B f) (h1 : ∀ k ∈ T, Gd k.1 k.2 → k.1 < 32768 → Low f k) (h2 : ∀ u l : K2, (u, l) ∈ B → Gd u.1 u.2 → Gd l.1 l.2 → inT f u = true → l.1 < 32768 → Low f l) : Tab T B f := by
  refine ⟨h, fun k hk hb => ?_⟩
  have q : inT f k = true := by
    refine had_least (T := T) (B := B) (P := fun k => inT f k = true) (fun k hg h => inT_iff.2 ⟨hg, .inl h⟩) (fun k hg h => ?_) (fun b s t h hs hg => ?_) (fun u l hm hg hu h => ?_) hk
    · rcases Int.lt_or_le k.1 32768 with h3 | h3
      · exact inT_iff.2 ⟨hg, .inr (h1 k h hg h3)⟩
      · exact inT_iff.2 ⟨hg, .inl h3⟩
    · obtain ⟨q1, q2 | q2⟩ := inT_iff.1 h
      · exact inT_iff.2 ⟨hg, .inl q2⟩
      · exact inT_iff.2 ⟨hg, .inr ⟨q2.1, Int.le_trans q2.2 hs⟩⟩
    · rcases Int.lt_or_le l.1 32768 with h3 | h3
      · exact inT_iff.2 ⟨hg, .inr (h2 u l hm (had_good hu) hg h h3)⟩
      · exact inT_iff.2 ⟨hg, .inl h3⟩
  obtain ⟨_, q2 | q2⟩ := inT_iff.1 q
  · omega
  · exact q2
/- What is still to come of a table. -/
def mz (f : Nat → Int) : Nat → Nat
  | 0 => 0
  | n + 1 => mz f n + wtv (f n)
theorem mz_far {v : Int} {b : Nat} : ∀ {n : Nat}, n ≤ b → mz (upT f b v) n = mz f n
  | 0, _ => rfl
  | n + 1, h => by
    have e : upT f b v n = f n := if_neg (by omega)
    show mz (upT f b v) n + wtv (upT f b v n) = mz f n + wtv (f n)
    rw [mz_far (by omega), e]
theorem mz_put {v : Int} {b : Nat} (h : f b = 0 ∨ v < f b) (h1 : 1 ≤ v) (h2 : v ≤ 256) : ∀ {n : Nat}, b < n → mz (upT f b v) n < mz f n
  | 0, h0 => absurd h0 (by omega)
  | n + 1, h0 => by
    show mz (upT f b v) n + wtv (upT f b v n) < mz f n + wtv (f n)
    by_cases e : n = b
    · subst e
      have e1 : upT f n v n = v := if_pos rfl
      rw [mz_far (Nat.le_refl _), e1]
      unfold wtv
      split <;> split <;> omega
    · have e1 : upT f b v n = f n := if_neg e
      have := mz_put h h1 h2 (n := n) (by omega)
      rw [e1]
      omega
theorem mz_congr : ∀ {n : Nat}, (∀ i, i < n → f i = g i) → mz f n = mz g n
  | 0, _ => rfl
  | n + 1, h => by
    show mz f n + wtv (f n) = mz g n + wtv (g n)
    rw [mz_congr fun i hi => h i (by omega), h n (by omega)]
/- The keys of a table. -/
def keysT (f : Nat → Int) : Nat → List K2
  | 0 => []
  | n + 1 => keysT f n ++ (if n = 0 ∨ f n = 0 then [] else [((n : Int), f n - 1)])
theorem keysT_len : ∀ n : Nat, (keysT f n).length ≤ n
  | 0 => Nat.le_refl _
  | n + 1 => by
    have := keysT_len n
    show (keysT f n ++ (if n = 0 ∨ f n = 0 then [] else [((n : Int), f n - 1)])).length ≤ n + 1
    rw [List.length_append]
    split <;> simp <;> omega
theorem mem_keysT {x : K2} : ∀ {n : Nat}, x ∈ keysT f n ↔ ∃ i : Nat, 1 ≤ i ∧ i < n ∧ ¬ f i = 0 ∧ x = ((i : Int), f i - 1)
  | 0 => by simp [keysT]
  | n + 1 => by
    unfold keysT
    rw [List.mem_append, mem_keysT (n := n)]
    constructor
    · rintro (⟨i, h1, h2, h3, h4⟩ | h)
      · exact ⟨i, h1, by omega, h3, h4⟩
      · split at h
        · cases h
        · rename_i h0
          rw [List.mem_singleton] at h
          exact ⟨n, by omega, by omega, by omega, h⟩
    · rintro ⟨i, h1, h2, h3, h4⟩
      rcases Nat.lt_or_ge i n with h5 | h5
      · exact .inl ⟨i, h1, h5, h3, h4⟩
      · obtain rfl : i = n := by omega
        rw [if_neg (by omega)]
        exact .inr (List.mem_singleton.2 h4)
end
end Go.Proofs.Ytompgoaogomoaaa.Kn
