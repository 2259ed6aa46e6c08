/- The program's know on plain data: a table, the boxes that are still shut, a list of keys to be looked at. -/
import Derived.Test.YtompgoaogomoaaaKnG
namespace Go.Proofs.Ytompgoaogomoaaa.Kn
open Rt (Gd gd gd_yes gd_no)
set_option linter.unusedVariables false
set_option linter.unusedSimpArgs false

theorem gb_iff2 {u l : K2} : gb (u, l) = true ↔ Gd u.1 u.2 ∧ Gd l.1 l.2 := by unfold gb; rw [Bool.and_eq_true, gd_iff, gd_iff]
/- How it stands while keys are still to be looked at. -/
structure Wk (T : List K2) (B : List B2) (f : Nat → Int) (pd : List B2) (ls : List K2) : Prop where
  snd : Snd T B f
  pin : ∀ p ∈ pd, p ∈ B ∧ gb p = true ∧ inT f p.1 = false
  nd : pd.Nodup
  lin : ∀ k ∈ ls, Had T B k
  told : ∀ k ∈ T, Gd k.1 k.2 → inT f k = true ∨ k ∈ ls
  cl : ∀ p ∈ B, gb p = true → p ∈ pd ∨ (inT f p.1 = true ∧ (inT f p.2 = true ∨ p.2 ∈ ls))
section
variable {T : List K2} {B : List B2} {f : Nat → Int} {pd : List B2} {ls new : List K2} {k : K2} {b : B2}
theorem Wk.tab (h : Wk T B f pd []) : Tab T B f := by
  refine Tab.of h.snd (fun k hk hg hb => ?_) (fun u l hm hu hl hi hb => ?_)
  · rcases h.told k hk hg with h1 | h1
    · obtain ⟨_, q | q⟩ := inT_iff.1 h1
      · omega
      · exact q
    · cases h1
  · rcases h.cl (u, l) hm (gb_iff2.2 ⟨hu, hl⟩) with h1 | ⟨_, h1 | h1⟩
    · have := (h.pin _ h1).2.2
      dsimp only at this
      rw [hi] at this
      cases this
    · obtain ⟨_, q | q⟩ := inT_iff.1 h1
      · dsimp only at q; omega
      · exact q
    · cases h1
theorem Wk.empty : Wk [] [] (fun _ => 0) [] [] := ⟨Snd.zero, by simp, .nil, by simp, by simp, by simp⟩
theorem Wk.drop (h : Wk T B f pd (ls ++ [k])) (hk : inT f k = true) : Wk T B f pd ls := by
  refine ⟨h.snd, h.pin, h.nd, fun x hx => h.lin x (List.mem_append.2 (.inl hx)), fun x hx hg => ?_, fun p hp hg => ?_⟩
  · rcases h.told x hx hg with q | q
    · exact .inl q
    · rcases List.mem_append.1 q with q | q
      · exact .inr q
      · rw [List.mem_singleton] at q; subst q; exact .inl hk
  · rcases h.cl p hp hg with q | ⟨q, r⟩
    · exact .inl q
    · refine .inr ⟨q, ?_⟩
      rcases r with r | r
      · exact .inl r
      · rcases List.mem_append.1 r with r | r
        · exact .inr r
        · rw [List.mem_singleton] at r; rw [r]; exact .inl hk
theorem Wk.good (h : Wk T B f pd (ls ++ [k])) (hk : inT f k = false) : Gd k.1 k.2 ∧ k.1 < 32768 ∧ (f k.1.toNat = 0 ∨ k.2 + 1 < f k.1.toNat) := by
  have hg := had_good (h.lin k (List.mem_append.2 (.inr (List.mem_singleton.2 rfl))))
  have h1 : k.1 < 32768 := by
    rcases Int.lt_or_le k.1 32768 with q | q
    · exact q
    · rw [inT_iff.2 ⟨hg, .inl q⟩] at hk; cases hk
  refine ⟨hg, h1, ?_⟩
  by_cases q : f k.1.toNat = 0 ∨ k.2 + 1 < f k.1.toNat
  · exact q
  · rw [inT_iff.2 ⟨hg, .inr (low_not q)⟩] at hk; cases hk
theorem inT_put (h : f k.1.toNat = 0 ∨ k.2 + 1 < f k.1.toNat) (h0 : 0 ≤ k.2) {x : K2} (hx : inT f x = true) : inT (upT f k.1.toNat (k.2 + 1)) x = true := by
  obtain ⟨q, r⟩ := inT_iff.1 hx
  exact inT_iff.2 ⟨q, r.imp id fun r => Low.put r h h0⟩
/- Which boxes a key opens among those that are shut. -/
def opn (k : K2) (p : B2) : Bool := decide (p.1.1 = k.1) && decide (k.2 ≤ p.1.2)
theorem inT_open (h1 : Gd k.1 k.2) (h : f k.1.toNat = 0 ∨ k.2 + 1 < f k.1.toNat) {x : K2} (hx : Gd x.1 x.2) (hn : inT f x = false) : inT (upT f k.1.toNat (k.2 + 1)) x = (decide (x.1 = k.1) && decide (k.2 ≤ x.2)) := by
  rw [Bool.eq_iff_iff, inT_iff, Bool.and_eq_true, decide_eq_true_iff, decide_eq_true_iff]
  have hb := h1.1
  have hx1 := hx.1
  have hz := h1.2.2.1
  constructor
  · rintro ⟨_, q | q⟩
    · rw [inT_iff.2 ⟨hx, .inl q⟩] at hn; cases hn
    · unfold Low upT at q
      by_cases e : x.1.toNat = k.1.toNat
      · rw [if_pos e] at q; omega
      · rw [if_neg e] at q
        rw [inT_iff.2 ⟨hx, .inr q⟩] at hn; cases hn
  · rintro ⟨e, q⟩
    refine ⟨hx, .inr ?_⟩
    unfold Low upT
    rw [if_pos (by rw [e])]
    omega
theorem Wk.take (h : Wk T B f pd (ls ++ [k])) (hk : inT f k = false) (hn : ∀ l, l ∈ new ↔ ∃ u, (u, l) ∈ pd ∧ opn k (u, l) = true) : Wk T B (upT f k.1.toNat (k.2 + 1)) (pd.filter fun p => !opn k p) (ls ++ new) := by
  obtain ⟨hg, hb, hf⟩ := h.good hk
  have hh := h.lin k (List.mem_append.2 (.inr (List.mem_singleton.2 rfl)))
  have hme : inT (upT f k.1.toNat (k.2 + 1)) k = true := inT_iff.2 ⟨hg, .inr (Low.own hg.2.2.1)⟩
  have up : ∀ {x : K2}, inT f x = true → inT (upT f k.1.toNat (k.2 + 1)) x = true := fun hx => inT_put hf hg.2.2.1 hx
  refine ⟨h.snd.put hh hb, fun p hp => ?_, h.nd.sublist List.filter_sublist, fun x hx => ?_, fun x hx hx2 => ?_, fun p hp hp2 => ?_⟩
  · obtain ⟨h1, h2⟩ := List.mem_filter.1 hp
    obtain ⟨q1, q2, q3⟩ := h.pin p h1
    refine ⟨q1, q2, ?_⟩
    have hgu : Gd p.1.1 p.1.2 := (gb_iff2 (u := p.1) (l := p.2)).1 q2 |>.1
    rw [inT_open hg hf hgu q3]
    have h2 : opn k p = false := by simpa using h2
    exact h2
  · rcases List.mem_append.1 hx with q | q
    · exact h.lin x (List.mem_append.2 (.inl q))
    · obtain ⟨u, q1, q2⟩ := (hn x).1 q
      obtain ⟨r1, r2, r3⟩ := h.pin _ q1
      obtain ⟨g1, g2⟩ := gb_iff2.1 r2
      unfold opn at q2
      rw [Bool.and_eq_true, decide_eq_true_iff, decide_eq_true_iff] at q2
      dsimp only at q2
      refine had_box r1 g2 ?_
      have : Had T B (k.1, u.2) := had_on (b := k.1) (s := k.2) hh q2.2 (by rw [← q2.1]; exact g1)
      rw [← q2.1] at this
      exact this
  · rcases h.told x hx hx2 with q | q
    · exact .inl (up q)
    · rcases List.mem_append.1 q with q | q
      · exact .inr (List.mem_append.2 (.inl q))
      · rw [List.mem_singleton] at q; rw [q]; exact .inl hme
  · rcases h.cl p hp hp2 with q | ⟨q, r⟩
    · cases ho : opn k p with
      | false => exact .inl (List.mem_filter.2 ⟨q, by rw [ho]; rfl⟩)
      | true =>
        obtain ⟨q1, q2, q3⟩ := h.pin p q
        have hgu : Gd p.1.1 p.1.2 := (gb_iff2 (u := p.1) (l := p.2)).1 q2 |>.1
        refine .inr ⟨by rw [inT_open hg hf hgu q3]; exact ho, .inr (List.mem_append.2 (.inr ((hn p.2).2 ⟨p.1, q, ho⟩)))⟩
    · refine .inr ⟨up q, ?_⟩
      rcases r with r | r
      · exact .inl (up r)
      · rcases List.mem_append.1 r with r | r
        · exact .inr (List.mem_append.2 (.inl r))
        · rw [List.mem_singleton] at r; rw [r]; exact .inl hme
/- A key that is told; a box that is seen. -/
theorem hadQ {T' : List K2} {B' : List B2} (h1 : ∀ k ∈ T, k ∈ T') (h2 : ∀ p ∈ B, p ∈ B') {x : K2} (h : Had T B x) : Had T' B' x := had_sub (fun k hg hk => had_told hg (h1 k hk)) (fun u l hm _ _ => h2 _ hm) h
theorem snd_more {T' : List K2} {B' : List B2} (h1 : ∀ k ∈ T, k ∈ T') (h2 : ∀ p ∈ B, p ∈ B') (h : Snd T B f) : Snd T' B' f := ⟨fun b => (h.out b).imp id fun ⟨q1, q2, q3, q4⟩ => ⟨q1, q2, q3, hadQ h1 h2 q4⟩⟩
theorem Wk.tell (h : Wk T B f pd []) (hg : Gd k.1 k.2) : Wk (T ++ [k]) B f pd ([] ++ [k]) := by
  have s1 : ∀ x ∈ T, x ∈ T ++ [k] := fun x hx => List.mem_append.2 (.inl hx)
  refine ⟨snd_more s1 (fun _ h => h) h.snd, h.pin, h.nd, fun x hx => ?_, fun x hx hx2 => ?_, fun p hp hp2 => ?_⟩
  · rw [List.nil_append, List.mem_singleton] at hx; subst hx
    exact had_told hg (List.mem_append.2 (.inr (List.mem_singleton.2 rfl)))
  · rcases List.mem_append.1 hx with q | q
    · rcases h.told x q hx2 with r | r
      · exact .inl r
      · cases r
    · exact .inr q
  · rcases h.cl p hp hp2 with q | ⟨q, r | r⟩
    · exact .inl q
    · exact .inr ⟨q, .inl r⟩
    · cases r
theorem Wk.tellBad (h : Wk T B f pd []) (hg : ¬ Gd k.1 k.2) : Wk (T ++ [k]) B f pd [] := by
  have s1 : ∀ x ∈ T, x ∈ T ++ [k] := fun x hx => List.mem_append.2 (.inl hx)
  refine ⟨snd_more s1 (fun _ h => h) h.snd, h.pin, h.nd, by simp, fun x hx hx2 => ?_, h.cl⟩
  rcases List.mem_append.1 hx with q | q
  · exact h.told x q hx2
  · rw [List.mem_singleton] at q; subst q; exact absurd hx2 hg
theorem Wk.seeIn (h : Wk T B f pd []) (hb : gb b = false ∨ b ∈ B) : Wk T (B ++ [b]) f pd [] := by
  have s1 : ∀ x ∈ B, x ∈ B ++ [b] := fun x hx => List.mem_append.2 (.inl hx)
  refine ⟨snd_more (fun _ h => h) s1 h.snd, fun p hp => ⟨s1 _ (h.pin p hp).1, (h.pin p hp).2⟩, h.nd, by simp, h.told, fun p hp hp2 => ?_⟩
  rcases List.mem_append.1 hp with q | q
  · exact h.cl p q hp2
  · rw [List.mem_singleton] at q; subst q
    rcases hb with r | r
    · rw [r] at hp2; cases hp2
    · exact h.cl p r hp2
theorem Wk.seeOpen (h : Wk T B f pd []) (hg : gb b = true) (hu : inT f b.1 = true) : Wk T (B ++ [b]) f pd ([] ++ [b.2]) := by
  have s1 : ∀ x ∈ B, x ∈ B ++ [b] := fun x hx => List.mem_append.2 (.inl hx)
  have hm : b ∈ B ++ [b] := List.mem_append.2 (.inr (List.mem_singleton.2 rfl))
  refine ⟨snd_more (fun _ h => h) s1 h.snd, fun p hp => ⟨s1 _ (h.pin p hp).1, (h.pin p hp).2⟩, h.nd, fun x hx => ?_, fun x hx hx2 => ?_, fun p hp hp2 => ?_⟩
  · rw [List.nil_append, List.mem_singleton] at hx; subst hx
    exact had_box (u := b.1) hm ((gb_iff2 (u := b.1) (l := b.2)).1 hg).2 (hadQ (fun _ h => h) s1 (snd_in h.snd hu))
  · rcases h.told x hx hx2 with r | r
    · exact .inl r
    · cases r
  · rcases List.mem_append.1 hp with q | q
    · rcases h.cl p q hp2 with q | ⟨q, r | r⟩
      · exact .inl q
      · exact .inr ⟨q, .inl r⟩
      · cases r
    · rw [List.mem_singleton] at q; subst q
      exact .inr ⟨hu, .inr (by simp)⟩
theorem Wk.seeShut (h : Wk T B f pd []) (hg : gb b = true) (hb : b ∉ B) (hu : inT f b.1 = false) : Wk T (B ++ [b]) f (pd ++ [b]) [] := by
  have s1 : ∀ x ∈ B, x ∈ B ++ [b] := fun x hx => List.mem_append.2 (.inl hx)
  have hm : b ∈ B ++ [b] := List.mem_append.2 (.inr (List.mem_singleton.2 rfl))
  refine ⟨snd_more (fun _ h => h) s1 h.snd, fun p hp => ?_, ?_, by simp, h.told, fun p hp hp2 => ?_⟩
  · rcases List.mem_append.1 hp with q | q
    · exact ⟨s1 _ (h.pin p q).1, (h.pin p q).2⟩
    · rw [List.mem_singleton] at q; subst q; exact ⟨hm, hg, hu⟩
  · rw [List.nodup_append]
    refine ⟨h.nd, by simp, fun p hp q hq e => ?_⟩
    rw [List.mem_singleton] at hq
    subst hq; subst e
    exact hb (h.pin p hp).1
  · rcases List.mem_append.1 hp with q | q
    · rcases h.cl p q hp2 with q | q
      · exact .inl (List.mem_append.2 (.inl q))
      · exact .inr q
    · exact .inl (List.mem_append.2 (.inr q))
/- What stands under a key in the shut boxes, and what one round of a key's steps gathers. -/
def sh (pd : List B2) (u : K2) : List K2 := (pd.filter fun p => decide (p.1 = u)).map (·.2)
def shd (pd : List B2) (u : K2) : List B2 := pd.filter fun p => !decide (p.1 = u)
theorem mem_sh {u l : K2} : l ∈ sh pd u ↔ (u, l) ∈ pd := by
  unfold sh
  rw [List.mem_map]
  constructor
  · rintro ⟨⟨a, c⟩, h1, rfl⟩
    obtain ⟨h2, h3⟩ := List.mem_filter.1 h1
    rw [decide_eq_true_iff] at h3
    dsimp only at h3
    subst h3
    exact h2
  · intro h
    exact ⟨(u, l), List.mem_filter.2 ⟨h, by simp⟩, rfl⟩
theorem sh_len (pd : List B2) (u : K2) : (sh pd u).length + (shd pd u).length = pd.length := by
  unfold sh shd
  rw [List.length_map]
  induction pd with
  | nil => rfl
  | cons p r ih =>
    rw [List.filter_cons, List.filter_cons]
    cases decide (p.1 = u) <;> simp <;> omega
theorem sh_shd {u v : K2} : sh (shd pd u) v = if v = u then [] else sh pd v := by
  unfold sh shd
  rw [List.filter_filter]
  by_cases e : v = u
  · rw [if_pos e, List.map_eq_nil_iff, List.filter_eq_nil_iff]
    intro p _
    subst e
    cases h : decide (p.1 = v) <;> simp [h]
  · rw [if_neg e]
    congr 1
    refine List.filter_congr fun p _ => ?_
    by_cases h : p.1 = v
    · have : p.1 ≠ u := fun h2 => e (h ▸ h2)
      simp [h, e]
    · simp [h]
theorem sh_snoc (pd : List B2) (b : B2) (u : K2) : sh (pd ++ [b]) u = if b.1 = u then sh pd u ++ [b.2] else sh pd u := by
  unfold sh
  rw [List.filter_append, List.map_append]
  by_cases h : b.1 = u <;> simp [h]
/- The round: so many steps of a key from one on. -/
def rdS (pd : List B2) (k : K2) : Nat → List K2 × List B2
  | 0 => ([], pd)
  | n + 1 => ((rdS pd k n).1 ++ sh (rdS pd k n).2 (k.1, k.2 + n), shd (rdS pd k n).2 (k.1, k.2 + n))
def opN (k : K2) (n : Nat) (p : B2) : Bool := decide (p.1.1 = k.1) && (decide (k.2 ≤ p.1.2) && decide (p.1.2 < k.2 + n))
theorem rdS_pd (k : K2) : ∀ n, (rdS pd k n).2 = pd.filter fun p => !opN k n p
  | 0 => by
    symm
    show pd.filter _ = pd
    rw [List.filter_eq_self]
    intro p _
    unfold opN
    have : ¬ (k.2 ≤ p.1.2 ∧ p.1.2 < k.2 + ((0 : Nat) : Int)) := by omega
    cases h1 : decide (k.2 ≤ p.1.2) <;> cases h2 : decide (p.1.2 < k.2 + ((0 : Nat) : Int)) <;> simp at *
    omega
  | n + 1 => by
    show shd (rdS pd k n).2 (k.1, k.2 + n) = _
    rw [rdS_pd k n]
    unfold shd
    rw [List.filter_filter]
    refine List.filter_congr fun p _ => ?_
    obtain ⟨⟨a, c⟩, l⟩ := p
    rw [Bool.eq_iff_iff]
    unfold opN
    simp
    constructor
    · rintro ⟨h1, h2⟩
      omega
    · intro h
      omega
theorem rdS_mem (k : K2) : ∀ n l, l ∈ (rdS pd k n).1 ↔ ∃ u, (u, l) ∈ pd ∧ opN k n (u, l) = true
  | 0, l => by
    constructor
    · intro h; cases h
    · rintro ⟨u, _, h⟩
      unfold opN at h
      simp at h
      omega
  | n + 1, l => by
    show l ∈ (rdS pd k n).1 ++ sh (rdS pd k n).2 (k.1, k.2 + n) ↔ _
    rw [List.mem_append, rdS_mem k n l, mem_sh, rdS_pd, List.mem_filter]
    constructor
    · rintro (⟨u, h1, h2⟩ | ⟨h1, h2⟩)
      · refine ⟨u, h1, ?_⟩
        unfold opN at h2 ⊢
        simp at h2 ⊢
        exact ⟨h2.1, h2.2.1, by omega⟩
      · refine ⟨_, h1, ?_⟩
        unfold opN
        simp
        omega
    · rintro ⟨⟨a, c⟩, h1, h2⟩
      unfold opN at h2
      simp at h2
      by_cases e : c = k.2 + n
      · refine .inr ⟨?_, ?_⟩
        · rw [← h2.1, ← e]; exact h1
        · unfold opN; simp
      · refine .inl ⟨(a, c), h1, ?_⟩
        unfold opN
        simp
        exact ⟨h2.1, h2.2.1, by omega⟩
theorem rdS_len (k : K2) : ∀ n, (rdS pd k n).1.length + (rdS pd k n).2.length = pd.length
  | 0 => by simp [rdS]
  | n + 1 => by
    show ((rdS pd k n).1 ++ sh (rdS pd k n).2 (k.1, k.2 + n)).length + (shd (rdS pd k n).2 (k.1, k.2 + n)).length = pd.length
    have h1 := rdS_len k n
    have h2 := sh_len (rdS pd k n).2 (k.1, k.2 + n)
    rw [List.length_append]
    omega
/- As many steps as there are to the end: all that the key opens. -/
theorem opN_all {n : Nat} (hn : ∀ p ∈ pd, p.1.1 = k.1 → p.1.2 < k.2 + n) : ∀ p ∈ pd, opN k n p = opn k p := fun p hp => by
  unfold opN opn
  by_cases e : p.1.1 = k.1
  · have := hn p hp e
    simp [e, this]
  · simp [e]
theorem Wk.taken (h : Wk T B f pd (ls ++ [k])) (hk : inT f k = false) {n : Nat} (hn : (n : Int) = (if f k.1.toNat = 0 then 256 else f k.1.toNat - 1) - k.2) : Wk T B (upT f k.1.toNat (k.2 + 1)) (rdS pd k n).2 (ls ++ (rdS pd k n).1) := by
  obtain ⟨hg, hb, hf⟩ := h.good hk
  have q : ∀ p ∈ pd, p.1.1 = k.1 → p.1.2 < k.2 + n := fun p hp e => by
    obtain ⟨q1, q2, q3⟩ := h.pin p hp
    have hgu : Gd p.1.1 p.1.2 := (gb_iff2 (u := p.1) (l := p.2)).1 q2 |>.1
    have h1 := hgu.2.2.2
    by_cases h0 : f k.1.toNat = 0
    · rw [if_pos h0] at hn; omega
    · rw [if_neg h0] at hn
      have hlow : ¬ Low f p.1 := fun hl => by rw [inT_iff.2 ⟨hgu, .inr hl⟩] at q3; cases q3
      unfold Low at hlow
      rw [e] at hlow
      omega
  have e1 : (rdS pd k n).2 = pd.filter fun p => !opn k p := by
    rw [rdS_pd]
    exact List.filter_congr fun p hp => by rw [opN_all q p hp]
  rw [e1]
  refine h.take hk fun l => ?_
  rw [rdS_mem]
  constructor
  · rintro ⟨u, h1, h2⟩; exact ⟨u, h1, by rw [← opN_all q _ h1]; exact h2⟩
  · rintro ⟨u, h1, h2⟩; exact ⟨u, h1, by rw [opN_all q _ h1]; exact h2⟩
end
/- A list without repeats within another is no longer. -/
theorem nodup_len {α : Type} [DecidableEq α] : ∀ {l m : List α}, l.Nodup → (∀ x ∈ l, x ∈ m) → l.length ≤ m.length
  | [], m, _, _ => Nat.zero_le _
  | x :: r, m, hn, hs => by
    rw [List.nodup_cons] at hn
    have hx := hs x (List.mem_cons_self ..)
    have h1 : (m.erase x).length + 1 = m.length := by
      have := List.length_erase_of_mem hx
      have : 0 < m.length := List.length_pos_of_mem hx
      omega
    have := nodup_len (l := r) (m := m.erase x) hn.2 fun y hy => by
      rw [List.mem_erase_of_ne]
      · exact hs y (List.mem_cons_of_mem _ hy)
      · intro e; subst e; exact hn.1 hy
    simp only [List.length_cons]
    omega
end Go.Proofs.Ytompgoaogomoaaa.Kn
