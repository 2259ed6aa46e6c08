/- The document's object behind a row of calls: what was told and seen, as sets; the law's model. -/
import Derived.Test.YtompgoaogomoaaaKnI
namespace Go.Proofs.Ytompgoaogomoaaa.Kn
open Go.RowKit Go.Maps
open Rt (Gd gd gd_yes gd_no rGood_any)
set_option linter.unusedVariables false
set_option linter.unusedSimpArgs false

abbrev Op9 := Int × (B2 × Sd)
def toldL (l : List Op9) : List K2 := l.filterMap fun o => if o.1 = 1 then some o.2.1.1 else none
def boxL (l : List Op9) : List B2 := l.filterMap fun o => if o.1 = 2 then some o.2.1 else none
def txtL (l : List Op9) : List Sd := l.filterMap fun o => if o.1 = 3 then some o.2.2 else none
section
variable {l l' : List Op9} {o : Op9} {k : K2} {b : B2} {d : Sd}
theorem mem_told : k ∈ toldL l ↔ ∃ o ∈ l, o.1 = 1 ∧ o.2.1.1 = k := by simp [toldL]
theorem mem_box : b ∈ boxL l ↔ ∃ o ∈ l, o.1 = 2 ∧ o.2.1 = b := by simp [boxL]
theorem mem_txt : d ∈ txtL l ↔ ∃ o ∈ l, o.1 = 3 ∧ o.2.2 = d := by simp [txtL]
theorem told_snoc : k ∈ toldL (l ++ [o]) ↔ k ∈ toldL l ∨ (o.1 = 1 ∧ o.2.1.1 = k) := by
  rw [mem_told, mem_told]
  constructor
  · rintro ⟨x, hx, h1, h2⟩
    rcases List.mem_append.1 hx with h | h
    · exact .inl ⟨x, h, h1, h2⟩
    · rw [List.mem_singleton] at h; subst h; exact .inr ⟨h1, h2⟩
  · rintro (⟨x, hx, h⟩ | h)
    · exact ⟨x, List.mem_append.2 (.inl hx), h⟩
    · exact ⟨o, by simp, h⟩
theorem box_snoc : b ∈ boxL (l ++ [o]) ↔ b ∈ boxL l ∨ (o.1 = 2 ∧ o.2.1 = b) := by
  rw [mem_box, mem_box]
  constructor
  · rintro ⟨x, hx, h1, h2⟩
    rcases List.mem_append.1 hx with h | h
    · exact .inl ⟨x, h, h1, h2⟩
    · rw [List.mem_singleton] at h; subst h; exact .inr ⟨h1, h2⟩
  · rintro (⟨x, hx, h⟩ | h)
    · exact ⟨x, List.mem_append.2 (.inl hx), h⟩
    · exact ⟨o, by simp, h⟩
theorem txt_snoc : d ∈ txtL (l ++ [o]) ↔ d ∈ txtL l ∨ (o.1 = 3 ∧ o.2.2 = d) := by
  rw [mem_txt, mem_txt]
  constructor
  · rintro ⟨x, hx, h1, h2⟩
    rcases List.mem_append.1 hx with h | h
    · exact .inl ⟨x, h, h1, h2⟩
    · rw [List.mem_singleton] at h; subst h; exact .inr ⟨h1, h2⟩
  · rintro (⟨x, hx, h⟩ | h)
    · exact ⟨x, List.mem_append.2 (.inl hx), h⟩
    · exact ⟨o, by simp, h⟩
end
/- The state behind a row. -/
structure Of (s : Kst) (l : List Op9) : Prop where
  t : ∀ k : K2, Gd k.1 k.2 → (k ∈ s.T ↔ k ∈ toldL l)
  b : ∀ u k : K2, Gd u.1 u.2 → Gd k.1 k.2 → ((u, k) ∈ s.B ↔ (u, k) ∈ boxL l)
  x : ∀ d : Sd, gx d = true → (d ∈ s.X ↔ d ∈ txtL l)
  lT : s.T.length ≤ l.length
  lB : s.B.length ≤ l.length
  lX : s.X.length ≤ l.length
abbrev HadL (l : List Op9) (k : K2) : Prop := Had (toldL l) (boxL l) k
theorem Of.had {s : Kst} {l : List Op9} (h : Of s l) (k : K2) : Had s.T s.B k ↔ HadL l k := had_congr h.t h.b
theorem Of.nil : Of ⟨[], [], []⟩ [] := ⟨fun _ _ => by simp [toldL], fun _ _ _ _ => by simp [boxL], fun _ _ => by simp [txtL], by simp, by simp, by simp⟩
structure DocAt (w : World) (N p : Nat) (l : List Op9) (vt vb vx : Value) : Prop where
  out : ∃ s, KnAt w N p s vt vb vx ∧ Of s l
section
variable {w w' w1 : World} {N p : Nat} {l : List Op9} {s s' : Kst} {vt vb vx : Value} {F : Nat → Prop}
theorem DocAt.kept (h : DocAt w N p l vt vb vx) (hk : Kept F w w') (hF : ∀ k, Fk p vt vb vx k → ¬ F k) : DocAt w' N p l vt vb vx := by
  obtain ⟨s, h1, h2⟩ := h.out
  exact ⟨s, h1.kept hk hF, h2⟩
theorem DocAt.later (h : DocAt w N p l vt vb vx) (hb : Below w.heap.size w w') : DocAt w' N p l vt vb vx := h.kept (F := fun _ => False) (Kept.ofBelow hb) fun _ _ e => e
theorem DocAt.ge (h : DocAt w N p l vt vb vx) : ∀ k, Fk p vt vb vx k → N ≤ k := by
  obtain ⟨s, h1, -⟩ := h.out
  rintro k (e | e | e | e)
  · exact e ▸ h1.np
  · exact (own_type h1.told e).1
  · exact (own_type h1.box e).1
  · exact (own_type h1.txt e).1
def DocP (w w' : World) (N p : Nat) (l : List Op9) (vt vb vx : Value) : Prop := ∃ vt' vb' vx', DocAt w' N p l vt' vb' vx' ∧ Kept (Fk p vt vb vx) w w' ∧ ∀ k, Fk p vt' vb' vx' k → Fk p vt vb vx k ∨ w.heap.size ≤ k
theorem KnP.doc (h : KnP w1 w' N p s' vt vb vx) (hb : Below w.heap.size w w1) (ho : Of s' l) : DocP w w' N p l vt vb vx := by
  obtain ⟨vt', vb', vx', h1, h2, h3⟩ := h
  exact ⟨vt', vb', vx', ⟨s', h1, ho⟩, (Kept.ofBelow hb).trans h2 (fun _ _ e => e), fun k hk => (h3 k hk).imp id fun e => Nat.le_trans hb.size e⟩
theorem DocP.below (h : DocP w w' N p l vt vb vx) {l0 : List Op9} (h0 : DocAt w N p l0 vt vb vx) (hN : N ≤ w.heap.size) : Below N w w' := by
  obtain ⟨_, _, _, _, h2, _⟩ := h
  exact h2.below hN h0.ge
end
theorem gb_gd {b : B2} : gb b = true ↔ Gd b.1.1 b.1.2 ∧ Gd b.2.1 b.2.2 := by
  unfold gb
  rw [Bool.and_eq_true, gd_iff, gd_iff]
theorem mem_lrn {T : List K2} {k x : K2} : x ∈ lrn T k ↔ x ∈ T ∨ (gd k.1 k.2 = true ∧ x = k) := by
  unfold lrn
  split
  · rename_i h; simp [h.1]
  · rename_i h
    refine ⟨.inl, fun h' => h'.elim id fun ⟨h1, h2⟩ => ?_⟩
    by_cases hm : k ∈ T
    · exact h2 ▸ hm
    · exact absurd ⟨h1, hm⟩ h
theorem mem_snB {B : List B2} {b x : B2} : x ∈ snB B b ↔ x ∈ B ∨ (gb b = true ∧ x = b) := by
  unfold snB
  split
  · rename_i h; simp [h.1]
  · rename_i h
    refine ⟨.inl, fun h' => h'.elim id fun ⟨h1, h2⟩ => ?_⟩
    by_cases hm : b ∈ B
    · exact h2 ▸ hm
    · exact absurd ⟨h1, hm⟩ h
theorem lrn_len (T : List K2) (k : K2) : (lrn T k).length ≤ T.length + 1 := by unfold lrn; split <;> simp
theorem snB_len (B : List B2) (b : B2) : (snB B b).length ≤ B.length + 1 := by unfold snB; split <;> simp
section
variable {s : Kst} {l : List Op9}
theorem Of.told (h : Of s l) (b : B2) (d : Sd) : Of ⟨lrn s.T b.1, s.B, s.X⟩ (l ++ [(1, (b, d))]) := by
  refine ⟨fun k hk => ?_, fun u k hu hk => ?_, fun y hy => ?_, ?_, ?_, ?_⟩
  · rw [mem_lrn, told_snoc, h.t k hk]
    refine or_congr Iff.rfl ⟨fun h => ⟨rfl, h.2.symm⟩, fun h => ⟨?_, h.2.symm⟩⟩
    obtain ⟨-, h2⟩ := h
    rw [gd_iff]; rw [← h2] at hk; exact hk
  · rw [box_snoc, h.b u k hu hk]; simp
  · rw [txt_snoc, h.x y hy]; simp
  · have := lrn_len s.T b.1; have := h.lT; simp; omega
  · have := h.lB; simp; omega
  · have := h.lX; simp; omega
theorem Of.seen (h : Of s l) (b : B2) (d : Sd) : Of ⟨s.T, snB s.B b, s.X⟩ (l ++ [(2, (b, d))]) := by
  refine ⟨fun k hk => ?_, fun u k hu hk => ?_, fun y hy => ?_, ?_, ?_, ?_⟩
  · rw [told_snoc, h.t k hk]; simp
  · rw [mem_snB, box_snoc, h.b u k hu hk]
    refine or_congr Iff.rfl ⟨fun h => ⟨rfl, h.2.symm⟩, fun h => ⟨?_, h.2.symm⟩⟩
    obtain ⟨-, h2⟩ := h
    have h2 : b = (u, k) := h2
    rw [h2, gb_gd]; exact ⟨hu, hk⟩
  · rw [txt_snoc, h.x y hy]; simp
  · have := h.lT; simp; omega
  · have := snB_len s.B b; have := h.lB; simp; omega
  · have := h.lX; simp; omega
theorem Of.text (h : Of s l) (b : B2) (d : Sd) {X : List Sd} (hX : ∀ y, y ∈ X ↔ y ∈ s.X ∨ (gx d = true ∧ y = d)) (hl : X.length ≤ s.X.length + 1) : Of ⟨s.T, s.B, X⟩ (l ++ [(3, (b, d))]) := by
  refine ⟨fun k hk => ?_, fun u k hu hk => ?_, fun y hy => ?_, ?_, ?_, ?_⟩
  · rw [told_snoc, h.t k hk]; simp
  · rw [box_snoc, h.b u k hu hk]; simp
  · rw [hX, txt_snoc, h.x y hy]
    refine or_congr Iff.rfl ⟨fun h => ⟨rfl, h.2.symm⟩, fun h => ⟨?_, h.2.symm⟩⟩
    obtain ⟨-, h2⟩ := h
    have h2 : d = y := h2
    rw [h2]; exact hy
  · have := h.lT; simp; omega
  · have := h.lB; simp; omega
  · have := h.lX; simp; omega
theorem Of.none (h : Of s l) {o : Op9} (h1 : o.1 ≠ 1) (h2 : o.1 ≠ 2) (h3 : o.1 ≠ 3) : Of s (l ++ [o]) := by
  refine ⟨fun k hk => ?_, fun u k hu hk => ?_, fun y hy => ?_, ?_, ?_, ?_⟩
  · rw [told_snoc, h.t k hk]; simp [h1]
  · rw [box_snoc, h.b u k hu hk]; simp [h2]
  · rw [txt_snoc, h.x y hy]; simp [h3]
  · have := h.lT; simp; omega
  · have := h.lB; simp; omega
  · have := h.lX; simp; omega
end
end Go.Proofs.Ytompgoaogomoaaa.Kn
