/- Two objects of the program's know beside one another; what two rows of calls come to where they are of the same calls. -/
import Derived.Test.YtompgoaogomoaaaKnGr
import Derived.Test.YtompgoaogomoaaaKlSame
import Derived.Test.YtompgoaogomoaaaKeyB
namespace Go.Proofs.Ytompgoaogomoaaa.Kn
open Go.RowKit Go.Maps
open Rt (Gd gd gd_yes gd_no rGood_any)
set_option linter.unusedVariables false
set_option linter.unusedSimpArgs false

structure Tw (PAt : PPred) (w2 w : World) (N N2 p p2 : Nat) (T : List K2) (B : List B2) (X : List Sd) (T2 : List K2) (B2 : List B2) (X2 : List Sd) (F F2 : Nat → Prop) : Prop where
  a : PAt w N p T B X F
  b : PAt w N2 p2 T2 B2 X2 F2
  ap : ∀ k, F k → ¬ F2 k
  bel : Below N w2 w
  sz : N2 ≤ w.heap.size
  nn : N ≤ N2
section
variable {PAt : PPred} {Rm : RPred} {w2 w w' : World} {N N2 p p2 : Nat} {T T' T2 : List K2} {B B' Bb : List B2} {X X' X2 : List Sd} {F F2 : Nat → Prop}
theorem Tw.later (A : KApi PAt Rm) (h : Tw PAt w2 w N N2 p p2 T B X T2 Bb X2 F F2) (hb : Below w.heap.size w w') : Tw PAt w2 w' N N2 p p2 T B X T2 Bb X2 F F2 :=
  ⟨A.later h.a hb, A.later h.b hb, h.ap, h.bel.trans (hb.mono (Nat.le_trans h.nn h.sz)), Nat.le_trans h.sz hb.size, h.nn⟩
theorem Tw.one (A : KApi PAt Rm) (h : Tw PAt w2 w N N2 p p2 T B X T2 Bb X2 F F2) (hd : PP PAt w w' N p T' B' X' F) : ∃ F', Tw PAt w2 w' N N2 p p2 T' B' X' T2 Bb X2 F' F2 := by
  obtain ⟨F', h1, h2, h3⟩ := hd
  refine ⟨F', h1, A.kept h.b h2 (fun k e e' => h.ap k e' e), fun k e e' => ?_, h.bel.trans (h2.below (Nat.le_trans h.nn h.sz) fun k e => (A.ge h.a k e).1), Nat.le_trans h.sz h2.size, h.nn⟩
  rcases h3 k e with h4 | h4
  · exact h.ap k h4 e'
  · have := (A.ge h.b k e').2; omega
theorem Tw.two (A : KApi PAt Rm) (h : Tw PAt w2 w N N2 p p2 T B X T2 Bb X2 F F2) (hd : PP PAt w w' N2 p2 T' B' X' F2) : ∃ F', Tw PAt w2 w' N N2 p p2 T B X T' B' X' F F' := by
  obtain ⟨F', h1, h2, h3⟩ := hd
  refine ⟨F', A.kept h.a h2 (fun k e e' => h.ap k e e'), h1, fun k e e' => ?_, h.bel.trans ((h2.below h.sz fun k e => (A.ge h.b k e).1).mono h.nn), Nat.le_trans h.sz h2.size, h.nn⟩
  rcases h3 k e' with h4 | h4
  · exact h.ap k e h4
  · have := (A.ge h.a k e).2; omega
theorem Tw.start (A : KApi PAt Rm) (h1 : PAt w N p T B X F) (hN : N ≤ w.heap.size) (hb : Below w.heap.size w w') (h2 : PAt w' w.heap.size p2 T2 Bb X2 F2) : Tw PAt w' w' N w.heap.size p p2 T B X T2 Bb X2 F F2 :=
  ⟨A.later h1 hb, h2, fun k e e' => by have h3 := (A.ge h1 k e).2; have h4 := (A.ge h2 k e').1; omega, Below.refl _ _, hb.size, hN⟩
/- By the rows of the law's calls. -/
abbrev TwO (PAt : PPred) (w2 w : World) (N N2 p p2 : Nat) (l l2 : List Op9) (F F2 : Nat → Prop) : Prop := Tw PAt w2 w N N2 p p2 (toldL l) (boxL l) (txtL l) (toldL l2) (boxL l2) (txtL l2) F F2
end
section
variable {l l2 : List Op9} {x : K2} {b : B2} {d : Sd}
theorem told_sub (h : ∀ o ∈ l2, o ∈ l) : x ∈ toldL l2 → x ∈ toldL l := fun e => by
  obtain ⟨o, h1, h2⟩ := mem_told.1 e
  exact mem_told.2 ⟨o, h o h1, h2⟩
theorem box_sub (h : ∀ o ∈ l2, o ∈ l) : b ∈ boxL l2 → b ∈ boxL l := fun e => by
  obtain ⟨o, h1, h2⟩ := mem_box.1 e
  exact mem_box.2 ⟨o, h o h1, h2⟩
theorem txt_sub (h : ∀ o ∈ l2, o ∈ l) : d ∈ txtL l2 → d ∈ txtL l := fun e => by
  obtain ⟨o, h1, h2⟩ := mem_txt.1 e
  exact mem_txt.2 ⟨o, h o h1, h2⟩
theorem hadL_sub (h : ∀ o ∈ l2, o ∈ l) : HadL l2 x → HadL l x := had_sub (fun k hg hk => had_told hg (told_sub h hk)) fun u k hk _ _ => box_sub h hk
theorem hadL_same (h1 : ∀ o ∈ l, o ∈ l2) (h2 : ∀ o ∈ l2, o ∈ l) (x : K2) : HadL l x ↔ HadL l2 x := ⟨hadL_sub h1, hadL_sub h2⟩
/- What is had anyway, told again, changes nothing. -/
theorem had_again {T E : List K2} {B : List B2} (h : ∀ e ∈ E, Gd e.1 e.2 → Had T B e) (x : K2) : Had (T ++ E) B x ↔ Had T B x :=
  ⟨had_sub (fun k hg hk => (List.mem_append.1 hk).elim (had_told hg) fun e => h k e hg) fun u k hk _ _ => hk, had_sub (fun k hg hk => had_told hg (List.mem_append.2 (.inl hk))) fun u k hk _ _ => hk⟩
theorem keys_had {T : List K2} {B : List B2} {f : Nat → Int} {n : Nat} (h : Tab T B f) (hx : x ∈ keysT f n) : Had T B x := by
  obtain ⟨i, h1, h2, h3, rfl⟩ := mem_keysT.1 hx
  rcases h.snd.out i with h4 | ⟨_, _, _, h4⟩
  · exact absurd h4 h3
  · exact h4
end
theorem rdAt_of {w : World} {N : Nat} {v : Value} {l : List K2} (h : w.ownsRow N 33 2 v l.length (l.flatMap kC)) : ∃ a c, v = .slice a l.length c ∧ Rt.RdAt w a l ∧ ∀ g o, a = some ⟨g, o, none⟩ → N ≤ g ∧ g < w.heap.size := by
  obtain ⟨a, c, rfl, -⟩ := own_spell h
  exact ⟨a, c, rfl, rdK_of h, fun g o e => h.lt g (by subst e; rfl)⟩
section
variable {PAt : PPred} {Rm : RPred} {w : World} {N p : Nat} {T T0 : List K2} {B B0 : List B2} {X : List Sd} {F : Nat → Prop} {f : Nat → Int}
theorem keys_first (A : KApi PAt Rm) (h : PAt w N p T B X F) (hr : Rm T B X) :
    Calls Try.prog 21 #[.pointer (some ⟨p, 0, none⟩)] w fun e w' => ∃ f a c, e = .returned (.slice a (keysT f 32768).length c) ∧ Tab T B f ∧ Rt.RdAt w' a (keysT f 32768) ∧ (∀ g o, a = some ⟨g, o, none⟩ → w.heap.size ≤ g ∧ g < w'.heap.size) ∧ Below w.heap.size w w' := by
  refine (A.keys h hr).mono ?_
  rintro e w' ⟨v, f, rfl, hT, hrow, hb⟩
  obtain ⟨a, c, rfl, hrd, hg⟩ := rdAt_of hrow
  exact ⟨f, a, c, rfl, hT, hrd, hg, hb⟩
theorem keys_same (A : KApi PAt Rm) (h : PAt w N p T B X F) (hr : Rm T B X) (hT : Tab T0 B0 f) (hc : ∀ k : K2, Had T B k ↔ Had T0 B0 k) :
    Calls Try.prog 21 #[.pointer (some ⟨p, 0, none⟩)] w fun e w' => ∃ a c, e = .returned (.slice a (keysT f 32768).length c) ∧ Rt.RdAt w' a (keysT f 32768) ∧ Below w.heap.size w w' := by
  refine (keys_first A h hr).mono ?_
  rintro e w' ⟨g, a, c, rfl, hTg, hrd, -, hb⟩
  have e : g = f := hTg.eq hT hc
  subst e
  exact ⟨a, c, rfl, hrd, hb⟩
end
/- The first object beside a list of keys (read from ak on), which lies apart from what it owns. -/
structure Lk (PAt : PPred) (w2 w : World) (N N2 p p2 : Nat) (T : List K2) (B : List B2) (X : List Sd) (T2 : List K2) (Bb : List B2) (X2 : List Sd) (F F2 : Nat → Prop) (ak : Option Addr) (ks : List K2) : Prop where
  tw : Tw PAt w2 w N N2 p p2 T B X T2 Bb X2 F F2
  rd : Rt.RdAt w ak ks
  ap : ∀ g o, ak = some ⟨g, o, none⟩ → ¬ F g ∧ g < w.heap.size
section
variable {PAt : PPred} {Rm : RPred} {w2 w w' : World} {N N2 p p2 : Nat} {T T' T2 : List K2} {B B' Bb : List B2} {X X' X2 : List Sd} {F F2 : Nat → Prop} {ak : Option Addr} {ks : List K2}
theorem Lk.later (A : KApi PAt Rm) (h : Lk PAt w2 w N N2 p p2 T B X T2 Bb X2 F F2 ak ks) (hb : Below w.heap.size w w') : Lk PAt w2 w' N N2 p p2 T B X T2 Bb X2 F F2 ak ks :=
  ⟨h.tw.later A hb, h.rd.later hb, fun g o e => ⟨(h.ap g o e).1, Nat.lt_of_lt_of_le (h.ap g o e).2 hb.size⟩⟩
theorem Lk.one (A : KApi PAt Rm) (h : Lk PAt w2 w N N2 p p2 T B X T2 Bb X2 F F2 ak ks) (hd : PP PAt w w' N p T' B' X' F) : ∃ F', Lk PAt w2 w' N N2 p p2 T' B' X' T2 Bb X2 F' F2 ak ks := by
  have hd' := hd
  obtain ⟨F', h1, h2, h3⟩ := hd'
  obtain ⟨F4, h4⟩ := h.tw.one A ⟨F', h1, h2, h3⟩
  refine ⟨F', ⟨h1, A.kept h.tw.b h2 (fun k e e' => h.tw.ap k e' e), fun k e e' => ?_, h4.bel, h4.sz, h4.nn⟩, fun i hi => ?_, fun g o e => ⟨fun e' => ?_, Nat.lt_of_lt_of_le (h.ap g o e).2 h2.size⟩⟩
  · rcases h3 k e with h5 | h5
    · exact h.tw.ap k h5 e'
    · have := (A.ge h.tw.b k e').2; omega
  · obtain ⟨b, o, e, c0, c1⟩ := h.rd i hi
    exact ⟨b, o, e, h2.cell c0 (h.ap b o e).1, h2.cell c1 (h.ap b o e).1⟩
  · rcases h3 g e' with h5 | h5
    · exact (h.ap g o e).1 h5
    · have := (h.ap g o e).2; omega
theorem rm_more (A : KApi PAt Rm) {l : List Op9} {E : List K2} (h : l.length + E.length < 2748779069440) : Rm (toldL l ++ E) (boxL l) (txtL l) := by
  have h1 := A.rm (l ++ E.map fun e => ((1, ((e, (0, 0)), zO.2.2)) : Op9)) (by simpa using h)
  have e1 : toldL (l ++ E.map fun e => ((1, ((e, (0, 0)), zO.2.2)) : Op9)) = toldL l ++ E := by unfold toldL; rw [List.filterMap_append, List.filterMap_map]; simp [Function.comp_def]
  have e2 : boxL (l ++ E.map fun e => ((1, ((e, (0, 0)), zO.2.2)) : Op9)) = boxL l := by unfold boxL; rw [List.filterMap_append, List.filterMap_map]; simp [Function.comp_def]
  have e3 : txtL (l ++ E.map fun e => ((1, ((e, (0, 0)), zO.2.2)) : Op9)) = txtL l := by unfold txtL; rw [List.filterMap_append, List.filterMap_map]; simp [Function.comp_def]
  rw [e1, e2, e3] at h1
  exact h1
end
end Go.Proofs.Ytompgoaogomoaaa.Kn
