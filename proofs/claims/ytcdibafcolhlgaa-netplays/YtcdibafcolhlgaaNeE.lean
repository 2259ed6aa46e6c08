/- What is asked of the program's net, as one structure (its calls' contracts, over whatever predicate says what lies in memory); the law's lives by it; the program's object beside the document's. -/
import Derived.Test.YtcdibafcolhlgaaNeD
namespace Go.Proofs.Ytcdibafcolhlgaa.Ne
open Go.RowKit Go.Maps
set_option linter.unusedVariables false
set_option linter.unusedSimpArgs false

abbrev QPred := World → Nat → Nat → Nst → (Nat → Prop) → Prop
def wI (a : Int) : Prop := (Lit.int .i64 a).wf = true
/- What rows of calls lead to. -/
structure OkS (s : Nst) : Prop where
  len : s.G.length = s.A.length
  num : ∀ i, i < s.A.length → (s.A.getD i zP).1 = (i : Int) + 1
  wf : ∀ q ∈ s.A, wI q.2.1 ∧ q.2.2.size ≤ 9223372036854775807
theorem OkS.nil : OkS ⟨[], []⟩ := ⟨rfl, fun i h => absurd h (by simp), fun _ h => by cases h⟩
theorem OkS.sent {s : Nst} (h : OkS s) {f : Int} {t : ByteArray} (hf : wI f) (ht : t.size ≤ 9223372036854775807) : OkS (s.sent f t) := by
  refine ⟨by simp [Nst.sent, h.len], fun i hi => ?_, fun q hq => ?_⟩
  · simp only [Nst.sent, List.length_append, List.length_cons, List.length_nil] at hi
    rcases Nat.lt_or_ge i s.A.length with hl | hl
    · rw [show (s.sent f t).A.getD i zP = s.A.getD i zP by simp [Nst.sent, List.getD_eq_getElem?_getD, List.getElem?_append_left hl]]
      exact h.num i hl
    · obtain rfl : i = s.A.length := by omega
      simp [Nst.sent]
  · rcases List.mem_append.1 hq with h1 | h1
    · exact h.wf q h1
    · rw [List.mem_singleton] at h1; subst h1; exact ⟨hf, ht⟩
theorem OkS.dropped {s : Nst} (h : OkS s) (i : Nat) : OkS (s.dropped i) := ⟨by simp [Nst.dropped, h.len], h.num, h.wf⟩
/- Behind a call on an object: its new state, and what was kept. -/
def PQ (PAt : QPred) (w w' : World) (N p : Nat) (s : Nst) (F : Nat → Prop) : Prop := ∃ F', PAt w' N p s F' ∧ Kept F w w' ∧ ∀ k, F' k → F k ∨ w.heap.size ≤ k
structure NApi (PAt : QPred) : Prop where
  kept : ∀ {w w' : World} {N p : Nat} {s : Nst} {F G : Nat → Prop}, PAt w N p s F → Kept G w w' → (∀ k, F k → ¬ G k) → PAt w' N p s F
  ge : ∀ {w : World} {N p : Nat} {s : Nst} {F : Nat → Prop}, PAt w N p s F → ∀ k, F k → N ≤ k ∧ k < w.heap.size
  new : ∀ w : World, Calls Try.prog 7 #[] w fun e w' => ∃ p F, e = .returned (.pointer (some ⟨p, 0, none⟩)) ∧ PAt w' w.heap.size p ⟨[], []⟩ F ∧ Below w.heap.size w w'
  send : ∀ {w : World} {N p : Nat} {s : Nst} {F : Nat → Prop} (f : Int) (t : ByteArray), PAt w N p s F → N ≤ w.heap.size → OkS s → s.A.length < 4398046511104 → wI f → t.size ≤ 9223372036854775807 →
    Calls Try.prog 8 #[.pointer (some ⟨p, 0, none⟩), .int .i64 f, .string t] w fun e w' => e = .returned (.int .i64 ((s.A.length : Int) + 1)) ∧ PQ PAt w w' N p (s.sent f t) F
  get_no : ∀ {w : World} {N p : Nat} {s : Nst} {F : Nat → Prop} (k : Int), PAt w N p s F → OkS s → s.A.length ≤ 4398046511104 → wI k → ¬ s.on k →
    Calls Try.prog 10 #[.pointer (some ⟨p, 0, none⟩), .int .i64 k] w fun e w' => e = aP zP 26 ∧ Below w.heap.size w w'
  get_yes : ∀ {w : World} {N p : Nat} {s : Nst} {F : Nat → Prop} (i : Nat), PAt w N p s F → OkS s → s.A.length ≤ 4398046511104 → i < s.A.length → s.G.getD i true = false →
    Calls Try.prog 10 #[.pointer (some ⟨p, 0, none⟩), .int .i64 ((i : Int) + 1)] w fun e w' => e = aP (s.A.getD i zP) 0 ∧ Below w.heap.size w w'
  drop_no : ∀ {w : World} {N p : Nat} {s : Nst} {F : Nat → Prop} (k : Int), PAt w N p s F → OkS s → s.A.length ≤ 4398046511104 → wI k → ¬ s.on k →
    Calls Try.prog 12 #[.pointer (some ⟨p, 0, none⟩), .int .i64 k] w fun e w' => e = .returned (.int .i64 26) ∧ Below w.heap.size w w'
  drop_yes : ∀ {w : World} {N p : Nat} {s : Nst} {F : Nat → Prop} (i : Nat), PAt w N p s F → N ≤ w.heap.size → OkS s → s.A.length ≤ 4398046511104 → i < s.A.length → s.G.getD i true = false →
    Calls Try.prog 12 #[.pointer (some ⟨p, 0, none⟩), .int .i64 ((i : Int) + 1)] w fun e w' => e = .returned (.int .i64 0) ∧ PQ PAt w w' N p (s.dropped i) F
  waiting : ∀ {w : World} {N p : Nat} {s : Nst} {F : Nat → Prop}, PAt w N p s F → OkS s → s.A.length ≤ 4398046511104 →
    Calls Try.prog 15 #[.pointer (some ⟨p, 0, none⟩)] w fun e w' => ∃ v, e = .returned v ∧ w'.ownsRow w.heap.size 35 3 v s.wait.length (s.wait.flatMap pC) ∧ Below w.heap.size w w'
  seen : ∀ {w : World} {N p : Nat} {s : Nst} {F : Nat → Prop}, PAt w N p s F → OkS s → s.A.length ≤ 4398046511104 →
    Calls Try.prog 17 #[.pointer (some ⟨p, 0, none⟩)] w fun e w' => ∃ v, e = .returned v ∧ w'.ownsRow w.heap.size 35 3 v s.A.length (s.A.flatMap pC) ∧ Below w.heap.size w w'
section
variable {PAt : QPred} {w w' w1 w2 : World} {N p N2 p2 : Nat} {s s' s2 : Nst} {F G : Nat → Prop} {va vg : Value}
theorem NApi.later (A : NApi PAt) (h : PAt w N p s F) (hb : Below w.heap.size w w') : PAt w' N p s F := A.kept (G := fun _ => False) h (Kept.ofBelow hb) fun _ _ e => e
theorem PQ.below (A : NApi PAt) (h : PQ PAt w w' N p s' F) (h0 : PAt w N p s F) (hN : N ≤ w.heap.size) : Below N w w' := by
  obtain ⟨_, _, h2, _⟩ := h
  exact h2.below hN fun k hk => (A.ge h0 k hk).1
/- The program's net beside the document's. -/
structure Pn (PAt : QPred) (w2 w : World) (N N2 p p2 : Nat) (s s2 : Nst) (F : Nat → Prop) (va vg : Value) : Prop where
  a : PAt w N p s F
  b : NAt w N2 p2 s2 va vg
  ap : ∀ k, F k → ¬ Fn p2 va vg k
  bel : Below N w2 w
  sz : N2 ≤ w.heap.size
  nn : N ≤ N2
theorem Pn.later (A : NApi PAt) (h : Pn PAt w2 w N N2 p p2 s s2 F va vg) (hb : Below w.heap.size w w') : Pn PAt w2 w' N N2 p p2 s s2 F va vg :=
  ⟨A.later h.a hb, h.b.later hb, h.ap, h.bel.trans (hb.mono (Nat.le_trans h.nn h.sz)), Nat.le_trans h.sz hb.size, h.nn⟩
theorem Pn.one (A : NApi PAt) (h : Pn PAt w2 w N N2 p p2 s s2 F va vg) (hd : PQ PAt w w' N p s' F) : ∃ F', Pn PAt w2 w' N N2 p p2 s' s2 F' va vg := by
  obtain ⟨F', h1, h2, h3⟩ := hd
  refine ⟨F', h1, h.b.kept h2 (fun k e e' => h.ap k e' e), fun k e e' => ?_, h.bel.trans (h2.below (Nat.le_trans h.nn h.sz) fun k e => (A.ge h.a k e).1), Nat.le_trans h.sz h2.size, h.nn⟩
  rcases h3 k e with h4 | h4
  · exact h.ap k h4 e'
  · have := (h.b.ge k e').2; omega
theorem Pn.two (A : NApi PAt) (h : Pn PAt w2 w N N2 p p2 s s2 F va vg) (hd : NP w w' N2 p2 s' va vg) : ∃ va' vg', Pn PAt w2 w' N N2 p p2 s s' F va' vg' := by
  obtain ⟨va', vg', h1, h2, h3⟩ := hd
  refine ⟨va', vg', A.kept h.a h2 (fun k e e' => h.ap k e e'), h1, fun k e e' => ?_, h.bel.trans ((h2.below h.sz fun k e => (h.b.ge k e).1).mono h.nn), Nat.le_trans h.sz h2.size, h.nn⟩
  rcases h3 k e' with h4 | h4
  · exact h.ap k e h4
  · have := (A.ge h.a k e).2; omega
theorem Pn.lt (A : NApi PAt) (h : Pn PAt w2 w N N2 p p2 s s2 F va vg) : ∀ k, F k ∨ Fn p2 va vg k → k < w.heap.size := by
  rintro k (e | e)
  · exact (A.ge h.a k e).2
  · exact (h.b.ge k e).2
theorem nAt_new (w : World) : NAt (w.alloc (.cells #[.slice none 0 0, .slice none 0 0] 30)) w.heap.size w.heap.size ⟨[], []⟩ (.slice none 0 0) (.slice none 0 0) :=
  ⟨_root_.Go.heap_alloc_last w _, World.ownsRow_nil _ _ _ _, World.ownsRow_nil _ _ _ _, Nat.le_refl _⟩
theorem Pn.start (A : NApi PAt) (h1 : PAt w N p s F) (hN : N ≤ w.heap.size) : Pn PAt (w.alloc (.cells #[.slice none 0 0, .slice none 0 0] 30)) (w.alloc (.cells #[.slice none 0 0, .slice none 0 0] 30)) N w.heap.size p w.heap.size s ⟨[], []⟩ F (.slice none 0 0) (.slice none 0 0) :=
  ⟨A.later h1 (below1 _ _), nAt_new w, fun k e e' => by have h3 := (A.ge h1 k e).2; have h4 := ((nAt_new w).ge k e').1; omega, Below.refl _ _, (below1 _ _).size, hN⟩
end
set_option maxRecDepth 100000 in
set_option maxHeartbeats 4000000 in
theorem lives_any {PAt : QPred} (A : NApi PAt) (w : World) : Calls Try.prog 6 #[] w fun e w' => e = .returned (.bool true) ∧ Below w.heap.size w w' := by
  obtain ⟨s1, hs1⟩ : ∃ s, Nst.sent ⟨[], []⟩ (-1) ⟨#[97]⟩ = s := ⟨_, rfl⟩
  obtain ⟨s2, hs2⟩ : ∃ s, Nst.sent s1 5 ⟨#[]⟩ = s := ⟨_, rfl⟩
  have o0 := OkS.nil
  have o1 : OkS s1 := hs1 ▸ o0.sent (by unfold wI; decide) (by decide)
  have o2 : OkS s2 := hs2 ▸ o1.sent (by unfold wI; decide) (by decide)
  have o3 := o2.dropped 0
  have l1 : s1.A.length = 1 := by subst hs1; rfl
  have l2 : s2.A.length = 2 := by subst hs2; subst hs1; rfl
  have l3 : (s2.dropped 0).A.length = 2 := l2
  have g0 : s2.G.getD 0 true = false := by subst hs2; subst hs1; rfl
  have a0 : s2.A.getD 0 zP = (1, (-1, ⟨#[97]⟩)) := by subst hs2; subst hs1; rfl
  have lw : (s2.dropped 0).wait.length = 1 := by subst hs2; subst hs1; rfl
  have hn := A.new w
  go_enter Try.func6, Try.ntmps6
  go_wp2_with fail
  refine hn.mono ?_
  rintro e w1 ⟨p, F, rfl, hP, hb⟩
  have h1 := A.send (-1) ⟨#[97]⟩ hP hb.size o0 (by simp) (by unfold wI; decide) (by decide)
  rw [hs1] at h1
  have HB1 : Hid (Below w.heap.size w w1 ∧ PAt w1 w.heap.size p ⟨[], []⟩ F) := ⟨hb, hP⟩
  have h2 := fun W F' (hP' : PAt W w.heap.size p s1 F') (hsz : w.heap.size ≤ W.heap.size) => A.send 5 ⟨#[]⟩ hP' hsz o1 (by omega) (by unfold wI; decide) (by decide)
  rw [hs2, l1] at h2
  have e0 : ((Nst.A ⟨[], []⟩).length : Int) + 1 = 1 := rfl
  have e1 : ((1 : Nat) : Int) + 1 = 2 := rfl
  have e2 : ((0 : Nat) : Int) + 1 = 1 := rfl
  rw [e0] at h1
  rw [e1] at h2
  have hg := fun W F' (hP' : PAt W w.heap.size p s2 F') => A.get_yes 0 hP' o2 (by omega) (by omega) g0
  have hd := fun W F' (hP' : PAt W w.heap.size p s2 F') (hsz : w.heap.size ≤ W.heap.size) => A.drop_yes 0 hP' hsz o2 (by omega) (by omega) g0
  have hw := fun W F' (hP' : PAt W w.heap.size p (s2.dropped 0) F') => A.waiting hP' o3 (by omega)
  have hs := fun W F' (hP' : PAt W w.heap.size p (s2.dropped 0) F') => A.seen hP' o3 (by omega)
  rw [e2] at hg hd
  rw [a0] at hg
  rw [lw] at hw
  rw [l3] at hs
  unfold aP at hg
  dsimp only at hg
  clear hn hP hb e0 e1 e2 hs1 hs2 o0 o1 o2 o3 l1 l2 l3 g0 a0 lw
  go_upto_region 4 with (first
    | (go_at_call 8; refine (h2 _ F1 hP1 hsz1).mono ?_; rintro r w3 ⟨rfl, hd3⟩; have hb3 := hb2.trans (PQ.below A hd3 hP1 hsz1); obtain ⟨F2, hP2, -, -⟩ := hd3; have hsz2 := hb3.size)
    | (go_at_call 8; refine h1.mono ?_; rintro r w2 ⟨rfl, hd2⟩; have hb2 := HB1.out.1.trans (PQ.below A hd2 HB1.out.2 HB1.out.1.size); obtain ⟨F1, hP1, -, -⟩ := hd2; have hsz1 := hb2.size))
  have HB3 : Hid (Below w.heap.size w w3 ∧ PAt w3 w.heap.size p s2 F2) := ⟨hb3, hP2⟩
  have hg1 := hg _ F2 HB3.out.2
  clear h1 h2 hg hP1 hsz1 hb2 hb3 hP2 hsz2
  go_upto_region 5 with (go_at_call 10; refine hg1.mono ?_; rintro r w4 ⟨rfl, hb4⟩)
  obtain ⟨x0, x1, x2⟩ := boxed3 w4 (.int .i64 1) (.int .i64 (-1)) (.string ⟨#[97]⟩) 35
  have hb5 := Below.then hb4 (below1 w4 (.cells #[.int .i64 1, .int .i64 (-1), .string ⟨#[97]⟩] 35))
  obtain ⟨Q, hQ⟩ : ∃ Q, w4.heap.size = Q := ⟨_, rfl⟩
  rw [hQ] at x0 x1 x2 ⊢
  generalize w4.alloc (.cells #[.int .i64 1, .int .i64 (-1), .string ⟨#[97]⟩] 35) = w5 at *
  have HB5 : Hid (Below w.heap.size w w5 ∧ PAt w5 w.heap.size p s2 F2) := ⟨HB3.out.1.trans (hb5.mono HB3.out.1.size), A.later HB3.out.2 hb5⟩
  have hd1 := hd _ F2 HB5.out.2 HB5.out.1.size
  clear hg1 hd hb4 hb5 hQ
  go_wp2_with (first
    | (go_at_call 12; refine hd1.mono ?_; rintro r w6 ⟨rfl, hd6⟩; have hb6 := HB5.out.1.trans (PQ.below A hd6 HB5.out.2 HB5.out.1.size); obtain ⟨F6, hP6, -, -⟩ := hd6)
    | (go_at_call 15; refine (hw _ F6 hP6).mono ?_; rintro r w7 ⟨v7, rfl, hr7, hb7⟩; obtain ⟨a7, c7, rfl, -⟩ := own_spell hr7; have hP7 := A.later hP6 hb7)
    | (go_at_call 17; refine (hs _ F6 hP7).mono ?_; rintro r w8 ⟨v8, rfl, hr8, hb8⟩; obtain ⟨a8, c8, rfl, -⟩ := own_spell hr8))
  go_ret
  exact ⟨by first | rfl | simp, (hb6.trans (hb7.mono hb6.size)).trans (hb8.mono (Nat.le_trans hb6.size hb7.size))⟩
end Go.Proofs.Ytcdibafcolhlgaa.Ne
