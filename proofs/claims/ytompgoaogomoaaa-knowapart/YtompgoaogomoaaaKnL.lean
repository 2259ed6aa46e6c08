/- What is asked of the program's know, as one structure (its calls' contracts, over whatever predicate says what lies in memory); the law's do and lives by it. -/
import Derived.Test.YtompgoaogomoaaaOpenKn
namespace Go.Proofs.Ytompgoaogomoaaa.Kn
open Go.RowKit Go.Maps
open Rt (Gd gd gd_yes gd_no rGood_any)
set_option linter.unusedVariables false
set_option linter.unusedSimpArgs false

abbrev PPred := World → Nat → Nat → List K2 → List B2 → List Sd → (Nat → Prop) → Prop
abbrev RPred := List K2 → List B2 → List Sd → Prop
/- Behind a call on an object: its new state, and what was kept. -/
def PP (PAt : PPred) (w w' : World) (N p : Nat) (T : List K2) (B : List B2) (X : List Sd) (F : Nat → Prop) : Prop := ∃ F', PAt w' N p T B X F' ∧ Kept F w w' ∧ ∀ k, F' k → F k ∨ w.heap.size ≤ k
/- Rm: what may be told and seen (as long as its calls are not too many, or not too many different ones: as the program is built). -/
structure KApi (PAt : PPred) (Rm : RPred) : Prop where
  rm : ∀ l : List Op9, l.length < 2748779069440 → Rm (toldL l) (boxL l) (txtL l)
  kept : ∀ {w w' : World} {N p : Nat} {T : List K2} {B : List B2} {X : List Sd} {F G : Nat → Prop}, PAt w N p T B X F → Kept G w w' → (∀ k, F k → ¬ G k) → PAt w' N p T B X F
  ge : ∀ {w : World} {N p : Nat} {T : List K2} {B : List B2} {X : List Sd} {F : Nat → Prop}, PAt w N p T B X F → ∀ k, F k → N ≤ k ∧ k < w.heap.size
  new : ∀ w : World, Calls Try.prog 10 #[] w fun e w' => ∃ p F, e = .returned (.pointer (some ⟨p, 0, none⟩)) ∧ PAt w' w.heap.size p [] [] [] F ∧ Below w.heap.size w w'
  learn : ∀ {w : World} {N p : Nat} {T : List K2} {B : List B2} {X : List Sd} {F : Nat → Prop} (b s : Int), PAt w N p T B X F → N ≤ w.heap.size → Rm T B X → wI b → wI s →
    Calls Try.prog 23 #[.pointer (some ⟨p, 0, none⟩), .agg #[.int .i64 b, .int .i64 s] ] w fun e w' => e = .returned (.tuple #[]) ∧ PP PAt w w' N p (T ++ [(b, s)]) B X F
  see : ∀ {w : World} {N p : Nat} {T : List K2} {B : List B2} {X : List Sd} {F : Nat → Prop} (b0 b1 b2 b3 : Int), PAt w N p T B X F → N ≤ w.heap.size → Rm T B X → (wI b0 ∧ wI b1 ∧ wI b2 ∧ wI b3) →
    Calls Try.prog 31 #[.pointer (some ⟨p, 0, none⟩), .agg #[.int .i64 b0, .int .i64 b1, .int .i64 b2, .int .i64 b3] ] w fun e w' => e = .returned (.tuple #[]) ∧ PP PAt w w' N p T (B ++ [((b0, b1), (b2, b3))]) X F
  seeX : ∀ {w : World} {N p : Nat} {T : List K2} {B : List B2} {X : List Sd} {F : Nat → Prop} (e0 u0 u1 : Int) (t : ByteArray), PAt w N p T B X F → N ≤ w.heap.size → Rm T B X → (wI e0 ∧ wI u0 ∧ wI u1 ∧ t.size ≤ 9223372036854775807) →
    Calls Try.prog 32 #[.pointer (some ⟨p, 0, none⟩), .agg #[.int .i64 e0, .int .i64 u0, .int .i64 u1, .string t] ] w fun e w' => e = .returned (.tuple #[]) ∧ PP PAt w w' N p T B (X ++ [(e0, ((u0, u1), t))]) F
  has : ∀ {w : World} {N p : Nat} {T : List K2} {B : List B2} {X : List Sd} {F : Nat → Prop} (b s : Int) {v : Bool}, PAt w N p T B X F → Rm T B X → (wI b ∧ wI s) → (v = true ↔ Had T B (b, s)) →
    Calls Try.prog 14 #[.pointer (some ⟨p, 0, none⟩), .agg #[.int .i64 b, .int .i64 s] ] w fun e w' => e = .returned (.bool v) ∧ Below w.heap.size w w'
  makes : ∀ {w : World} {N p : Nat} {T : List K2} {B : List B2} {X : List Sd} {F : Nat → Prop} (b0 b1 b2 b3 : Int) {v : Bool}, PAt w N p T B X F → Rm T B X → (wI b0 ∧ wI b1 ∧ wI b2 ∧ wI b3) → (v = true ↔ gb ((b0, b1), (b2, b3)) = true ∧ (((b0, b1), (b2, b3)) ∈ B ∨ (Had T B (b0, b1) ∧ Had T B (b2, b3)))) →
    Calls Try.prog 16 #[.pointer (some ⟨p, 0, none⟩), .agg #[.int .i64 b0, .int .i64 b1, .int .i64 b2, .int .i64 b3] ] w fun e w' => e = .returned (.bool v) ∧ Below w.heap.size w w'
  makesX : ∀ {w : World} {N p : Nat} {T : List K2} {B : List B2} {X : List Sd} {F : Nat → Prop} (e0 u0 u1 : Int) (t : ByteArray) {v : Bool}, PAt w N p T B X F → Rm T B X → (wI e0 ∧ wI u0 ∧ wI u1 ∧ t.size ≤ 9223372036854775807) → (v = true ↔ gx (e0, ((u0, u1), t)) = true ∧ ((e0, ((u0, u1), t)) ∈ X ∨ Had T B (u0, u1))) →
    Calls Try.prog 18 #[.pointer (some ⟨p, 0, none⟩), .agg #[.int .i64 e0, .int .i64 u0, .int .i64 u1, .string t] ] w fun e w' => e = .returned (.bool v) ∧ Below w.heap.size w w'
  keys : ∀ {w : World} {N p : Nat} {T : List K2} {B : List B2} {X : List Sd} {F : Nat → Prop}, PAt w N p T B X F → Rm T B X →
    Calls Try.prog 21 #[.pointer (some ⟨p, 0, none⟩)] w fun e w' => ∃ v f, e = .returned v ∧ Tab T B f ∧ w'.ownsRow w.heap.size 33 2 v (keysT f 32768).length ((keysT f 32768).flatMap kC) ∧ Below w.heap.size w w'
  copy : ∀ {w : World} {N p : Nat} {T : List K2} {B : List B2} {X : List Sd} {F : Nat → Prop}, PAt w N p T B X F → Rm T B X →
    Calls Try.prog 29 #[.pointer (some ⟨p, 0, none⟩)] w fun e w' => ∃ p' F', e = .returned (.pointer (some ⟨p', 0, none⟩)) ∧ PAt w' w.heap.size p' T B X F' ∧ Below w.heap.size w w'
section
variable {PAt : PPred} {Rm : RPred} {w w' w1 : World} {N p : Nat} {T T' : List K2} {B B' : List B2} {X X' : List Sd} {F G : Nat → Prop} {l : List Op9} {o : Op9}
theorem KApi.later (A : KApi PAt Rm) (h : PAt w N p T B X F) (hb : Below w.heap.size w w') : PAt w' N p T B X F := A.kept (G := fun _ => False) h (Kept.ofBelow hb) fun _ _ e => e
theorem PP.ofBelow (hb : Below w.heap.size w w1) (h : PP PAt w1 w' N p T B X F) : PP PAt w w' N p T B X F := by
  obtain ⟨F', h1, h2, h3⟩ := h
  exact ⟨F', h1, (Kept.ofBelow hb).trans h2 (fun _ _ e => e), fun k hk => (h3 k hk).imp id fun e => Nat.le_trans hb.size e⟩
theorem PP.below (A : KApi PAt Rm) (h : PP PAt w w' N p T' B' X' F) (h0 : PAt w N p T B X F) (hN : N ≤ w.heap.size) : Below N w w' := by
  obtain ⟨_, _, h2, _⟩ := h
  exact h2.below hN fun k hk => (A.ge h0 k hk).1
theorem told_app : toldL (l ++ [o]) = toldL l ++ (if o.1 = 1 then [o.2.1.1] else []) := by unfold toldL; rw [List.filterMap_append]; congr 1; by_cases h : o.1 = 1 <;> simp [h]
theorem box_app : boxL (l ++ [o]) = boxL l ++ (if o.1 = 2 then [o.2.1] else []) := by unfold boxL; rw [List.filterMap_append]; congr 1; by_cases h : o.1 = 2 <;> simp [h]
theorem txt_app : txtL (l ++ [o]) = txtL l ++ (if o.1 = 3 then [o.2.2] else []) := by unfold txtL; rw [List.filterMap_append]; congr 1; by_cases h : o.1 = 3 <;> simp [h]
theorem len_ops : ∀ l : List Op9, (toldL l).length + (boxL l).length + (txtL l).length ≤ l.length
  | [] => by simp [toldL, boxL, txtL]
  | o :: l => by
    have h := len_ops l
    have e1 : (toldL (o :: l)).length ≤ (toldL l).length + (if o.1 = 1 then 1 else 0) := by unfold toldL; rw [List.filterMap_cons]; by_cases h : o.1 = 1 <;> simp [h]
    have e2 : (boxL (o :: l)).length ≤ (boxL l).length + (if o.1 = 2 then 1 else 0) := by unfold boxL; rw [List.filterMap_cons]; by_cases h : o.1 = 2 <;> simp [h]
    have e3 : (txtL (o :: l)).length ≤ (txtL l).length + (if o.1 = 3 then 1 else 0) := by unfold txtL; rw [List.filterMap_cons]; by_cases h : o.1 = 3 <;> simp [h]
    have e4 : (if o.1 = 1 then 1 else 0) + (if o.1 = 2 then 1 else 0) + (if o.1 = 3 then 1 else 0) ≤ 1 := by
      by_cases h1 : o.1 = 1
      · simp [h1]
      · by_cases h2 : o.1 = 2
        · simp [h2]
        · by_cases h3 : o.1 = 3 <;> simp [h1, h2, h3]
    simp only [List.length_cons]
    omega
/- The object behind a row of the law's calls. -/
def POps (PAt : PPred) (w : World) (N p : Nat) (l : List Op9) (F : Nat → Prop) : Prop := PAt w N p (toldL l) (boxL l) (txtL l) F
def PPo (PAt : PPred) (w w' : World) (N p : Nat) (l : List Op9) (F : Nat → Prop) : Prop := ∃ F', POps PAt w' N p l F' ∧ Kept F w w' ∧ ∀ k, F' k → F k ∨ w.heap.size ≤ k
end
set_option maxRecDepth 100000 in
set_option maxHeartbeats 2000000 in
theorem do_rm {PAt : PPred} {Rm : RPred} (A : KApi PAt Rm) (w : World) (N p : Nat) (l : List Op9) (F : Nat → Prop) (k b0 b1 b2 b3 e u0 u1 : Int) (t : ByteArray) (h : POps PAt w N p l F) (hN : N ≤ w.heap.size) (hR : Rm (toldL l) (boxL l) (txtL l)) (hok : OkO (k, (((b0, b1), (b2, b3)), (e, ((u0, u1), t))))) :
    Calls Try.prog 11 #[.pointer (some ⟨p, 0, none⟩), .agg #[.int .i64 k, .int .i64 b0, .int .i64 b1, .int .i64 b2, .int .i64 b3, .int .i64 e, .int .i64 u0, .int .i64 u1, .string t] ] w fun r w' => r = .returned (.tuple #[]) ∧ PPo PAt w w' N p (l ++ [(k, (((b0, b1), (b2, b3)), (e, ((u0, u1), t))))]) F := by
  obtain ⟨wk, ⟨w0, w1', w2, w3⟩, we, wu0, wu1, wt⟩ := hok
  have hb1 : Below w.heap.size w (w.alloc (.cells #[.int .i64 k, .int .i64 b0, .int .i64 b1, .int .i64 b2, .int .i64 b3, .int .i64 e, .int .i64 u0, .int .i64 u1, .string t] 39)) := Rt.below1 _ _
  have hN1 := Nat.le_trans hN hb1.size
  have ha := A.learn b0 b1 (A.later h hb1) hN1 hR w0 w1'
  have hs := A.see b0 b1 b2 b3 (A.later h hb1) hN1 hR ⟨w0, w1', w2, w3⟩
  have hx := A.seeX e u0 u1 t (A.later h hb1) hN1 hR ⟨we, wu0, wu1, wt⟩
  have HK : Hid (POps PAt w N p l F) := h
  obtain ⟨x0, x1, x2, x3, x4, x5, x6, x7, x8⟩ := boxed9 w (.int .i64 k) (.int .i64 b0) (.int .i64 b1) (.int .i64 b2) (.int .i64 b3) (.int .i64 e) (.int .i64 u0) (.int .i64 u1) (.string t) 39
  clear h hN hR wt hN1 wk w0 w1' w2 w3 we wu0 wu1
  go_enter Try.func11, Try.ntmps11
  go_upto_region 1 with (fail)
  generalize w.alloc (.cells #[.int .i64 k, .int .i64 b0, .int .i64 b1, .int .i64 b2, .int .i64 b3, .int .i64 e, .int .i64 u0, .int .i64 u1, .string t] 39) = w1 at *
  have HB1 : Hid (Below w.heap.size w w1) := hb1
  obtain ⟨Q, hQ⟩ : ∃ Q, w.heap.size = Q := ⟨_, rfl⟩
  rw [hQ] at x0 x1 x2 x3 x4 x5 x6 x7 x8 ⊢
  clear hb1 hQ
  by_cases h1 : k = 1
  · subst h1
    go_wp2_with (go_at_call 23; refine ha.mono ?_; rintro r w2 ⟨rfl, hd⟩)
    first | go_end0 | refine bodyPost_ret (results_none rfl _ _ _) rfl ?_
    refine ⟨rfl, ?_⟩
    have := PP.ofBelow HB1.out hd
    unfold PPo POps
    rw [told_app, box_app, txt_app]
    simpa [PP] using this
  · have e1 : (k == 1) = false := by simpa using h1
    by_cases h2 : k = 2
    · subst h2
      go_wp2_with (go_at_call 31; refine hs.mono ?_; rintro r w2 ⟨rfl, hd⟩)
      first | go_end0 | refine bodyPost_ret (results_none rfl _ _ _) rfl ?_
      refine ⟨rfl, ?_⟩
      have := PP.ofBelow HB1.out hd
      unfold PPo POps
      rw [told_app, box_app, txt_app]
      simpa [PP] using this
    · have e2 : (k == 2) = false := by simpa using h2
      by_cases h3 : k = 3
      · subst h3
        go_wp2_with (go_at_call 32; refine hx.mono ?_; rintro r w2 ⟨rfl, hd⟩)
        first | go_end0 | refine bodyPost_ret (results_none rfl _ _ _) rfl ?_
        refine ⟨rfl, ?_⟩
        have := PP.ofBelow HB1.out hd
        unfold PPo POps
        rw [told_app, box_app, txt_app]
        simpa [PP] using this
      · have e3 : (k == 3) = false := by simpa using h3
        have HE : Hid (k ≠ 1 ∧ k ≠ 2 ∧ k ≠ 3) := ⟨h1, h2, h3⟩
        clear h1 h2 h3 ha hs hx
        go_wp2_with fail
        first | go_end0 | refine bodyPost_ret (results_none rfl _ _ _) rfl ?_
        refine ⟨rfl, F, ?_, Kept.ofBelow HB1.out, fun k hk => .inl hk⟩
        have h := A.later HK.out HB1.out
        unfold POps
        rw [told_app, box_app, txt_app, if_neg HE.out.1, if_neg HE.out.2.1, if_neg HE.out.2.2]
        simpa using h
theorem do_any {PAt : PPred} {Rm : RPred} (A : KApi PAt Rm) (w : World) (N p : Nat) (l : List Op9) (F : Nat → Prop) (k b0 b1 b2 b3 e u0 u1 : Int) (t : ByteArray) (h : POps PAt w N p l F) (hN : N ≤ w.heap.size) (hl : l.length < 2748779069440) (hok : OkO (k, (((b0, b1), (b2, b3)), (e, ((u0, u1), t))))) :
    Calls Try.prog 11 #[.pointer (some ⟨p, 0, none⟩), .agg #[.int .i64 k, .int .i64 b0, .int .i64 b1, .int .i64 b2, .int .i64 b3, .int .i64 e, .int .i64 u0, .int .i64 u1, .string t] ] w fun r w' => r = .returned (.tuple #[]) ∧ PPo PAt w w' N p (l ++ [(k, (((b0, b1), (b2, b3)), (e, ((u0, u1), t))))]) F := do_rm A w N p l F k b0 b1 b2 b3 e u0 u1 t h hN (A.rm l hl) hok
end Go.Proofs.Ytompgoaogomoaaa.Kn
