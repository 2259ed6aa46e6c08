/- Orders of a region that stores where it has loaded: a condition that holds until the given calls have come up. -/
import Derived.Test.YtohgflimdoebiaaChecked
import Derived.Deep.RegionHeld3
namespace Go.Proofs.Ytohgflimdoebiaa.Dk
set_option linter.unusedVariables false
set_option maxRecDepth 4000
set_option linter.unusedSimpArgs false

section
variable {P : Program} {ops : Array Oper} {Q : Exit → Act → World → Prop} {md : Region.Mode} {S : World → Prop} {L : List Nat}
/- Some of L has not come up yet. -/
def Lack (L : List Nat) (listed : Array Bool) : Prop := ∃ c ∈ L, listed.getD c true = false
def AnyTill (P : Program) (md : Region.Mode) (ops : Array Oper) (Q : Exit → Act → World → Prop) (S : World → Prop) (L : List Nat) : Nat → Array Bool → Act → World → Prop
  | 0, listed, a, w => Region.ready md ops listed = [] ∧ Q .normal a w
  | n + 1, listed, a, w => (Region.ready md ops listed = [] → Q .normal a w) ∧ ∀ i ∈ Region.ready md ops listed, wpOp P ops Q i (fun b v => (Lack L (listed.setIfInBounds i true) → S v) ∧ AnyTill P md ops Q S L n (listed.setIfInBounds i true) b v) a w
theorem AnyTill.any : ∀ (n : Nat) (listed : Array Bool) (a : Act) (w : World), AnyTill P md ops Q S L n listed a w → wpAny P md ops Q n listed a w
  | 0, _, _, _, h => h
  | n + 1, _, _, _, h => ⟨h.1, fun i hi => wpOp_mono (fun b v k => AnyTill.any n _ b v k.2) (h.2 i hi)⟩
/- Once all of L are there, the rest goes as ever. -/
theorem AnyTill.ofAny : ∀ (n : Nat) (listed : Array Bool) (a : Act) (w : World), ¬ Lack L listed → wpAny P md ops Q n listed a w → AnyTill P md ops Q S L n listed a w
  | 0, _, _, _, _, h => h
  | n + 1, listed, _, _, hl, h => ⟨h.1, fun i hi => wpOp_mono (fun b v k => by
      have hn : ¬ Lack L (listed.setIfInBounds i true) := by
        rintro ⟨c, hc, he⟩
        by_cases hic : i = c
        · subst hic
          have h0 := (mem_ready.1 hi).1
          rcases Nat.lt_or_ge i listed.size with h' | h'
          · simp [h'] at he
          · exact hl ⟨i, hc, h0⟩
        · rw [getD_set_ne true hic] at he
          exact hl ⟨c, hc, he⟩
      exact ⟨fun h => absurd h hn, AnyTill.ofAny n _ b v hn k⟩) (h.2 i hi)⟩
/- What yields its value wherever S holds is taken first, as long as one of L waits for it. -/
theorem AnyTill.first {i c : Nat} {oi oc : Oper} {v : Value} (hi : ops[i]? = some oi) (hc : c ∈ L) (hoc : ops[c]? = some oc) (hwait : ∃ e ∈ oc.after, Region.binds md e = true ∧ e.on = i) (hci : c ≠ i)
    (hsel : ∀ (j : Nat) (o : Oper) cs b, ops[j]? = some o → o.op ≠ .select cs b)
    (hQ : ∀ x a w, Q (.panic x) (a.put oi.dst v) w → Q (.panic x) a w) :
    ∀ (n : Nat) (listed : Array Bool) (a : Act) (w : World),
      (∀ j oj, ops[j]? = some oj → j ≠ i → listed.getD j true = false → (∀ e ∈ oj.after, Region.binds md e = true → e.on ≠ i) → oi.apart ops oj = true) →
      i ∈ Region.ready md ops listed → listed.getD c true = false → YieldsIf P ops S oi v a → S w →
      AnyTill P md ops Q S L n (listed.setIfInBounds i true) (a.put oi.dst v) w → AnyTill P md ops Q S L (n + 1) listed a w := by
  have waits : ∀ (listed : Array Bool) (j : Nat), i ∈ Region.ready md ops listed → j ∈ Region.ready md ops listed → ∀ oj, ops[j]? = some oj → ∀ e ∈ oj.after, Region.binds md e = true → e.on ≠ i := by
    intro listed j hr hj oj hoj e he hb heq
    obtain ⟨-, o, ho, hall⟩ := mem_ready.1 hj
    rw [hoj] at ho
    cases ho
    have h1 := hall e he hb
    have h0 := (mem_ready.1 hr).1
    rw [heq] at h1
    rcases Nat.lt_or_ge i listed.size with h' | h'
    · simp [h'] at h0 h1; rw [h0] at h1; cases h1
    · simp [Array.getElem?_eq_none h'] at h1
  have notc : ∀ (listed : Array Bool) (j : Nat), i ∈ Region.ready md ops listed → j ∈ Region.ready md ops listed → j ≠ c := by
    intro listed j hr hj hjc
    subst hjc
    obtain ⟨e, he, hb, hon⟩ := hwait
    exact waits listed j hr hj oc hoc e he hb hon
  intro n
  induction n with
  | zero =>
    intro listed a w _ hr hcl hy hS H
    refine ⟨fun h => (by rw [h] at hr; cases hr), fun j hj => ?_⟩
    by_cases hji : j = i
    · subst hji; exact hy.wpOp hi hS ⟨fun _ => hS, H⟩
    · have := ready_mono hj hji
      rw [H.1] at this
      cases this
  | succ n ih =>
    intro listed a w hfree hr hcl hy hS H
    refine ⟨fun h => (by rw [h] at hr; cases hr), fun j hj => ?_⟩
    by_cases hji : j = i
    · subst hji; exact hy.wpOp hi hS ⟨fun _ => hS, H⟩
    · have h1 := H.2 j (ready_mono hj hji)
      have hjc := notc listed j hr hj
      obtain ⟨hjun, oj, hoj, -⟩ := mem_ready.1 hj
      have h2 := wpOp_putIf hoj (hfree j oj hoj hji hjun (waits listed j hr hj oj hoj)) (fun cs b => hsel i oi cs b hi) (fun cs b => hsel j oj cs b hoj) hQ hy h1
      have hcl' : (listed.setIfInBounds j true).getD c true = false := by rw [getD_set_ne true hjc]; exact hcl
      have hlack : Lack L ((listed.setIfInBounds i true).setIfInBounds j true) := ⟨c, hc, by rw [getD_set_ne true hjc, getD_set_ne true (Ne.symm hci)]; exact hcl⟩
      have hfree' : ∀ k ok, ops[k]? = some ok → k ≠ i → (listed.setIfInBounds j true).getD k true = false →
          (∀ e ∈ ok.after, Region.binds md e = true → e.on ≠ i) → oi.apart ops ok = true := fun k ok hk hki hun hno => by
        refine hfree k ok hk hki ?_ hno
        by_cases hjk : j = k
        · subst hjk; exact hjun
        · rw [getD_set_ne true hjk] at hun; exact hun
      refine wpOp_mono (fun b v h3 => ⟨fun _ => h3.2.1 hlack, ih (listed.setIfInBounds j true) b v hfree' (ready_mono hr (Ne.symm hji)) hcl' h3.1 (h3.2.1 hlack) ?_⟩) h2
      rw [Array.setIfInBounds_comm _ _ hji]
      exact h3.2.2
theorem AnyTill.take {i : Nat} (c : Nat) {oi : Oper} {v : Value} {n : Nat} {listed : Array Bool} {a : Act} {w : World} (hi : ops[i]? = some oi) (hc : c ∈ L) (hwait : ((ops[c]?).any fun oc => oc.after.any fun e => Region.binds md e && e.on == i) = true) (hci : c ≠ i) (hcl : listed.getD c true = false)
    (hs : Region.noSelect ops = true) (hf : Region.free md ops listed i = true) (hr : (Region.ready md ops listed).contains i = true)
    (hQ : ∀ x a w, Q (.panic x) (a.put oi.dst v) w → Q (.panic x) a w) (hy : YieldsIf P ops S oi v a) (hS : S w)
    (h : AnyTill P md ops Q S L n (listed.setIfInBounds i true) (a.put oi.dst v) w) : AnyTill P md ops Q S L (n + 1) listed a w := by
  obtain ⟨oc, hoc, hwait⟩ : ∃ oc, ops[c]? = some oc ∧ (oc.after.any fun e => Region.binds md e && e.on == i) = true := by
    cases ho : ops[c]? with
    | none => rw [ho] at hwait; cases hwait
    | some oc => rw [ho] at hwait; exact ⟨oc, rfl, hwait⟩
  refine AnyTill.first hi hc hoc ?_ hci (Region.noSelect_spec hs) hQ n listed a w (Region.free_spec hi hf) (by simpa using hr) hcl hy hS h
  obtain ⟨k, hk, he⟩ := Array.any_eq_true.1 hwait
  simp only [Bool.and_eq_true, beq_iff_eq] at he
  exact ⟨_, Array.getElem_mem hk, he.1, he.2⟩
/- What yields its value in whatever world is taken first, if it is none of L. -/
theorem AnyTill.firstFree {i : Nat} {oi : Oper} {v : Value} (hi : ops[i]? = some oi) (hiL : i ∉ L)
    (hsel : ∀ (j : Nat) (o : Oper) cs b, ops[j]? = some o → o.op ≠ .select cs b)
    (hQ : ∀ x a w, Q (.panic x) (a.put oi.dst v) w → Q (.panic x) a w) :
    ∀ (n : Nat) (listed : Array Bool) (a : Act) (w : World),
      (∀ j oj, ops[j]? = some oj → j ≠ i → listed.getD j true = false → (∀ e ∈ oj.after, Region.binds md e = true → e.on ≠ i) → oi.apart ops oj = true) →
      i ∈ Region.ready md ops listed → YieldsIf P ops (fun _ => True) oi v a → (Lack L listed → S w) →
      AnyTill P md ops Q S L n (listed.setIfInBounds i true) (a.put oi.dst v) w → AnyTill P md ops Q S L (n + 1) listed a w := by
  have waits : ∀ (listed : Array Bool) (j : Nat), i ∈ Region.ready md ops listed → j ∈ Region.ready md ops listed → ∀ oj, ops[j]? = some oj → ∀ e ∈ oj.after, Region.binds md e = true → e.on ≠ i := by
    intro listed j hr hj oj hoj e he hb heq
    obtain ⟨-, o, ho, hall⟩ := mem_ready.1 hj
    rw [hoj] at ho
    cases ho
    have h1 := hall e he hb
    have h0 := (mem_ready.1 hr).1
    rw [heq] at h1
    rcases Nat.lt_or_ge i listed.size with h' | h'
    · simp [h'] at h0 h1; rw [h0] at h1; cases h1
    · simp [Array.getElem?_eq_none h'] at h1
  have back : ∀ (listed : Array Bool), Lack L (listed.setIfInBounds i true) → Lack L listed := by
    rintro listed ⟨c, hc, he⟩
    have : i ≠ c := fun e => hiL (e ▸ hc)
    rw [getD_set_ne true this] at he
    exact ⟨c, hc, he⟩
  have forth : ∀ (listed : Array Bool), Lack L listed → Lack L (listed.setIfInBounds i true) := by
    rintro listed ⟨c, hc, he⟩
    have : i ≠ c := fun e => hiL (e ▸ hc)
    exact ⟨c, hc, by rw [getD_set_ne true this]; exact he⟩
  intro n
  induction n with
  | zero =>
    intro listed a w _ hr hy hS H
    refine ⟨fun h => (by rw [h] at hr; cases hr), fun j hj => ?_⟩
    by_cases hji : j = i
    · subst hji; exact hy.wpOp hi trivial ⟨fun h => hS (back _ h), H⟩
    · have := ready_mono hj hji
      rw [H.1] at this
      cases this
  | succ n ih =>
    intro listed a w hfree hr hy hS H
    refine ⟨fun h => (by rw [h] at hr; cases hr), fun j hj => ?_⟩
    by_cases hji : j = i
    · subst hji; exact hy.wpOp hi trivial ⟨fun h => hS (back _ h), H⟩
    · have h1 := H.2 j (ready_mono hj hji)
      obtain ⟨hjun, oj, hoj, -⟩ := mem_ready.1 hj
      have h2 := wpOp_putIf hoj (hfree j oj hoj hji hjun (waits listed j hr hj oj hoj)) (fun cs b => hsel i oi cs b hi) (fun cs b => hsel j oj cs b hoj) hQ hy h1
      have hfree' : ∀ k ok, ops[k]? = some ok → k ≠ i → (listed.setIfInBounds j true).getD k true = false →
          (∀ e ∈ ok.after, Region.binds md e = true → e.on ≠ i) → oi.apart ops ok = true := fun k ok hk hki hun hno => by
        refine hfree k ok hk hki ?_ hno
        by_cases hjk : j = k
        · subst hjk; exact hjun
        · rw [getD_set_ne true hjk] at hun; exact hun
      have hto : Lack L (listed.setIfInBounds j true) → Lack L ((listed.setIfInBounds i true).setIfInBounds j true) := fun h => by
        rw [← Array.setIfInBounds_comm _ _ hji]
        exact forth _ h
      refine wpOp_mono (fun b v h3 => ⟨fun h => h3.2.1 (hto h), ih (listed.setIfInBounds j true) b v hfree' (ready_mono hr (Ne.symm hji)) h3.1 (fun h => h3.2.1 (hto h)) ?_⟩) h2
      rw [Array.setIfInBounds_comm _ _ hji]
      exact h3.2.2
theorem AnyTill.takeFree {i : Nat} {oi : Oper} {v : Value} {n : Nat} {listed : Array Bool} {a : Act} {w : World} (hi : ops[i]? = some oi) (hiL : i ∉ L)
    (hs : Region.noSelect ops = true) (hf : Region.free md ops listed i = true) (hr : (Region.ready md ops listed).contains i = true)
    (hQ : ∀ x a w, Q (.panic x) (a.put oi.dst v) w → Q (.panic x) a w) (hy : YieldsIf P ops (fun _ => True) oi v a) (hS : Lack L listed → S w)
    (h : AnyTill P md ops Q S L n (listed.setIfInBounds i true) (a.put oi.dst v) w) : AnyTill P md ops Q S L (n + 1) listed a w :=
  AnyTill.firstFree hi hiL (Region.noSelect_spec hs) hQ n listed a w (Region.free_spec hi hf) (by simpa using hr) hy hS h
/- Each of those that may come up. -/
theorem AnyTill.ready {rs : List Nat} {n : Nat} {listed : Array Bool} {a : Act} {w : World} (hr : Region.ready md ops listed = rs) (hne : rs ≠ [])
    (h : ∀ i ∈ rs, wpOp P ops Q i (fun b v => (Lack L (listed.setIfInBounds i true) → S v) ∧ AnyTill P md ops Q S L n (listed.setIfInBounds i true) b v) a w) : AnyTill P md ops Q S L (n + 1) listed a w :=
  ⟨fun h0 => absurd (hr ▸ h0) hne, hr ▸ h⟩
def AllTill (P : Program) (md : Region.Mode) (ops : Array Oper) (Q : Exit → Act → World → Prop) (S : World → Prop) (L : List Nat) (n : Nat) (listed : Array Bool) (a : Act) (w : World) (rs : List Nat) : Prop :=
  ∀ i ∈ rs, wpOp P ops Q i (fun b v => (Lack L (listed.setIfInBounds i true) → S v) ∧ AnyTill P md ops Q S L n (listed.setIfInBounds i true) b v) a w
theorem AllTill.nil {n : Nat} {listed : Array Bool} {a : Act} {w : World} : AllTill P md ops Q S L n listed a w [] := fun _ h => by cases h
theorem AllTill.cons {n : Nat} {listed : Array Bool} {a : Act} {w : World} {i : Nat} {o : Oper} {rs : List Nat} (ho : ops[i]? = some o)
    (h : ∀ K : Act → World → Prop, Shut (∀ b v, (Lack L (listed.setIfInBounds i true) → S v) → AnyTill P md ops Q S L n (listed.setIfInBounds i true) b v → K b v) → if Region.wanted o (yielded ops a.tmps) = true then Oper.wp P o a w K Q else K (a.put o.dst undef) w)
    (hs : AllTill P md ops Q S L n listed a w rs) : AllTill P md ops Q S L n listed a w (i :: rs) := fun j hj => by
  rcases List.mem_cons.1 hj with rfl | hj
  · exact wpOp_step ho (fun K hK => h K (fun b v h1 h2 => hK b v ⟨h1, h2⟩))
  · exact hs j hj
theorem AnyTill.rest {n : Nat} {listed : Array Bool} {a : Act} {w : World} (hl : (L.all fun c => listed.getD c true) = true) (h : wpAny P md ops Q n listed a w) : AnyTill P md ops Q S L n listed a w := by
  refine AnyTill.ofAny n listed a w ?_ h
  rintro ⟨c, hc, he⟩
  have := List.all_eq_true.1 hl c hc
  rw [he] at this
  cases this
theorem AnyTill.region {id : Nat} {a : Act} {w : World} (L : List Nat) (S : World → Prop) (hm : P.follows .mixedOrders = true)
    (h : AnyTill P .any ops Q S L ops.size (Array.replicate ops.size false) a w.drew) : (Code.region id ops true).wp P Q a w :=
  wp_region_any hm (AnyTill.any _ _ _ _ h)
end
end Go.Proofs.Ytohgflimdoebiaa.Dk
