/- Orders of a region, with a condition that may hang on what has come up: a variant of our own of the library's wpAnyH (Derived.OrdersHeld), whose laws it stands on. -/
import Derived.Test.YtcdibafcolhlgaaChecked
import Derived.Deep.RegionHeld3
namespace Go.Proofs.Ytcdibafcolhlgaa
set_option linter.unusedVariables false
set_option linter.unusedSimpArgs false

section
variable {P : Program} {ops : Array Oper} {Q : Exit → Act → World → Prop} {md : Region.Mode} {C : Array Bool → World → Prop}
def Till (P : Program) (md : Region.Mode) (ops : Array Oper) (Q : Exit → Act → World → Prop) (C : Array Bool → World → Prop) (n : Nat) (l : Array Bool) (a : Act) (w : World) : Prop :=
  match n with
  | 0 => wpAny P md ops Q 0 l a w
  | n + 1 => (Region.ready md ops l = [] → Q .normal a w) ∧ ∀ i, i ∈ Region.ready md ops l → wpOp P ops Q i (fun b v => C (l.setIfInBounds i true) v ∧ Till P md ops Q C n (l.setIfInBounds i true) b v) a w
theorem Till.any {n : Nat} : ∀ {l : Array Bool} {a : Act} {w : World}, Till P md ops Q C n l a w → wpAny P md ops Q n l a w := by
  induction n with
  | zero => exact fun h => h
  | succ n ih => exact fun h => ⟨h.1, fun i hi => wpOp_mono (fun _ _ k => ih k.2) (h.2 i hi)⟩
/- Where the condition holds from here on, whatever comes up, the rest goes as ever. -/
theorem Till.of {n : Nat} : ∀ {l : Array Bool} {a : Act} {w : World} (I : Array Bool → Prop), I l → (∀ l i, I l → i ∈ Region.ready md ops l → I (l.setIfInBounds i true) ∧ ∀ v, C (l.setIfInBounds i true) v) → wpAny P md ops Q n l a w → Till P md ops Q C n l a w := by
  induction n with
  | zero => exact fun _ _ _ h => h
  | succ n ih => exact fun I hI hs h => ⟨h.1, fun i hi => wpOp_mono (fun _ v k => ⟨(hs _ i hI hi).2 v, ih I (hs _ i hI hi).1 hs k⟩) (h.2 i hi)⟩
/- What may come up does not wait for what may come up beside it. -/
theorem apart_ready {l : Array Bool} {i j : Nat} {o : Oper} (hi : i ∈ Region.ready md ops l) (hj : j ∈ Region.ready md ops l) (ho : ops[j]? = some o) : ∀ e ∈ o.after, Region.binds md e = true → e.on ≠ i := by
  rintro e he hb rfl
  have hno := (mem_ready.1 hi).1
  obtain ⟨-, o', ho', hall⟩ := mem_ready.1 hj
  cases Option.some.inj (ho.symm.trans ho')
  have hyes := hall e he hb
  by_cases hlt : e.on < l.size <;> simp_all
/- An operation is taken ahead of the others: I is what is known of those that have come up as long as it has not. -/
theorem Till.ahead {I : Array Bool → Prop} {S : World → Prop} {i : Nat} {oi : Oper} {x : Value} (hi : ops[i]? = some oi) (hs : Region.noSelect ops = true)
    (hQ : ∀ c a w, Q (.panic c) (a.put oi.dst x) w → Q (.panic c) a w)
    (step : ∀ l j v, I l → j ≠ i → i ∈ Region.ready md ops l → j ∈ Region.ready md ops l → C ((l.setIfInBounds i true).setIfInBounds j true) v → I (l.setIfInBounds j true) ∧ C (l.setIfInBounds j true) v)
    (safe : ∀ l v, I l → C l v → S v ∧ C (l.setIfInBounds i true) v) (n : Nat) : ∀ (l : Array Bool) (a : Act) (w : World),
      (∀ k ok, ops[k]? = some ok → k ≠ i → l.getD k true = false → (∀ e ∈ ok.after, Region.binds md e = true → e.on ≠ i) → oi.apart ops ok = true) →
      i ∈ Region.ready md ops l → I l → C l w → YieldsIf P ops S oi x a → Till P md ops Q C n (l.setIfInBounds i true) (a.put oi.dst x) w → Till P md ops Q C (n + 1) l a w := by
  have sel := fun j o cs b => Region.noSelect_spec hs j o cs b
  induction n with
  | zero =>
    intro l a w _ hr hI hC hy H
    refine ⟨fun e => absurd hr (by simp [e]), fun j hj => ?_⟩
    obtain rfl | hne := Decidable.em (j = i)
    · exact hy.wpOp hi (safe l w hI hC).1 ⟨(safe l w hI hC).2, H⟩
    · exact absurd (ready_mono hj hne) (by simp [H.1])
  | succ n ih =>
    intro l a w free hr hI hC hy H
    refine ⟨fun e => absurd hr (by simp [e]), fun j hj => ?_⟩
    obtain rfl | hne := Decidable.em (j = i)
    · exact hy.wpOp hi (safe l w hI hC).1 ⟨(safe l w hI hC).2, H⟩
    · have hun := (mem_ready.1 hj).1
      obtain ⟨oj, hoj⟩ : ∃ oj, ops[j]? = some oj := (mem_ready.1 hj).2.imp fun _ h => h.1
      refine wpOp_mono (fun b v ⟨hyb, hCb, hTb⟩ => ?_) (wpOp_putIf hoj (free j oj hoj hne hun (apart_ready hr hj hoj)) (fun cs b => sel i oi cs b hi) (fun cs b => sel j oj cs b hoj) hQ hy (H.2 j (ready_mono hj hne)))
      obtain ⟨hI', hC'⟩ := step l j v hI hne hr hj hCb
      refine ⟨hC', ih _ b v (fun k ok hk hki hkl => free k ok hk hki ?_) (ready_mono hr (Ne.symm hne)) hI' hC' hyb (by rw [Array.setIfInBounds_comm _ _ hne]; exact hTb)⟩
      obtain rfl | hjk := Decidable.em (j = k)
      · exact hun
      · rwa [getD_set_ne true hjk] at hkl
/- The condition S, as long as some of L have not come up. -/
def Lack (L : List Nat) (S : World → Prop) (l : Array Bool) (w : World) : Prop := (∃ c ∈ L, l.getD c true = false) → S w
section
variable {L : List Nat} {S : World → Prop} {n i : Nat} {oi : Oper} {x : Value} {l : Array Bool} {a : Act} {w : World}
/- A load (or whatever yields its value wherever S holds), as long as the call c, one of L, waits for it. -/
theorem Till.take (c : Nat) (hi : ops[i]? = some oi) (hc : c ∈ L) (hwait : ((ops[c]?).any fun oc => oc.after.any fun e => Region.binds md e && e.on == i) = true) (hci : c ≠ i) (hcl : l.getD c true = false)
    (hs : Region.noSelect ops = true) (hf : Region.free md ops l i = true) (hr : (Region.ready md ops l).contains i = true)
    (hQ : ∀ c a w, Q (.panic c) (a.put oi.dst x) w → Q (.panic c) a w) (hy : YieldsIf P ops S oi x a) (hS : S w)
    (h : Till P md ops Q (Lack L S) n (l.setIfInBounds i true) (a.put oi.dst x) w) : Till P md ops Q (Lack L S) (n + 1) l a w := by
  have notc : ∀ l j, i ∈ Region.ready md ops l → j ∈ Region.ready md ops l → j ≠ c := by
    rintro l j h1 h2 rfl
    cases ho : ops[j]? with
    | none => simp [ho] at hwait
    | some oc =>
      simp only [ho, Option.any_some, Array.any_eq_true, Bool.and_eq_true, beq_iff_eq] at hwait
      obtain ⟨k, hk, hb, hon⟩ := hwait
      exact apart_ready h1 h2 ho _ (Array.getElem_mem hk) hb hon
  refine Till.ahead (I := fun l => l.getD c true = false) (S := S) hi hs hQ (fun l j v hI hne h1 h2 hC => ?_) (fun l v hI hC => ⟨hC ⟨c, hc, hI⟩, fun _ => hC ⟨c, hc, hI⟩⟩) n l a w (Region.free_spec hi hf) (by simpa using hr) hcl (fun _ => hS) hy h
  have hj := notc l j h1 h2
  exact ⟨by rw [getD_set_ne true hj]; exact hI, fun _ => hC ⟨c, hc, by rw [getD_set_ne true hj, getD_set_ne true (Ne.symm hci)]; exact hI⟩⟩
/- What yields its value in whatever world, and is none of L. -/
theorem Till.takeFree (hi : ops[i]? = some oi) (hiL : i ∉ L)
    (hs : Region.noSelect ops = true) (hf : Region.free md ops l i = true) (hr : (Region.ready md ops l).contains i = true)
    (hQ : ∀ c a w, Q (.panic c) (a.put oi.dst x) w → Q (.panic c) a w) (hy : YieldsIf P ops (fun _ => True) oi x a) (hS : S w)
    (h : Till P md ops Q (Lack L S) n (l.setIfInBounds i true) (a.put oi.dst x) w) : Till P md ops Q (Lack L S) (n + 1) l a w := by
  have ne : ∀ c ∈ L, i ≠ c := fun c hc e => hiL (e ▸ hc)
  refine Till.ahead (I := fun _ => True) (S := fun _ => True) hi hs hQ (fun l j v _ hne _ _ hC => ⟨trivial, fun ⟨c, hc, he⟩ => hC ⟨c, hc, ?_⟩⟩) (fun l v _ hC => ⟨trivial, fun ⟨c, hc, he⟩ => hC ⟨c, hc, ?_⟩⟩) n l a w (Region.free_spec hi hf) (by simpa using hr) trivial (fun _ => hS) hy h
  · rw [← Array.setIfInBounds_comm _ _ hne, getD_set_ne true (ne c hc)]
    exact he
  · rwa [getD_set_ne true (ne c hc)] at he
/- One operation alone may come up. -/
theorem Till.one {o : Oper} (ho : ops[i]? = some o) (hr : Region.ready md ops l = [i])
    (h : ∀ K : Act → World → Prop, Shut (∀ b v, ((∃ c ∈ L, (l.setIfInBounds i true).getD c true = false) → S v) → Till P md ops Q (Lack L S) n (l.setIfInBounds i true) b v → K b v) → if Region.wanted o (yielded ops a.tmps) = true then Oper.wp P o a w K Q else K (a.put o.dst undef) w) : Till P md ops Q (Lack L S) (n + 1) l a w := by
  refine ⟨fun e => absurd (hr.symm.trans e) (by simp), fun j hj => ?_⟩
  rw [hr, List.mem_singleton] at hj
  subst hj
  exact wpOp_step ho fun K hK => h K fun b v h1 h2 => hK b v ⟨h1, h2⟩
/- All of L have come up. -/
theorem Till.rest (hl : (L.all fun c => l.getD c true) = true) (h : wpAny P md ops Q n l a w) : Till P md ops Q (Lack L S) n l a w := by
  refine Till.of (fun l => ∀ c ∈ L, l.getD c true = true) (List.all_eq_true.1 hl) (fun l i hI hi => ?_) h
  have hI' : ∀ c ∈ L, (l.setIfInBounds i true).getD c true = true := fun c hc => by
    obtain rfl | hne := Decidable.em (i = c)
    · exact absurd ((mem_ready.1 hi).1.symm.trans (hI i hc)) (by decide)
    · rw [getD_set_ne true hne]; exact hI c hc
  exact ⟨hI', fun v ⟨c, hc, he⟩ => absurd ((hI' c hc).symm.trans he) (by decide)⟩
theorem Till.region {id : Nat} (L : List Nat) (S : World → Prop) (hm : P.follows .mixedOrders = true)
    (h : Till P .any ops Q (Lack L S) ops.size (Array.replicate ops.size false) a w.drew) : (Code.region id ops true).wp P Q a w :=
  wp_region_any hm h.any
end
end
end Go.Proofs.Ytcdibafcolhlgaa
