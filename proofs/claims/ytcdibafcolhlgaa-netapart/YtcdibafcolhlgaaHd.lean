/- Short forms of the held region's law: an operation taken, read, passed over. -/
import Derived.OrdersHeld
import Derived.Maps.RangeWalk
import Derived.KernelRfl
namespace Go.Proofs.Ytcdibafcolhlgaa
section
variable {P : Program} {ops : Array Oper} {Q : Exit → Act → World → Prop} {md : Region.Mode} {S : World → Prop} {fuel : Nat} {listed : Array Bool} {a : Act} {w : World} {ty : TypeId} {ps : String} {af : Array Edge}
theorem opRg (i d : Nat) (op : Op) (g : Option (Nat × Bool)) (v : Value) (hi : ops[i]? = some ⟨some d, op, ty, ps, af, g⟩) (hx : ∀ w, S w → (execOp a.eval ⟨some d, op, ty, ps, af, g⟩).run P w = .ok (.value v) w) (h : wpAnyH P md ops Q S fuel (listed.setIfInBounds i true) (a.put (some d) v) w)
    (hs : Region.noSelect ops = true := by kernel_rfl) (hf : Region.free md ops listed i = true := by kernel_rfl) (hr : (Region.ready md ops listed).contains i = true := by kernel_rfl) (hQ : ∀ c a w, Q (.panic c) (a.put (some d) v) w → Q (.panic c) a w := by exact fun _ _ _ h => h) (hw : Region.wanted ⟨some d, op, ty, ps, af, g⟩ (yielded ops a.tmps) = true := by rfl) (hS : S w := by assumption) : wpAnyH P md ops Q S (fuel + 1) listed a w :=
  wpAnyH_take hi hs hf hr hQ (.inl ⟨hw, hx⟩) hS h
theorem opR (i d : Nat) (op : Op) (v : Value) (hi : ops[i]? = some ⟨some d, op, ty, ps, af, none⟩) (hx : ∀ w, S w → (execOp a.eval ⟨some d, op, ty, ps, af, none⟩).run P w = .ok (.value v) w) (h : wpAnyH P md ops Q S fuel (listed.setIfInBounds i true) (a.put (some d) v) w)
    (hs : Region.noSelect ops = true := by kernel_rfl) (hf : Region.free md ops listed i = true := by kernel_rfl) (hr : (Region.ready md ops listed).contains i = true := by kernel_rfl) (hQ : ∀ c a w, Q (.panic c) (a.put (some d) v) w → Q (.panic c) a w := by exact fun _ _ _ h => h) (hw : Region.wanted ⟨some d, op, ty, ps, af, none⟩ (yielded ops a.tmps) = true := by rfl) (hS : S w := by assumption) : wpAnyH P md ops Q S (fuel + 1) listed a w :=
  wpAnyH_take hi hs hf hr hQ (.inl ⟨hw, hx⟩) hS h
theorem opTg (i d : Nat) (op : Op) (g : Option (Nat × Bool)) (v : Value) (hi : ops[i]? = some ⟨some d, op, ty, ps, af, g⟩) (h : wpAnyH P md ops Q S fuel (listed.setIfInBounds i true) (a.put (some d) v) w)
    (hx : ∀ w, S w → (execOp a.eval ⟨some d, op, ty, ps, af, g⟩).run P w = .ok (.value v) w := by (intro w hSw; (try dsimp only at hSw); go_simp)) (hs : Region.noSelect ops = true := by kernel_rfl) (hf : Region.free md ops listed i = true := by kernel_rfl) (hr : (Region.ready md ops listed).contains i = true := by kernel_rfl) (hQ : ∀ c a w, Q (.panic c) (a.put (some d) v) w → Q (.panic c) a w := by exact fun _ _ _ h => h) (hw : Region.wanted ⟨some d, op, ty, ps, af, g⟩ (yielded ops a.tmps) = true := by rfl) (hS : S w := by assumption) : wpAnyH P md ops Q S (fuel + 1) listed a w :=
  wpAnyH_take hi hs hf hr hQ (.inl ⟨hw, hx⟩) hS h
theorem opT (i d : Nat) (op : Op) (v : Value) (hi : ops[i]? = some ⟨some d, op, ty, ps, af, none⟩) (h : wpAnyH P md ops Q S fuel (listed.setIfInBounds i true) (a.put (some d) v) w)
    (hx : ∀ w, S w → (execOp a.eval ⟨some d, op, ty, ps, af, none⟩).run P w = .ok (.value v) w := by (intro w hSw; (try dsimp only at hSw); go_simp)) (hs : Region.noSelect ops = true := by kernel_rfl) (hf : Region.free md ops listed i = true := by kernel_rfl) (hr : (Region.ready md ops listed).contains i = true := by kernel_rfl) (hQ : ∀ c a w, Q (.panic c) (a.put (some d) v) w → Q (.panic c) a w := by exact fun _ _ _ h => h) (hw : Region.wanted ⟨some d, op, ty, ps, af, none⟩ (yielded ops a.tmps) = true := by rfl) (hS : S w := by assumption) : wpAnyH P md ops Q S (fuel + 1) listed a w :=
  wpAnyH_take hi hs hf hr hQ (.inl ⟨hw, hx⟩) hS h
theorem opN (i d : Nat) (op : Op) (g : Option (Nat × Bool)) (hi : ops[i]? = some ⟨some d, op, ty, ps, af, g⟩) (h : wpAnyH P md ops Q S fuel (listed.setIfInBounds i true) (a.put (some d) undef) w)
    (hs : Region.noSelect ops = true := by kernel_rfl) (hf : Region.free md ops listed i = true := by kernel_rfl) (hr : (Region.ready md ops listed).contains i = true := by kernel_rfl) (hQ : ∀ c a w, Q (.panic c) (a.put (some d) undef) w → Q (.panic c) a w := by exact fun _ _ _ h => h) (hw : Region.wanted ⟨some d, op, ty, ps, af, g⟩ (yielded ops a.tmps) = false := by rfl) (hS : S w := by assumption) : wpAnyH P md ops Q S (fuel + 1) listed a w :=
  wpAnyH_take hi hs hf hr hQ (.inr ⟨hw, rfl⟩) hS h
end
end Go.Proofs.Ytcdibafcolhlgaa
