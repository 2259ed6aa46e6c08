/- A map that holds of each base the least step so far. -/
import Derived.Test.YtompgoaogomoaaaKlMath
import Derived.Maps.Own
import Derived.Maps.OwnSet
import Derived.Maps.Views
namespace Go.Proofs.Ytompgoaogomoaaa.Rt
open Go.Maps

theorem lpart_setf (f : Int → Option Int) (b s : Int) (hb : 1 ≤ b) (n : Nat) : (lpart (setf f b s) n).length = (lpart f n).length + (if b ≤ n ∧ f b = none then 1 else 0) := by
  induction n with
  | zero => simp [lpart]; omega
  | succ n ih =>
    rw [lpart_succ, lpart_succ, List.length_append, List.length_append, ih]
    by_cases e : (n : Int) + 1 = b
    · have e1 : setf f b s ((n : Int) + 1) = some s := by simp [setf, e]
      have e2 : ¬ b ≤ (n : Int) := by omega
      rw [e1, e]
      cases hf : f b <;> simp [e2]
      omega
    · have e1 : setf f b s ((n : Int) + 1) = f ((n : Int) + 1) := by simp [setf, e]
      rw [e1]
      have e2 : (b ≤ ((n + 1 : Nat) : Int)) ↔ b ≤ (n : Int) := by omega
      simp only [e2]
      omega

structure MapIs (kk : Int → Lit) (el : Int → Int → DataW Unit) (D : DataW Unit) (f : Int → Option Int) : Prop where
  keys : ∀ kl, Maps.has D kl = true → ∃ b s, kl = kk b ∧ f b = some s ∧ ∀ z, D.atKey kl z = el b s
  has : ∀ b s, f b = some s → Maps.has D (kk b) = true
  size : Maps.size D = (lstf f).length
  dom : ∀ b s, f b = some s → 1 ≤ b ∧ b ≤ 65535

theorem MapIs.empty (kk : Int → Lit) (el : Int → Int → DataW Unit) : MapIs kk el (.map []) (fun _ => none) where
  keys := fun kl h => by simp [Maps.has] at h
  has := fun b s h => by cases h
  size := by
    have : (lstf fun _ => none) = [] := by
      rw [List.eq_nil_iff_forall_not_mem]
      rintro ⟨b, s⟩ h
      have := mem_lpart.1 h
      cases this.2.2
    rw [this]; rfl
  dom := fun b s h => by cases h
/- Keys that are told apart. -/
def Inj (kk : Int → Lit) : Prop := ∀ b c, 1 ≤ b → b ≤ 65535 → 1 ≤ c → c ≤ 65535 → kk b = kk c → b = c
theorem MapIs.has_no {kk : Int → Lit} {el : Int → Int → DataW Unit} {D : DataW Unit} {f : Int → Option Int} (h : MapIs kk el D f) (hI : Inj kk) {b : Int} (h1 : 1 ≤ b) (h2 : b ≤ 65535) (hf : f b = none) : Maps.has D (kk b) = false := by
  cases hh : Maps.has D (kk b) with
  | false => rfl
  | true =>
    obtain ⟨c, s, hk, hc, _⟩ := h.keys _ hh
    have := h.dom c s hc
    have := hI b c h1 h2 this.1 this.2 hk
    subst this
    rw [hf] at hc; cases hc
theorem MapIs.at_yes {kk : Int → Lit} {el : Int → Int → DataW Unit} {D : DataW Unit} {f : Int → Option Int} (h : MapIs kk el D f) (hI : Inj kk) {b s : Int} (hf : f b = some s) (z : DataW Unit) : D.atKey (kk b) z = el b s := by
  obtain ⟨c, t, hk, hc, hz⟩ := h.keys _ (h.has b s hf)
  have d1 := h.dom b s hf
  have d2 := h.dom c t hc
  have := hI b c d1.1 d1.2 d2.1 d2.2 hk
  subst this
  rw [hf] at hc; simp only [Option.some.injEq] at hc; subst hc
  exact hz z
theorem MapIs.put {kk : Int → Lit} {el : Int → Int → DataW Unit} {D : DataW Unit} {f : Int → Option Int} (h : MapIs kk el D f) (hI : Inj kk) (hD : Tidy D) {b s : Int} (hk : WideAt.IsKeyLit (kk b)) (h1 : 1 ≤ b) (h2 : b ≤ 65535) :
    MapIs kk el (D.put (kk b) (el b s)) (setf f b s) where
  keys := fun kl hh => by
    by_cases e : kl = kk b
    · subst e
      exact ⟨b, s, rfl, by simp [setf], fun z => atKey_put_same hD.isMap hk _ _⟩
    · rw [has_put_other e] at hh
      obtain ⟨c, t, rfl, hc, hz⟩ := h.keys kl hh
      refine ⟨c, t, rfl, ?_, fun z => by rw [atKey_put_other e]; exact hz z⟩
      have : c ≠ b := fun hcb => e (by rw [hcb])
      simp [setf, this, hc]
  has := fun c t hc => by
    by_cases e : c = b
    · subst e; exact has_put_same hD.isMap hk _
    · have hc' : f c = some t := by simpa [setf, e] using hc
      have d := h.dom c t hc'
      rw [has_put_other (fun hkk => e (hI c b d.1 d.2 h1 h2 hkk))]
      exact h.has c t hc'
  size := by
    rw [size_put hD, h.size]
    unfold lstf
    rw [lpart_setf f b s h1 65535]
    cases hf : f b with
    | none => rw [h.has_no hI h1 h2 hf]; simp; omega
    | some t => rw [h.has b t hf]; simp
  dom := fun c t hc => by
    by_cases e : c = b
    · subst e; exact ⟨h1, h2⟩
    · exact h.dom c t (by simpa [setf, e] using hc)
end Go.Proofs.Ytompgoaogomoaaa.Rt
