/- What keys and boxes give: a map from names to least steps; the closure on plain data; contracts: derived, known. -/
import Derived.Test.YteocfmimgoocnaaGreatDoorPlJ5
import Derived.Maps.OwnSet
import Derived.Deep.LoopGhost
namespace Go.Proofs.YteocfmimgoocnaaGreatDoor
open Go.RowKit Go.Maps
open Rt (Ky zK)
open Rs (RdS ps)
set_option linter.unusedVariables false
set_option linter.unusedSimpArgs false

/- A map from names to steps. -/
def Mh (w : World) (b n : Nat) (H : Int → Option Int) : Prop := ∃ D : DataW Unit, w.ownsMap Tryz.prog 3 (plainElem Tryz.prog 3) b n D ∧ ∀ x : Int, Maps.has D (.int .i64 x) = (H x).isSome ∧ D.atKey (.int .i64 x) (.lit (.int .i64 0)) = .lit (.int .i64 ((H x).getD 0))
theorem Mh.lt {w : World} {b n : Nat} {H : Int → Option Int} (h : Mh w b n H) : b < w.heap.size := by
  obtain ⟨D, h1, _⟩ := h
  exact World.ownsMap.lt h1
theorem Mh.isMap {w : World} {b n : Nat} {H : Int → Option Int} (h : Mh w b n H) : ∃ es cl, w.heap[b]? = some (.map es cl) := by
  obtain ⟨D, ⟨es, cl, h1, _⟩, _⟩ := h
  exact ⟨es, cl, h1⟩
theorem Mh.later {w w' : World} {b n : Nat} {H : Int → Option Int} (h : Mh w b n H) (hb : Below w.heap.size w w') : Mh w' b n H := by
  have hlt := h.lt
  obtain ⟨D, ⟨es, cl, hh, r⟩, h2⟩ := h
  exact ⟨D, ⟨es, cl, (hb.block b hlt).trans hh, r⟩, h2⟩
theorem Mh.new (w : World) : Mh (w.alloc (.map #[] 0)) w.heap.size 0 (fun _ => none) := ⟨_, World.ownsMap_made w Tryz.prog 3 _, fun x => ⟨rfl, rfl⟩⟩
def hup (H : Int → Option Int) (b s : Int) : Int → Option Int := fun x => if x = b then some s else H x
theorem Mh.ne {w : World} {b n : Nat} {H : Int → Option Int} (h : Mh w b n H) {B : Nat} {cs : Array Value} {t : TypeId} {fr : Nat × Nat} (hB : w.heap[B]? = some (.cells cs t fr)) : B ≠ b := by
  obtain ⟨es, cl, hm⟩ := h.isMap
  intro e
  subst e
  rw [hm] at hB
  cases hB
/- The closure on plain data. -/
def le1 (H : Int → Option Int) (b s : Int) : Bool := (H b).isSome && decide ((H b).getD 0 ≤ s)
theorem le1_iff {H : Int → Option Int} {b s : Int} : le1 H b s = true ↔ ∃ u, H b = some u ∧ u ≤ s := by
  unfold le1
  cases h : H b with
  | none => simp
  | some u => simp
structure Snd (ks : List (Int × Int)) (bx : List It) (H : Int → Option Int) : Prop where
  low : ∀ I : Int → Int → Prop, (∀ k ∈ ks, I k.1 k.2) → (∀ x ∈ bx, ∀ u, u ≤ x.un.stp → I x.un.bas u → I x.ld.bas x.ld.stp) → ∀ b s, H b = some s → I b s
structure Clos (ks : List (Int × Int)) (bx : List It) (H : Int → Option Int) : Prop where
  snd : Snd ks bx H
  has : ∀ k ∈ ks, le1 H k.1 k.2 = true
  shut : ∀ x ∈ bx, le1 H x.un.bas x.un.stp = true → le1 H x.ld.bas x.ld.stp = true
theorem le1_up {H : Int → Option Int} {b s c z : Int} (h : le1 H c z = true) (hn : le1 H b s = false) : le1 (hup H b s) c z = true := by
  obtain ⟨u, hu, hz⟩ := le1_iff.1 h
  refine le1_iff.2 ?_
  unfold hup
  by_cases e : c = b
  · subst e
    rw [if_pos rfl]
    refine ⟨s, rfl, ?_⟩
    rcases Int.lt_or_le s u with hl | hl
    · omega
    · have := le1_iff.2 ⟨u, hu, hl⟩
      rw [this] at hn
      cases hn
  · rw [if_neg e]
    exact ⟨u, hu, hz⟩
theorem le1_new (H : Int → Option Int) (b s : Int) : le1 (hup H b s) b s = true := le1_iff.2 ⟨s, by unfold hup; rw [if_pos rfl], Int.le_refl _⟩
theorem Snd.key {ks : List (Int × Int)} {bx : List It} {H : Int → Option Int} (h : Snd ks bx H) {k : Int × Int} (hk : k ∈ ks) : Snd ks bx (hup H k.1 k.2) := ⟨fun I h1 h2 b s hb => by
  unfold hup at hb
  by_cases e : b = k.1
  · rw [if_pos e] at hb; cases hb; rw [e]; exact h1 k hk
  · rw [if_neg e] at hb; exact h.low I h1 h2 b s hb⟩
theorem Snd.box {ks : List (Int × Int)} {bx : List It} {H : Int → Option Int} (h : Snd ks bx H) {x : It} (hx : x ∈ bx) (hu : le1 H x.un.bas x.un.stp = true) : Snd ks bx (hup H x.ld.bas x.ld.stp) := ⟨fun I h1 h2 b s hb => by
  unfold hup at hb
  by_cases e : b = x.ld.bas
  · rw [if_pos e] at hb
    cases hb
    rw [e]
    obtain ⟨u, hu1, hu2⟩ := le1_iff.1 hu
    exact h2 x hx u hu2 (h.low I h1 h2 _ _ hu1)
  · rw [if_neg e] at hb; exact h.low I h1 h2 b s hb⟩
/- How many boxes' loads are still to come. -/
def ust (bx : List It) (H : Int → Option Int) : Nat := (bx.filter fun x => !le1 H x.ld.bas x.ld.stp).length
theorem ust_le {bx : List It} {H : Int → Option Int} : ust bx H ≤ bx.length := List.length_filter_le _ _
theorem ust_mono {H G : Int → Option Int} : ∀ bx : List It, (∀ b s, le1 H b s = true → le1 G b s = true) → ust bx G ≤ ust bx H
  | [], _ => Nat.le_refl _
  | x :: r, h => by
    have ih := ust_mono r h
    unfold ust at *
    rw [List.filter_cons, List.filter_cons]
    cases hH : le1 H x.ld.bas x.ld.stp with
    | true => rw [h _ _ hH]; simpa using ih
    | false => cases hG : le1 G x.ld.bas x.ld.stp <;> simp <;> omega
theorem ust_lt {H G : Int → Option Int} : ∀ (bx : List It), (∀ b s, le1 H b s = true → le1 G b s = true) → ∀ x ∈ bx, le1 H x.ld.bas x.ld.stp = false → le1 G x.ld.bas x.ld.stp = true → ust bx G < ust bx H
  | [], _, x, hx, _, _ => by cases hx
  | y :: r, h, x, hx, h1, h2 => by
    have hm := ust_mono r h
    unfold ust at *
    rw [List.filter_cons, List.filter_cons]
    rcases List.mem_cons.1 hx with e | e
    · subst e
      rw [h1, h2]
      simp
      omega
    · have ih := ust_lt r h x e h1 h2
      unfold ust at ih
      cases hH : le1 H y.ld.bas y.ld.stp with
      | true => rw [h _ _ hH]; simpa using ih
      | false => cases hG : le1 G y.ld.bas y.ld.stp <;> simp <;> omega
/- Lists of keys. -/
theorem rdk_of {W : World} {b : Nat} {T : TypeId} {a : Option Addr} {cap : Nat} {l : List (Int × Int)} (h : W.ownsRow b T 2 (.slice a l.length cap) l.length (ps l)) : RdS W a l := by
  rcases h.2 with ⟨e, h0⟩ | ⟨g, cap', cur, e, h3, h4, h5, h6, h7, h8⟩
  · intro i hi; omega
  · cases e
    intro i hi
    refine ⟨g, rfl, ?_⟩
    obtain ⟨p0, p1⟩ := Rs.ps_get l i hi
    have cell : ∀ j v, j < l.length * 2 → (ps l)[j]? = some v → W.cell? ⟨g, j, none⟩ = some v := fun j v hj hv => by
      rw [cell_of_row W g j _ _ _ h4, ← hv, ← h8, List.getElem?_take_of_lt hj]
      simp
    exact ⟨cell _ _ (by omega) p0, cell _ _ (by omega) p1⟩
end Go.Proofs.YteocfmimgoocnaaGreatDoor
