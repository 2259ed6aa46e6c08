/- Contracts: derived, known. -/
import Derived.Test.YteocfmimgoocnaaGreatDoorPlM
namespace Go.Proofs.YteocfmimgoocnaaGreatDoor
open Go.RowKit Go.Maps
open Rt (Ky zK)
open Rs (RdS ps)
set_option linter.unusedVariables false
set_option linter.unusedSimpArgs false

def Wi (x : Int) : Prop := (Lit.int .i64 x).wf = true
structure DM (w W : World) (b n : Nat) (H : Int → Option Int) : Prop where
  mh : Mh W b n H
  bel : Below w.heap.size w W
  ge : w.heap.size ≤ b
theorem DM.later {w W W' : World} {b n : Nat} {H : Int → Option Int} (h : DM w W b n H) (hb : Below W.heap.size W W') : DM w W' b n H := ⟨h.mh.later hb, h.bel.trans (hb.mono h.bel.size), h.ge⟩
theorem DM.upd {w W W' : World} {b n : Nat} {H G : Int → Option Int} (h : DM w W b n H) (hm : Mh W' b (n + 1) G) (hg : W.grownBy W' (some b)) : DM w W' b (n + 1) G :=
  ⟨hm, Below.grown h.bel hg h.bel.size (fun k hk => by cases hk; exact h.ge), h.ge⟩
theorem le1_none {H : Int → Option Int} {b s : Int} (e : H b = none) : le1 H b s = false := by unfold le1; rw [e]; rfl
theorem le1_yes {H : Int → Option Int} {b s u : Int} (e : H b = some u) (h : u ≤ s) : le1 H b s = true := le1_iff.2 ⟨u, e, h⟩
theorem le1_no {H : Int → Option Int} {b s u : Int} (e : H b = some u) (h : s < u) : le1 H b s = false := by
  unfold le1
  rw [e]
  simp
  omega
theorem ItAt.cells {w : World} {B : Nat} {x : It} (h : ItAt w B x) : w.cell? ⟨B, 0, none⟩ = some (.int .i64 x.nd) ∧ w.cell? ⟨B, 1, none⟩ = some (.int .i64 x.fm) ∧ w.cell? ⟨B, 2, none⟩ = some (.int .i64 x.un.bas) ∧ w.cell? ⟨B, 3, none⟩ = some (.int .i64 x.un.stp) ∧ w.cell? ⟨B, 4, none⟩ = some (.int .i64 x.ld.bas) ∧ w.cell? ⟨B, 5, none⟩ = some (.int .i64 x.ld.stp) :=
  ⟨cell_of_row w B 0 _ _ _ h, cell_of_row w B 1 _ _ _ h, cell_of_row w B 2 _ _ _ h, cell_of_row w B 3 _ _ _ h, cell_of_row w B 4 _ _ _ h, cell_of_row w B 5 _ _ _ h⟩
theorem ItAt.later {w w' : World} {B : Nat} {x : It} (h : ItAt w B x) (hb : Below w.heap.size w w') : ItAt w' B x := (hb.block B (Array.getElem?_eq_some_iff.1 h).1).trans h
structure HasTo (ks : List (Int × Int)) (k : Nat) (H : Int → Option Int) : Prop where
  all : ∀ j, j < k → le1 H (ks.getD j (0, 0)).1 (ks.getD j (0, 0)).2 = true
theorem HasTo.up {ks : List (Int × Int)} {k : Nat} {H : Int → Option Int} (h : HasTo ks k H) {b s : Int} (hn : le1 H b s = false) : HasTo ks k (hup H b s) := ⟨fun j hj => le1_up (h.all j hj) hn⟩
theorem HasTo.one {ks : List (Int × Int)} {k : Nat} {H : Int → Option Int} (h : HasTo ks k H) (h1 : le1 H (ks.getD k (0, 0)).1 (ks.getD k (0, 0)).2 = true) : HasTo ks (k + 1) H := ⟨fun j hj => by
  rcases Nat.lt_or_ge j k with c | c
  · exact h.all j c
  · obtain rfl : j = k := by omega
    exact h1⟩
theorem getD_in {α : Type} {l : List α} {k : Nat} {d : α} (h : k < l.length) : l.getD k d ∈ l := by
  rw [List.getD_eq_getElem?_getD, List.getElem?_eq_getElem h]
  exact List.getElem_mem _
structure ShutTo (bx : List It) (k : Nat) (H : Int → Option Int) : Prop where
  all : ∀ j, j < k → le1 H (bx.getD j ⟨0, 0, zK, zK⟩).un.bas (bx.getD j ⟨0, 0, zK, zK⟩).un.stp = true → le1 H (bx.getD j ⟨0, 0, zK, zK⟩).ld.bas (bx.getD j ⟨0, 0, zK, zK⟩).ld.stp = true
theorem ShutTo.one {bx : List It} {k : Nat} {H : Int → Option Int} (h : ShutTo bx k H) {y : It} (hy : bx.getD k ⟨0, 0, zK, zK⟩ = y) (h1 : le1 H y.un.bas y.un.stp = true → le1 H y.ld.bas y.ld.stp = true) : ShutTo bx (k + 1) H := ⟨fun j hj => by
  rcases Nat.lt_or_ge j k with c | c
  · exact h.all j c
  · obtain rfl : j = k := by omega
    rw [hy]
    exact h1⟩
/- What stands in a pass: the map as it was at its beginning, or nearer the end. -/
structure Pass (ks : List (Int × Int)) (bx : List It) (K0 : Nat) (n0 : Nat) (H0 : Int → Option Int) (k n : Nat) (H : Int → Option Int) (m : Bool) : Prop where
  snd : Snd ks bx H
  has : HasTo ks ks.length H
  room : n + ust bx H ≤ K0
  off : m = false → H = H0 ∧ n = n0 ∧ ShutTo bx k H
  on : m = true → ust bx H < ust bx H0
  le : ust bx H ≤ ust bx H0
theorem Pass.skip {ks : List (Int × Int)} {bx : List It} {K0 n0 : Nat} {H0 : Int → Option Int} {k n : Nat} {H : Int → Option Int} {m : Bool} (h : Pass ks bx K0 n0 H0 k n H m) {y : It} (hy : bx.getD k ⟨0, 0, zK, zK⟩ = y) (h1 : le1 H y.un.bas y.un.stp = true → le1 H y.ld.bas y.ld.stp = true) : Pass ks bx K0 n0 H0 (k + 1) n H m :=
  ⟨h.snd, h.has, h.room, fun e => ⟨(h.off e).1, (h.off e).2.1, (h.off e).2.2.one hy h1⟩, h.on, h.le⟩
theorem Pass.take {ks : List (Int × Int)} {bx : List It} {K0 n0 : Nat} {H0 : Int → Option Int} {k n : Nat} {H : Int → Option Int} {m : Bool} (h : Pass ks bx K0 n0 H0 k n H m) {y : It} (hk : k < bx.length) (hy : bx.getD k ⟨0, 0, zK, zK⟩ = y) (h1 : le1 H y.un.bas y.un.stp = true) (h2 : le1 H y.ld.bas y.ld.stp = false) : Pass ks bx K0 n0 H0 (k + 1) (n + 1) (hup H y.ld.bas y.ld.stp) true := by
  have hin : y ∈ bx := hy ▸ getD_in hk
  have hlt : ust bx (hup H y.ld.bas y.ld.stp) < ust bx H := ust_lt bx (fun b s hb => le1_up hb h2) y hin h2 (le1_new _ _ _)
  have := h.room
  have := h.le
  exact ⟨h.snd.box hin h1, h.has.up h2, by omega, fun e => (by cases e), fun _ => by omega, by omega⟩
def DerP (w w' : World) (ks : List (Int × Int)) (bx : List It) (e : Ending) : Prop := ∃ b n H, e = .returned (.map (some b)) ∧ DM w w' b n H ∧ Clos ks bx H
theorem mem_all {α : Type} {l : List α} {d : α} {P : α → Prop} (h : ∀ j, j < l.length → P (l.getD j d)) : ∀ x ∈ l, P x := fun x hx => by
  obtain ⟨j, hj, e⟩ := List.mem_iff_getElem.1 hx
  have := h j hj
  rw [List.getD_eq_getElem?_getD, List.getElem?_eq_getElem hj, Option.getD_some, e] at this
  exact this
theorem DerP.of {w w' : World} {ks : List (Int × Int)} {bx : List It} {b n : Nat} {H : Int → Option Int} (h : DM w w' b n H) (h1 : Snd ks bx H) (h2 : HasTo ks ks.length H) (h3 : ShutTo bx bx.length H) : DerP w w' ks bx (.returned (.map (some b))) :=
  ⟨b, n, H, rfl, h, h1, mem_all h2.all, mem_all h3.all⟩
end Go.Proofs.YteocfmimgoocnaaGreatDoor
