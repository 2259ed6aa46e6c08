/- PlI, PlJ, PlK, PlM, PlN, PlO, joined. -/
import Derived.Test.YtpimbpfefhkojabGreatDoorPlH
import Derived.Test.YtpimbpfefhkojabGreatDoorPlJ1
import Derived.Deep.RegionHeld3
import Derived.Test.YtpimbpfefhkojabGreatDoorPlK0
import Derived.Maps.OwnSet
import Derived.Deep.LoopGhost
namespace Go.Proofs.YtpimbpfefhkojabGreatDoor
open Go.RowKit Go.Maps Go.Great
open Rt (Ky zK kcs)
open Rs (En zE rcs tkn RdI RdS ps evl Tb)
set_option linter.unusedVariables false
set_option linter.unusedSimpArgs false

theorem rk_one (p : Int) (a b c : Option Addr) (l m n i j k : Nat) : (#[.int .i64 p, .slice a l i, .slice b m j, .slice c n k] : Array Value).all (·.oneCell') = true := by simp [Value.oneCell']
/- An answer's two boxes. -/
theorem two_boxes (w : World) (u : Tr) (c cs : Array Value) (hc : tcs u = c) :
    TrAt ((w.alloc (.cells Tryz.zeroCells47 47)).alloc (.cells #[.int .i64 0, .slice none 0 0, .slice none 0 0, .slice none 0 0] 55)) w.heap.size (tz 0)
    ∧ RkAt (((w.alloc (.cells Tryz.zeroCells47 47)).alloc (.cells #[.int .i64 0, .slice none 0 0, .slice none 0 0, .slice none 0 0] 55)).setRow w.heap.size c) (w.heap.size + 1) rkz
    ∧ ∃ W, (((w.alloc (.cells Tryz.zeroCells47 47)).alloc (.cells #[.int .i64 0, .slice none 0 0, .slice none 0 0, .slice none 0 0] 55)).setRow w.heap.size c).setRow (w.heap.size + 1) cs = W ∧ TrAt W w.heap.size u ∧ RkAt W (w.heap.size + 1) cs ∧ Below w.heap.size w W := by
  rw [alloc_trz]
  have h1 := TrAt.new w (tz 0)
  have hb1 := alloc_tr w (tz 0)
  have h2 : RkAt ((w.alloc (.cells (tcs (tz 0)) 47)).alloc (.cells #[.int .i64 0, .slice none 0 0, .slice none 0 0, .slice none 0 0] 55)) (w.heap.size + 1) rkz := by
    have h := heap_alloc_last (w.alloc (.cells (tcs (tz 0)) 47)) (.cells #[.int .i64 0, .slice none 0 0, .slice none 0 0, .slice none 0 0] 55)
    rw [World.size_alloc] at h
    exact h
  have hb2 := below_alloc (w.alloc (.cells (tcs (tz 0)) 47)) (.cells #[.int .i64 0, .slice none 0 0, .slice none 0 0, .slice none 0 0] 55)
  have h3 := h1.later hb2
  have hb := hb1.trans (hb2.mono hb1.size)
  generalize (w.alloc (.cells (tcs (tz 0)) 47)).alloc (.cells #[.int .i64 0, .slice none 0 0, .slice none 0 0, .slice none 0 0] 55) = W at *
  subst hc
  have h4 : RkAt (W.setRow w.heap.size (tcs u)) (w.heap.size + 1) rkz := (Rt.row_other (by omega) _).trans h2
  have h5 := h3.row u
  exact ⟨h3, h4, _, rfl, (Rt.row_other (by omega) _).trans h5, Rt.heap_setRow_same h4 _, Rt.setRow_below (by omega) (Rt.setRow_below (by omega) hb _) _⟩
theorem rd_one (w : World) : RdI (w.alloc (.cells #[.int .i64 1] 3)) (some ⟨w.heap.size, 0, none⟩) [1] := fun i hi => by
  have h := heap_alloc_last w (.cells #[.int .i64 1] 3)
  refine ⟨w.heap.size, 0, rfl, ?_⟩
  obtain rfl : i = 0 := by simp at hi; omega
  rw [Nat.zero_add, cell_of_row _ _ 0 _ _ _ h]
  rfl
/- Items that lie in memory. -/
def RdT (w : World) (a : Option Addr) (l : List It) : Prop := ∀ i, i < l.length → ∃ b, a = some ⟨b, 0, none⟩ ∧ ∀ k v, (ics (l.getD i ⟨0, 0, zK, zK⟩))[k]? = some v → w.cell? ⟨b, i * 6 + k, none⟩ = some v
theorem RdT.later {w w' : World} {a : Option Addr} {l : List It} (h : RdT w a l) (hb : Below w.heap.size w w') : RdT w' a l := fun i hi => by
  obtain ⟨b, e, c⟩ := h i hi
  exact ⟨b, e, fun k v hv => Rs.cell_later hb (c k v hv)⟩
theorem isl_get : ∀ (l : List It) (i k : Nat), i < l.length → k < 6 → (isl l)[i * 6 + k]? = (ics (l.getD i ⟨0, 0, zK, zK⟩))[k]?
  | [], i, k, hi, _ => by cases hi
  | x :: l, 0, k, _, hk => by
    show (ics x ++ isl l)[0 * 6 + k]? = _
    rw [Nat.zero_mul, Nat.zero_add, List.getElem?_append_left (by show k < 6; exact hk)]
    rfl
  | x :: l, i + 1, k, hi, hk => by
    show (ics x ++ isl l)[(i + 1) * 6 + k]? = _
    rw [List.getElem?_append_right (by show 6 ≤ _; omega), show (i + 1) * 6 + k - (ics x).length = i * 6 + k by show _ - 6 = _; omega, isl_get l i k (by simpa using hi) hk]
    rfl
theorem owns_rdT {W : World} {b : Nat} {a : Option Addr} {cap : Nat} {l : List It} (h : W.ownsRow b 57 6 (.slice a l.length cap) l.length (isl l)) : RdT W a l := by
  rcases h.2 with ⟨e, h0⟩ | ⟨g, cap', cur, e, h3, h4, h5, h6, h7, h8⟩
  · intro i hi; omega
  · cases e
    intro i hi
    refine ⟨g, rfl, fun k v hv => ?_⟩
    have hk : k < 6 := by
      have := (List.getElem?_eq_some_iff.1 hv).1
      exact this
    rw [← isl_get l i k hi hk] at hv
    rw [cell_of_row W g (i * 6 + k) _ _ _ h4, ← hv, ← h8, List.getElem?_take_of_lt (by omega)]
    simp
theorem RdT.cells {w : World} {a : Option Addr} {l : List It} (h : RdT w a l) {i : Nat} (hi : i < l.length) {y : It} (hy : l.getD i ⟨0, 0, zK, zK⟩ = y) : ∃ b, a = some ⟨b, 0, none⟩ ∧ w.cell? ⟨b, i * 6, none⟩ = some (.int .i64 y.nd) ∧ w.cell? ⟨b, i * 6 + 1, none⟩ = some (.int .i64 y.fm) ∧ w.cell? ⟨b, i * 6 + 2, none⟩ = some (.int .i64 y.un.bas) ∧ w.cell? ⟨b, i * 6 + 3, none⟩ = some (.int .i64 y.un.stp) ∧ w.cell? ⟨b, i * 6 + 4, none⟩ = some (.int .i64 y.ld.bas) ∧ w.cell? ⟨b, i * 6 + 5, none⟩ = some (.int .i64 y.ld.stp) := by
  obtain ⟨b, e, c⟩ := h i hi
  rw [hy] at c
  exact ⟨b, e, c 0 _ rfl, c 1 _ rfl, c 2 _ rfl, c 3 _ rfl, c 4 _ rfl, c 5 _ rfl⟩

theorem RkAt.cells {w : World} {B : Nat} {p : Int} {v1 v2 v3 : Value} (h : RkAt w B #[.int .i64 p, v1, v2, v3]) : w.cell? ⟨B, 0, none⟩ = some (.int .i64 p) ∧ w.cell? ⟨B, 1, none⟩ = some v1 ∧ w.cell? ⟨B, 2, none⟩ = some v2 ∧ w.cell? ⟨B, 3, none⟩ = some v3 :=
  ⟨cell_of_row w B 0 _ _ _ h, cell_of_row w B 1 _ _ _ h, cell_of_row w B 2 _ _ _ h, cell_of_row w B 3 _ _ _ h⟩
/- Lists of items. -/
structure IS (W : World) (b b' k : Nat) (y : It) : Prop where
  x0 : W.cell? ⟨b, k * 6, none⟩ = some (.int .i64 y.nd)
  x1 : W.cell? ⟨b, k * 6 + 1, none⟩ = some (.int .i64 y.fm)
  x2 : W.cell? ⟨b, k * 6 + 2, none⟩ = some (.int .i64 y.un.bas)
  x3 : W.cell? ⟨b, k * 6 + 3, none⟩ = some (.int .i64 y.un.stp)
  x4 : W.cell? ⟨b, k * 6 + 4, none⟩ = some (.int .i64 y.ld.bas)
  x5 : W.cell? ⟨b, k * 6 + 5, none⟩ = some (.int .i64 y.ld.stp)
  z0 : W.cell? ⟨b', k * 6, none⟩ = some (.int .i64 y.nd)
  z1 : W.cell? ⟨b', k * 6 + 1, none⟩ = some (.int .i64 y.fm)
  z2 : W.cell? ⟨b', k * 6 + 2, none⟩ = some (.int .i64 y.un.bas)
  z3 : W.cell? ⟨b', k * 6 + 3, none⟩ = some (.int .i64 y.un.stp)
  z4 : W.cell? ⟨b', k * 6 + 4, none⟩ = some (.int .i64 y.ld.bas)
  z5 : W.cell? ⟨b', k * 6 + 5, none⟩ = some (.int .i64 y.ld.stp)

theorem RkAt.later {w w' : World} {B : Nat} {cs : Array Value} (h : RkAt w B cs) (hb : Below w.heap.size w w') : RkAt w' B cs := (hb.block B (Array.getElem?_eq_some_iff.1 h).1).trans h
open Go.RowKit Go.Maps
open Rt (Ky zK)
open Rs (RdS ps)

/- A map from names to steps. -/
def Mh (w : World) (b n : Nat) (H : Int → Option Int) : Prop := ∃ D : DataW Unit, w.ownsMap Tryz.prog 3 (plainElem Tryz.prog 3) b n D ∧ ∀ x : Int, Maps.has D (.int .i64 x) = (H x).isSome ∧ D.atKey (.int .i64 x) (.lit (.int .i64 0)) = .lit (.int .i64 ((H x).getD 0))
theorem Mh.lt {w : World} {b n : Nat} {H : Int → Option Int} (h : Mh w b n H) : b < w.heap.size := by
  obtain ⟨D, h1, _⟩ := h
  exact World.ownsMap.lt h1
theorem Mh.isMap {w : World} {b n : Nat} {H : Int → Option Int} (h : Mh w b n H) : ∃ es cl, w.heap[b]? = some (.map es cl) := by
  obtain ⟨D, ⟨es, cl, h1, _⟩, _⟩ := h
  exact ⟨es, cl, h1⟩
theorem Mh.later {w w' : World} {b n : Nat} {H : Int → Option Int} (h : Mh w b n H) (hb : Below w.heap.size w w') : Mh w' b n H := by
  have hlt := h.lt
  obtain ⟨D, ⟨es, cl, hh, r⟩, h2⟩ := h
  exact ⟨D, ⟨es, cl, (hb.block b hlt).trans hh, r⟩, h2⟩
theorem Mh.new (w : World) : Mh (w.alloc (.map #[] 0)) w.heap.size 0 (fun _ => none) := ⟨_, World.ownsMap_made w Tryz.prog 3 _, fun x => ⟨rfl, rfl⟩⟩
theorem Mh.look {w : World} {b n : Nat} {H : Int → Option Int} (h : Mh w b n H) {x : Int} (hx : (Lit.int .i64 x).wf = true) : (Instr.lookup 62 (.map (some b)) (.int .i64 x) true).run Tryz.prog w = .ok (.tuple #[.int .i64 ((H x).getD 0), .bool (H x).isSome]) w := by
  obtain ⟨D, h1, h2⟩ := h
  obtain ⟨v, ps, hrun, hv⟩ := h1.look_ok intK Tryz.underlying62 (zeroI w) (plainElem_int (H := Unit) Tryz.underlying3 (by decide)) (keyOf_int_mk Tryz.underlying3 hx)
  obtain ⟨c, rfl, hc, hwc⟩ := plainElem_int_inv Tryz.underlying3 hv
  have e := congrArg Prod.fst hc
  rw [(h2 x).2] at e
  have e2 : (H x).getD 0 = c := by simpa using e
  rw [hrun, (h2 x).1, e2]
def hup (H : Int → Option Int) (b s : Int) : Int → Option Int := fun x => if x = b then some s else H x
theorem Mh.upd {ops : Array Oper} {rest : List Oper} {o : Oper} {a : Act} {w : World} {Q : Exit → Act → World → Prop} {b n : Nat} {H : Int → Option Int} (h : Mh w b n H) (hn : n < 4611686018427387904) {z s : Int} (hz : (Lit.int .i64 z).wf = true) (hs : (Lit.int .i64 s).wf = true) (hgd : o.guard = none) (m x y : Operand) (ho : o.op = .mapUpdate 62 m x y)
    (hm : a.eval m = .map (some b)) (hx : a.eval x = .int .i64 z) (hy : a.eval y = .int .i64 s) (k : ∀ w', Mh w' b (n + 1) (hup H z s) → w.grownBy w' (some b) → wpList Tryz.prog ops Q rest (a.put o.dst undef) w') : wpList Tryz.prog ops Q (o :: rest) a w := by
  obtain ⟨D, h1, h2⟩ := h
  have hkey := keyOf_int_mk Tryz.underlying3 hz
  refine wpList_mapUpdate_own w hgd m x y 62 ho 3 3 intK Tryz.underlying62 _ b n D hm h1 (by unfold maxLen; omega) _ _ _ hx hy hkey _ [] (plainElem_int (H := Unit) Tryz.underlying3 hs) ?_
  intro w1 hown hg
  refine k w1 ⟨_, hown, fun q => ?_⟩ hg
  have hD := World.ownsMap.isMap h1
  unfold hup
  by_cases e : q = z
  · subst e
    rw [if_pos rfl]
    exact ⟨Maps.has_put_same hD (by trivial) _, Maps.atKey_put_same hD (by trivial) _ _⟩
  · rw [if_neg e]
    have hne : Lit.int .i64 q ≠ Lit.int .i64 z := fun h => by cases h; exact e rfl
    exact ⟨(Maps.has_put_other hne _).trans (h2 q).1, (Maps.atKey_put_other hne _ _).trans (h2 q).2⟩
theorem Mh.ne {w : World} {b n : Nat} {H : Int → Option Int} (h : Mh w b n H) {B : Nat} {cs : Array Value} {t : TypeId} {fr : Nat × Nat} (hB : w.heap[B]? = some (.cells cs t fr)) : B ≠ b := by
  obtain ⟨es, cl, hm⟩ := h.isMap
  intro e
  subst e
  rw [hm] at hB
  cases hB
/- The closure on plain data. -/
def le1 (H : Int → Option Int) (b s : Int) : Bool := (H b).isSome && decide ((H b).getD 0 ≤ s)
theorem le1_iff {H : Int → Option Int} {b s : Int} : le1 H b s = true ↔ ∃ u, H b = some u ∧ u ≤ s := by
  unfold le1
  cases h : H b with
  | none => simp
  | some u => simp
structure Snd (ks : List (Int × Int)) (bx : List It) (H : Int → Option Int) : Prop where
  low : ∀ I : Int → Int → Prop, (∀ k ∈ ks, I k.1 k.2) → (∀ x ∈ bx, ∀ u, u ≤ x.un.stp → I x.un.bas u → I x.ld.bas x.ld.stp) → ∀ b s, H b = some s → I b s
structure Clos (ks : List (Int × Int)) (bx : List It) (H : Int → Option Int) : Prop where
  snd : Snd ks bx H
  has : ∀ k ∈ ks, le1 H k.1 k.2 = true
  shut : ∀ x ∈ bx, le1 H x.un.bas x.un.stp = true → le1 H x.ld.bas x.ld.stp = true
theorem le1_up {H : Int → Option Int} {b s c z : Int} (h : le1 H c z = true) (hn : le1 H b s = false) : le1 (hup H b s) c z = true := by
  obtain ⟨u, hu, hz⟩ := le1_iff.1 h
  refine le1_iff.2 ?_
  unfold hup
  by_cases e : c = b
  · subst e
    rw [if_pos rfl]
    refine ⟨s, rfl, ?_⟩
    rcases Int.lt_or_le s u with hl | hl
    · omega
    · have := le1_iff.2 ⟨u, hu, hl⟩
      rw [this] at hn
      cases hn
  · rw [if_neg e]
    exact ⟨u, hu, hz⟩
theorem le1_new (H : Int → Option Int) (b s : Int) : le1 (hup H b s) b s = true := le1_iff.2 ⟨s, by unfold hup; rw [if_pos rfl], Int.le_refl _⟩
theorem Snd.key {ks : List (Int × Int)} {bx : List It} {H : Int → Option Int} (h : Snd ks bx H) {k : Int × Int} (hk : k ∈ ks) : Snd ks bx (hup H k.1 k.2) := ⟨fun I h1 h2 b s hb => by
  unfold hup at hb
  by_cases e : b = k.1
  · rw [if_pos e] at hb; cases hb; rw [e]; exact h1 k hk
  · rw [if_neg e] at hb; exact h.low I h1 h2 b s hb⟩
theorem Snd.box {ks : List (Int × Int)} {bx : List It} {H : Int → Option Int} (h : Snd ks bx H) {x : It} (hx : x ∈ bx) (hu : le1 H x.un.bas x.un.stp = true) : Snd ks bx (hup H x.ld.bas x.ld.stp) := ⟨fun I h1 h2 b s hb => by
  unfold hup at hb
  by_cases e : b = x.ld.bas
  · rw [if_pos e] at hb
    cases hb
    rw [e]
    obtain ⟨u, hu1, hu2⟩ := le1_iff.1 hu
    exact h2 x hx u hu2 (h.low I h1 h2 _ _ hu1)
  · rw [if_neg e] at hb; exact h.low I h1 h2 b s hb⟩
/- How many boxes' loads are still to come. -/
def ust (bx : List It) (H : Int → Option Int) : Nat := (bx.filter fun x => !le1 H x.ld.bas x.ld.stp).length
theorem ust_le {bx : List It} {H : Int → Option Int} : ust bx H ≤ bx.length := List.length_filter_le _ _
theorem ust_mono {H G : Int → Option Int} : ∀ bx : List It, (∀ b s, le1 H b s = true → le1 G b s = true) → ust bx G ≤ ust bx H
  | [], _ => Nat.le_refl _
  | x :: r, h => by
    have ih := ust_mono r h
    unfold ust at *
    rw [List.filter_cons, List.filter_cons]
    cases hH : le1 H x.ld.bas x.ld.stp with
    | true => rw [h _ _ hH]; simpa using ih
    | false => cases hG : le1 G x.ld.bas x.ld.stp <;> simp <;> omega
theorem ust_lt {H G : Int → Option Int} : ∀ (bx : List It), (∀ b s, le1 H b s = true → le1 G b s = true) → ∀ x ∈ bx, le1 H x.ld.bas x.ld.stp = false → le1 G x.ld.bas x.ld.stp = true → ust bx G < ust bx H
  | [], _, x, hx, _, _ => by cases hx
  | y :: r, h, x, hx, h1, h2 => by
    have hm := ust_mono r h
    unfold ust at *
    rw [List.filter_cons, List.filter_cons]
    rcases List.mem_cons.1 hx with e | e
    · subst e
      rw [h1, h2]
      simp
      omega
    · have ih := ust_lt r h x e h1 h2
      unfold ust at ih
      cases hH : le1 H y.ld.bas y.ld.stp with
      | true => rw [h _ _ hH]; simpa using ih
      | false => cases hG : le1 G y.ld.bas y.ld.stp <;> simp <;> omega
/- Lists of keys. -/
theorem rdk_of {W : World} {b : Nat} {T : TypeId} {a : Option Addr} {cap : Nat} {l : List (Int × Int)} (h : W.ownsRow b T 2 (.slice a l.length cap) l.length (ps l)) : RdS W a l := by
  rcases h.2 with ⟨e, h0⟩ | ⟨g, cap', cur, e, h3, h4, h5, h6, h7, h8⟩
  · intro i hi; omega
  · cases e
    intro i hi
    refine ⟨g, rfl, ?_⟩
    obtain ⟨p0, p1⟩ := Rs.ps_get l i hi
    have cell : ∀ j v, j < l.length * 2 → (ps l)[j]? = some v → W.cell? ⟨g, j, none⟩ = some v := fun j v hj hv => by
      rw [cell_of_row W g j _ _ _ h4, ← hv, ← h8, List.getElem?_take_of_lt hj]
      simp
    exact ⟨cell _ _ (by omega) p0, cell _ _ (by omega) p1⟩

def Wi (x : Int) : Prop := (Lit.int .i64 x).wf = true
structure DM (w W : World) (b n : Nat) (H : Int → Option Int) : Prop where
  mh : Mh W b n H
  bel : Below w.heap.size w W
  ge : w.heap.size ≤ b
theorem DM.later {w W W' : World} {b n : Nat} {H : Int → Option Int} (h : DM w W b n H) (hb : Below W.heap.size W W') : DM w W' b n H := ⟨h.mh.later hb, h.bel.trans (hb.mono h.bel.size), h.ge⟩
theorem DM.upd {w W W' : World} {b n : Nat} {H G : Int → Option Int} (h : DM w W b n H) (hm : Mh W' b (n + 1) G) (hg : W.grownBy W' (some b)) : DM w W' b (n + 1) G :=
  ⟨hm, Below.grown h.bel hg h.bel.size (fun k hk => by cases hk; exact h.ge), h.ge⟩
theorem look_no {W : World} {b n : Nat} {H : Int → Option Int} (h : Mh W b n H) {x : Int} (hx : Wi x) (e : H x = none) : (Instr.lookup 62 (.map (some b)) (.int .i64 x) true).run Tryz.prog W = .ok (.tuple #[.int .i64 0, .bool false]) W := by
  have := h.look hx
  rw [e] at this
  exact this
theorem look_yes {W : World} {b n : Nat} {H : Int → Option Int} (h : Mh W b n H) {x s : Int} (hx : Wi x) (e : H x = some s) : (Instr.lookup 62 (.map (some b)) (.int .i64 x) true).run Tryz.prog W = .ok (.tuple #[.int .i64 s, .bool true]) W := by
  have := h.look hx
  rw [e] at this
  exact this
theorem le1_none {H : Int → Option Int} {b s : Int} (e : H b = none) : le1 H b s = false := by unfold le1; rw [e]; rfl
theorem le1_yes {H : Int → Option Int} {b s u : Int} (e : H b = some u) (h : u ≤ s) : le1 H b s = true := le1_iff.2 ⟨u, e, h⟩
theorem le1_no {H : Int → Option Int} {b s u : Int} (e : H b = some u) (h : s < u) : le1 H b s = false := by
  unfold le1
  rw [e]
  simp
  omega
theorem ItAt.cells {w : World} {B : Nat} {x : It} (h : ItAt w B x) : w.cell? ⟨B, 0, none⟩ = some (.int .i64 x.nd) ∧ w.cell? ⟨B, 1, none⟩ = some (.int .i64 x.fm) ∧ w.cell? ⟨B, 2, none⟩ = some (.int .i64 x.un.bas) ∧ w.cell? ⟨B, 3, none⟩ = some (.int .i64 x.un.stp) ∧ w.cell? ⟨B, 4, none⟩ = some (.int .i64 x.ld.bas) ∧ w.cell? ⟨B, 5, none⟩ = some (.int .i64 x.ld.stp) :=
  ⟨cell_of_row w B 0 _ _ _ h, cell_of_row w B 1 _ _ _ h, cell_of_row w B 2 _ _ _ h, cell_of_row w B 3 _ _ _ h, cell_of_row w B 4 _ _ _ h, cell_of_row w B 5 _ _ _ h⟩
theorem ItAt.later {w w' : World} {B : Nat} {x : It} (h : ItAt w B x) (hb : Below w.heap.size w w') : ItAt w' B x := (hb.block B (Array.getElem?_eq_some_iff.1 h).1).trans h
structure HasTo (ks : List (Int × Int)) (k : Nat) (H : Int → Option Int) : Prop where
  all : ∀ j, j < k → le1 H (ks.getD j (0, 0)).1 (ks.getD j (0, 0)).2 = true
theorem HasTo.up {ks : List (Int × Int)} {k : Nat} {H : Int → Option Int} (h : HasTo ks k H) {b s : Int} (hn : le1 H b s = false) : HasTo ks k (hup H b s) := ⟨fun j hj => le1_up (h.all j hj) hn⟩
theorem HasTo.one {ks : List (Int × Int)} {k : Nat} {H : Int → Option Int} (h : HasTo ks k H) (h1 : le1 H (ks.getD k (0, 0)).1 (ks.getD k (0, 0)).2 = true) : HasTo ks (k + 1) H := ⟨fun j hj => by
  rcases Nat.lt_or_ge j k with c | c
  · exact h.all j c
  · obtain rfl : j = k := by omega
    exact h1⟩
theorem getD_in {α : Type} {l : List α} {k : Nat} {d : α} (h : k < l.length) : l.getD k d ∈ l := by
  rw [List.getD_eq_getElem?_getD, List.getElem?_eq_getElem h]
  exact List.getElem_mem _
structure ShutTo (bx : List It) (k : Nat) (H : Int → Option Int) : Prop where
  all : ∀ j, j < k → le1 H (bx.getD j ⟨0, 0, zK, zK⟩).un.bas (bx.getD j ⟨0, 0, zK, zK⟩).un.stp = true → le1 H (bx.getD j ⟨0, 0, zK, zK⟩).ld.bas (bx.getD j ⟨0, 0, zK, zK⟩).ld.stp = true
theorem ShutTo.one {bx : List It} {k : Nat} {H : Int → Option Int} (h : ShutTo bx k H) {y : It} (hy : bx.getD k ⟨0, 0, zK, zK⟩ = y) (h1 : le1 H y.un.bas y.un.stp = true → le1 H y.ld.bas y.ld.stp = true) : ShutTo bx (k + 1) H := ⟨fun j hj => by
  rcases Nat.lt_or_ge j k with c | c
  · exact h.all j c
  · obtain rfl : j = k := by omega
    rw [hy]
    exact h1⟩
/- What stands in a pass: the map as it was at its beginning, or nearer the end. -/
structure Pass (ks : List (Int × Int)) (bx : List It) (K0 : Nat) (n0 : Nat) (H0 : Int → Option Int) (k n : Nat) (H : Int → Option Int) (m : Bool) : Prop where
  snd : Snd ks bx H
  has : HasTo ks ks.length H
  room : n + ust bx H ≤ K0
  off : m = false → H = H0 ∧ n = n0 ∧ ShutTo bx k H
  on : m = true → ust bx H < ust bx H0
  le : ust bx H ≤ ust bx H0
theorem Pass.skip {ks : List (Int × Int)} {bx : List It} {K0 n0 : Nat} {H0 : Int → Option Int} {k n : Nat} {H : Int → Option Int} {m : Bool} (h : Pass ks bx K0 n0 H0 k n H m) {y : It} (hy : bx.getD k ⟨0, 0, zK, zK⟩ = y) (h1 : le1 H y.un.bas y.un.stp = true → le1 H y.ld.bas y.ld.stp = true) : Pass ks bx K0 n0 H0 (k + 1) n H m :=
  ⟨h.snd, h.has, h.room, fun e => ⟨(h.off e).1, (h.off e).2.1, (h.off e).2.2.one hy h1⟩, h.on, h.le⟩
theorem Pass.take {ks : List (Int × Int)} {bx : List It} {K0 n0 : Nat} {H0 : Int → Option Int} {k n : Nat} {H : Int → Option Int} {m : Bool} (h : Pass ks bx K0 n0 H0 k n H m) {y : It} (hk : k < bx.length) (hy : bx.getD k ⟨0, 0, zK, zK⟩ = y) (h1 : le1 H y.un.bas y.un.stp = true) (h2 : le1 H y.ld.bas y.ld.stp = false) : Pass ks bx K0 n0 H0 (k + 1) (n + 1) (hup H y.ld.bas y.ld.stp) true := by
  have hin : y ∈ bx := hy ▸ getD_in hk
  have hlt : ust bx (hup H y.ld.bas y.ld.stp) < ust bx H := ust_lt bx (fun b s hb => le1_up hb h2) y hin h2 (le1_new _ _ _)
  have := h.room
  have := h.le
  exact ⟨h.snd.box hin h1, h.has.up h2, by omega, fun e => (by cases e), fun _ => by omega, by omega⟩
def DerP (w w' : World) (ks : List (Int × Int)) (bx : List It) (e : Ending) : Prop := ∃ b n H, e = .returned (.map (some b)) ∧ DM w w' b n H ∧ Clos ks bx H
theorem mem_all {α : Type} {l : List α} {d : α} {P : α → Prop} (h : ∀ j, j < l.length → P (l.getD j d)) : ∀ x ∈ l, P x := fun x hx => by
  obtain ⟨j, hj, e⟩ := List.mem_iff_getElem.1 hx
  have := h j hj
  rw [List.getD_eq_getElem?_getD, List.getElem?_eq_getElem hj, Option.getD_some, e] at this
  exact this
theorem DerP.of {w w' : World} {ks : List (Int × Int)} {bx : List It} {b n : Nat} {H : Int → Option Int} (h : DM w w' b n H) (h1 : Snd ks bx H) (h2 : HasTo ks ks.length H) (h3 : ShutTo bx bx.length H) : DerP w w' ks bx (.returned (.map (some b))) :=
  ⟨b, n, H, rfl, h, h1, mem_all h2.all, mem_all h3.all⟩
open Rt (Ky zK KyAt)
open Rs (En zE tkn RdS RdI ps evl)

def kpr (k : Ky) : Int × Int := (k.bas, k.stp)
/- Names and steps are within an int. -/
theorem wi_of {x : Int} (h0 : -9223372036854775808 ≤ x) (h1 : x < 9223372036854775808) : Wi x := by
  show (decide (IntKind.i64.min ≤ x) && decide (x ≤ IntKind.i64.max)) = true
  have e1 : IntKind.i64.min = -9223372036854775808 := by decide
  have e2 : IntKind.i64.max = 9223372036854775807 := by decide
  rw [e1, e2, decide_eq_true (by omega), decide_eq_true (by omega)]
  rfl
theorem wi_gd {b s : Int} (h : Rt.Gd b s) : Wi b ∧ Wi s := by
  obtain ⟨h1, h2, h3, h4⟩ := h
  exact ⟨wi_of (by omega) (by omega), wi_of (by omega) (by omega)⟩
theorem its_wi {t : Tr} {L J : List Int} (h : Stp t L J) : ∀ x ∈ its (nx t L J) (plR t L) (jns t L J), Wi x.un.bas ∧ Wi x.ld.bas ∧ Wi x.ld.stp := fun x hx => by
  obtain ⟨v, c, e, hi⟩ := item_of h hx
  have h1 := wi_gd (ko_gd h.tckn hi.lc (hld_leaf h.tckn hi.lc hi.held))
  have h2 := wi_gd (ks_gd h.tckn hi.lv)
  rw [e]
  refine ⟨h1.1, ?_⟩
  show Wi (kyA (nx t L J) v).bas ∧ Wi (kyA (nx t L J) v).stp
  rw [kyA_in hi.lv]
  exact h2
/- Keys that are gathered. -/
structure BK (w W : World) (v : Value) (l : List (Int × Int)) : Prop where
  bel : Below w.heap.size w W
  row : W.ownsRow w.heap.size 31 2 v l.length (ps l)
theorem BK.later {w W W' : World} {v : Value} {l : List (Int × Int)} (h : BK w W v l) (hb : Below W.heap.size W W') : BK w W' v l := ⟨h.bel.trans (hb.mono h.bel.size), Rs.owns_later h.row hb⟩
theorem BK.app {w W W1 : World} {v v' : Value} {l : List (Int × Int)} {o : Obj} {p : Int × Int} (h : BK w W v l) (hown : W1.ownsRow w.heap.size 31 2 v' (l.length + 1) (ps l ++ [.int .i64 p.1, .int .i64 p.2])) (hg : (W.alloc o).grownBy W1 v.ownBlock) : BK w W1 v' (l ++ [p]) := by
  refine ⟨Rs.grown_bel h.bel h.row (Nat.le_refl _) hg, ?_⟩
  rw [Rs.ps_snoc, List.length_append]
  exact hown
theorem infoKey2 : (Tryz.prog.info? 31).map (fun i => (i.zero, i.size, i.bytes)) = some (some (.agg #[.int .i64 0, .int .i64 0]), 2, 16) := by kernel_rfl
theorem infoKey_parts : ∃ i, Tryz.prog.info? 31 = some i ∧ i.zero = some (.agg #[.int .i64 0, .int .i64 0]) ∧ i.size = 2 ∧ i.bytes = 16 := by
  have h := infoKey2
  cases hq : Tryz.prog.info? 31 with
  | none => rw [hq] at h; cases h
  | some i =>
    rw [hq] at h
    simp at h
    exact ⟨i, rfl, h.1, h.2.1, h.2.2⟩
/- A seat of a list, held while something is looked up of a tree. -/
structure LS (w W : World) (B C : Nat) (t : Tr) (p : Int × Int) : Prop where
  tr : TrAt W B t
  se : StAt W C p
  bel : Below w.heap.size w W
theorem LS.later {w W W' : World} {B C : Nat} {t : Tr} {p : Int × Int} (h : LS w W B C t p) (hb : Below W.heap.size W W') : LS w W' B C t p := ⟨h.tr.later hb, h.se.later hb, h.bel.trans (hb.mono h.bel.size)⟩
theorem LS.two {w W : World} {B C : Nat} {t : Tr} {p : Int × Int} (h : LS w W B C t p) {A : Nat} {e : Ky} (hA : KyAt W A e) (h3 : w.heap.size ≤ A) (a b : Int) : LS w ((W.setCell ⟨A, 0, none⟩ (.int .i64 a)).setCell ⟨A, 1, none⟩ (.int .i64 b)) B C t p :=
  ⟨(Rt.set2_other (block_ne h.tr hA (by decide)) _ _ _ _).trans h.tr, (Rt.set2_other (block_ne h.se hA (by decide)) _ _ _ _).trans h.se, Rt.set2_below h.bel h3 _ _ _ _⟩
end Go.Proofs.YtpimbpfefhkojabGreatDoor
