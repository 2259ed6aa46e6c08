/- Contracts: the values of the map of least keys, one by one; gathered; sorted: Keys. -/
import Derived.Test.YtompgoaogomoaaaKnZ
import Derived.Test.YtompgoaogomoaaaKlSort
import Derived.RangeFuncNested
import Derived.RangeFuncBound
import Derived.RangeFuncCalls
import Derived.RangeFuncLeaves
import Derived.RangeFuncBox
import Derived.Shelf.Abstract
import Derived.Shelf.RegionOpen
import Derived.Sort.MapsRangeIn
import Derived.OwnWalkIn
import Derived.TacticsInMore
import Derived.LoopNIn
import Derived.LoopIn
namespace Go.Proofs.Ytompgoaogomoaaa.Kn
open Go.RowKit Go.Maps Go.Shelf Go.Sort
open Rt (Gd gd gd_yes gd_no keyElem elKey keyElem_mk keyElem_inv MapIs lstf)
attribute [local go_sem] Oper.semAt_some
set_option linter.unusedVariables false
set_option linter.unusedSimpArgs false

/- What was gathered: just what is no longer to come, no entry twice. -/
structure Cl (F : Int → Option Int) (left : Lit → Bool) (L : List K2) : Prop where
  nodup : L.Nodup
  mem : ∀ b s, (b, s) ∈ L ↔ F b = some s ∧ left (kI b) = false
theorem Cl.start {D : DataW Unit} {F : Int → Option Int} (h : MapIs kI elKey D F) : Cl F (Maps.has D) [] where
  nodup := List.nodup_nil
  mem := fun b s => ⟨fun h => by simp at h, fun ⟨hf, hl⟩ => by rw [h.has b s hf] at hl; cases hl⟩
theorem Cl.step {F : Int → Option Int} {left : Lit → Bool} {L : List K2} (h : Cl F left L) {b s : Int} (hf : F b = some s) (hl : left (kI b) = true) :
    Cl F (fun z => left z && !z.sameKey (kI b)) (L ++ [(b, s)]) where
  nodup := by
    rw [List.nodup_append]
    refine ⟨h.nodup, by simp, fun p hp q hq => ?_⟩
    simp at hq; subst hq
    intro e; subst e
    have := ((h.mem b s).1 hp).2
    rw [hl] at this; cases this
  mem := fun c t => by
    constructor
    · intro hm
      rcases List.mem_append.1 hm with hm | hm
      · obtain ⟨h1, h2⟩ := (h.mem c t).1 hm
        exact ⟨h1, by simp [h2]⟩
      · simp at hm; obtain ⟨rfl, rfl⟩ := hm
        exact ⟨hf, by simp [kI, Lit.sameKey]⟩
    · rintro ⟨h1, h2⟩
      cases hlc : left (kI c) with
      | false => exact List.mem_append.2 (Or.inl ((h.mem c t).2 ⟨h1, hlc⟩))
      | true =>
        rw [hlc] at h2
        have e : (kI c).sameKey (kI b) = true := by simpa using h2
        have := WideAt.sameKey_eq e
        simp [kI] at this
        subst this
        rw [hf] at h1; simp only [Option.some.injEq] at h1; subst h1
        simp
theorem nodup_lp (f : Int → Option Int) (n : Nat) : (Rt.lpart f n).Nodup := (Rt.sorted_lpart f n).imp fun {p q} h e => by subst e; omega
theorem Cl.perm {F : Int → Option Int} {left : Lit → Bool} {L : List K2} (h : Cl F left L) (hd : ∀ b s, F b = some s → 1 ≤ b ∧ b ≤ 65535) (hl : ∀ kl, left kl = false) : L.Perm (lstf F) := by
  refine (List.perm_ext_iff_of_nodup h.nodup (nodup_lp F 65535)).2 ?_
  rintro ⟨b, s⟩
  show (b, s) ∈ L ↔ (b, s) ∈ Rt.lpart F 65535
  rw [h.mem b s, Rt.mem_lpart]
  exact ⟨fun q => ⟨(hd b s q.1).1, by have := (hd b s q.1).2; omega, q.1⟩, fun q => ⟨q.2.2, hl _⟩⟩
set_option maxRecDepth 100000 in
set_option maxHeartbeats 1000000 in
theorem val1_in (n : Nat) (hn : 1 ≤ n) (l Bm b nn : Nat) (D0 : DataW Unit) (f0 : Int → Option Int) (hM : MapIs kI elKey D0 f0) (J Jx : List K2 → World → Prop)
    (hY : ∀ pre (x : K2) W, J pre W → pre.length < Maps.size D0 → YieldAt Fence.wide (n - 1) Try.prog l #[kV x] W fun e W' =>
      (e = .returned (.bool true) ∧ J (pre ++ [x]) W' ∧ KeepsWalks W W') ∨ (e = .returned (.bool false) ∧ Jx (pre ++ [x]) W'))
    (W : World) (hJ : AbidesFrom W.heap.size J) (hm : W.cell? ⟨Bm, 0, none⟩ = some (.map (some b))) (hown : W.ownsMap Try.prog 3 keyElem b nn D0) (h0 : J [] W) :
    CallsIn Fence.wide n Try.prog 57 #[.func (.yield l) #[] #[], .pointer (some ⟨Bm, 0, none⟩)] W fun e W' => (∃ v, e = .returned v) ∧
      ((∃ xs, xs.Perm (lstf f0) ∧ J xs W') ∨ (∃ pre, True ∧ Jx pre W')) := by
  refine callsIn_of_wp Try.func57 rfl trivial ?_ rfl
  simp only [Try.ntmps57, List.size_toArray, List.length_cons, List.length_nil, Nat.reduceAdd, Nat.reduceSub, Array.replicate_succ, Array.replicate_zero, List.push_toArray, List.append_toArray, List.nil_append, List.cons_append]
  gi_wp2_with (first
    | (gi_at_range; refine wpListIn_range_own _ rfl _ 64 rfl 3 33 intK9 Try.underlying64 keyElem b nn D0 rfl hown ?_; intro w0 hrg0 hg0 hs0)
    | gi_in)
  go_frame
  gi_loopw [4] (fun _ wr => ∃ (left : Lit → Bool) (cnt : Nat) (ps : List K2), wr.ranges Try.prog 3 keyElem b W.heap.size nn D0 left cnt ∧ ps.length + cnt ≤ Maps.size D0 ∧ Cl f0 left ps ∧ J ps wr)
    (fun _ wr => wr.rangeLeft b W.heap.size)
  case atStart =>
    exact ⟨_, _, [], hrg0, by simp, Cl.start hM, hJ [] W w0 none h0 hg0 (fun r e => by cases e)⟩
  case round =>
    obtain ⟨left, cnt, ps, hrg, hcs, hC, hJs⟩ := hrel
    gi_wp2_with (first
      | (gi_at_next; refine wpListIn_next_ranges _ rfl _ rfl 3 intK9 keyElem (Value.int .i64) (fun p : Int × Int => .agg #[.int .i64 p.1, .int .i64 p.2]) (fun key kl hk => by obtain ⟨x, hx, _⟩ := Maps.keyOf_int_inv Try.underlying3 hk; exact ⟨x, hx⟩) (fun v y hv => by obtain ⟨c, hc, _⟩ := keyElem_inv hv; exact ⟨c, hc⟩) b W.heap.size nn _ _ _ rfl hrg ?_ ?_)
      | gi_in)
    · intro hc0 hl0
      gi_wp2
      go_end0
      exact ⟨⟨_, rfl⟩, .inl ⟨ps, hC.perm hM.dom hl0, hJs⟩⟩
    · intro x c0 c1 kl yd yp w2 cnt2 hkey hlk hv hat hrg2 hlt hg2 hs2 hen
      obtain ⟨x', ex, rfl, _⟩ := Maps.keyOf_int_inv Try.underlying3 hkey
      obtain rfl : x = x' := by simpa using ex
      obtain ⟨c', ec, ey⟩ := keyElem_inv hv
      have e3 : c' = (c0, c1) := by simp [Rt.mkKey] at ec; exact Prod.ext ec.1.symm ec.2.symm
      subst e3
      obtain ⟨b', s', e1, hF, hz⟩ := hM.keys (.int .i64 x) (has_true_of_atKey hat)
      have e4 : elKey b' s' = elKey c0 c1 := by rw [← hz (elKey 0 0), hat]; exact congrArg Prod.fst ey
      obtain ⟨rfl, rfl⟩ := Rt.elKey_inj e4
      simp [kI] at e1
      subst e1
      have hJ2 : J ps w2 := hJ ps wr w2 (some W.heap.size) hJs hg2 (fun r e => by cases e; exact ⟨Nat.le_refl _, hrg.iter_walk⟩)
      have hJ3 : J ps (w2.alloc (.cells #[.int .i64 x, .int .i64 s'] 33)) := hJ ps w2 _ none hJ2 (World.grownBy_alloc _ _ _) (fun r e => by cases e)
      obtain ⟨fn, tmps, assign, body, hy, hR⟩ := hY ps (x, s') _ hJ3 (by omega)
      dsimp only [kV] at hy
      have hrg3 := hrg2.alloc (.cells #[.int .i64 x, .int .i64 s'] 33)
      clear hs2 ec ey hv hat e4 hkey hz ex
      gi_wp2
      refine hR.mono ?_
      have hC2 : Cl f0 (fun z => left z && !z.sameKey (.int .i64 x)) (ps ++ [(x, s')]) := hC.step hF hlk
      rintro e W3 (⟨rfl, hJ4, hk3⟩ | ⟨rfl, hJx3⟩)
      · gi_wp2
        have hrg4 := hrg3.of_walks hk3
        go_roundw
        case rel => exact ⟨_, cnt2, ps ++ [(x, s')], hrg4, by simp; omega, hC2, hJ4⟩
        case measure => rw [hrg4.left_eq, hrg.left_eq]; exact hlt
      · gi_wp2
        refine bodyPost_ret (results_none rfl _ _ _) rfl ?_
        exact ⟨⟨_, rfl⟩, .inr ⟨ps ++ [(x, s')], trivial, hJx3⟩⟩
theorem val1_stops (n : Nat) (hn : 1 ≤ n) (Bm b nn : Nat) (D0 : DataW Unit) (f0 : Int → Option Int) (hM : MapIs kI elKey D0 f0) (w : World) (hBm : Bm < w.heap.size) (hm : w.cell? ⟨Bm, 0, none⟩ = some (.map (some b))) (hown : w.ownsMap Try.prog 3 keyElem b nn D0) :
    SeqStops Fence.wide n Try.prog 57 #[.pointer (some ⟨Bm, 0, none⟩)] kV (fun xs => xs.Perm (lstf f0)) (fun _ => True) (Maps.size D0) w := fun l J Jx W hW hJ _ hY h0 => by
  have hown' : W.ownsMap Try.prog 3 keyElem b nn D0 := map_kept hown (Kept.ofBelow (F := fun _ => False) hW) id
  exact val1_in n hn l Bm b nn D0 f0 hM J Jx hY W hJ ((hW.cell (p := ⟨Bm, 0, none⟩) hBm).trans hm) hown' h0
theorem two_new9 (w : World) (x y : Value) (t : TypeId) : ∀ j u, [x, y][j]? = some u → (w.alloc (.cells #[x, y] t)).cell? ((⟨w.heap.size, 0, none⟩ : Addr).add j) = some u := by
  intro j u hj
  match j, hj with
  | 0, hj => simp at hj; subst hj; simp [Addr.add, go_sem]
  | 1, hj => simp at hj; subst hj; simp [Addr.add, go_sem]
theorem put_below {n0 : Nat} {w : World} (hn : n0 ≤ w.heap.size) : ∀ (W : World) (l : Nat) (o o' : Obj), w.heap.size ≤ l → W.heap[l]? = some o → o.isCells = false → o.isWalk = false → Below n0 W (W.putObj l o') := belowK_b hn
set_option maxRecDepth 100000 in
set_option maxHeartbeats 2000000 in
theorem appSeq_in (n : Nat) (hn : 4 ≤ n) (Bm b nn : Nat) (D0 : DataW Unit) (f0 : Int → Option Int) (hM : MapIs kI elKey D0 f0) (w : World) (hBm : Bm < w.heap.size) (hm : w.cell? ⟨Bm, 0, none⟩ = some (.map (some b))) (hown : w.ownsMap Try.prog 3 keyElem b nn D0) :
    CallsIn Fence.wide n Try.prog 60 #[.slice none 0 0, .func (.func 57) #[] #[.pointer (some ⟨Bm, 0, none⟩)] ] w fun e w' => (∃ (v : Value) (xs : List K2), e = .returned v ∧ xs.Perm (lstf f0) ∧ w'.ownsRow w.heap.size 33 2 v xs.length (xs.flatMap kC)) ∧ Below w.heap.size w w' := by
  have h1 : 1 ≤ n := by omega
  have hsz : Maps.size D0 ≤ 65535 := by rw [hM.size]; exact Rt.lpart_le _ _
  obtain ⟨i0, hi, hz0, hz1, hz2⟩ := info_parts infoKey
  refine callsIn_of_wp_marks Try.func60 rfl trivial ?_ rfl
  simp only [Try.ntmps60, List.size_toArray, List.length_cons, List.length_nil, Nat.reduceAdd, Nat.reduceSub, Array.replicate_succ, Array.replicate_zero, List.push_toArray, List.append_toArray, List.nil_append, List.cons_append]
  have bP := Boxed.new w 27 (.slice none 0 0)
  have hB0 : Below w.heap.size w (w.alloc (.cells #[.slice none 0 0] 27)) := (Below.refl _ w).alloc (Nat.le_refl _) _
  gi_wp2_with fail
  refine wpIn_rangeFunc_ownH rfl h1 (gf := 57) (lb := #[.pointer (some ⟨Bm, 0, none⟩)]) (by simp [go_sem]) trivial (enters_of Try.func57 (by kernel_rfl) rfl)
    (val1_stops (n - 1) (by omega) Bm b nn D0 f0 hM _ (by simp; omega) (cell_later hB0 hm) (map_kept hown (Kept.ofBelow (F := fun _ => False) hB0) id)) walksK_t walksK_b (Below.refl _ _) (fun _ => rfl)
    (fun (pre : List K2) W => (∃ v, Boxed W w.heap.size 27 v ∧ W.ownsRow w.heap.size 33 2 v pre.length (pre.flatMap kC) ∧ True) ∧ Below w.heap.size w W)
    (fun _ _ _ => False)
    (OwnFrom.and (Own.from (holdsRow_own w.heap.size w.heap.size 27 33 2 (fun pre : List K2 => pre.length) (fun pre : List K2 => pre.flatMap kC) (fun pre v => True)) _) (ownFrom_below (Nat.le_refl _) (by simp)))
    (fun _ _ _ _ _ hs _ _ => hs)
    ⟨⟨_, bP, World.ownsRow_nil _ _ _ _, trivial⟩, hB0⟩
    (fun x a' W => ∃ Bx, w.heap.size < Bx ∧ KAt W Bx x ∧ a' = { tmps := #[.slice none 0 0, .func (.func 57) #[] #[.pointer (some ⟨Bm, 0, none⟩)], .pointer (some ⟨w.heap.size, 0, none⟩), undef, .slice none 0 0, .pointer (some ⟨Bx, 0, none⟩), .func (.func 57) #[] #[.pointer (some ⟨Bm, 0, none⟩)], kV x, undef, undef, undef, undef, undef], defers := [] })
    (fun x a' _ X Y row hs hg hr => by
      obtain ⟨Bx, h1, h2, h3⟩ := hs
      refine ⟨Bx, h1, (hg.block Bx h2.lt (fun e => ?_)).trans h2, h3⟩
      obtain ⟨_, o, ho, hc⟩ := hr Bx e.symm
      rw [show X.heap[Bx]? = _ from h2] at ho
      cases ho; cases hc)
    ?assign ?body ?done ?stop
  case assign =>
    rintro lo pre ⟨x0, x1⟩ W K ⟨⟨v, hv, hrow, -⟩, hB⟩ hK
    dsimp only [kV] at *
    gi_wp2
    exact hK _ _ ((KeepsOthers.alloc _ _).from _) ((KeepsOthers.alloc _ _).walks) ⟨⟨v, hv.alloc _, hrow.alloc _, trivial⟩, hB.alloc hB.size _⟩ ⟨W.heap.size, hv.lt, KAt.new W (x0, x1), rfl⟩
  case body =>
    rintro lo pre ⟨x0, x1⟩ a' W hlo hr ⟨⟨v, hv, hrow, -⟩, hB⟩ ⟨Bx, hBx, hX, rfl⟩ hlt
    have hc := hv.cell
    have c0 := hX.cell.1
    have c1 := hX.cell.2
    clear hr
    dsimp only [kV] at *
    gi_wp2_with (gi_at_builtin; refine wpListIn_append_own _ rfl _ _ 27 rfl w.heap.size 33 i0 _ 2 16 Try.underlying27 hi hz0 hz1 hz2 rfl (by decide) _ _ _ rfl (hrow.alloc _) ⟨W.heap.size, 0, none⟩ 1 1 [.int .i64 x0, .int .i64 x1] rfl rfl (two_new9 _ _ _ _) (by simp [Value.oneCell']) (by unfold maxLen; omega) (by omega) (by have := hB.size; simp; omega) ?_; intro v' w1 hown' hgrow _; obtain ⟨g', cap', rfl⟩ := ownsRow_succ hown'; obtain ⟨hv1, hv2, hr2, hk2, hb2⟩ := hv.appended (by decide) hrow hB.size (Nat.le_refl _) hown' hgrow; have hc1 := hv1.cell; have hf1 := hv1.frozen)
    refine ⟨hk2.from _, ?_, ⟨_, hv2, ?_, trivial⟩, hB.trans hb2⟩
    · exact hk2.walks
    · rw [kC_snoc, List.length_append]
      exact hr2
  case done =>
    rintro D ys W hD hp ⟨⟨v, hv, hrow, -⟩, hB⟩ hK
    have hc := hv.cell
    gi_wp2
    simp at hD
    refine ⟨by simp, .inl ⟨_, _, rfl, run_takeDeferred hK, ?_⟩⟩
    exact ⟨v, results_tmp (t := 4) rfl _ _ _, ⟨v, ys, rfl, hp, ownsRow_putObj hrow _ hK rfl⟩, hB.trans (belowK_b (w := w) (Nat.le_refl _) W D _ _ (by omega) hK rfl rfl)⟩
  case stop =>
    rintro D c pre W _ _ h _
    exact h.elim
end Go.Proofs.Ytompgoaogomoaaa.Kn
