/- Contract: the batch between two trees of a step (the document's between). -/
import Derived.Test.YtpimbpfefhkojabGreatDoorPlMath5
import Derived.Test.YtpimbpfefhkojabGreatDoorPlJ5
import Derived.Test.YtpimbpfefhkojabGreatDoorPlJ3
import Derived.Test.YtpimbpfefhkojabGreatDoorJnO
import Derived.Test.YtpimbpfefhkojabGreatDoorTrJ2
namespace Go.Proofs.YtpimbpfefhkojabGreatDoor
open Go.RowKit Go.Maps
open Rt (Ky zK KyAt)
open Rs (En zE rcs tkn fnd RdS RdI ps own_other own_ge i64s i64s_length other_setCell row_setCell row_frozen grown_low grown_bel below_grown owns_later owns_slice infoInt)
set_option linter.unusedVariables false
set_option linter.unusedSimpArgs false

theorem neEn_exec {w : World} {x y : En} {b : Bool} (hb : Rs.eqE x y = b) {o : Oper} {a : Act} {X Y : Operand} (ho : o.op = .binOp .neq 43 X Y 43) (hx : a.eval X = .agg #[.int .i64 x.who, .int .i64 x.bas, .int .i64 x.snc]) (hy : a.eval Y = .agg #[.int .i64 y.who, .int .i64 y.bas, .int .i64 y.snc]) : (execOp a.eval o).run Tryz.prog w = .ok (.value (.bool (!b))) w := by
  have h1 := run_eqGuard_agg (P := Tryz.prog) w .neq 43 X Y #[.int .i64 x.who, .int .i64 x.bas, .int .i64 x.snc] #[.int .i64 y.who, .int .i64 y.bas, .int .i64 y.snc] Tryz.eqGuardType43
  have h2 := run_neq_struct (P := Tryz.prog) w 43 #[.int .i64 x.who, .int .i64 x.bas, .int .i64 x.snc] #[.int .i64 y.who, .int .i64 y.bas, .int .i64 y.snc]
  rw [Rs.run_eqEn 9998, hb] at h2
  simp [execOp, ho, hx, hy, h1, h2, Sem.run_bind, Result.andThen]
theorem eqE_no {x y : En} (h : x ≠ y) : Rs.eqE x y = false := by
  cases e : Rs.eqE x y with
  | false => rfl
  | true => exact absurd (Rs.eqE_iff.1 e) h
theorem eqE_refl (x : En) : Rs.eqE x x = true := Rs.eqE_iff.2 rfl
theorem appN {ops : Array Oper} {o : Oper} {a : Act} {w : World} {K : Act → World → Prop} {Q : Exit → Act → World → Prop} {E : Prop} (hw : Region.wanted o (yielded ops a.tmps) = true) (d : Tmp) (hd : o.dst = some d) (s x : Operand)
    (ho : o.op = .call { callee := .builtin .append, args := #[s, x], argTypes := #[ 24, 24 ] })
    (n0 : Nat) (v : Value) (l : List Int) (hs : a.eval s = v) (hown : w.ownsRow n0 3 1 v l.length (i64s l)) (g : Nat) (y : Int) (hx : a.eval x = .slice (some ⟨g, 0, none⟩) 1 1)
    (hnews : ∀ j u, [Value.int .i64 y][j]? = some u → w.cell? ((⟨g, 0, none⟩ : Addr).add j) = some u) (hl : l.length ≤ 4096) (hb : n0 ≤ w.heap.size)
    (h : ∀ v' w', w'.ownsRow n0 3 1 v' (l ++ [y]).length (i64s (l ++ [y])) → w.grownBy w' v.ownBlock → K (a.put (some d) v') w') :
    if Region.wanted o (yielded ops a.tmps) = true then Oper.wp Tryz.prog o a w K Q else E := by
  obtain ⟨i0, hi, hz0, hz1, hz2⟩ := info_parts infoInt
  rw [if_pos hw]
  refine wp_append_own w s x 24 ho n0 3 i0 _ 1 8 Tryz.underlying24 hi hz0 hz1 hz2 rfl (by omega) v l.length (i64s l) hs hown ⟨g, 0, none⟩ 1 1 [Value.int .i64 y] hx rfl hnews (by simp [Value.oneCell']) (by unfold maxLen; omega) (by omega) hb ?_
  intro v' w' h2 h3 h4
  rw [hd]
  refine h v' w' ?_ h3
  have e : i64s (l ++ [y]) = i64s l ++ [Value.int .i64 y] := by simp [Rs.i64s]
  rw [e, List.length_append]
  exact h2
structure PB (w W : World) (B N K D : Nat) (t n : Tr) (vl vj : Value) : Prop where
  ta : TrAt W B t
  tb : TrAt W N n
  rs : W.heap[K]? = some (.cells #[.slice none 0 0, .slice none 0 0] 66 (0, 0))
  bt : W.heap[D]? = some (.cells #[vl, vj] 66 (0, 0))
  bel : Below w.heap.size w W
  o1 : B < K
  o2 : N < K
  o3 : K < D
  o4 : w.heap.size ≤ K
section
variable {w W W' : World} {B N K D : Nat} {t n : Tr} {vl vj : Value}
theorem PB.lt (h : PB w W B N K D t n vl vj) : D < W.heap.size := (Array.getElem?_eq_some_iff.1 h.bt).1
theorem PB.later (h : PB w W B N K D t n vl vj) (hb : Below W.heap.size W W') : PB w W' B N K D t n vl vj := ⟨h.ta.later hb, h.tb.later hb, (hb.block _ (Array.getElem?_eq_some_iff.1 h.rs).1).trans h.rs, (hb.block _ h.lt).trans h.bt, h.bel.trans (hb.mono h.bel.size), h.o1, h.o2, h.o3, h.o4⟩
theorem PB.cells (h : PB w W B N K D t n vl vj) : W.cell? ⟨D, 0, none⟩ = some vl ∧ W.cell? ⟨D, 1, none⟩ = some vj := ⟨cell_of_row W D 0 _ _ _ h.bt, cell_of_row W D 1 _ _ _ h.bt⟩
theorem PB.app {b : Nat} {e : TypeId} {sz m : Nat} {v : Value} {xs : List Value} (h : PB w W B N K D t n vl vj) (hr : W.ownsRow b e sz v m xs) (hb : D < b) (hg : W.grownBy W' v.ownBlock) : PB w W' B N K D t n vl vj := by
  have h1 := h.o1
  have h2 := h.o2
  have h3 := h.o3
  have h4 := h.lt
  have h5 := h.o4
  have low : ∀ k, k ≤ D → W'.heap[k]? = W.heap[k]? := fun k hk => hg.block k (by omega) (fun e => by have := (own_ge hr e.symm).1; omega)
  exact ⟨(low _ (by omega)).trans h.ta, (low _ (by omega)).trans h.tb, (low _ (by omega)).trans h.rs, (low _ (by omega)).trans h.bt, below_grown h.bel hg h.bel.size (fun j hj => by have := (own_ge hr hj).1; omega), h1, h2, h3, h5⟩
theorem PB.set0 (h : PB w W B N K D t n vl vj) (v : Value) : PB w (W.setCell ⟨D, 0, none⟩ v) B N K D t n v vj := by
  have h1 := h.o1
  have h2 := h.o2
  have h3 := h.o3
  have h5 := h.o4
  exact ⟨(other_setCell (by omega) _ _).trans h.ta, (other_setCell (by omega) _ _).trans h.tb, (other_setCell (by omega) _ _).trans h.rs, row_setCell h.bt 0 v, h.bel.setCell (p := ⟨D, 0, none⟩) (by show w.heap.size ≤ D; omega) v, h1, h2, h3, h5⟩
theorem PB.set1 (h : PB w W B N K D t n vl vj) (v : Value) : PB w (W.setCell ⟨D, 1, none⟩ v) B N K D t n vl v := by
  have h1 := h.o1
  have h2 := h.o2
  have h3 := h.o3
  have h5 := h.o4
  exact ⟨(other_setCell (by omega) _ _).trans h.ta, (other_setCell (by omega) _ _).trans h.tb, (other_setCell (by omega) _ _).trans h.rs, row_setCell h.bt 1 v, h.bel.setCell (p := ⟨D, 1, none⟩) (by show w.heap.size ≤ D; omega) v, h1, h2, h3, h5⟩
theorem PB.new (w : World) (t n : Tr) : PB w ((((w.alloc (.cells (tcs t) 47)).alloc (.cells (tcs n) 47)).alloc (.cells #[.slice none 0 0, .slice none 0 0] 66)).alloc (.cells #[.slice none 0 0, .slice none 0 0] 66)) w.heap.size (w.heap.size + 1) (w.heap.size + 2) (w.heap.size + 3) t n (.slice none 0 0) (.slice none 0 0) := by
  have a1 := TrAt.new w t
  have b1 := alloc_tr w t
  have e1 : (w.alloc (.cells (tcs t) 47)).heap.size = w.heap.size + 1 := World.size_alloc _ _
  generalize w.alloc (.cells (tcs t) 47) = w1 at *
  have a2 := TrAt.new w1 n
  have b2 := alloc_tr w1 n
  have e2 : (w1.alloc (.cells (tcs n) 47)).heap.size = w1.heap.size + 1 := World.size_alloc _ _
  generalize w1.alloc (.cells (tcs n) 47) = w2 at *
  have a3 := heap_alloc_last w2 (.cells #[.slice none 0 0, .slice none 0 0] 66)
  have b3 := below_alloc w2 (.cells #[.slice none 0 0, .slice none 0 0] 66)
  have e3 : (w2.alloc (.cells #[.slice none 0 0, .slice none 0 0] 66)).heap.size = w2.heap.size + 1 := World.size_alloc _ _
  generalize w2.alloc (.cells #[.slice none 0 0, .slice none 0 0] 66) = w3 at *
  have a4 := heap_alloc_last w3 (.cells #[.slice none 0 0, .slice none 0 0] 66)
  have b4 := below_alloc w3 (.cells #[.slice none 0 0, .slice none 0 0] 66)
  rw [show w1.heap.size = w.heap.size + 1 from e1] at a2
  rw [show w2.heap.size = w.heap.size + 2 by omega] at a3
  rw [show w3.heap.size = w.heap.size + 3 by omega] at a4
  have c3 := row_later a3 b4
  exact ⟨((a1.later b2).later b3).later b4, (a2.later b3).later b4, c3, a4, ((b1.trans (b2.mono b1.size)).trans (b3.mono (by omega))).trans (b4.mono (by omega)), by omega, by omega, by omega, by omega⟩
end
/- The best slot so far. -/
structure Bst (t n : Tr) (last : Int) (i : Nat) (b : Int) : Prop where
  no : b = -1 → ∀ s, s < i → ¬ Cnd t n last s
  yes : b ≠ -1 → ∃ j : Nat, b = (j : Int) ∧ j < i ∧ Cnd t n last j ∧ ∀ s, s < i → Cnd t n last s → (n.ro j).bas ≤ (n.ro s).bas
theorem Bst.zero (t n : Tr) (last : Int) : Bst t n last 0 (-1) := ⟨fun _ s hs => by omega, fun h => absurd rfl h⟩
theorem Bst.skip {t n : Tr} {last : Int} {i : Nat} {b : Int} (h : Bst t n last i b) (hn : ¬ Cnd t n last i) : Bst t n last (i + 1) b := by
  refine ⟨fun e s hs => ?_, fun e => ?_⟩
  · rcases Nat.lt_or_ge s i with c | c
    · exact h.no e s c
    · obtain rfl : s = i := by omega
      exact hn
  · obtain ⟨j, h1, h2, h3, h4⟩ := h.yes e
    refine ⟨j, h1, by omega, h3, fun s hs hc => ?_⟩
    rcases Nat.lt_or_ge s i with c | c
    · exact h4 s c hc
    · obtain rfl : s = i := by omega
      exact absurd hc hn
theorem Bst.keep {t n : Tr} {last : Int} {i j : Nat} (h : Bst t n last i (j : Int)) (hn : ¬ (n.ro i).bas < (n.ro j).bas) : Bst t n last (i + 1) (j : Int) := by
  refine ⟨fun e => by omega, fun e => ?_⟩
  obtain ⟨j', h1, h2, h3, h4⟩ := h.yes e
  obtain rfl : j = j' := by omega
  refine ⟨j, rfl, by omega, h3, fun s hs hc => ?_⟩
  rcases Nat.lt_or_ge s i with c | c
  · exact h4 s c hc
  · obtain rfl : s = i := by omega
    omega
theorem Bst.take0 {t n : Tr} {last : Int} {i : Nat} (h : Bst t n last i (-1)) (hc : Cnd t n last i) : Bst t n last (i + 1) (i : Int) := by
  refine ⟨fun e => by omega, fun _ => ⟨i, rfl, by omega, hc, fun s hs hs2 => ?_⟩⟩
  rcases Nat.lt_or_ge s i with c | c
  · exact absurd hs2 (h.no rfl s c)
  · obtain rfl : s = i := by omega
    exact Int.le_refl _
theorem Bst.take1 {t n : Tr} {last : Int} {i j : Nat} (h : Bst t n last i (j : Int)) (hc : Cnd t n last i) (hl : (n.ro i).bas < (n.ro j).bas) : Bst t n last (i + 1) (i : Int) := by
  refine ⟨fun e => by omega, fun _ => ⟨i, rfl, by omega, hc, fun s hs hs2 => ?_⟩⟩
  obtain ⟨j', h1, h2, h3, h4⟩ := h.yes (by omega)
  obtain rfl : j = j' := by omega
  rcases Nat.lt_or_ge s i with c | c
  · have := h4 s c hs2; omega
  · obtain rfl : s = i := by omega
    exact Int.le_refl _
def lst (t : Tr) (L : List Int) (k : Nat) : Int := if k = 0 then 0 else plF t L + ((k - 1 : Nat) : Int)
theorem bst_end {t : Tr} {L J : List Int} (h : Stp t L J) {k : Nat} (hk : k < J.length) {b : Int} (hb : Bst t (nx t L J) (lst t L k) 64 b) : ∃ j : Nat, b = (j : Int) ∧ j < 64 ∧ ((nx t L J).ro j).bas = plF t L + (k : Int) ∧ ((nx t L J).ro j).who = J.getD k 0 := by
  obtain ⟨h1, h2, _⟩ := h.joined hk
  have hc : Cnd t (nx t L J) (lst t L k) ((Rs.mvT t.ro L J).getD k 0) := (cnd_iff h rfl h1).2 ⟨k, Nat.le_refl _, hk, rfl, by rw [h2], by rw [h2]⟩
  have hne : b ≠ -1 := fun e => hb.no e _ h1 hc
  obtain ⟨j, e1, e2, e3, e4⟩ := hb.yes hne
  obtain ⟨m, m1, m2, m3, m4, m5⟩ := (cnd_iff h rfl e2).1 e3
  have e5 := e4 _ h1 hc
  rw [h2] at e5
  dsimp only at e5
  obtain rfl : m = k := by omega
  exact ⟨j, e1, e2, m4, m5⟩
theorem bst_none {t : Tr} {L J : List Int} (h : Stp t L J) {b : Int} (hb : Bst t (nx t L J) (lst t L J.length) 64 b) : b = -1 := by
  by_cases e : b = -1
  · exact e
  · obtain ⟨j, e1, e2, e3, _⟩ := hb.yes e
    obtain ⟨m, m1, m2, _⟩ := (cnd_iff h rfl e2).1 e3
    omega
def BtwP (w w' : World) (t n : Tr) (J : List Int) (e : Ending) : Prop := ∃ aL cL aJ cJ, e = .returned (.agg #[.slice aL (btL t n 64).length cL, .slice aJ J.length cJ]) ∧ RdI w' aL (btL t n 64) ∧ RdI w' aJ J
theorem results_bt {fn : Func} {p : Tmp} (hf : fn.results = #[.cell p 66 ]) (tmps : Array Value) (W : World) (B : Nat) (v u : Value) (hp : tmps[p]? = some (.pointer (some ⟨B, 0, none⟩))) (hb : W.heap[B]? = some (.cells #[v, u] 66 (0, 0))) : (results fn tmps).run Tryz.prog W = .ok (.agg #[v, u]) W := by
  have h : (loadVar 66 ⟨B, 0, none⟩).run Tryz.prog W = .ok (.agg #[v, u]) W := run_loadVar_row W B _ 66 _ _ _ hb Tryz.underlying66 rfl (by kernel_rfl)
  simp [results, hf, hp, asAddr, h]
theorem iv_rd {W : World} {b : Nat} {v : Value} {l : List Int} (h : W.ownsRow b 3 1 v l.length (i64s l)) : ∃ a cap, v = .slice a l.length cap ∧ RdI W a l := by
  rcases h.2 with ⟨rfl, h0⟩ | ⟨g, cap, cur, rfl, h3, h4, _⟩
  · have : l = [] := List.length_eq_zero_iff.1 h0
    subst this
    exact ⟨none, 0, rfl, Rs.RdI.nil _ _⟩
  · refine ⟨some ⟨g, 0, none⟩, cap, rfl, fun i hi => ⟨g, 0, rfl, ?_⟩⟩
    rw [Nat.zero_add, World.ownsRow.cellAt h i (by omega)]
    simp [Rs.i64s, hi]
set_option maxRecDepth 100000 in
set_option maxHeartbeats 8000000 in
theorem between_any (t : Tr) (L J : List Int) (hst : Stp t L J) (w : World) : Calls Tryz.prog 28 #[.agg (tcs t), .agg (tcs (nx t L J))] w fun e w' => BtwP w w' t (nx t L J) J e ∧ Below w.heap.size w w' := by
  have HST : Hid (Stp t L J) := hst
  have hJ64 : J.length ≤ 64 := by have h1 := hst.fit.cnt; have h2 := hst.fit.room; have h3 := Rs.cnt_le t.ro; omega
  have HPF : Hid (1 ≤ plF t L ∧ plF t L + (J.length : Int) ≤ 32768) := ⟨by have := hst.rt.f0; have := plF_ge t L; omega, hst.nm⟩
  have HBE : Hid (∀ k b, k < J.length → Bst t (nx t L J) (lst t L k) 64 b → ∃ j : Nat, b = (j : Int) ∧ j < 64 ∧ ((nx t L J).ro j).bas = plF t L + (k : Int) ∧ ((nx t L J).ro j).who = J.getD k 0) := fun k b hk hb => bst_end hst hk hb
  have HBN : Hid (∀ b, Bst t (nx t L J) (lst t L J.length) 64 b → b = -1) := fun b hb => bst_none hst hb
  obtain ⟨n, hn⟩ : ∃ n, nx t L J = n := ⟨_, rfl⟩
  rw [hn] at HBE HBN ⊢
  clear hn hst
  have hX := PB.new w t n
  obtain ⟨ct, hct⟩ : ∃ c, tcs t = c := ⟨_, rfl⟩
  have HT : Hid (tcs t = ct) := hct
  clear hct
  obtain ⟨cn, hcn⟩ : ∃ c, tcs n = c := ⟨_, rfl⟩
  have HN : Hid (tcs n = cn) := hcn
  clear hcn
  go_enter Tryz.func28, Tryz.ntmps28
  go_upto_region 2 with (fail)
  generalize (((w.alloc (.cells (tcs t) 47)).alloc (.cells (tcs n) 47)).alloc (.cells #[.slice none 0 0, .slice none 0 0] 66)).alloc (.cells #[.slice none 0 0, .slice none 0 0] 66) = w1 at *
  rw [HT.out, HN.out]
  obtain ⟨D, hD⟩ : ∃ C, w.heap.size + 3 = C := ⟨_, rfl⟩
  obtain ⟨K, hK9⟩ : ∃ C, w.heap.size + 2 = C := ⟨_, rfl⟩
  obtain ⟨N, hN9⟩ : ∃ C, w.heap.size + 1 = C := ⟨_, rfl⟩
  obtain ⟨B, hB9⟩ : ∃ C, w.heap.size = C := ⟨_, rfl⟩
  rw [hD, hK9, hN9, hB9] at hX
  rw [hD, hK9, hN9, hB9]
  have HX0 : Hid (PB w w1 B N K D t n (.slice none 0 0) (.slice none 0 0)) := hX
  have HR0 : Hid (w1.ownsRow (D + 1) 3 1 (.slice none 0 0) (btL t n 0).length (i64s (btL t n 0))) := World.ownsRow_nil _ _ _ _
  clear hX hD hK9 hN9 hB9
  go_wp2_with fail
  go_loopw [6] (fun i wx => ∃ (k : Nat) (vl : Value), k ≤ 64 ∧ i = .int .i64 (k : Int) ∧ PB w wx B N K D t n vl (.slice none 0 0) ∧ wx.ownsRow (D + 1) 3 1 vl (btL t n k).length (i64s (btL t n k))) (fun i _ => 64 - (intOf i).toNat)
  case atStart => exact ⟨0, _, by omega, rfl, HX0.out, HR0.out⟩
  case round =>
    obtain ⟨i, vl, hi, rfl, hpb, hrw⟩ := hrel
    have HX : Hid (PB w wr B N K D t n vl (.slice none 0 0)) := hpb
    have HR : Hid (wr.ownsRow (D + 1) 3 1 vl (btL t n i).length (i64s (btL t n i))) := hrw
    clear hpb hrw HX0 HR0
    by_cases hi64 : i < 64
    · have i1 : (0 : Int) ≤ (i : Int) := by omega
      have i2 : (i : Int) < 64 := by omega
      have HTK : Hid (btL t n (i + 1) = btL t n i ++ if tkn (t.ro i) && !enE (t.ro i) (n.ro i) then [(t.ro i).who] else []) := rfl
      have HLN : Hid ((btL t n i).length ≤ 4096) := by have := btL_len t n i; unfold Hid; omega
      obtain ⟨x, hx⟩ : ∃ x, t.ro i = x := ⟨_, rfl⟩
      obtain ⟨y, hy⟩ : ∃ y, n.ro i = y := ⟨_, rfl⟩
      have HXE : Hid (t.ro i = x) := hx
      have HYE : Hid (n.ro i = y) := hy
      rw [hx, hy] at HTK
      clear hx hy
      obtain ⟨l, hl⟩ : ∃ l, btL t n i = l := ⟨_, rfl⟩
      rw [hl] at HTK HLN HR
      clear hl
      have HTKN : Hid (tkn x = !decide (x.bas = 0)) := rfl
      go_upto_region 5 with (fail)
      have hT0 : PB w wr.drew B N K D t n vl (.slice none 0 0) := HX.out.later (drew_below _)
      by_cases hb0 : x.bas = 0
      · have hz1 : (x.bas != 0) = false := by simp [hb0]
        have HEQ : Hid (Rs.eqE x x = true) := eqE_refl x
        have HTK2 : Hid (btL t n (i + 1) = l) := by unfold Hid; rw [HTK.out, HTKN.out, decide_eq_true hb0]; simp
        clear hb0
        refine wp_region_held_drew (S := fun Z => PB w Z B N K D t n vl (.slice none 0 0)) (by kernel_rfl) hT0 (fun hHeld => ?_)
        refine wpAnyH_take (i := 0) (oi := { dst := some 15, op := Op.move (Operand.tmp 6), type := _, pos := _, after := _, guard := none }) (v := .int .i64 (i : Int)) rfl (by kernel_rfl) (by kernel_rfl) (by kernel_rfl) (fun _ _ _ h => h) (Or.inl ⟨by rfl, fun w hSw => by (try dsimp only at hSw); go_simp⟩) (by assumption) ?_
        simp only [Act.put, List.setIfInBounds_toArray, List.set_cons_zero, List.set_cons_succ]
        refine wpAnyH_take (i := 1) (oi := { dst := some 16, op := Op.fieldAddr 47 (Operand.tmp 2) 3, type := _, pos := _, after := _, guard := none }) (v := .pointer (some ⟨B, 44, none⟩)) rfl (by kernel_rfl) (by kernel_rfl) (by kernel_rfl) (fun _ _ _ h => h) (Or.inl ⟨by rfl, fun w hSw => by (try dsimp only at hSw); go_simp⟩) (by assumption) ?_
        simp only [Act.put, List.setIfInBounds_toArray, List.set_cons_zero, List.set_cons_succ]
        refine wpAnyH_take (i := 2) (oi := { dst := some 17, op := Op.indexAddr 45 (Operand.tmp 16) (Operand.tmp 15), type := _, pos := _, after := _, guard := none }) (v := .pointer (some ⟨B, 44 + i * 3, none⟩)) rfl (by kernel_rfl) (by kernel_rfl) (by kernel_rfl) (fun _ _ _ h => h) (Or.inl ⟨by rfl, fun w hSw => by (try dsimp only at hSw); go_simp⟩) (by assumption) ?_
        simp only [Act.put, List.setIfInBounds_toArray, List.set_cons_zero, List.set_cons_succ]
        refine wpAnyH_take (i := 3) (oi := { dst := some 18, op := Op.fieldAddr 43 (Operand.tmp 17) 1, type := _, pos := _, after := _, guard := none }) (v := .pointer (some ⟨B, 44 + i * 3 + 1, none⟩)) rfl (by kernel_rfl) (by kernel_rfl) (by kernel_rfl) (fun _ _ _ h => h) (Or.inl ⟨by rfl, fun w hSw => by (try dsimp only at hSw); go_simp⟩) (by assumption) ?_
        simp only [Act.put, List.setIfInBounds_toArray, List.set_cons_zero, List.set_cons_succ]
        refine wpAnyH_take (i := 4) (oi := { dst := some 19, op := Op.load 3 (Operand.tmp 18), type := _, pos := _, after := _, guard := none }) (v := .int .i64 x.bas) rfl (by kernel_rfl) (by kernel_rfl) (by kernel_rfl) (fun _ _ _ h => h) (Or.inl ⟨by rfl, fun w hSw => by obtain ⟨z0, z1, z2⟩ := (hSw.ta).ent i hi64; rw [HXE.out] at z0 z1 z2; clear hSw; go_simp⟩) (by assumption) ?_
        simp only [Act.put, List.setIfInBounds_toArray, List.set_cons_zero, List.set_cons_succ]
        refine wpAnyH_take (i := 5) (oi := { dst := some 20, op := Op.binOp BinOp.neq 3 (Operand.tmp 19) (Operand.const (Value.int IntKind.i64 0)) 3, type := _, pos := _, after := _, guard := none }) (v := .bool false) rfl (by kernel_rfl) (by kernel_rfl) (by kernel_rfl) (fun _ _ _ h => h) (Or.inl ⟨by rfl, fun w hSw => by (try dsimp only at hSw); go_simp⟩) (by assumption) ?_
        simp only [Act.put, List.setIfInBounds_toArray, List.set_cons_zero, List.set_cons_succ]
        refine wpAnyH_take (i := 6) (oi := { dst := some 21, op := Op.move (Operand.tmp 20), type := _, pos := _, after := _, guard := none }) (v := .bool false) rfl (by kernel_rfl) (by kernel_rfl) (by kernel_rfl) (fun _ _ _ h => h) (Or.inl ⟨by rfl, fun w hSw => by (try dsimp only at hSw); go_simp⟩) (by assumption) ?_
        simp only [Act.put, List.setIfInBounds_toArray, List.set_cons_zero, List.set_cons_succ]
        refine wpAnyH_take (i := 7) (oi := { dst := some 22, op := Op.move (Operand.tmp 6), type := _, pos := _, after := _, guard := some (6, true) }) (v := undef) rfl (by kernel_rfl) (by kernel_rfl) (by kernel_rfl) (fun _ _ _ h => h) (Or.inr ⟨by rfl, rfl⟩) (by assumption) ?_
        simp only [Act.put, List.setIfInBounds_toArray, List.set_cons_zero, List.set_cons_succ]
        refine wpAnyH_take (i := 8) (oi := { dst := some 23, op := Op.fieldAddr 47 (Operand.tmp 2) 3, type := _, pos := _, after := _, guard := some (6, true) }) (v := undef) rfl (by kernel_rfl) (by kernel_rfl) (by kernel_rfl) (fun _ _ _ h => h) (Or.inr ⟨by rfl, rfl⟩) (by assumption) ?_
        simp only [Act.put, List.setIfInBounds_toArray, List.set_cons_zero, List.set_cons_succ]
        refine wpAnyH_take (i := 9) (oi := { dst := some 24, op := Op.indexAddr 45 (Operand.tmp 23) (Operand.tmp 22), type := _, pos := _, after := _, guard := some (6, true) }) (v := undef) rfl (by kernel_rfl) (by kernel_rfl) (by kernel_rfl) (fun _ _ _ h => h) (Or.inr ⟨by rfl, rfl⟩) (by assumption) ?_
        simp only [Act.put, List.setIfInBounds_toArray, List.set_cons_zero, List.set_cons_succ]
        refine wpAnyH_take (i := 10) (oi := { dst := some 25, op := Op.load 43 (Operand.tmp 24), type := _, pos := _, after := _, guard := some (6, true) }) (v := undef) rfl (by kernel_rfl) (by kernel_rfl) (by kernel_rfl) (fun _ _ _ h => h) (Or.inr ⟨by rfl, rfl⟩) (by assumption) ?_
        simp only [Act.put, List.setIfInBounds_toArray, List.set_cons_zero, List.set_cons_succ]
        refine wpAnyH_take (i := 11) (oi := { dst := some 26, op := Op.move (Operand.tmp 6), type := _, pos := _, after := _, guard := some (6, true) }) (v := undef) rfl (by kernel_rfl) (by kernel_rfl) (by kernel_rfl) (fun _ _ _ h => h) (Or.inr ⟨by rfl, rfl⟩) (by assumption) ?_
        simp only [Act.put, List.setIfInBounds_toArray, List.set_cons_zero, List.set_cons_succ]
        refine wpAnyH_take (i := 12) (oi := { dst := some 27, op := Op.fieldAddr 47 (Operand.tmp 3) 3, type := _, pos := _, after := _, guard := some (6, true) }) (v := undef) rfl (by kernel_rfl) (by kernel_rfl) (by kernel_rfl) (fun _ _ _ h => h) (Or.inr ⟨by rfl, rfl⟩) (by assumption) ?_
        simp only [Act.put, List.setIfInBounds_toArray, List.set_cons_zero, List.set_cons_succ]
        refine wpAnyH_take (i := 13) (oi := { dst := some 28, op := Op.indexAddr 45 (Operand.tmp 27) (Operand.tmp 26), type := _, pos := _, after := _, guard := some (6, true) }) (v := undef) rfl (by kernel_rfl) (by kernel_rfl) (by kernel_rfl) (fun _ _ _ h => h) (Or.inr ⟨by rfl, rfl⟩) (by assumption) ?_
        simp only [Act.put, List.setIfInBounds_toArray, List.set_cons_zero, List.set_cons_succ]
        refine wpAnyH_take (i := 14) (oi := { dst := some 29, op := Op.load 43 (Operand.tmp 28), type := _, pos := _, after := _, guard := some (6, true) }) (v := undef) rfl (by kernel_rfl) (by kernel_rfl) (by kernel_rfl) (fun _ _ _ h => h) (Or.inr ⟨by rfl, rfl⟩) (by assumption) ?_
        simp only [Act.put, List.setIfInBounds_toArray, List.set_cons_zero, List.set_cons_succ]
        refine wpAnyH_take (i := 15) (oi := { dst := some 30, op := Op.binOp BinOp.neq 43 (Operand.tmp 25) (Operand.tmp 29) 43, type := _, pos := _, after := _, guard := some (6, true) }) (v := undef) rfl (by kernel_rfl) (by kernel_rfl) (by kernel_rfl) (fun _ _ _ h => h) (Or.inr ⟨by rfl, rfl⟩) (by assumption) ?_
        simp only [Act.put, List.setIfInBounds_toArray, List.set_cons_zero, List.set_cons_succ]
        refine wpAnyH_take (i := 16) (oi := { dst := some 31, op := Op.pick (Operand.tmp 21) (Operand.tmp 30) (Operand.const (Value.bool false)), type := _, pos := _, after := _, guard := none }) (v := .bool false) rfl (by kernel_rfl) (by kernel_rfl) (by kernel_rfl) (fun _ _ _ h => h) (Or.inl ⟨by rfl, fun w hSw => by (try dsimp only at hSw); go_simp⟩) (by assumption) ?_
        simp only [Act.put, List.setIfInBounds_toArray, List.set_cons_zero, List.set_cons_succ]
        refine wpAnyH_done (by kernel_rfl) ?_ _
        go_wp2_with fail
        go_roundw
        case rel => exact ⟨i + 1, _, by omega, by go_num, hHeld, by rw [HTK2.out]; exact owns_later HR.out (drew_below _)⟩
        case measure => simp [intOf]; omega
      · have hz1 : (x.bas != 0) = true := by simpa using hb0
        have HTT : Hid (tkn x = true) := by unfold Hid; rw [HTKN.out, decide_eq_false hb0]; rfl
        clear hb0
        by_cases hxy : x = y
        · have HEQ : Hid (Rs.eqE x y = true) := Rs.eqE_iff.2 hxy
          have HTK2 : Hid (btL t n (i + 1) = l) := by unfold Hid; rw [HTK.out, enE_iff.2 hxy]; simp
          clear hxy
          refine wp_region_held_drew (S := fun Z => PB w Z B N K D t n vl (.slice none 0 0)) (by kernel_rfl) hT0 (fun hHeld => ?_)
          refine wpAnyH_take (i := 0) (oi := { dst := some 15, op := Op.move (Operand.tmp 6), type := _, pos := _, after := _, guard := none }) (v := .int .i64 (i : Int)) rfl (by kernel_rfl) (by kernel_rfl) (by kernel_rfl) (fun _ _ _ h => h) (Or.inl ⟨by rfl, fun w hSw => by (try dsimp only at hSw); go_simp⟩) (by assumption) ?_
          simp only [Act.put, List.setIfInBounds_toArray, List.set_cons_zero, List.set_cons_succ]
          refine wpAnyH_take (i := 1) (oi := { dst := some 16, op := Op.fieldAddr 47 (Operand.tmp 2) 3, type := _, pos := _, after := _, guard := none }) (v := .pointer (some ⟨B, 44, none⟩)) rfl (by kernel_rfl) (by kernel_rfl) (by kernel_rfl) (fun _ _ _ h => h) (Or.inl ⟨by rfl, fun w hSw => by (try dsimp only at hSw); go_simp⟩) (by assumption) ?_
          simp only [Act.put, List.setIfInBounds_toArray, List.set_cons_zero, List.set_cons_succ]
          refine wpAnyH_take (i := 2) (oi := { dst := some 17, op := Op.indexAddr 45 (Operand.tmp 16) (Operand.tmp 15), type := _, pos := _, after := _, guard := none }) (v := .pointer (some ⟨B, 44 + i * 3, none⟩)) rfl (by kernel_rfl) (by kernel_rfl) (by kernel_rfl) (fun _ _ _ h => h) (Or.inl ⟨by rfl, fun w hSw => by (try dsimp only at hSw); go_simp⟩) (by assumption) ?_
          simp only [Act.put, List.setIfInBounds_toArray, List.set_cons_zero, List.set_cons_succ]
          refine wpAnyH_take (i := 3) (oi := { dst := some 18, op := Op.fieldAddr 43 (Operand.tmp 17) 1, type := _, pos := _, after := _, guard := none }) (v := .pointer (some ⟨B, 44 + i * 3 + 1, none⟩)) rfl (by kernel_rfl) (by kernel_rfl) (by kernel_rfl) (fun _ _ _ h => h) (Or.inl ⟨by rfl, fun w hSw => by (try dsimp only at hSw); go_simp⟩) (by assumption) ?_
          simp only [Act.put, List.setIfInBounds_toArray, List.set_cons_zero, List.set_cons_succ]
          refine wpAnyH_take (i := 4) (oi := { dst := some 19, op := Op.load 3 (Operand.tmp 18), type := _, pos := _, after := _, guard := none }) (v := .int .i64 x.bas) rfl (by kernel_rfl) (by kernel_rfl) (by kernel_rfl) (fun _ _ _ h => h) (Or.inl ⟨by rfl, fun w hSw => by obtain ⟨z0, z1, z2⟩ := (hSw.ta).ent i hi64; rw [HXE.out] at z0 z1 z2; clear hSw; go_simp⟩) (by assumption) ?_
          simp only [Act.put, List.setIfInBounds_toArray, List.set_cons_zero, List.set_cons_succ]
          refine wpAnyH_take (i := 5) (oi := { dst := some 20, op := Op.binOp BinOp.neq 3 (Operand.tmp 19) (Operand.const (Value.int IntKind.i64 0)) 3, type := _, pos := _, after := _, guard := none }) (v := .bool true) rfl (by kernel_rfl) (by kernel_rfl) (by kernel_rfl) (fun _ _ _ h => h) (Or.inl ⟨by rfl, fun w hSw => by (try dsimp only at hSw); go_simp⟩) (by assumption) ?_
          simp only [Act.put, List.setIfInBounds_toArray, List.set_cons_zero, List.set_cons_succ]
          refine wpAnyH_take (i := 6) (oi := { dst := some 21, op := Op.move (Operand.tmp 20), type := _, pos := _, after := _, guard := none }) (v := .bool true) rfl (by kernel_rfl) (by kernel_rfl) (by kernel_rfl) (fun _ _ _ h => h) (Or.inl ⟨by rfl, fun w hSw => by (try dsimp only at hSw); go_simp⟩) (by assumption) ?_
          simp only [Act.put, List.setIfInBounds_toArray, List.set_cons_zero, List.set_cons_succ]
          refine wpAnyH_take (i := 7) (oi := { dst := some 22, op := Op.move (Operand.tmp 6), type := _, pos := _, after := _, guard := some (6, true) }) (v := .int .i64 (i : Int)) rfl (by kernel_rfl) (by kernel_rfl) (by kernel_rfl) (fun _ _ _ h => h) (Or.inl ⟨by rfl, fun w hSw => by (try dsimp only at hSw); go_simp⟩) (by assumption) ?_
          simp only [Act.put, List.setIfInBounds_toArray, List.set_cons_zero, List.set_cons_succ]
          refine wpAnyH_take (i := 8) (oi := { dst := some 23, op := Op.fieldAddr 47 (Operand.tmp 2) 3, type := _, pos := _, after := _, guard := some (6, true) }) (v := .pointer (some ⟨B, 44, none⟩)) rfl (by kernel_rfl) (by kernel_rfl) (by kernel_rfl) (fun _ _ _ h => h) (Or.inl ⟨by rfl, fun w hSw => by (try dsimp only at hSw); go_simp⟩) (by assumption) ?_
          simp only [Act.put, List.setIfInBounds_toArray, List.set_cons_zero, List.set_cons_succ]
          refine wpAnyH_take (i := 9) (oi := { dst := some 24, op := Op.indexAddr 45 (Operand.tmp 23) (Operand.tmp 22), type := _, pos := _, after := _, guard := some (6, true) }) (v := .pointer (some ⟨B, 44 + i * 3, none⟩)) rfl (by kernel_rfl) (by kernel_rfl) (by kernel_rfl) (fun _ _ _ h => h) (Or.inl ⟨by rfl, fun w hSw => by (try dsimp only at hSw); go_simp⟩) (by assumption) ?_
          simp only [Act.put, List.setIfInBounds_toArray, List.set_cons_zero, List.set_cons_succ]
          refine wpAnyH_take (i := 10) (oi := { dst := some 25, op := Op.load 43 (Operand.tmp 24), type := _, pos := _, after := _, guard := some (6, true) }) (v := .agg #[.int .i64 x.who, .int .i64 x.bas, .int .i64 x.snc]) rfl (by kernel_rfl) (by kernel_rfl) (by kernel_rfl) (fun _ _ _ h => h) (Or.inl ⟨by rfl, fun w hSw => by obtain ⟨z0, z1, z2⟩ := (hSw.ta).ent i hi64; rw [HXE.out] at z0 z1 z2; clear hSw; go_simp⟩) (by assumption) ?_
          simp only [Act.put, List.setIfInBounds_toArray, List.set_cons_zero, List.set_cons_succ]
          refine wpAnyH_take (i := 11) (oi := { dst := some 26, op := Op.move (Operand.tmp 6), type := _, pos := _, after := _, guard := some (6, true) }) (v := .int .i64 (i : Int)) rfl (by kernel_rfl) (by kernel_rfl) (by kernel_rfl) (fun _ _ _ h => h) (Or.inl ⟨by rfl, fun w hSw => by (try dsimp only at hSw); go_simp⟩) (by assumption) ?_
          simp only [Act.put, List.setIfInBounds_toArray, List.set_cons_zero, List.set_cons_succ]
          refine wpAnyH_take (i := 12) (oi := { dst := some 27, op := Op.fieldAddr 47 (Operand.tmp 3) 3, type := _, pos := _, after := _, guard := some (6, true) }) (v := .pointer (some ⟨N, 44, none⟩)) rfl (by kernel_rfl) (by kernel_rfl) (by kernel_rfl) (fun _ _ _ h => h) (Or.inl ⟨by rfl, fun w hSw => by (try dsimp only at hSw); go_simp⟩) (by assumption) ?_
          simp only [Act.put, List.setIfInBounds_toArray, List.set_cons_zero, List.set_cons_succ]
          refine wpAnyH_take (i := 13) (oi := { dst := some 28, op := Op.indexAddr 45 (Operand.tmp 27) (Operand.tmp 26), type := _, pos := _, after := _, guard := some (6, true) }) (v := .pointer (some ⟨N, 44 + i * 3, none⟩)) rfl (by kernel_rfl) (by kernel_rfl) (by kernel_rfl) (fun _ _ _ h => h) (Or.inl ⟨by rfl, fun w hSw => by (try dsimp only at hSw); go_simp⟩) (by assumption) ?_
          simp only [Act.put, List.setIfInBounds_toArray, List.set_cons_zero, List.set_cons_succ]
          refine wpAnyH_take (i := 14) (oi := { dst := some 29, op := Op.load 43 (Operand.tmp 28), type := _, pos := _, after := _, guard := some (6, true) }) (v := .agg #[.int .i64 y.who, .int .i64 y.bas, .int .i64 y.snc]) rfl (by kernel_rfl) (by kernel_rfl) (by kernel_rfl) (fun _ _ _ h => h) (Or.inl ⟨by rfl, fun w hSw => by obtain ⟨z0, z1, z2⟩ := (hSw.tb).ent i hi64; rw [HYE.out] at z0 z1 z2; clear hSw; go_simp⟩) (by assumption) ?_
          simp only [Act.put, List.setIfInBounds_toArray, List.set_cons_zero, List.set_cons_succ]
          refine wpAnyH_take (i := 15) (oi := { dst := some 30, op := Op.binOp BinOp.neq 43 (Operand.tmp 25) (Operand.tmp 29) 43, type := _, pos := _, after := _, guard := some (6, true) }) (v := .bool false) rfl (by kernel_rfl) (by kernel_rfl) (by kernel_rfl) (fun _ _ _ h => h) (Or.inl ⟨by rfl, fun w hSw => neEn_exec HEQ.out rfl rfl rfl⟩) (by assumption) ?_
          simp only [Act.put, List.setIfInBounds_toArray, List.set_cons_zero, List.set_cons_succ]
          refine wpAnyH_take (i := 16) (oi := { dst := some 31, op := Op.pick (Operand.tmp 21) (Operand.tmp 30) (Operand.const (Value.bool false)), type := _, pos := _, after := _, guard := none }) (v := .bool false) rfl (by kernel_rfl) (by kernel_rfl) (by kernel_rfl) (fun _ _ _ h => h) (Or.inl ⟨by rfl, fun w hSw => by (try dsimp only at hSw); go_simp⟩) (by assumption) ?_
          simp only [Act.put, List.setIfInBounds_toArray, List.set_cons_zero, List.set_cons_succ]
          refine wpAnyH_done (by kernel_rfl) ?_ _
          go_wp2_with fail
          go_roundw
          case rel => exact ⟨i + 1, _, by omega, by go_num, hHeld, by rw [HTK2.out]; exact owns_later HR.out (drew_below _)⟩
          case measure => simp [intOf]; omega
        · have HEQ : Hid (Rs.eqE x y = false) := eqE_no hxy
          have HTK2 : Hid (btL t n (i + 1) = l ++ [x.who]) := by unfold Hid; rw [HTK.out, enE_no hxy, HTT.out]; rfl
          clear hxy
          refine wp_region_held_drew (S := fun Z => PB w Z B N K D t n vl (.slice none 0 0)) (by kernel_rfl) hT0 (fun hHeld => ?_)
          refine wpAnyH_take (i := 0) (oi := { dst := some 15, op := Op.move (Operand.tmp 6), type := _, pos := _, after := _, guard := none }) (v := .int .i64 (i : Int)) rfl (by kernel_rfl) (by kernel_rfl) (by kernel_rfl) (fun _ _ _ h => h) (Or.inl ⟨by rfl, fun w hSw => by (try dsimp only at hSw); go_simp⟩) (by assumption) ?_
          simp only [Act.put, List.setIfInBounds_toArray, List.set_cons_zero, List.set_cons_succ]
          refine wpAnyH_take (i := 1) (oi := { dst := some 16, op := Op.fieldAddr 47 (Operand.tmp 2) 3, type := _, pos := _, after := _, guard := none }) (v := .pointer (some ⟨B, 44, none⟩)) rfl (by kernel_rfl) (by kernel_rfl) (by kernel_rfl) (fun _ _ _ h => h) (Or.inl ⟨by rfl, fun w hSw => by (try dsimp only at hSw); go_simp⟩) (by assumption) ?_
          simp only [Act.put, List.setIfInBounds_toArray, List.set_cons_zero, List.set_cons_succ]
          refine wpAnyH_take (i := 2) (oi := { dst := some 17, op := Op.indexAddr 45 (Operand.tmp 16) (Operand.tmp 15), type := _, pos := _, after := _, guard := none }) (v := .pointer (some ⟨B, 44 + i * 3, none⟩)) rfl (by kernel_rfl) (by kernel_rfl) (by kernel_rfl) (fun _ _ _ h => h) (Or.inl ⟨by rfl, fun w hSw => by (try dsimp only at hSw); go_simp⟩) (by assumption) ?_
          simp only [Act.put, List.setIfInBounds_toArray, List.set_cons_zero, List.set_cons_succ]
          refine wpAnyH_take (i := 3) (oi := { dst := some 18, op := Op.fieldAddr 43 (Operand.tmp 17) 1, type := _, pos := _, after := _, guard := none }) (v := .pointer (some ⟨B, 44 + i * 3 + 1, none⟩)) rfl (by kernel_rfl) (by kernel_rfl) (by kernel_rfl) (fun _ _ _ h => h) (Or.inl ⟨by rfl, fun w hSw => by (try dsimp only at hSw); go_simp⟩) (by assumption) ?_
          simp only [Act.put, List.setIfInBounds_toArray, List.set_cons_zero, List.set_cons_succ]
          refine wpAnyH_take (i := 4) (oi := { dst := some 19, op := Op.load 3 (Operand.tmp 18), type := _, pos := _, after := _, guard := none }) (v := .int .i64 x.bas) rfl (by kernel_rfl) (by kernel_rfl) (by kernel_rfl) (fun _ _ _ h => h) (Or.inl ⟨by rfl, fun w hSw => by obtain ⟨z0, z1, z2⟩ := (hSw.ta).ent i hi64; rw [HXE.out] at z0 z1 z2; clear hSw; go_simp⟩) (by assumption) ?_
          simp only [Act.put, List.setIfInBounds_toArray, List.set_cons_zero, List.set_cons_succ]
          refine wpAnyH_take (i := 5) (oi := { dst := some 20, op := Op.binOp BinOp.neq 3 (Operand.tmp 19) (Operand.const (Value.int IntKind.i64 0)) 3, type := _, pos := _, after := _, guard := none }) (v := .bool true) rfl (by kernel_rfl) (by kernel_rfl) (by kernel_rfl) (fun _ _ _ h => h) (Or.inl ⟨by rfl, fun w hSw => by (try dsimp only at hSw); go_simp⟩) (by assumption) ?_
          simp only [Act.put, List.setIfInBounds_toArray, List.set_cons_zero, List.set_cons_succ]
          refine wpAnyH_take (i := 6) (oi := { dst := some 21, op := Op.move (Operand.tmp 20), type := _, pos := _, after := _, guard := none }) (v := .bool true) rfl (by kernel_rfl) (by kernel_rfl) (by kernel_rfl) (fun _ _ _ h => h) (Or.inl ⟨by rfl, fun w hSw => by (try dsimp only at hSw); go_simp⟩) (by assumption) ?_
          simp only [Act.put, List.setIfInBounds_toArray, List.set_cons_zero, List.set_cons_succ]
          refine wpAnyH_take (i := 7) (oi := { dst := some 22, op := Op.move (Operand.tmp 6), type := _, pos := _, after := _, guard := some (6, true) }) (v := .int .i64 (i : Int)) rfl (by kernel_rfl) (by kernel_rfl) (by kernel_rfl) (fun _ _ _ h => h) (Or.inl ⟨by rfl, fun w hSw => by (try dsimp only at hSw); go_simp⟩) (by assumption) ?_
          simp only [Act.put, List.setIfInBounds_toArray, List.set_cons_zero, List.set_cons_succ]
          refine wpAnyH_take (i := 8) (oi := { dst := some 23, op := Op.fieldAddr 47 (Operand.tmp 2) 3, type := _, pos := _, after := _, guard := some (6, true) }) (v := .pointer (some ⟨B, 44, none⟩)) rfl (by kernel_rfl) (by kernel_rfl) (by kernel_rfl) (fun _ _ _ h => h) (Or.inl ⟨by rfl, fun w hSw => by (try dsimp only at hSw); go_simp⟩) (by assumption) ?_
          simp only [Act.put, List.setIfInBounds_toArray, List.set_cons_zero, List.set_cons_succ]
          refine wpAnyH_take (i := 9) (oi := { dst := some 24, op := Op.indexAddr 45 (Operand.tmp 23) (Operand.tmp 22), type := _, pos := _, after := _, guard := some (6, true) }) (v := .pointer (some ⟨B, 44 + i * 3, none⟩)) rfl (by kernel_rfl) (by kernel_rfl) (by kernel_rfl) (fun _ _ _ h => h) (Or.inl ⟨by rfl, fun w hSw => by (try dsimp only at hSw); go_simp⟩) (by assumption) ?_
          simp only [Act.put, List.setIfInBounds_toArray, List.set_cons_zero, List.set_cons_succ]
          refine wpAnyH_take (i := 10) (oi := { dst := some 25, op := Op.load 43 (Operand.tmp 24), type := _, pos := _, after := _, guard := some (6, true) }) (v := .agg #[.int .i64 x.who, .int .i64 x.bas, .int .i64 x.snc]) rfl (by kernel_rfl) (by kernel_rfl) (by kernel_rfl) (fun _ _ _ h => h) (Or.inl ⟨by rfl, fun w hSw => by obtain ⟨z0, z1, z2⟩ := (hSw.ta).ent i hi64; rw [HXE.out] at z0 z1 z2; clear hSw; go_simp⟩) (by assumption) ?_
          simp only [Act.put, List.setIfInBounds_toArray, List.set_cons_zero, List.set_cons_succ]
          refine wpAnyH_take (i := 11) (oi := { dst := some 26, op := Op.move (Operand.tmp 6), type := _, pos := _, after := _, guard := some (6, true) }) (v := .int .i64 (i : Int)) rfl (by kernel_rfl) (by kernel_rfl) (by kernel_rfl) (fun _ _ _ h => h) (Or.inl ⟨by rfl, fun w hSw => by (try dsimp only at hSw); go_simp⟩) (by assumption) ?_
          simp only [Act.put, List.setIfInBounds_toArray, List.set_cons_zero, List.set_cons_succ]
          refine wpAnyH_take (i := 12) (oi := { dst := some 27, op := Op.fieldAddr 47 (Operand.tmp 3) 3, type := _, pos := _, after := _, guard := some (6, true) }) (v := .pointer (some ⟨N, 44, none⟩)) rfl (by kernel_rfl) (by kernel_rfl) (by kernel_rfl) (fun _ _ _ h => h) (Or.inl ⟨by rfl, fun w hSw => by (try dsimp only at hSw); go_simp⟩) (by assumption) ?_
          simp only [Act.put, List.setIfInBounds_toArray, List.set_cons_zero, List.set_cons_succ]
          refine wpAnyH_take (i := 13) (oi := { dst := some 28, op := Op.indexAddr 45 (Operand.tmp 27) (Operand.tmp 26), type := _, pos := _, after := _, guard := some (6, true) }) (v := .pointer (some ⟨N, 44 + i * 3, none⟩)) rfl (by kernel_rfl) (by kernel_rfl) (by kernel_rfl) (fun _ _ _ h => h) (Or.inl ⟨by rfl, fun w hSw => by (try dsimp only at hSw); go_simp⟩) (by assumption) ?_
          simp only [Act.put, List.setIfInBounds_toArray, List.set_cons_zero, List.set_cons_succ]
          refine wpAnyH_take (i := 14) (oi := { dst := some 29, op := Op.load 43 (Operand.tmp 28), type := _, pos := _, after := _, guard := some (6, true) }) (v := .agg #[.int .i64 y.who, .int .i64 y.bas, .int .i64 y.snc]) rfl (by kernel_rfl) (by kernel_rfl) (by kernel_rfl) (fun _ _ _ h => h) (Or.inl ⟨by rfl, fun w hSw => by obtain ⟨z0, z1, z2⟩ := (hSw.tb).ent i hi64; rw [HYE.out] at z0 z1 z2; clear hSw; go_simp⟩) (by assumption) ?_
          simp only [Act.put, List.setIfInBounds_toArray, List.set_cons_zero, List.set_cons_succ]
          refine wpAnyH_take (i := 15) (oi := { dst := some 30, op := Op.binOp BinOp.neq 43 (Operand.tmp 25) (Operand.tmp 29) 43, type := _, pos := _, after := _, guard := some (6, true) }) (v := .bool true) rfl (by kernel_rfl) (by kernel_rfl) (by kernel_rfl) (fun _ _ _ h => h) (Or.inl ⟨by rfl, fun w hSw => neEn_exec HEQ.out rfl rfl rfl⟩) (by assumption) ?_
          simp only [Act.put, List.setIfInBounds_toArray, List.set_cons_zero, List.set_cons_succ]
          refine wpAnyH_take (i := 16) (oi := { dst := some 31, op := Op.pick (Operand.tmp 21) (Operand.tmp 30) (Operand.const (Value.bool false)), type := _, pos := _, after := _, guard := none }) (v := .bool true) rfl (by kernel_rfl) (by kernel_rfl) (by kernel_rfl) (fun _ _ _ h => h) (Or.inl ⟨by rfl, fun w hSw => by (try dsimp only at hSw); go_simp⟩) (by assumption) ?_
          simp only [Act.put, List.setIfInBounds_toArray, List.set_cons_zero, List.set_cons_succ]
          refine wpAnyH_done (by kernel_rfl) ?_ _
          have HX2 : Hid (PB w wr.drew B N K D t n vl (.slice none 0 0)) := hHeld
          have HR2 : Hid (wr.drew.ownsRow (D + 1) 3 1 vl l.length (i64s l)) := owns_later HR.out (drew_below _)
          clear hHeld hT0 HX HR
          generalize wr.drew = wz at *
          obtain ⟨aa, ca, rfl⟩ := owns_slice HR2.out
          go_upto_region 6 with (fail)
          have hT0 : PB w wz.drew B N K D t n (.slice aa l.length ca) (.slice none 0 0) := HX2.out.later (drew_below _)
          have HRQ : Hid (wz.drew.ownsRow (D + 1) 3 1 (.slice aa l.length ca) l.length (i64s l)) := owns_later HR2.out (drew_below _)
          have HDL : Hid (D + 1 ≤ wz.drew.heap.size) := HX2.out.lt
          clear HX2 HR2
          have hHeld : wz.drew.cell? ⟨D, 0, none⟩ = some (.slice aa l.length ca) ∧ wz.drew.cell? ⟨B, 44 + i * 3, none⟩ = some (.int .i64 x.who) := by
            refine ⟨hT0.cells.1, ?_⟩
            have := (hT0.ta.ent i hi64).1
            rw [HXE.out] at this
            exact this
          have HT0 : Hid (PB w wz.drew B N K D t n (.slice aa l.length ca) (.slice none 0 0)) := hT0
          refine Till.region [7, 8] (fun W => W.cell? ⟨D, 0, none⟩ = some (.slice aa l.length ca) ∧ W.cell? ⟨B, 44 + i * 3, none⟩ = some (.int .i64 x.who)) (by kernel_rfl) ?_
          clear hT0
          refine Till.takeFree (i := 0) (oi := { dst := some 32, op := Op.fieldAddr 66 (Operand.tmp 5) 0, type := _, pos := _, after := _, guard := none }) (x := .pointer (some ⟨D, 0, none⟩)) rfl (by decide) (by kernel_rfl) (by kernel_rfl) (by kernel_rfl) (fun _ _ _ h => h) (Or.inl ⟨by rfl, fun w _ => by go_simp⟩) hHeld ?_
          simp only [Act.put, List.setIfInBounds_toArray, List.set_cons_zero, List.set_cons_succ]
          refine Till.take (i := 1) 8 (oi := { dst := some 33, op := Op.load 24 (Operand.tmp 32), type := _, pos := _, after := _, guard := none }) (x := (.slice aa l.length ca)) rfl (by decide) (by kernel_rfl) (by decide) (by kernel_rfl) (by kernel_rfl) (by kernel_rfl) (by kernel_rfl) (fun _ _ _ h => h) (Or.inl ⟨by rfl, fun w hSw => by (try dsimp only at hSw); obtain ⟨z0, z1⟩ := hSw; go_simp⟩) hHeld ?_
          simp only [Act.put, List.setIfInBounds_toArray, List.set_cons_zero, List.set_cons_succ]
          refine Till.takeFree (i := 2) (oi := { dst := some 34, op := Op.move (Operand.tmp 6), type := _, pos := _, after := _, guard := none }) (x := .int .i64 (i : Int)) rfl (by decide) (by kernel_rfl) (by kernel_rfl) (by kernel_rfl) (fun _ _ _ h => h) (Or.inl ⟨by rfl, fun w _ => by go_simp⟩) hHeld ?_
          simp only [Act.put, List.setIfInBounds_toArray, List.set_cons_zero, List.set_cons_succ]
          refine Till.takeFree (i := 3) (oi := { dst := some 35, op := Op.fieldAddr 47 (Operand.tmp 2) 3, type := _, pos := _, after := _, guard := none }) (x := .pointer (some ⟨B, 44, none⟩)) rfl (by decide) (by kernel_rfl) (by kernel_rfl) (by kernel_rfl) (fun _ _ _ h => h) (Or.inl ⟨by rfl, fun w _ => by go_simp⟩) hHeld ?_
          simp only [Act.put, List.setIfInBounds_toArray, List.set_cons_zero, List.set_cons_succ]
          refine Till.takeFree (i := 4) (oi := { dst := some 36, op := Op.indexAddr 45 (Operand.tmp 35) (Operand.tmp 34), type := _, pos := _, after := _, guard := none }) (x := .pointer (some ⟨B, 44 + i * 3, none⟩)) rfl (by decide) (by kernel_rfl) (by kernel_rfl) (by kernel_rfl) (fun _ _ _ h => h) (Or.inl ⟨by rfl, fun w _ => by go_simp⟩) hHeld ?_
          simp only [Act.put, List.setIfInBounds_toArray, List.set_cons_zero, List.set_cons_succ]
          refine Till.takeFree (i := 5) (oi := { dst := some 37, op := Op.fieldAddr 43 (Operand.tmp 36) 0, type := _, pos := _, after := _, guard := none }) (x := .pointer (some ⟨B, 44 + i * 3, none⟩)) rfl (by decide) (by kernel_rfl) (by kernel_rfl) (by kernel_rfl) (fun _ _ _ h => h) (Or.inl ⟨by rfl, fun w _ => by go_simp⟩) hHeld ?_
          simp only [Act.put, List.setIfInBounds_toArray, List.set_cons_zero, List.set_cons_succ]
          refine Till.take (i := 6) 7 (oi := { dst := some 38, op := Op.load 3 (Operand.tmp 37), type := _, pos := _, after := _, guard := none }) (x := .int .i64 x.who) rfl (by decide) (by kernel_rfl) (by decide) (by kernel_rfl) (by kernel_rfl) (by kernel_rfl) (by kernel_rfl) (fun _ _ _ h => h) (Or.inl ⟨by rfl, fun w hSw => by (try dsimp only at hSw); obtain ⟨z0, z1⟩ := hSw; go_simp⟩) hHeld ?_
          simp only [Act.put, List.setIfInBounds_toArray, List.set_cons_zero, List.set_cons_succ]
          refine Till.one (i := 7) (o := { dst := some 39, op := Op.buildSlice 24 1 #[(0, Operand.tmp 38)], type := _, pos := _, after := _, guard := none }) rfl (by kernel_rfl) (fun K9 hK => ?_)
          go_simp
          refine hK.out _ _ (fun _ => ⟨cell_alloc_lt hHeld.1 _, cell_alloc_lt hHeld.2 _⟩) ?_
          clear hK K9
          try simp only [Act.put, List.setIfInBounds_toArray, List.set_cons_zero, List.set_cons_succ]
          refine Till.one (i := 8) (o := { dst := some 40, op := Op.call { callee := Callee.builtin Builtin.append, args := #[Operand.tmp 33, Operand.tmp 39], argTypes := _ }, type := _, pos := _, after := _, guard := none }) rfl (by kernel_rfl) (fun K9 hK => ?_)
          refine appN rfl 40 rfl _ _ rfl (D + 1) (.slice aa l.length ca) l rfl (HRQ.out.alloc _) wz.drew.heap.size x.who rfl (cell_one_new _ _ _) HLN.out (by show _ ≤ (World.alloc _ _).heap.size; rw [World.size_alloc]; exact Nat.le_succ_of_le HDL.out) ?_
          intro v' w7 hown7 hg7
          obtain ⟨av, cv, rfl⟩ := owns_slice hown7
          rw [show Value.slice av (l ++ [x.who]).length cv = Value.slice av (l.length + 1) cv by simp] at hown7 ⊢
          have hP7 := (HT0.out.later (below_alloc _ _)).app (HRQ.out.alloc _) (by omega) hg7
          obtain ⟨c70, c71⟩ := hP7.cells
          have f7 := row_frozen hP7.bt 0
          have HP9 : Hid (PB w (w7.setCell ⟨D, 0, none⟩ (.slice av (l.length + 1) cv)) B N K D t n (.slice av (l.length + 1) cv) (.slice none 0 0)) := hP7.set0 (.slice av (l.length + 1) cv)
          have HR9 : Hid ((w7.setCell ⟨D, 0, none⟩ (.slice av (l.length + 1) cv)).ownsRow (D + 1) 3 1 (.slice av (l.length + 1) cv) (l ++ [x.who]).length (i64s (l ++ [x.who]))) := own_other hown7 fun g hg => other_setCell (by have := (own_ge hown7 hg).1; omega) _ _
          clear hg7 hown7 hP7
          refine hK.out _ _ (fun h => absurd h (by rintro ⟨c, hc, he⟩; revert hc he; decide +revert)) ?_
          clear hK K9
          try simp only [Act.put, List.setIfInBounds_toArray, List.set_cons_zero, List.set_cons_succ]
          refine Till.rest (by kernel_rfl) ?_
          refine wpAny_take (i := 9) (oi := { dst := some 41, op := Op.fieldAddr 66 (Operand.tmp 5) 0, type := _, pos := _, after := _, guard := none }) (v := .pointer (some ⟨D, 0, none⟩)) rfl (by kernel_rfl) (by kernel_rfl) (by kernel_rfl) (fun _ _ _ h => h) (Or.inl ⟨by rfl, fun w => by go_simp⟩) ?_
          simp only [Act.put, List.setIfInBounds_toArray, List.set_cons_zero, List.set_cons_succ]
          refine wpAny_ready (rs := [10]) (by kernel_rfl) (by simp) ?_
          refine AllReady.cons (o := { dst := none, op := Op.store 24 (Operand.tmp 41) (Operand.tmp 40), type := _, pos := _, after := _, guard := none }) rfl (fun K9 hK => ?_) AllReady.nil
          have HK9 : Shut _ := hK
          clear hK
          go_simp
          refine HK9.out _ _ ?_
          clear HK9 K9
          try simp only [Act.put, List.setIfInBounds_toArray, List.set_cons_zero, List.set_cons_succ]
          refine wpAny_done (by kernel_rfl) ?_ _
          go_wp2_with fail
          go_roundw
          case rel => exact ⟨i + 1, _, by omega, by go_num, HP9.out, by rw [HTK2.out]; exact HR9.out⟩
          case measure => simp [intOf]; omega
    · obtain rfl : i = 64 := by omega
      rw [show ((64 : Nat) : Int) = 64 from rfl]
      obtain ⟨w6, hw6⟩ : ∃ w6, wr = w6 := ⟨_, rfl⟩
      rw [hw6] at HX HR ⊢
      clear hw6
      have HLV4 : Hid ((btL t n 64).length ≤ 64) := btL_len t n 64
      obtain ⟨LV, hLV⟩ : ∃ LV, btL t n 64 = LV := ⟨_, rfl⟩
      have HLV : Hid (btL t n 64 = LV) := hLV
      rw [hLV] at HR HLV4
      clear hLV
      obtain ⟨aLV, cLV, rfl⟩ := owns_slice HR.out
      have HAP : Hid (∀ m, (Value.slice aLV LV.length cLV).ownBlock = some m → m < w6.heap.size) := fun m hm => (own_ge HR.out hm).2
      have HDJ : Hid (D < w6.heap.size) := HX.out.lt
      obtain ⟨bJ, hbJ⟩ : ∃ bJ, w6.heap.size = bJ := ⟨_, rfl⟩
      have HBJ : Hid (bJ ≤ w6.heap.size) := by unfold Hid; omega
      rw [hbJ] at HAP HDJ
      clear hbJ
      have HRJ : Hid (w6.ownsRow bJ 3 1 (.slice none 0 0) (J.take 0).length (i64s (J.take 0))) := World.ownsRow_nil _ _ _ _
      go_wp2_with fail
      go_loopw [7] (fun la wx => ∃ (k : Nat) (vj : Value), k ≤ J.length ∧ la = .int .i64 (lst t L k) ∧ PB w wx B N K D t n (.slice aLV LV.length cLV) vj ∧ wx.ownsRow bJ 3 1 vj (J.take k).length (i64s (J.take k)) ∧ wx.ownsRow (D + 1) 3 1 (.slice aLV LV.length cLV) LV.length (i64s LV) ∧ bJ ≤ wx.heap.size) (fun la _ => (plF t L + (J.length : Int) - intOf la).toNat)
      case atStart => exact ⟨0, _, by omega, rfl, HX.out, HRJ.out, HR.out, HBJ.out⟩
      case round =>
        obtain ⟨k, vj, hk, rfl, hpb, hrj, hrl, hbj⟩ := hrel
        have HX1 : Hid (PB w wr B N K D t n (.slice aLV LV.length cLV) vj) := hpb
        have HJ1 : Hid (wr.ownsRow bJ 3 1 vj (J.take k).length (i64s (J.take k))) := hrj
        have HL1 : Hid (wr.ownsRow (D + 1) 3 1 (.slice aLV LV.length cLV) LV.length (i64s LV)) := hrl
        have HB1 : Hid (bJ ≤ wr.heap.size) := hbj
        clear hpb hrj hrl hbj HX HRJ HR HBJ
        obtain ⟨wq, hwq⟩ : ∃ w6, wr = w6 := ⟨_, rfl⟩
        rw [hwq] at HX1 HJ1 HL1 HB1 ⊢
        clear hwq
        have HLK : Hid (lst t L k = if k = 0 then 0 else plF t L + ((k - 1 : Nat) : Int)) := rfl
        obtain ⟨la, hla⟩ : ∃ la, lst t L k = la := ⟨_, rfl⟩
        have HLA : Hid (lst t L k = la) := hla
        rw [hla]
        clear hla
        have HB0 : Hid (Bst t n la 0 (-1)) := Bst.zero t n la
        go_wp2_with fail
        go_loopw [8, 9] (fun b i wx => ∃ (i' : Nat) (b' : Int), i' ≤ 64 ∧ i = .int .i64 (i' : Int) ∧ b = .int .i64 b' ∧ Bst t n la i' b' ∧ Below wq.heap.size wq wx) (fun _ i _ => 64 - (intOf i).toNat)
        case atStart => exact ⟨0, -1, by omega, rfl, rfl, HB0.out, Below.refl _ _⟩
        case round =>
          obtain ⟨i, bb, hi, rfl, rfl, hbst, hbx⟩ := hrel
          have HBS : Hid (Bst t n la i bb) := hbst
          have HBX : Hid (Below wq.heap.size wq wr) := hbx
          clear hbst hbx HB0
          by_cases hi64 : i < 64
          · have i1 : (0 : Int) ≤ (i : Int) := by omega
            have i2 : (i : Int) < 64 := by omega
            have HCD : Hid (Cnd t n la i ↔ la < (n.ro i).bas ∧ n.ro i ≠ t.ro i) := Iff.rfl
            obtain ⟨x, hx⟩ : ∃ x, t.ro i = x := ⟨_, rfl⟩
            obtain ⟨y, hy⟩ : ∃ y, n.ro i = y := ⟨_, rfl⟩
            have HXE : Hid (t.ro i = x) := hx
            have HYE : Hid (n.ro i = y) := hy
            rw [hx, hy] at HCD
            clear hx hy
            obtain ⟨z0, z1, z2⟩ := (HX1.out.later HBX.out).tb.ent i hi64
            rw [HYE.out] at z0 z1 z2
            have hCE := heap_alloc_last wr (.cells #[.int .i64 y.who, .int .i64 y.bas, .int .i64 y.snc] 43)
            have hb5 : Below wq.heap.size wq (wr.alloc (.cells #[.int .i64 y.who, .int .i64 y.bas, .int .i64 y.snc] 43)) := HBX.out.trans ((below_alloc _ _).mono HBX.out.size)
            go_upto_region 13 with (fail)
            clear z0 z1 z2
            generalize wr.alloc (.cells #[.int .i64 y.who, .int .i64 y.bas, .int .i64 y.snc] 43) = w5 at *
            generalize wr.heap.size = C at *
            have HCE : Hid (w5.heap[C]? = some (.cells #[.int .i64 y.who, .int .i64 y.bas, .int .i64 y.snc] 43 (0, 0))) := hCE
            have HB5 : Hid (Below wq.heap.size wq w5) := hb5
            have HXC : Hid (PB w w5 B N K D t n (.slice aLV LV.length cLV) vj) := HX1.out.later hb5
            clear hCE hb5 HBX
            have hT0 : Below w5.heap.size w5 w5.drew := drew_below _
            have HB6 : Hid (Below wq.heap.size wq w5.drew) := HB5.out.trans (hT0.mono HB5.out.size)
            by_cases hgt : la < y.bas
            · have hd1 : decide (la < y.bas) = true := decide_eq_true hgt
              by_cases hxy : y = x
              · have HEQ : Hid (Rs.eqE y x = true) := Rs.eqE_iff.2 hxy
                have HNC : Hid (Bst t n la (i + 1) bb) := HBS.out.skip (fun h => (HCD.out.1 h).2 hxy)
                clear hxy hgt
                refine wp_region_held_drew (S := fun Z => Below w5.heap.size w5 Z) (by kernel_rfl) hT0 (fun hHeld => ?_)
                refine wpAnyH_take (i := 0) (oi := { dst := some 50, op := Op.fieldAddr 43 (Operand.tmp 10) 1, type := _, pos := _, after := _, guard := none }) (v := .pointer (some ⟨C, 1, none⟩)) rfl (by kernel_rfl) (by kernel_rfl) (by kernel_rfl) (fun _ _ _ h => h) (Or.inl ⟨by rfl, fun w hSw => by (try dsimp only at hSw); go_simp⟩) (by assumption) ?_
                simp only [Act.put, List.setIfInBounds_toArray, List.set_cons_zero, List.set_cons_succ]
                refine wpAnyH_take (i := 1) (oi := { dst := some 51, op := Op.load 3 (Operand.tmp 50), type := _, pos := _, after := _, guard := none }) (v := .int .i64 y.bas) rfl (by kernel_rfl) (by kernel_rfl) (by kernel_rfl) (fun _ _ _ h => h) (Or.inl ⟨by rfl, fun w hSw => by have z1 : w.cell? ⟨C, 1, none⟩ = some (.int .i64 y.bas) := cell_of_row w C 1 _ _ _ (row_later HCE.out hSw); clear hSw; go_simp⟩) (by assumption) ?_
                simp only [Act.put, List.setIfInBounds_toArray, List.set_cons_zero, List.set_cons_succ]
                refine wpAnyH_take (i := 2) (oi := { dst := some 52, op := Op.move (Operand.tmp 7), type := _, pos := _, after := _, guard := none }) (v := .int .i64 la) rfl (by kernel_rfl) (by kernel_rfl) (by kernel_rfl) (fun _ _ _ h => h) (Or.inl ⟨by rfl, fun w hSw => by (try dsimp only at hSw); go_simp⟩) (by assumption) ?_
                simp only [Act.put, List.setIfInBounds_toArray, List.set_cons_zero, List.set_cons_succ]
                refine wpAnyH_take (i := 3) (oi := { dst := some 53, op := Op.binOp BinOp.gtr 3 (Operand.tmp 51) (Operand.tmp 52) 3, type := _, pos := _, after := _, guard := none }) (v := .bool true) rfl (by kernel_rfl) (by kernel_rfl) (by kernel_rfl) (fun _ _ _ h => h) (Or.inl ⟨by rfl, fun w hSw => by (try dsimp only at hSw); go_simp⟩) (by assumption) ?_
                simp only [Act.put, List.setIfInBounds_toArray, List.set_cons_zero, List.set_cons_succ]
                refine wpAnyH_take (i := 4) (oi := { dst := some 54, op := Op.move (Operand.tmp 53), type := _, pos := _, after := _, guard := none }) (v := .bool true) rfl (by kernel_rfl) (by kernel_rfl) (by kernel_rfl) (fun _ _ _ h => h) (Or.inl ⟨by rfl, fun w hSw => by (try dsimp only at hSw); go_simp⟩) (by assumption) ?_
                simp only [Act.put, List.setIfInBounds_toArray, List.set_cons_zero, List.set_cons_succ]
                refine wpAnyH_take (i := 5) (oi := { dst := some 55, op := Op.load 43 (Operand.tmp 10), type := _, pos := _, after := _, guard := some (4, true) }) (v := .agg #[.int .i64 y.who, .int .i64 y.bas, .int .i64 y.snc]) rfl (by kernel_rfl) (by kernel_rfl) (by kernel_rfl) (fun _ _ _ h => h) (Or.inl ⟨by rfl, fun w hSw => by have z0 : w.cell? ⟨C, 0, none⟩ = some (.int .i64 y.who) := cell_of_row w C 0 _ _ _ (row_later HCE.out hSw); have z1 : w.cell? ⟨C, 1, none⟩ = some (.int .i64 y.bas) := cell_of_row w C 1 _ _ _ (row_later HCE.out hSw); have z2 : w.cell? ⟨C, 2, none⟩ = some (.int .i64 y.snc) := cell_of_row w C 2 _ _ _ (row_later HCE.out hSw); clear hSw; go_simp⟩) (by assumption) ?_
                simp only [Act.put, List.setIfInBounds_toArray, List.set_cons_zero, List.set_cons_succ]
                refine wpAnyH_take (i := 6) (oi := { dst := some 56, op := Op.move (Operand.tmp 9), type := _, pos := _, after := _, guard := some (4, true) }) (v := .int .i64 (i : Int)) rfl (by kernel_rfl) (by kernel_rfl) (by kernel_rfl) (fun _ _ _ h => h) (Or.inl ⟨by rfl, fun w hSw => by (try dsimp only at hSw); go_simp⟩) (by assumption) ?_
                simp only [Act.put, List.setIfInBounds_toArray, List.set_cons_zero, List.set_cons_succ]
                refine wpAnyH_take (i := 7) (oi := { dst := some 57, op := Op.fieldAddr 47 (Operand.tmp 2) 3, type := _, pos := _, after := _, guard := some (4, true) }) (v := .pointer (some ⟨B, 44, none⟩)) rfl (by kernel_rfl) (by kernel_rfl) (by kernel_rfl) (fun _ _ _ h => h) (Or.inl ⟨by rfl, fun w hSw => by (try dsimp only at hSw); go_simp⟩) (by assumption) ?_
                simp only [Act.put, List.setIfInBounds_toArray, List.set_cons_zero, List.set_cons_succ]
                refine wpAnyH_take (i := 8) (oi := { dst := some 58, op := Op.indexAddr 45 (Operand.tmp 57) (Operand.tmp 56), type := _, pos := _, after := _, guard := some (4, true) }) (v := .pointer (some ⟨B, 44 + i * 3, none⟩)) rfl (by kernel_rfl) (by kernel_rfl) (by kernel_rfl) (fun _ _ _ h => h) (Or.inl ⟨by rfl, fun w hSw => by (try dsimp only at hSw); go_simp⟩) (by assumption) ?_
                simp only [Act.put, List.setIfInBounds_toArray, List.set_cons_zero, List.set_cons_succ]
                refine wpAnyH_take (i := 9) (oi := { dst := some 59, op := Op.load 43 (Operand.tmp 58), type := _, pos := _, after := _, guard := some (4, true) }) (v := .agg #[.int .i64 x.who, .int .i64 x.bas, .int .i64 x.snc]) rfl (by kernel_rfl) (by kernel_rfl) (by kernel_rfl) (fun _ _ _ h => h) (Or.inl ⟨by rfl, fun w hSw => by obtain ⟨z0, z1, z2⟩ := (HXC.out.later hSw).ta.ent i hi64; rw [HXE.out] at z0 z1 z2; clear hSw; go_simp⟩) (by assumption) ?_
                simp only [Act.put, List.setIfInBounds_toArray, List.set_cons_zero, List.set_cons_succ]
                refine wpAnyH_take (i := 10) (oi := { dst := some 60, op := Op.binOp BinOp.neq 43 (Operand.tmp 55) (Operand.tmp 59) 43, type := _, pos := _, after := _, guard := some (4, true) }) (v := .bool false) rfl (by kernel_rfl) (by kernel_rfl) (by kernel_rfl) (fun _ _ _ h => h) (Or.inl ⟨by rfl, fun w hSw => neEn_exec HEQ.out rfl rfl rfl⟩) (by assumption) ?_
                simp only [Act.put, List.setIfInBounds_toArray, List.set_cons_zero, List.set_cons_succ]
                refine wpAnyH_take (i := 11) (oi := { dst := some 61, op := Op.pick (Operand.tmp 54) (Operand.tmp 60) (Operand.const (Value.bool false)), type := _, pos := _, after := _, guard := none }) (v := .bool false) rfl (by kernel_rfl) (by kernel_rfl) (by kernel_rfl) (fun _ _ _ h => h) (Or.inl ⟨by rfl, fun w hSw => by (try dsimp only at hSw); go_simp⟩) (by assumption) ?_
                simp only [Act.put, List.setIfInBounds_toArray, List.set_cons_zero, List.set_cons_succ]
                refine wpAnyH_take (i := 12) (oi := { dst := some 62, op := Op.move (Operand.tmp 61), type := _, pos := _, after := _, guard := none }) (v := .bool false) rfl (by kernel_rfl) (by kernel_rfl) (by kernel_rfl) (fun _ _ _ h => h) (Or.inl ⟨by rfl, fun w hSw => by (try dsimp only at hSw); go_simp⟩) (by assumption) ?_
                simp only [Act.put, List.setIfInBounds_toArray, List.set_cons_zero, List.set_cons_succ]
                refine wpAnyH_take (i := 13) (oi := { dst := some 63, op := Op.move (Operand.tmp 8), type := _, pos := _, after := _, guard := some (12, true) }) (v := undef) rfl (by kernel_rfl) (by kernel_rfl) (by kernel_rfl) (fun _ _ _ h => h) (Or.inr ⟨by rfl, rfl⟩) (by assumption) ?_
                simp only [Act.put, List.setIfInBounds_toArray, List.set_cons_zero, List.set_cons_succ]
                refine wpAnyH_take (i := 14) (oi := { dst := some 64, op := Op.binOp BinOp.lss 3 (Operand.tmp 63) (Operand.const (Value.int IntKind.i64 0)) 3, type := _, pos := _, after := _, guard := some (12, true) }) (v := undef) rfl (by kernel_rfl) (by kernel_rfl) (by kernel_rfl) (fun _ _ _ h => h) (Or.inr ⟨by rfl, rfl⟩) (by assumption) ?_
                simp only [Act.put, List.setIfInBounds_toArray, List.set_cons_zero, List.set_cons_succ]
                refine wpAnyH_take (i := 15) (oi := { dst := some 65, op := Op.move (Operand.tmp 64), type := _, pos := _, after := _, guard := some (12, true) }) (v := undef) rfl (by kernel_rfl) (by kernel_rfl) (by kernel_rfl) (fun _ _ _ h => h) (Or.inr ⟨by rfl, rfl⟩) (by assumption) ?_
                simp only [Act.put, List.setIfInBounds_toArray, List.set_cons_zero, List.set_cons_succ]
                refine wpAnyH_take (i := 16) (oi := { dst := some 66, op := Op.fieldAddr 43 (Operand.tmp 10) 1, type := _, pos := _, after := _, guard := some (15, false) }) (v := undef) rfl (by kernel_rfl) (by kernel_rfl) (by kernel_rfl) (fun _ _ _ h => h) (Or.inr ⟨by rfl, rfl⟩) (by assumption) ?_
                simp only [Act.put, List.setIfInBounds_toArray, List.set_cons_zero, List.set_cons_succ]
                refine wpAnyH_take (i := 17) (oi := { dst := some 67, op := Op.load 3 (Operand.tmp 66), type := _, pos := _, after := _, guard := some (15, false) }) (v := undef) rfl (by kernel_rfl) (by kernel_rfl) (by kernel_rfl) (fun _ _ _ h => h) (Or.inr ⟨by rfl, rfl⟩) (by assumption) ?_
                simp only [Act.put, List.setIfInBounds_toArray, List.set_cons_zero, List.set_cons_succ]
                refine wpAnyH_take (i := 18) (oi := { dst := some 68, op := Op.move (Operand.tmp 8), type := _, pos := _, after := _, guard := some (15, false) }) (v := undef) rfl (by kernel_rfl) (by kernel_rfl) (by kernel_rfl) (fun _ _ _ h => h) (Or.inr ⟨by rfl, rfl⟩) (by assumption) ?_
                simp only [Act.put, List.setIfInBounds_toArray, List.set_cons_zero, List.set_cons_succ]
                refine wpAnyH_take (i := 19) (oi := { dst := some 69, op := Op.fieldAddr 47 (Operand.tmp 3) 3, type := _, pos := _, after := _, guard := some (15, false) }) (v := undef) rfl (by kernel_rfl) (by kernel_rfl) (by kernel_rfl) (fun _ _ _ h => h) (Or.inr ⟨by rfl, rfl⟩) (by assumption) ?_
                simp only [Act.put, List.setIfInBounds_toArray, List.set_cons_zero, List.set_cons_succ]
                refine wpAnyH_take (i := 20) (oi := { dst := some 70, op := Op.indexAddr 45 (Operand.tmp 69) (Operand.tmp 68), type := _, pos := _, after := _, guard := some (15, false) }) (v := undef) rfl (by kernel_rfl) (by kernel_rfl) (by kernel_rfl) (fun _ _ _ h => h) (Or.inr ⟨by rfl, rfl⟩) (by assumption) ?_
                simp only [Act.put, List.setIfInBounds_toArray, List.set_cons_zero, List.set_cons_succ]
                refine wpAnyH_take (i := 21) (oi := { dst := some 71, op := Op.fieldAddr 43 (Operand.tmp 70) 1, type := _, pos := _, after := _, guard := some (15, false) }) (v := undef) rfl (by kernel_rfl) (by kernel_rfl) (by kernel_rfl) (fun _ _ _ h => h) (Or.inr ⟨by rfl, rfl⟩) (by assumption) ?_
                simp only [Act.put, List.setIfInBounds_toArray, List.set_cons_zero, List.set_cons_succ]
                refine wpAnyH_take (i := 22) (oi := { dst := some 72, op := Op.load 3 (Operand.tmp 71), type := _, pos := _, after := _, guard := some (15, false) }) (v := undef) rfl (by kernel_rfl) (by kernel_rfl) (by kernel_rfl) (fun _ _ _ h => h) (Or.inr ⟨by rfl, rfl⟩) (by assumption) ?_
                simp only [Act.put, List.setIfInBounds_toArray, List.set_cons_zero, List.set_cons_succ]
                refine wpAnyH_take (i := 23) (oi := { dst := some 73, op := Op.binOp BinOp.lss 3 (Operand.tmp 67) (Operand.tmp 72) 3, type := _, pos := _, after := _, guard := some (15, false) }) (v := undef) rfl (by kernel_rfl) (by kernel_rfl) (by kernel_rfl) (fun _ _ _ h => h) (Or.inr ⟨by rfl, rfl⟩) (by assumption) ?_
                simp only [Act.put, List.setIfInBounds_toArray, List.set_cons_zero, List.set_cons_succ]
                refine wpAnyH_take (i := 24) (oi := { dst := some 74, op := Op.pick (Operand.tmp 65) (Operand.const (Value.bool true)) (Operand.tmp 73), type := _, pos := _, after := _, guard := some (12, true) }) (v := undef) rfl (by kernel_rfl) (by kernel_rfl) (by kernel_rfl) (fun _ _ _ h => h) (Or.inr ⟨by rfl, rfl⟩) (by assumption) ?_
                simp only [Act.put, List.setIfInBounds_toArray, List.set_cons_zero, List.set_cons_succ]
                refine wpAnyH_take (i := 25) (oi := { dst := some 75, op := Op.pick (Operand.tmp 62) (Operand.tmp 74) (Operand.const (Value.bool false)), type := _, pos := _, after := _, guard := none }) (v := .bool false) rfl (by kernel_rfl) (by kernel_rfl) (by kernel_rfl) (fun _ _ _ h => h) (Or.inl ⟨by rfl, fun w hSw => by (try dsimp only at hSw); go_simp⟩) (by assumption) ?_
                simp only [Act.put, List.setIfInBounds_toArray, List.set_cons_zero, List.set_cons_succ]
                refine wpAnyH_done (by kernel_rfl) ?_ _
                go_wp2_with fail
                go_roundw
                case rel => exact ⟨i + 1, bb, by omega, by go_num, rfl, HNC.out, HB6.out⟩
                case measure => simp [intOf]; omega
              · have HEQ : Hid (Rs.eqE y x = false) := eqE_no hxy
                have HYC : Hid (Cnd t n la i) := HCD.out.2 ⟨hgt, hxy⟩
                clear hxy hgt
                by_cases hbb : bb = -1
                · subst hbb
                  have HNC : Hid (Bst t n la (i + 1) (i : Int)) := HBS.out.take0 HYC.out
                  refine wp_region_held_drew (S := fun Z => Below w5.heap.size w5 Z) (by kernel_rfl) hT0 (fun hHeld => ?_)
                  refine wpAnyH_take (i := 0) (oi := { dst := some 50, op := Op.fieldAddr 43 (Operand.tmp 10) 1, type := _, pos := _, after := _, guard := none }) (v := .pointer (some ⟨C, 1, none⟩)) rfl (by kernel_rfl) (by kernel_rfl) (by kernel_rfl) (fun _ _ _ h => h) (Or.inl ⟨by rfl, fun w hSw => by (try dsimp only at hSw); go_simp⟩) (by assumption) ?_
                  simp only [Act.put, List.setIfInBounds_toArray, List.set_cons_zero, List.set_cons_succ]
                  refine wpAnyH_take (i := 1) (oi := { dst := some 51, op := Op.load 3 (Operand.tmp 50), type := _, pos := _, after := _, guard := none }) (v := .int .i64 y.bas) rfl (by kernel_rfl) (by kernel_rfl) (by kernel_rfl) (fun _ _ _ h => h) (Or.inl ⟨by rfl, fun w hSw => by have z1 : w.cell? ⟨C, 1, none⟩ = some (.int .i64 y.bas) := cell_of_row w C 1 _ _ _ (row_later HCE.out hSw); clear hSw; go_simp⟩) (by assumption) ?_
                  simp only [Act.put, List.setIfInBounds_toArray, List.set_cons_zero, List.set_cons_succ]
                  refine wpAnyH_take (i := 2) (oi := { dst := some 52, op := Op.move (Operand.tmp 7), type := _, pos := _, after := _, guard := none }) (v := .int .i64 la) rfl (by kernel_rfl) (by kernel_rfl) (by kernel_rfl) (fun _ _ _ h => h) (Or.inl ⟨by rfl, fun w hSw => by (try dsimp only at hSw); go_simp⟩) (by assumption) ?_
                  simp only [Act.put, List.setIfInBounds_toArray, List.set_cons_zero, List.set_cons_succ]
                  refine wpAnyH_take (i := 3) (oi := { dst := some 53, op := Op.binOp BinOp.gtr 3 (Operand.tmp 51) (Operand.tmp 52) 3, type := _, pos := _, after := _, guard := none }) (v := .bool true) rfl (by kernel_rfl) (by kernel_rfl) (by kernel_rfl) (fun _ _ _ h => h) (Or.inl ⟨by rfl, fun w hSw => by (try dsimp only at hSw); go_simp⟩) (by assumption) ?_
                  simp only [Act.put, List.setIfInBounds_toArray, List.set_cons_zero, List.set_cons_succ]
                  refine wpAnyH_take (i := 4) (oi := { dst := some 54, op := Op.move (Operand.tmp 53), type := _, pos := _, after := _, guard := none }) (v := .bool true) rfl (by kernel_rfl) (by kernel_rfl) (by kernel_rfl) (fun _ _ _ h => h) (Or.inl ⟨by rfl, fun w hSw => by (try dsimp only at hSw); go_simp⟩) (by assumption) ?_
                  simp only [Act.put, List.setIfInBounds_toArray, List.set_cons_zero, List.set_cons_succ]
                  refine wpAnyH_take (i := 5) (oi := { dst := some 55, op := Op.load 43 (Operand.tmp 10), type := _, pos := _, after := _, guard := some (4, true) }) (v := .agg #[.int .i64 y.who, .int .i64 y.bas, .int .i64 y.snc]) rfl (by kernel_rfl) (by kernel_rfl) (by kernel_rfl) (fun _ _ _ h => h) (Or.inl ⟨by rfl, fun w hSw => by have z0 : w.cell? ⟨C, 0, none⟩ = some (.int .i64 y.who) := cell_of_row w C 0 _ _ _ (row_later HCE.out hSw); have z1 : w.cell? ⟨C, 1, none⟩ = some (.int .i64 y.bas) := cell_of_row w C 1 _ _ _ (row_later HCE.out hSw); have z2 : w.cell? ⟨C, 2, none⟩ = some (.int .i64 y.snc) := cell_of_row w C 2 _ _ _ (row_later HCE.out hSw); clear hSw; go_simp⟩) (by assumption) ?_
                  simp only [Act.put, List.setIfInBounds_toArray, List.set_cons_zero, List.set_cons_succ]
                  refine wpAnyH_take (i := 6) (oi := { dst := some 56, op := Op.move (Operand.tmp 9), type := _, pos := _, after := _, guard := some (4, true) }) (v := .int .i64 (i : Int)) rfl (by kernel_rfl) (by kernel_rfl) (by kernel_rfl) (fun _ _ _ h => h) (Or.inl ⟨by rfl, fun w hSw => by (try dsimp only at hSw); go_simp⟩) (by assumption) ?_
                  simp only [Act.put, List.setIfInBounds_toArray, List.set_cons_zero, List.set_cons_succ]
                  refine wpAnyH_take (i := 7) (oi := { dst := some 57, op := Op.fieldAddr 47 (Operand.tmp 2) 3, type := _, pos := _, after := _, guard := some (4, true) }) (v := .pointer (some ⟨B, 44, none⟩)) rfl (by kernel_rfl) (by kernel_rfl) (by kernel_rfl) (fun _ _ _ h => h) (Or.inl ⟨by rfl, fun w hSw => by (try dsimp only at hSw); go_simp⟩) (by assumption) ?_
                  simp only [Act.put, List.setIfInBounds_toArray, List.set_cons_zero, List.set_cons_succ]
                  refine wpAnyH_take (i := 8) (oi := { dst := some 58, op := Op.indexAddr 45 (Operand.tmp 57) (Operand.tmp 56), type := _, pos := _, after := _, guard := some (4, true) }) (v := .pointer (some ⟨B, 44 + i * 3, none⟩)) rfl (by kernel_rfl) (by kernel_rfl) (by kernel_rfl) (fun _ _ _ h => h) (Or.inl ⟨by rfl, fun w hSw => by (try dsimp only at hSw); go_simp⟩) (by assumption) ?_
                  simp only [Act.put, List.setIfInBounds_toArray, List.set_cons_zero, List.set_cons_succ]
                  refine wpAnyH_take (i := 9) (oi := { dst := some 59, op := Op.load 43 (Operand.tmp 58), type := _, pos := _, after := _, guard := some (4, true) }) (v := .agg #[.int .i64 x.who, .int .i64 x.bas, .int .i64 x.snc]) rfl (by kernel_rfl) (by kernel_rfl) (by kernel_rfl) (fun _ _ _ h => h) (Or.inl ⟨by rfl, fun w hSw => by obtain ⟨z0, z1, z2⟩ := (HXC.out.later hSw).ta.ent i hi64; rw [HXE.out] at z0 z1 z2; clear hSw; go_simp⟩) (by assumption) ?_
                  simp only [Act.put, List.setIfInBounds_toArray, List.set_cons_zero, List.set_cons_succ]
                  refine wpAnyH_take (i := 10) (oi := { dst := some 60, op := Op.binOp BinOp.neq 43 (Operand.tmp 55) (Operand.tmp 59) 43, type := _, pos := _, after := _, guard := some (4, true) }) (v := .bool true) rfl (by kernel_rfl) (by kernel_rfl) (by kernel_rfl) (fun _ _ _ h => h) (Or.inl ⟨by rfl, fun w hSw => neEn_exec HEQ.out rfl rfl rfl⟩) (by assumption) ?_
                  simp only [Act.put, List.setIfInBounds_toArray, List.set_cons_zero, List.set_cons_succ]
                  refine wpAnyH_take (i := 11) (oi := { dst := some 61, op := Op.pick (Operand.tmp 54) (Operand.tmp 60) (Operand.const (Value.bool false)), type := _, pos := _, after := _, guard := none }) (v := .bool true) rfl (by kernel_rfl) (by kernel_rfl) (by kernel_rfl) (fun _ _ _ h => h) (Or.inl ⟨by rfl, fun w hSw => by (try dsimp only at hSw); go_simp⟩) (by assumption) ?_
                  simp only [Act.put, List.setIfInBounds_toArray, List.set_cons_zero, List.set_cons_succ]
                  refine wpAnyH_take (i := 12) (oi := { dst := some 62, op := Op.move (Operand.tmp 61), type := _, pos := _, after := _, guard := none }) (v := .bool true) rfl (by kernel_rfl) (by kernel_rfl) (by kernel_rfl) (fun _ _ _ h => h) (Or.inl ⟨by rfl, fun w hSw => by (try dsimp only at hSw); go_simp⟩) (by assumption) ?_
                  simp only [Act.put, List.setIfInBounds_toArray, List.set_cons_zero, List.set_cons_succ]
                  refine wpAnyH_take (i := 13) (oi := { dst := some 63, op := Op.move (Operand.tmp 8), type := _, pos := _, after := _, guard := some (12, true) }) (v := .int .i64 (-1)) rfl (by kernel_rfl) (by kernel_rfl) (by kernel_rfl) (fun _ _ _ h => h) (Or.inl ⟨by rfl, fun w hSw => by (try dsimp only at hSw); go_simp⟩) (by assumption) ?_
                  simp only [Act.put, List.setIfInBounds_toArray, List.set_cons_zero, List.set_cons_succ]
                  refine wpAnyH_take (i := 14) (oi := { dst := some 64, op := Op.binOp BinOp.lss 3 (Operand.tmp 63) (Operand.const (Value.int IntKind.i64 0)) 3, type := _, pos := _, after := _, guard := some (12, true) }) (v := .bool true) rfl (by kernel_rfl) (by kernel_rfl) (by kernel_rfl) (fun _ _ _ h => h) (Or.inl ⟨by rfl, fun w hSw => by (try dsimp only at hSw); go_simp⟩) (by assumption) ?_
                  simp only [Act.put, List.setIfInBounds_toArray, List.set_cons_zero, List.set_cons_succ]
                  refine wpAnyH_take (i := 15) (oi := { dst := some 65, op := Op.move (Operand.tmp 64), type := _, pos := _, after := _, guard := some (12, true) }) (v := .bool true) rfl (by kernel_rfl) (by kernel_rfl) (by kernel_rfl) (fun _ _ _ h => h) (Or.inl ⟨by rfl, fun w hSw => by (try dsimp only at hSw); go_simp⟩) (by assumption) ?_
                  simp only [Act.put, List.setIfInBounds_toArray, List.set_cons_zero, List.set_cons_succ]
                  refine wpAnyH_take (i := 16) (oi := { dst := some 66, op := Op.fieldAddr 43 (Operand.tmp 10) 1, type := _, pos := _, after := _, guard := some (15, false) }) (v := undef) rfl (by kernel_rfl) (by kernel_rfl) (by kernel_rfl) (fun _ _ _ h => h) (Or.inr ⟨by rfl, rfl⟩) (by assumption) ?_
                  simp only [Act.put, List.setIfInBounds_toArray, List.set_cons_zero, List.set_cons_succ]
                  refine wpAnyH_take (i := 17) (oi := { dst := some 67, op := Op.load 3 (Operand.tmp 66), type := _, pos := _, after := _, guard := some (15, false) }) (v := undef) rfl (by kernel_rfl) (by kernel_rfl) (by kernel_rfl) (fun _ _ _ h => h) (Or.inr ⟨by rfl, rfl⟩) (by assumption) ?_
                  simp only [Act.put, List.setIfInBounds_toArray, List.set_cons_zero, List.set_cons_succ]
                  refine wpAnyH_take (i := 18) (oi := { dst := some 68, op := Op.move (Operand.tmp 8), type := _, pos := _, after := _, guard := some (15, false) }) (v := undef) rfl (by kernel_rfl) (by kernel_rfl) (by kernel_rfl) (fun _ _ _ h => h) (Or.inr ⟨by rfl, rfl⟩) (by assumption) ?_
                  simp only [Act.put, List.setIfInBounds_toArray, List.set_cons_zero, List.set_cons_succ]
                  refine wpAnyH_take (i := 19) (oi := { dst := some 69, op := Op.fieldAddr 47 (Operand.tmp 3) 3, type := _, pos := _, after := _, guard := some (15, false) }) (v := undef) rfl (by kernel_rfl) (by kernel_rfl) (by kernel_rfl) (fun _ _ _ h => h) (Or.inr ⟨by rfl, rfl⟩) (by assumption) ?_
                  simp only [Act.put, List.setIfInBounds_toArray, List.set_cons_zero, List.set_cons_succ]
                  refine wpAnyH_take (i := 20) (oi := { dst := some 70, op := Op.indexAddr 45 (Operand.tmp 69) (Operand.tmp 68), type := _, pos := _, after := _, guard := some (15, false) }) (v := undef) rfl (by kernel_rfl) (by kernel_rfl) (by kernel_rfl) (fun _ _ _ h => h) (Or.inr ⟨by rfl, rfl⟩) (by assumption) ?_
                  simp only [Act.put, List.setIfInBounds_toArray, List.set_cons_zero, List.set_cons_succ]
                  refine wpAnyH_take (i := 21) (oi := { dst := some 71, op := Op.fieldAddr 43 (Operand.tmp 70) 1, type := _, pos := _, after := _, guard := some (15, false) }) (v := undef) rfl (by kernel_rfl) (by kernel_rfl) (by kernel_rfl) (fun _ _ _ h => h) (Or.inr ⟨by rfl, rfl⟩) (by assumption) ?_
                  simp only [Act.put, List.setIfInBounds_toArray, List.set_cons_zero, List.set_cons_succ]
                  refine wpAnyH_take (i := 22) (oi := { dst := some 72, op := Op.load 3 (Operand.tmp 71), type := _, pos := _, after := _, guard := some (15, false) }) (v := undef) rfl (by kernel_rfl) (by kernel_rfl) (by kernel_rfl) (fun _ _ _ h => h) (Or.inr ⟨by rfl, rfl⟩) (by assumption) ?_
                  simp only [Act.put, List.setIfInBounds_toArray, List.set_cons_zero, List.set_cons_succ]
                  refine wpAnyH_take (i := 23) (oi := { dst := some 73, op := Op.binOp BinOp.lss 3 (Operand.tmp 67) (Operand.tmp 72) 3, type := _, pos := _, after := _, guard := some (15, false) }) (v := undef) rfl (by kernel_rfl) (by kernel_rfl) (by kernel_rfl) (fun _ _ _ h => h) (Or.inr ⟨by rfl, rfl⟩) (by assumption) ?_
                  simp only [Act.put, List.setIfInBounds_toArray, List.set_cons_zero, List.set_cons_succ]
                  refine wpAnyH_take (i := 24) (oi := { dst := some 74, op := Op.pick (Operand.tmp 65) (Operand.const (Value.bool true)) (Operand.tmp 73), type := _, pos := _, after := _, guard := some (12, true) }) (v := .bool true) rfl (by kernel_rfl) (by kernel_rfl) (by kernel_rfl) (fun _ _ _ h => h) (Or.inl ⟨by rfl, fun w hSw => by (try dsimp only at hSw); go_simp⟩) (by assumption) ?_
                  simp only [Act.put, List.setIfInBounds_toArray, List.set_cons_zero, List.set_cons_succ]
                  refine wpAnyH_take (i := 25) (oi := { dst := some 75, op := Op.pick (Operand.tmp 62) (Operand.tmp 74) (Operand.const (Value.bool false)), type := _, pos := _, after := _, guard := none }) (v := .bool true) rfl (by kernel_rfl) (by kernel_rfl) (by kernel_rfl) (fun _ _ _ h => h) (Or.inl ⟨by rfl, fun w hSw => by (try dsimp only at hSw); go_simp⟩) (by assumption) ?_
                  simp only [Act.put, List.setIfInBounds_toArray, List.set_cons_zero, List.set_cons_succ]
                  refine wpAnyH_done (by kernel_rfl) ?_ _
                  go_wp2_with fail
                  go_roundw
                  case rel => exact ⟨i + 1, (i : Int), by omega, by go_num, rfl, HNC.out, HB6.out⟩
                  case measure => simp [intOf]; omega
                · obtain ⟨j, rfl, hji, _, _⟩ := HBS.out.yes hbb
                  have hj64 : j < 64 := by omega
                  have j1 : (0 : Int) ≤ (j : Int) := by omega
                  have j2 : (j : Int) < 64 := by omega
                  have hdj : decide ((j : Int) < 0) = false := decide_eq_false (by omega)
                  obtain ⟨qb, hqb⟩ : ∃ q, (n.ro j).bas = q := ⟨_, rfl⟩
                  have HQB : Hid ((n.ro j).bas = qb) := hqb
                  clear hqb hbb hji
                  by_cases hlt : y.bas < qb
                  · have hd2 : decide (y.bas < qb) = true := decide_eq_true hlt
                    have HNC : Hid (Bst t n la (i + 1) (i : Int)) := HBS.out.take1 HYC.out (by rw [HYE.out, HQB.out]; exact hlt)
                    clear hlt
                    refine wp_region_held_drew (S := fun Z => Below w5.heap.size w5 Z) (by kernel_rfl) hT0 (fun hHeld => ?_)
                    refine wpAnyH_take (i := 0) (oi := { dst := some 50, op := Op.fieldAddr 43 (Operand.tmp 10) 1, type := _, pos := _, after := _, guard := none }) (v := .pointer (some ⟨C, 1, none⟩)) rfl (by kernel_rfl) (by kernel_rfl) (by kernel_rfl) (fun _ _ _ h => h) (Or.inl ⟨by rfl, fun w hSw => by (try dsimp only at hSw); go_simp⟩) (by assumption) ?_
                    simp only [Act.put, List.setIfInBounds_toArray, List.set_cons_zero, List.set_cons_succ]
                    refine wpAnyH_take (i := 1) (oi := { dst := some 51, op := Op.load 3 (Operand.tmp 50), type := _, pos := _, after := _, guard := none }) (v := .int .i64 y.bas) rfl (by kernel_rfl) (by kernel_rfl) (by kernel_rfl) (fun _ _ _ h => h) (Or.inl ⟨by rfl, fun w hSw => by have z1 : w.cell? ⟨C, 1, none⟩ = some (.int .i64 y.bas) := cell_of_row w C 1 _ _ _ (row_later HCE.out hSw); clear hSw; go_simp⟩) (by assumption) ?_
                    simp only [Act.put, List.setIfInBounds_toArray, List.set_cons_zero, List.set_cons_succ]
                    refine wpAnyH_take (i := 2) (oi := { dst := some 52, op := Op.move (Operand.tmp 7), type := _, pos := _, after := _, guard := none }) (v := .int .i64 la) rfl (by kernel_rfl) (by kernel_rfl) (by kernel_rfl) (fun _ _ _ h => h) (Or.inl ⟨by rfl, fun w hSw => by (try dsimp only at hSw); go_simp⟩) (by assumption) ?_
                    simp only [Act.put, List.setIfInBounds_toArray, List.set_cons_zero, List.set_cons_succ]
                    refine wpAnyH_take (i := 3) (oi := { dst := some 53, op := Op.binOp BinOp.gtr 3 (Operand.tmp 51) (Operand.tmp 52) 3, type := _, pos := _, after := _, guard := none }) (v := .bool true) rfl (by kernel_rfl) (by kernel_rfl) (by kernel_rfl) (fun _ _ _ h => h) (Or.inl ⟨by rfl, fun w hSw => by (try dsimp only at hSw); go_simp⟩) (by assumption) ?_
                    simp only [Act.put, List.setIfInBounds_toArray, List.set_cons_zero, List.set_cons_succ]
                    refine wpAnyH_take (i := 4) (oi := { dst := some 54, op := Op.move (Operand.tmp 53), type := _, pos := _, after := _, guard := none }) (v := .bool true) rfl (by kernel_rfl) (by kernel_rfl) (by kernel_rfl) (fun _ _ _ h => h) (Or.inl ⟨by rfl, fun w hSw => by (try dsimp only at hSw); go_simp⟩) (by assumption) ?_
                    simp only [Act.put, List.setIfInBounds_toArray, List.set_cons_zero, List.set_cons_succ]
                    refine wpAnyH_take (i := 5) (oi := { dst := some 55, op := Op.load 43 (Operand.tmp 10), type := _, pos := _, after := _, guard := some (4, true) }) (v := .agg #[.int .i64 y.who, .int .i64 y.bas, .int .i64 y.snc]) rfl (by kernel_rfl) (by kernel_rfl) (by kernel_rfl) (fun _ _ _ h => h) (Or.inl ⟨by rfl, fun w hSw => by have z0 : w.cell? ⟨C, 0, none⟩ = some (.int .i64 y.who) := cell_of_row w C 0 _ _ _ (row_later HCE.out hSw); have z1 : w.cell? ⟨C, 1, none⟩ = some (.int .i64 y.bas) := cell_of_row w C 1 _ _ _ (row_later HCE.out hSw); have z2 : w.cell? ⟨C, 2, none⟩ = some (.int .i64 y.snc) := cell_of_row w C 2 _ _ _ (row_later HCE.out hSw); clear hSw; go_simp⟩) (by assumption) ?_
                    simp only [Act.put, List.setIfInBounds_toArray, List.set_cons_zero, List.set_cons_succ]
                    refine wpAnyH_take (i := 6) (oi := { dst := some 56, op := Op.move (Operand.tmp 9), type := _, pos := _, after := _, guard := some (4, true) }) (v := .int .i64 (i : Int)) rfl (by kernel_rfl) (by kernel_rfl) (by kernel_rfl) (fun _ _ _ h => h) (Or.inl ⟨by rfl, fun w hSw => by (try dsimp only at hSw); go_simp⟩) (by assumption) ?_
                    simp only [Act.put, List.setIfInBounds_toArray, List.set_cons_zero, List.set_cons_succ]
                    refine wpAnyH_take (i := 7) (oi := { dst := some 57, op := Op.fieldAddr 47 (Operand.tmp 2) 3, type := _, pos := _, after := _, guard := some (4, true) }) (v := .pointer (some ⟨B, 44, none⟩)) rfl (by kernel_rfl) (by kernel_rfl) (by kernel_rfl) (fun _ _ _ h => h) (Or.inl ⟨by rfl, fun w hSw => by (try dsimp only at hSw); go_simp⟩) (by assumption) ?_
                    simp only [Act.put, List.setIfInBounds_toArray, List.set_cons_zero, List.set_cons_succ]
                    refine wpAnyH_take (i := 8) (oi := { dst := some 58, op := Op.indexAddr 45 (Operand.tmp 57) (Operand.tmp 56), type := _, pos := _, after := _, guard := some (4, true) }) (v := .pointer (some ⟨B, 44 + i * 3, none⟩)) rfl (by kernel_rfl) (by kernel_rfl) (by kernel_rfl) (fun _ _ _ h => h) (Or.inl ⟨by rfl, fun w hSw => by (try dsimp only at hSw); go_simp⟩) (by assumption) ?_
                    simp only [Act.put, List.setIfInBounds_toArray, List.set_cons_zero, List.set_cons_succ]
                    refine wpAnyH_take (i := 9) (oi := { dst := some 59, op := Op.load 43 (Operand.tmp 58), type := _, pos := _, after := _, guard := some (4, true) }) (v := .agg #[.int .i64 x.who, .int .i64 x.bas, .int .i64 x.snc]) rfl (by kernel_rfl) (by kernel_rfl) (by kernel_rfl) (fun _ _ _ h => h) (Or.inl ⟨by rfl, fun w hSw => by obtain ⟨z0, z1, z2⟩ := (HXC.out.later hSw).ta.ent i hi64; rw [HXE.out] at z0 z1 z2; clear hSw; go_simp⟩) (by assumption) ?_
                    simp only [Act.put, List.setIfInBounds_toArray, List.set_cons_zero, List.set_cons_succ]
                    refine wpAnyH_take (i := 10) (oi := { dst := some 60, op := Op.binOp BinOp.neq 43 (Operand.tmp 55) (Operand.tmp 59) 43, type := _, pos := _, after := _, guard := some (4, true) }) (v := .bool true) rfl (by kernel_rfl) (by kernel_rfl) (by kernel_rfl) (fun _ _ _ h => h) (Or.inl ⟨by rfl, fun w hSw => neEn_exec HEQ.out rfl rfl rfl⟩) (by assumption) ?_
                    simp only [Act.put, List.setIfInBounds_toArray, List.set_cons_zero, List.set_cons_succ]
                    refine wpAnyH_take (i := 11) (oi := { dst := some 61, op := Op.pick (Operand.tmp 54) (Operand.tmp 60) (Operand.const (Value.bool false)), type := _, pos := _, after := _, guard := none }) (v := .bool true) rfl (by kernel_rfl) (by kernel_rfl) (by kernel_rfl) (fun _ _ _ h => h) (Or.inl ⟨by rfl, fun w hSw => by (try dsimp only at hSw); go_simp⟩) (by assumption) ?_
                    simp only [Act.put, List.setIfInBounds_toArray, List.set_cons_zero, List.set_cons_succ]
                    refine wpAnyH_take (i := 12) (oi := { dst := some 62, op := Op.move (Operand.tmp 61), type := _, pos := _, after := _, guard := none }) (v := .bool true) rfl (by kernel_rfl) (by kernel_rfl) (by kernel_rfl) (fun _ _ _ h => h) (Or.inl ⟨by rfl, fun w hSw => by (try dsimp only at hSw); go_simp⟩) (by assumption) ?_
                    simp only [Act.put, List.setIfInBounds_toArray, List.set_cons_zero, List.set_cons_succ]
                    refine wpAnyH_take (i := 13) (oi := { dst := some 63, op := Op.move (Operand.tmp 8), type := _, pos := _, after := _, guard := some (12, true) }) (v := .int .i64 (j : Int)) rfl (by kernel_rfl) (by kernel_rfl) (by kernel_rfl) (fun _ _ _ h => h) (Or.inl ⟨by rfl, fun w hSw => by (try dsimp only at hSw); go_simp⟩) (by assumption) ?_
                    simp only [Act.put, List.setIfInBounds_toArray, List.set_cons_zero, List.set_cons_succ]
                    refine wpAnyH_take (i := 14) (oi := { dst := some 64, op := Op.binOp BinOp.lss 3 (Operand.tmp 63) (Operand.const (Value.int IntKind.i64 0)) 3, type := _, pos := _, after := _, guard := some (12, true) }) (v := .bool false) rfl (by kernel_rfl) (by kernel_rfl) (by kernel_rfl) (fun _ _ _ h => h) (Or.inl ⟨by rfl, fun w hSw => by (try dsimp only at hSw); go_simp⟩) (by assumption) ?_
                    simp only [Act.put, List.setIfInBounds_toArray, List.set_cons_zero, List.set_cons_succ]
                    refine wpAnyH_take (i := 15) (oi := { dst := some 65, op := Op.move (Operand.tmp 64), type := _, pos := _, after := _, guard := some (12, true) }) (v := .bool false) rfl (by kernel_rfl) (by kernel_rfl) (by kernel_rfl) (fun _ _ _ h => h) (Or.inl ⟨by rfl, fun w hSw => by (try dsimp only at hSw); go_simp⟩) (by assumption) ?_
                    simp only [Act.put, List.setIfInBounds_toArray, List.set_cons_zero, List.set_cons_succ]
                    refine wpAnyH_take (i := 16) (oi := { dst := some 66, op := Op.fieldAddr 43 (Operand.tmp 10) 1, type := _, pos := _, after := _, guard := some (15, false) }) (v := .pointer (some ⟨C, 1, none⟩)) rfl (by kernel_rfl) (by kernel_rfl) (by kernel_rfl) (fun _ _ _ h => h) (Or.inl ⟨by rfl, fun w hSw => by (try dsimp only at hSw); go_simp⟩) (by assumption) ?_
                    simp only [Act.put, List.setIfInBounds_toArray, List.set_cons_zero, List.set_cons_succ]
                    refine wpAnyH_take (i := 17) (oi := { dst := some 67, op := Op.load 3 (Operand.tmp 66), type := _, pos := _, after := _, guard := some (15, false) }) (v := .int .i64 y.bas) rfl (by kernel_rfl) (by kernel_rfl) (by kernel_rfl) (fun _ _ _ h => h) (Or.inl ⟨by rfl, fun w hSw => by have z1 : w.cell? ⟨C, 1, none⟩ = some (.int .i64 y.bas) := cell_of_row w C 1 _ _ _ (row_later HCE.out hSw); clear hSw; go_simp⟩) (by assumption) ?_
                    simp only [Act.put, List.setIfInBounds_toArray, List.set_cons_zero, List.set_cons_succ]
                    refine wpAnyH_take (i := 18) (oi := { dst := some 68, op := Op.move (Operand.tmp 8), type := _, pos := _, after := _, guard := some (15, false) }) (v := .int .i64 (j : Int)) rfl (by kernel_rfl) (by kernel_rfl) (by kernel_rfl) (fun _ _ _ h => h) (Or.inl ⟨by rfl, fun w hSw => by (try dsimp only at hSw); go_simp⟩) (by assumption) ?_
                    simp only [Act.put, List.setIfInBounds_toArray, List.set_cons_zero, List.set_cons_succ]
                    refine wpAnyH_take (i := 19) (oi := { dst := some 69, op := Op.fieldAddr 47 (Operand.tmp 3) 3, type := _, pos := _, after := _, guard := some (15, false) }) (v := .pointer (some ⟨N, 44, none⟩)) rfl (by kernel_rfl) (by kernel_rfl) (by kernel_rfl) (fun _ _ _ h => h) (Or.inl ⟨by rfl, fun w hSw => by (try dsimp only at hSw); go_simp⟩) (by assumption) ?_
                    simp only [Act.put, List.setIfInBounds_toArray, List.set_cons_zero, List.set_cons_succ]
                    refine wpAnyH_take (i := 20) (oi := { dst := some 70, op := Op.indexAddr 45 (Operand.tmp 69) (Operand.tmp 68), type := _, pos := _, after := _, guard := some (15, false) }) (v := .pointer (some ⟨N, 44 + j * 3, none⟩)) rfl (by kernel_rfl) (by kernel_rfl) (by kernel_rfl) (fun _ _ _ h => h) (Or.inl ⟨by rfl, fun w hSw => by (try dsimp only at hSw); go_simp⟩) (by assumption) ?_
                    simp only [Act.put, List.setIfInBounds_toArray, List.set_cons_zero, List.set_cons_succ]
                    refine wpAnyH_take (i := 21) (oi := { dst := some 71, op := Op.fieldAddr 43 (Operand.tmp 70) 1, type := _, pos := _, after := _, guard := some (15, false) }) (v := .pointer (some ⟨N, 44 + j * 3 + 1, none⟩)) rfl (by kernel_rfl) (by kernel_rfl) (by kernel_rfl) (fun _ _ _ h => h) (Or.inl ⟨by rfl, fun w hSw => by (try dsimp only at hSw); go_simp⟩) (by assumption) ?_
                    simp only [Act.put, List.setIfInBounds_toArray, List.set_cons_zero, List.set_cons_succ]
                    refine wpAnyH_take (i := 22) (oi := { dst := some 72, op := Op.load 3 (Operand.tmp 71), type := _, pos := _, after := _, guard := some (15, false) }) (v := .int .i64 qb) rfl (by kernel_rfl) (by kernel_rfl) (by kernel_rfl) (fun _ _ _ h => h) (Or.inl ⟨by rfl, fun w hSw => by obtain ⟨z0, z1, z2⟩ := (HXC.out.later hSw).tb.ent j hj64; rw [HQB.out] at z1; clear hSw; go_simp⟩) (by assumption) ?_
                    simp only [Act.put, List.setIfInBounds_toArray, List.set_cons_zero, List.set_cons_succ]
                    refine wpAnyH_take (i := 23) (oi := { dst := some 73, op := Op.binOp BinOp.lss 3 (Operand.tmp 67) (Operand.tmp 72) 3, type := _, pos := _, after := _, guard := some (15, false) }) (v := .bool true) rfl (by kernel_rfl) (by kernel_rfl) (by kernel_rfl) (fun _ _ _ h => h) (Or.inl ⟨by rfl, fun w hSw => by (try dsimp only at hSw); go_simp⟩) (by assumption) ?_
                    simp only [Act.put, List.setIfInBounds_toArray, List.set_cons_zero, List.set_cons_succ]
                    refine wpAnyH_take (i := 24) (oi := { dst := some 74, op := Op.pick (Operand.tmp 65) (Operand.const (Value.bool true)) (Operand.tmp 73), type := _, pos := _, after := _, guard := some (12, true) }) (v := .bool true) rfl (by kernel_rfl) (by kernel_rfl) (by kernel_rfl) (fun _ _ _ h => h) (Or.inl ⟨by rfl, fun w hSw => by (try dsimp only at hSw); go_simp⟩) (by assumption) ?_
                    simp only [Act.put, List.setIfInBounds_toArray, List.set_cons_zero, List.set_cons_succ]
                    refine wpAnyH_take (i := 25) (oi := { dst := some 75, op := Op.pick (Operand.tmp 62) (Operand.tmp 74) (Operand.const (Value.bool false)), type := _, pos := _, after := _, guard := none }) (v := .bool true) rfl (by kernel_rfl) (by kernel_rfl) (by kernel_rfl) (fun _ _ _ h => h) (Or.inl ⟨by rfl, fun w hSw => by (try dsimp only at hSw); go_simp⟩) (by assumption) ?_
                    simp only [Act.put, List.setIfInBounds_toArray, List.set_cons_zero, List.set_cons_succ]
                    refine wpAnyH_done (by kernel_rfl) ?_ _
                    go_wp2_with fail
                    go_roundw
                    case rel => exact ⟨i + 1, (i : Int), by omega, by go_num, rfl, HNC.out, HB6.out⟩
                    case measure => simp [intOf]; omega
                  · have hd2 : decide (y.bas < qb) = false := decide_eq_false hlt
                    have HNC : Hid (Bst t n la (i + 1) (j : Int)) := HBS.out.keep (by rw [HYE.out, HQB.out]; exact hlt)
                    clear hlt
                    refine wp_region_held_drew (S := fun Z => Below w5.heap.size w5 Z) (by kernel_rfl) hT0 (fun hHeld => ?_)
                    refine wpAnyH_take (i := 0) (oi := { dst := some 50, op := Op.fieldAddr 43 (Operand.tmp 10) 1, type := _, pos := _, after := _, guard := none }) (v := .pointer (some ⟨C, 1, none⟩)) rfl (by kernel_rfl) (by kernel_rfl) (by kernel_rfl) (fun _ _ _ h => h) (Or.inl ⟨by rfl, fun w hSw => by (try dsimp only at hSw); go_simp⟩) (by assumption) ?_
                    simp only [Act.put, List.setIfInBounds_toArray, List.set_cons_zero, List.set_cons_succ]
                    refine wpAnyH_take (i := 1) (oi := { dst := some 51, op := Op.load 3 (Operand.tmp 50), type := _, pos := _, after := _, guard := none }) (v := .int .i64 y.bas) rfl (by kernel_rfl) (by kernel_rfl) (by kernel_rfl) (fun _ _ _ h => h) (Or.inl ⟨by rfl, fun w hSw => by have z1 : w.cell? ⟨C, 1, none⟩ = some (.int .i64 y.bas) := cell_of_row w C 1 _ _ _ (row_later HCE.out hSw); clear hSw; go_simp⟩) (by assumption) ?_
                    simp only [Act.put, List.setIfInBounds_toArray, List.set_cons_zero, List.set_cons_succ]
                    refine wpAnyH_take (i := 2) (oi := { dst := some 52, op := Op.move (Operand.tmp 7), type := _, pos := _, after := _, guard := none }) (v := .int .i64 la) rfl (by kernel_rfl) (by kernel_rfl) (by kernel_rfl) (fun _ _ _ h => h) (Or.inl ⟨by rfl, fun w hSw => by (try dsimp only at hSw); go_simp⟩) (by assumption) ?_
                    simp only [Act.put, List.setIfInBounds_toArray, List.set_cons_zero, List.set_cons_succ]
                    refine wpAnyH_take (i := 3) (oi := { dst := some 53, op := Op.binOp BinOp.gtr 3 (Operand.tmp 51) (Operand.tmp 52) 3, type := _, pos := _, after := _, guard := none }) (v := .bool true) rfl (by kernel_rfl) (by kernel_rfl) (by kernel_rfl) (fun _ _ _ h => h) (Or.inl ⟨by rfl, fun w hSw => by (try dsimp only at hSw); go_simp⟩) (by assumption) ?_
                    simp only [Act.put, List.setIfInBounds_toArray, List.set_cons_zero, List.set_cons_succ]
                    refine wpAnyH_take (i := 4) (oi := { dst := some 54, op := Op.move (Operand.tmp 53), type := _, pos := _, after := _, guard := none }) (v := .bool true) rfl (by kernel_rfl) (by kernel_rfl) (by kernel_rfl) (fun _ _ _ h => h) (Or.inl ⟨by rfl, fun w hSw => by (try dsimp only at hSw); go_simp⟩) (by assumption) ?_
                    simp only [Act.put, List.setIfInBounds_toArray, List.set_cons_zero, List.set_cons_succ]
                    refine wpAnyH_take (i := 5) (oi := { dst := some 55, op := Op.load 43 (Operand.tmp 10), type := _, pos := _, after := _, guard := some (4, true) }) (v := .agg #[.int .i64 y.who, .int .i64 y.bas, .int .i64 y.snc]) rfl (by kernel_rfl) (by kernel_rfl) (by kernel_rfl) (fun _ _ _ h => h) (Or.inl ⟨by rfl, fun w hSw => by have z0 : w.cell? ⟨C, 0, none⟩ = some (.int .i64 y.who) := cell_of_row w C 0 _ _ _ (row_later HCE.out hSw); have z1 : w.cell? ⟨C, 1, none⟩ = some (.int .i64 y.bas) := cell_of_row w C 1 _ _ _ (row_later HCE.out hSw); have z2 : w.cell? ⟨C, 2, none⟩ = some (.int .i64 y.snc) := cell_of_row w C 2 _ _ _ (row_later HCE.out hSw); clear hSw; go_simp⟩) (by assumption) ?_
                    simp only [Act.put, List.setIfInBounds_toArray, List.set_cons_zero, List.set_cons_succ]
                    refine wpAnyH_take (i := 6) (oi := { dst := some 56, op := Op.move (Operand.tmp 9), type := _, pos := _, after := _, guard := some (4, true) }) (v := .int .i64 (i : Int)) rfl (by kernel_rfl) (by kernel_rfl) (by kernel_rfl) (fun _ _ _ h => h) (Or.inl ⟨by rfl, fun w hSw => by (try dsimp only at hSw); go_simp⟩) (by assumption) ?_
                    simp only [Act.put, List.setIfInBounds_toArray, List.set_cons_zero, List.set_cons_succ]
                    refine wpAnyH_take (i := 7) (oi := { dst := some 57, op := Op.fieldAddr 47 (Operand.tmp 2) 3, type := _, pos := _, after := _, guard := some (4, true) }) (v := .pointer (some ⟨B, 44, none⟩)) rfl (by kernel_rfl) (by kernel_rfl) (by kernel_rfl) (fun _ _ _ h => h) (Or.inl ⟨by rfl, fun w hSw => by (try dsimp only at hSw); go_simp⟩) (by assumption) ?_
                    simp only [Act.put, List.setIfInBounds_toArray, List.set_cons_zero, List.set_cons_succ]
                    refine wpAnyH_take (i := 8) (oi := { dst := some 58, op := Op.indexAddr 45 (Operand.tmp 57) (Operand.tmp 56), type := _, pos := _, after := _, guard := some (4, true) }) (v := .pointer (some ⟨B, 44 + i * 3, none⟩)) rfl (by kernel_rfl) (by kernel_rfl) (by kernel_rfl) (fun _ _ _ h => h) (Or.inl ⟨by rfl, fun w hSw => by (try dsimp only at hSw); go_simp⟩) (by assumption) ?_
                    simp only [Act.put, List.setIfInBounds_toArray, List.set_cons_zero, List.set_cons_succ]
                    refine wpAnyH_take (i := 9) (oi := { dst := some 59, op := Op.load 43 (Operand.tmp 58), type := _, pos := _, after := _, guard := some (4, true) }) (v := .agg #[.int .i64 x.who, .int .i64 x.bas, .int .i64 x.snc]) rfl (by kernel_rfl) (by kernel_rfl) (by kernel_rfl) (fun _ _ _ h => h) (Or.inl ⟨by rfl, fun w hSw => by obtain ⟨z0, z1, z2⟩ := (HXC.out.later hSw).ta.ent i hi64; rw [HXE.out] at z0 z1 z2; clear hSw; go_simp⟩) (by assumption) ?_
                    simp only [Act.put, List.setIfInBounds_toArray, List.set_cons_zero, List.set_cons_succ]
                    refine wpAnyH_take (i := 10) (oi := { dst := some 60, op := Op.binOp BinOp.neq 43 (Operand.tmp 55) (Operand.tmp 59) 43, type := _, pos := _, after := _, guard := some (4, true) }) (v := .bool true) rfl (by kernel_rfl) (by kernel_rfl) (by kernel_rfl) (fun _ _ _ h => h) (Or.inl ⟨by rfl, fun w hSw => neEn_exec HEQ.out rfl rfl rfl⟩) (by assumption) ?_
                    simp only [Act.put, List.setIfInBounds_toArray, List.set_cons_zero, List.set_cons_succ]
                    refine wpAnyH_take (i := 11) (oi := { dst := some 61, op := Op.pick (Operand.tmp 54) (Operand.tmp 60) (Operand.const (Value.bool false)), type := _, pos := _, after := _, guard := none }) (v := .bool true) rfl (by kernel_rfl) (by kernel_rfl) (by kernel_rfl) (fun _ _ _ h => h) (Or.inl ⟨by rfl, fun w hSw => by (try dsimp only at hSw); go_simp⟩) (by assumption) ?_
                    simp only [Act.put, List.setIfInBounds_toArray, List.set_cons_zero, List.set_cons_succ]
                    refine wpAnyH_take (i := 12) (oi := { dst := some 62, op := Op.move (Operand.tmp 61), type := _, pos := _, after := _, guard := none }) (v := .bool true) rfl (by kernel_rfl) (by kernel_rfl) (by kernel_rfl) (fun _ _ _ h => h) (Or.inl ⟨by rfl, fun w hSw => by (try dsimp only at hSw); go_simp⟩) (by assumption) ?_
                    simp only [Act.put, List.setIfInBounds_toArray, List.set_cons_zero, List.set_cons_succ]
                    refine wpAnyH_take (i := 13) (oi := { dst := some 63, op := Op.move (Operand.tmp 8), type := _, pos := _, after := _, guard := some (12, true) }) (v := .int .i64 (j : Int)) rfl (by kernel_rfl) (by kernel_rfl) (by kernel_rfl) (fun _ _ _ h => h) (Or.inl ⟨by rfl, fun w hSw => by (try dsimp only at hSw); go_simp⟩) (by assumption) ?_
                    simp only [Act.put, List.setIfInBounds_toArray, List.set_cons_zero, List.set_cons_succ]
                    refine wpAnyH_take (i := 14) (oi := { dst := some 64, op := Op.binOp BinOp.lss 3 (Operand.tmp 63) (Operand.const (Value.int IntKind.i64 0)) 3, type := _, pos := _, after := _, guard := some (12, true) }) (v := .bool false) rfl (by kernel_rfl) (by kernel_rfl) (by kernel_rfl) (fun _ _ _ h => h) (Or.inl ⟨by rfl, fun w hSw => by (try dsimp only at hSw); go_simp⟩) (by assumption) ?_
                    simp only [Act.put, List.setIfInBounds_toArray, List.set_cons_zero, List.set_cons_succ]
                    refine wpAnyH_take (i := 15) (oi := { dst := some 65, op := Op.move (Operand.tmp 64), type := _, pos := _, after := _, guard := some (12, true) }) (v := .bool false) rfl (by kernel_rfl) (by kernel_rfl) (by kernel_rfl) (fun _ _ _ h => h) (Or.inl ⟨by rfl, fun w hSw => by (try dsimp only at hSw); go_simp⟩) (by assumption) ?_
                    simp only [Act.put, List.setIfInBounds_toArray, List.set_cons_zero, List.set_cons_succ]
                    refine wpAnyH_take (i := 16) (oi := { dst := some 66, op := Op.fieldAddr 43 (Operand.tmp 10) 1, type := _, pos := _, after := _, guard := some (15, false) }) (v := .pointer (some ⟨C, 1, none⟩)) rfl (by kernel_rfl) (by kernel_rfl) (by kernel_rfl) (fun _ _ _ h => h) (Or.inl ⟨by rfl, fun w hSw => by (try dsimp only at hSw); go_simp⟩) (by assumption) ?_
                    simp only [Act.put, List.setIfInBounds_toArray, List.set_cons_zero, List.set_cons_succ]
                    refine wpAnyH_take (i := 17) (oi := { dst := some 67, op := Op.load 3 (Operand.tmp 66), type := _, pos := _, after := _, guard := some (15, false) }) (v := .int .i64 y.bas) rfl (by kernel_rfl) (by kernel_rfl) (by kernel_rfl) (fun _ _ _ h => h) (Or.inl ⟨by rfl, fun w hSw => by have z1 : w.cell? ⟨C, 1, none⟩ = some (.int .i64 y.bas) := cell_of_row w C 1 _ _ _ (row_later HCE.out hSw); clear hSw; go_simp⟩) (by assumption) ?_
                    simp only [Act.put, List.setIfInBounds_toArray, List.set_cons_zero, List.set_cons_succ]
                    refine wpAnyH_take (i := 18) (oi := { dst := some 68, op := Op.move (Operand.tmp 8), type := _, pos := _, after := _, guard := some (15, false) }) (v := .int .i64 (j : Int)) rfl (by kernel_rfl) (by kernel_rfl) (by kernel_rfl) (fun _ _ _ h => h) (Or.inl ⟨by rfl, fun w hSw => by (try dsimp only at hSw); go_simp⟩) (by assumption) ?_
                    simp only [Act.put, List.setIfInBounds_toArray, List.set_cons_zero, List.set_cons_succ]
                    refine wpAnyH_take (i := 19) (oi := { dst := some 69, op := Op.fieldAddr 47 (Operand.tmp 3) 3, type := _, pos := _, after := _, guard := some (15, false) }) (v := .pointer (some ⟨N, 44, none⟩)) rfl (by kernel_rfl) (by kernel_rfl) (by kernel_rfl) (fun _ _ _ h => h) (Or.inl ⟨by rfl, fun w hSw => by (try dsimp only at hSw); go_simp⟩) (by assumption) ?_
                    simp only [Act.put, List.setIfInBounds_toArray, List.set_cons_zero, List.set_cons_succ]
                    refine wpAnyH_take (i := 20) (oi := { dst := some 70, op := Op.indexAddr 45 (Operand.tmp 69) (Operand.tmp 68), type := _, pos := _, after := _, guard := some (15, false) }) (v := .pointer (some ⟨N, 44 + j * 3, none⟩)) rfl (by kernel_rfl) (by kernel_rfl) (by kernel_rfl) (fun _ _ _ h => h) (Or.inl ⟨by rfl, fun w hSw => by (try dsimp only at hSw); go_simp⟩) (by assumption) ?_
                    simp only [Act.put, List.setIfInBounds_toArray, List.set_cons_zero, List.set_cons_succ]
                    refine wpAnyH_take (i := 21) (oi := { dst := some 71, op := Op.fieldAddr 43 (Operand.tmp 70) 1, type := _, pos := _, after := _, guard := some (15, false) }) (v := .pointer (some ⟨N, 44 + j * 3 + 1, none⟩)) rfl (by kernel_rfl) (by kernel_rfl) (by kernel_rfl) (fun _ _ _ h => h) (Or.inl ⟨by rfl, fun w hSw => by (try dsimp only at hSw); go_simp⟩) (by assumption) ?_
                    simp only [Act.put, List.setIfInBounds_toArray, List.set_cons_zero, List.set_cons_succ]
                    refine wpAnyH_take (i := 22) (oi := { dst := some 72, op := Op.load 3 (Operand.tmp 71), type := _, pos := _, after := _, guard := some (15, false) }) (v := .int .i64 qb) rfl (by kernel_rfl) (by kernel_rfl) (by kernel_rfl) (fun _ _ _ h => h) (Or.inl ⟨by rfl, fun w hSw => by obtain ⟨z0, z1, z2⟩ := (HXC.out.later hSw).tb.ent j hj64; rw [HQB.out] at z1; clear hSw; go_simp⟩) (by assumption) ?_
                    simp only [Act.put, List.setIfInBounds_toArray, List.set_cons_zero, List.set_cons_succ]
                    refine wpAnyH_take (i := 23) (oi := { dst := some 73, op := Op.binOp BinOp.lss 3 (Operand.tmp 67) (Operand.tmp 72) 3, type := _, pos := _, after := _, guard := some (15, false) }) (v := .bool false) rfl (by kernel_rfl) (by kernel_rfl) (by kernel_rfl) (fun _ _ _ h => h) (Or.inl ⟨by rfl, fun w hSw => by (try dsimp only at hSw); go_simp⟩) (by assumption) ?_
                    simp only [Act.put, List.setIfInBounds_toArray, List.set_cons_zero, List.set_cons_succ]
                    refine wpAnyH_take (i := 24) (oi := { dst := some 74, op := Op.pick (Operand.tmp 65) (Operand.const (Value.bool true)) (Operand.tmp 73), type := _, pos := _, after := _, guard := some (12, true) }) (v := .bool false) rfl (by kernel_rfl) (by kernel_rfl) (by kernel_rfl) (fun _ _ _ h => h) (Or.inl ⟨by rfl, fun w hSw => by (try dsimp only at hSw); go_simp⟩) (by assumption) ?_
                    simp only [Act.put, List.setIfInBounds_toArray, List.set_cons_zero, List.set_cons_succ]
                    refine wpAnyH_take (i := 25) (oi := { dst := some 75, op := Op.pick (Operand.tmp 62) (Operand.tmp 74) (Operand.const (Value.bool false)), type := _, pos := _, after := _, guard := none }) (v := .bool false) rfl (by kernel_rfl) (by kernel_rfl) (by kernel_rfl) (fun _ _ _ h => h) (Or.inl ⟨by rfl, fun w hSw => by (try dsimp only at hSw); go_simp⟩) (by assumption) ?_
                    simp only [Act.put, List.setIfInBounds_toArray, List.set_cons_zero, List.set_cons_succ]
                    refine wpAnyH_done (by kernel_rfl) ?_ _
                    go_wp2_with fail
                    go_roundw
                    case rel => exact ⟨i + 1, (j : Int), by omega, by go_num, rfl, HNC.out, HB6.out⟩
                    case measure => simp [intOf]; omega
            · have hd1 : decide (la < y.bas) = false := decide_eq_false hgt
              have HEQ : Hid (Rs.eqE y y = true) := eqE_refl y
              have HNC : Hid (Bst t n la (i + 1) bb) := HBS.out.skip (fun h => hgt (HCD.out.1 h).1)
              clear hgt
              refine wp_region_held_drew (S := fun Z => Below w5.heap.size w5 Z) (by kernel_rfl) hT0 (fun hHeld => ?_)
              refine wpAnyH_take (i := 0) (oi := { dst := some 50, op := Op.fieldAddr 43 (Operand.tmp 10) 1, type := _, pos := _, after := _, guard := none }) (v := .pointer (some ⟨C, 1, none⟩)) rfl (by kernel_rfl) (by kernel_rfl) (by kernel_rfl) (fun _ _ _ h => h) (Or.inl ⟨by rfl, fun w hSw => by (try dsimp only at hSw); go_simp⟩) (by assumption) ?_
              simp only [Act.put, List.setIfInBounds_toArray, List.set_cons_zero, List.set_cons_succ]
              refine wpAnyH_take (i := 1) (oi := { dst := some 51, op := Op.load 3 (Operand.tmp 50), type := _, pos := _, after := _, guard := none }) (v := .int .i64 y.bas) rfl (by kernel_rfl) (by kernel_rfl) (by kernel_rfl) (fun _ _ _ h => h) (Or.inl ⟨by rfl, fun w hSw => by have z1 : w.cell? ⟨C, 1, none⟩ = some (.int .i64 y.bas) := cell_of_row w C 1 _ _ _ (row_later HCE.out hSw); clear hSw; go_simp⟩) (by assumption) ?_
              simp only [Act.put, List.setIfInBounds_toArray, List.set_cons_zero, List.set_cons_succ]
              refine wpAnyH_take (i := 2) (oi := { dst := some 52, op := Op.move (Operand.tmp 7), type := _, pos := _, after := _, guard := none }) (v := .int .i64 la) rfl (by kernel_rfl) (by kernel_rfl) (by kernel_rfl) (fun _ _ _ h => h) (Or.inl ⟨by rfl, fun w hSw => by (try dsimp only at hSw); go_simp⟩) (by assumption) ?_
              simp only [Act.put, List.setIfInBounds_toArray, List.set_cons_zero, List.set_cons_succ]
              refine wpAnyH_take (i := 3) (oi := { dst := some 53, op := Op.binOp BinOp.gtr 3 (Operand.tmp 51) (Operand.tmp 52) 3, type := _, pos := _, after := _, guard := none }) (v := .bool false) rfl (by kernel_rfl) (by kernel_rfl) (by kernel_rfl) (fun _ _ _ h => h) (Or.inl ⟨by rfl, fun w hSw => by (try dsimp only at hSw); go_simp⟩) (by assumption) ?_
              simp only [Act.put, List.setIfInBounds_toArray, List.set_cons_zero, List.set_cons_succ]
              refine wpAnyH_take (i := 4) (oi := { dst := some 54, op := Op.move (Operand.tmp 53), type := _, pos := _, after := _, guard := none }) (v := .bool false) rfl (by kernel_rfl) (by kernel_rfl) (by kernel_rfl) (fun _ _ _ h => h) (Or.inl ⟨by rfl, fun w hSw => by (try dsimp only at hSw); go_simp⟩) (by assumption) ?_
              simp only [Act.put, List.setIfInBounds_toArray, List.set_cons_zero, List.set_cons_succ]
              refine wpAnyH_take (i := 5) (oi := { dst := some 55, op := Op.load 43 (Operand.tmp 10), type := _, pos := _, after := _, guard := some (4, true) }) (v := undef) rfl (by kernel_rfl) (by kernel_rfl) (by kernel_rfl) (fun _ _ _ h => h) (Or.inr ⟨by rfl, rfl⟩) (by assumption) ?_
              simp only [Act.put, List.setIfInBounds_toArray, List.set_cons_zero, List.set_cons_succ]
              refine wpAnyH_take (i := 6) (oi := { dst := some 56, op := Op.move (Operand.tmp 9), type := _, pos := _, after := _, guard := some (4, true) }) (v := undef) rfl (by kernel_rfl) (by kernel_rfl) (by kernel_rfl) (fun _ _ _ h => h) (Or.inr ⟨by rfl, rfl⟩) (by assumption) ?_
              simp only [Act.put, List.setIfInBounds_toArray, List.set_cons_zero, List.set_cons_succ]
              refine wpAnyH_take (i := 7) (oi := { dst := some 57, op := Op.fieldAddr 47 (Operand.tmp 2) 3, type := _, pos := _, after := _, guard := some (4, true) }) (v := undef) rfl (by kernel_rfl) (by kernel_rfl) (by kernel_rfl) (fun _ _ _ h => h) (Or.inr ⟨by rfl, rfl⟩) (by assumption) ?_
              simp only [Act.put, List.setIfInBounds_toArray, List.set_cons_zero, List.set_cons_succ]
              refine wpAnyH_take (i := 8) (oi := { dst := some 58, op := Op.indexAddr 45 (Operand.tmp 57) (Operand.tmp 56), type := _, pos := _, after := _, guard := some (4, true) }) (v := undef) rfl (by kernel_rfl) (by kernel_rfl) (by kernel_rfl) (fun _ _ _ h => h) (Or.inr ⟨by rfl, rfl⟩) (by assumption) ?_
              simp only [Act.put, List.setIfInBounds_toArray, List.set_cons_zero, List.set_cons_succ]
              refine wpAnyH_take (i := 9) (oi := { dst := some 59, op := Op.load 43 (Operand.tmp 58), type := _, pos := _, after := _, guard := some (4, true) }) (v := undef) rfl (by kernel_rfl) (by kernel_rfl) (by kernel_rfl) (fun _ _ _ h => h) (Or.inr ⟨by rfl, rfl⟩) (by assumption) ?_
              simp only [Act.put, List.setIfInBounds_toArray, List.set_cons_zero, List.set_cons_succ]
              refine wpAnyH_take (i := 10) (oi := { dst := some 60, op := Op.binOp BinOp.neq 43 (Operand.tmp 55) (Operand.tmp 59) 43, type := _, pos := _, after := _, guard := some (4, true) }) (v := undef) rfl (by kernel_rfl) (by kernel_rfl) (by kernel_rfl) (fun _ _ _ h => h) (Or.inr ⟨by rfl, rfl⟩) (by assumption) ?_
              simp only [Act.put, List.setIfInBounds_toArray, List.set_cons_zero, List.set_cons_succ]
              refine wpAnyH_take (i := 11) (oi := { dst := some 61, op := Op.pick (Operand.tmp 54) (Operand.tmp 60) (Operand.const (Value.bool false)), type := _, pos := _, after := _, guard := none }) (v := .bool false) rfl (by kernel_rfl) (by kernel_rfl) (by kernel_rfl) (fun _ _ _ h => h) (Or.inl ⟨by rfl, fun w hSw => by (try dsimp only at hSw); go_simp⟩) (by assumption) ?_
              simp only [Act.put, List.setIfInBounds_toArray, List.set_cons_zero, List.set_cons_succ]
              refine wpAnyH_take (i := 12) (oi := { dst := some 62, op := Op.move (Operand.tmp 61), type := _, pos := _, after := _, guard := none }) (v := .bool false) rfl (by kernel_rfl) (by kernel_rfl) (by kernel_rfl) (fun _ _ _ h => h) (Or.inl ⟨by rfl, fun w hSw => by (try dsimp only at hSw); go_simp⟩) (by assumption) ?_
              simp only [Act.put, List.setIfInBounds_toArray, List.set_cons_zero, List.set_cons_succ]
              refine wpAnyH_take (i := 13) (oi := { dst := some 63, op := Op.move (Operand.tmp 8), type := _, pos := _, after := _, guard := some (12, true) }) (v := undef) rfl (by kernel_rfl) (by kernel_rfl) (by kernel_rfl) (fun _ _ _ h => h) (Or.inr ⟨by rfl, rfl⟩) (by assumption) ?_
              simp only [Act.put, List.setIfInBounds_toArray, List.set_cons_zero, List.set_cons_succ]
              refine wpAnyH_take (i := 14) (oi := { dst := some 64, op := Op.binOp BinOp.lss 3 (Operand.tmp 63) (Operand.const (Value.int IntKind.i64 0)) 3, type := _, pos := _, after := _, guard := some (12, true) }) (v := undef) rfl (by kernel_rfl) (by kernel_rfl) (by kernel_rfl) (fun _ _ _ h => h) (Or.inr ⟨by rfl, rfl⟩) (by assumption) ?_
              simp only [Act.put, List.setIfInBounds_toArray, List.set_cons_zero, List.set_cons_succ]
              refine wpAnyH_take (i := 15) (oi := { dst := some 65, op := Op.move (Operand.tmp 64), type := _, pos := _, after := _, guard := some (12, true) }) (v := undef) rfl (by kernel_rfl) (by kernel_rfl) (by kernel_rfl) (fun _ _ _ h => h) (Or.inr ⟨by rfl, rfl⟩) (by assumption) ?_
              simp only [Act.put, List.setIfInBounds_toArray, List.set_cons_zero, List.set_cons_succ]
              refine wpAnyH_take (i := 16) (oi := { dst := some 66, op := Op.fieldAddr 43 (Operand.tmp 10) 1, type := _, pos := _, after := _, guard := some (15, false) }) (v := undef) rfl (by kernel_rfl) (by kernel_rfl) (by kernel_rfl) (fun _ _ _ h => h) (Or.inr ⟨by rfl, rfl⟩) (by assumption) ?_
              simp only [Act.put, List.setIfInBounds_toArray, List.set_cons_zero, List.set_cons_succ]
              refine wpAnyH_take (i := 17) (oi := { dst := some 67, op := Op.load 3 (Operand.tmp 66), type := _, pos := _, after := _, guard := some (15, false) }) (v := undef) rfl (by kernel_rfl) (by kernel_rfl) (by kernel_rfl) (fun _ _ _ h => h) (Or.inr ⟨by rfl, rfl⟩) (by assumption) ?_
              simp only [Act.put, List.setIfInBounds_toArray, List.set_cons_zero, List.set_cons_succ]
              refine wpAnyH_take (i := 18) (oi := { dst := some 68, op := Op.move (Operand.tmp 8), type := _, pos := _, after := _, guard := some (15, false) }) (v := undef) rfl (by kernel_rfl) (by kernel_rfl) (by kernel_rfl) (fun _ _ _ h => h) (Or.inr ⟨by rfl, rfl⟩) (by assumption) ?_
              simp only [Act.put, List.setIfInBounds_toArray, List.set_cons_zero, List.set_cons_succ]
              refine wpAnyH_take (i := 19) (oi := { dst := some 69, op := Op.fieldAddr 47 (Operand.tmp 3) 3, type := _, pos := _, after := _, guard := some (15, false) }) (v := undef) rfl (by kernel_rfl) (by kernel_rfl) (by kernel_rfl) (fun _ _ _ h => h) (Or.inr ⟨by rfl, rfl⟩) (by assumption) ?_
              simp only [Act.put, List.setIfInBounds_toArray, List.set_cons_zero, List.set_cons_succ]
              refine wpAnyH_take (i := 20) (oi := { dst := some 70, op := Op.indexAddr 45 (Operand.tmp 69) (Operand.tmp 68), type := _, pos := _, after := _, guard := some (15, false) }) (v := undef) rfl (by kernel_rfl) (by kernel_rfl) (by kernel_rfl) (fun _ _ _ h => h) (Or.inr ⟨by rfl, rfl⟩) (by assumption) ?_
              simp only [Act.put, List.setIfInBounds_toArray, List.set_cons_zero, List.set_cons_succ]
              refine wpAnyH_take (i := 21) (oi := { dst := some 71, op := Op.fieldAddr 43 (Operand.tmp 70) 1, type := _, pos := _, after := _, guard := some (15, false) }) (v := undef) rfl (by kernel_rfl) (by kernel_rfl) (by kernel_rfl) (fun _ _ _ h => h) (Or.inr ⟨by rfl, rfl⟩) (by assumption) ?_
              simp only [Act.put, List.setIfInBounds_toArray, List.set_cons_zero, List.set_cons_succ]
              refine wpAnyH_take (i := 22) (oi := { dst := some 72, op := Op.load 3 (Operand.tmp 71), type := _, pos := _, after := _, guard := some (15, false) }) (v := undef) rfl (by kernel_rfl) (by kernel_rfl) (by kernel_rfl) (fun _ _ _ h => h) (Or.inr ⟨by rfl, rfl⟩) (by assumption) ?_
              simp only [Act.put, List.setIfInBounds_toArray, List.set_cons_zero, List.set_cons_succ]
              refine wpAnyH_take (i := 23) (oi := { dst := some 73, op := Op.binOp BinOp.lss 3 (Operand.tmp 67) (Operand.tmp 72) 3, type := _, pos := _, after := _, guard := some (15, false) }) (v := undef) rfl (by kernel_rfl) (by kernel_rfl) (by kernel_rfl) (fun _ _ _ h => h) (Or.inr ⟨by rfl, rfl⟩) (by assumption) ?_
              simp only [Act.put, List.setIfInBounds_toArray, List.set_cons_zero, List.set_cons_succ]
              refine wpAnyH_take (i := 24) (oi := { dst := some 74, op := Op.pick (Operand.tmp 65) (Operand.const (Value.bool true)) (Operand.tmp 73), type := _, pos := _, after := _, guard := some (12, true) }) (v := undef) rfl (by kernel_rfl) (by kernel_rfl) (by kernel_rfl) (fun _ _ _ h => h) (Or.inr ⟨by rfl, rfl⟩) (by assumption) ?_
              simp only [Act.put, List.setIfInBounds_toArray, List.set_cons_zero, List.set_cons_succ]
              refine wpAnyH_take (i := 25) (oi := { dst := some 75, op := Op.pick (Operand.tmp 62) (Operand.tmp 74) (Operand.const (Value.bool false)), type := _, pos := _, after := _, guard := none }) (v := .bool false) rfl (by kernel_rfl) (by kernel_rfl) (by kernel_rfl) (fun _ _ _ h => h) (Or.inl ⟨by rfl, fun w hSw => by (try dsimp only at hSw); go_simp⟩) (by assumption) ?_
              simp only [Act.put, List.setIfInBounds_toArray, List.set_cons_zero, List.set_cons_succ]
              refine wpAnyH_done (by kernel_rfl) ?_ _
              go_wp2_with fail
              go_roundw
              case rel => exact ⟨i + 1, bb, by omega, by go_num, rfl, HNC.out, HB6.out⟩
              case measure => simp [intOf]; omega
          · obtain rfl : i = 64 := by omega
            rw [show ((64 : Nat) : Int) = 64 from rfl]
            have HX2 : Hid (PB w wr B N K D t n (.slice aLV LV.length cLV) vj) := HX1.out.later HBX.out
            have HJ2 : Hid (wr.ownsRow bJ 3 1 vj (J.take k).length (i64s (J.take k))) := owns_later HJ1.out HBX.out
            have HL2 : Hid (wr.ownsRow (D + 1) 3 1 (.slice aLV LV.length cLV) LV.length (i64s LV)) := owns_later HL1.out HBX.out
            have HB2 : Hid (bJ ≤ wr.heap.size) := Nat.le_trans HB1.out HBX.out.size
            clear HX1 HJ1 HL1 HB1 HBX
            by_cases hkJ : k < J.length
            · obtain ⟨j, rfl, hj64, hjb, hjw⟩ := HBE.out k bb hkJ (by rw [HLA.out]; exact HBS.out)
              have j1 : (0 : Int) ≤ (j : Int) := by omega
              have j2 : (j : Int) < 64 := by omega
              have hdj : decide ((j : Int) < 0) = false := decide_eq_false (by omega)
              have HTJ : Hid (J.take (k + 1) = J.take k ++ [J.getD k 0]) := by unfold Hid; rw [List.take_add_one, List.getD_eq_getElem?_getD, List.getElem?_eq_getElem hkJ]; rfl
              have HLE : Hid ((J.take k).length ≤ 4096) := by unfold Hid; rw [List.length_take]; omega
              obtain ⟨e0, e1, e2⟩ := HX2.out.tb.ent j hj64
              rw [hjb] at e1
              have HLA2 : Hid (lst t L (k + 1) = plF t L + (k : Int)) := by unfold Hid lst; rw [if_neg (by omega)]; rfl
              have HLT : Hid (la < plF t L + (k : Int) ∧ plF t L + (k : Int) < plF t L + (J.length : Int)) := by
                have h1 := HPF.out
                have h2 := HLK.out
                rw [HLA.out] at h2
                unfold Hid
                split at h2 <;> omega
              obtain ⟨nb, hnb⟩ : ∃ nb, plF t L + (k : Int) = nb := ⟨_, rfl⟩
              rw [hnb] at e1 HLA2 HLT
              obtain ⟨xw, hxw⟩ : ∃ z, J.getD k 0 = z := ⟨_, rfl⟩
              have HXW : Hid ((n.ro j).who = xw) := by unfold Hid; rw [hjw, hxw]
              rw [hxw] at HTJ
              clear hnb hxw hjb hjw
              obtain ⟨l, hl⟩ : ∃ l, J.take k = l := ⟨_, rfl⟩
              rw [hl] at HTJ HLE HJ2
              clear hl
              go_upto_region 18 with (fail)
              clear e0 e1 e2
              obtain ⟨aa, ca, rfl⟩ := owns_slice HJ2.out
              have HT0 : Hid (PB w wr.drew B N K D t n (.slice aLV LV.length cLV) (.slice aa l.length ca)) := HX2.out.later (drew_below _)
              have HRQ : Hid (wr.drew.ownsRow bJ 3 1 (.slice aa l.length ca) l.length (i64s l)) := owns_later HJ2.out (drew_below _)
              have HLQ : Hid (wr.drew.ownsRow (D + 1) 3 1 (.slice aLV LV.length cLV) LV.length (i64s LV)) := owns_later HL2.out (drew_below _)
              have HDL : Hid (bJ ≤ wr.drew.heap.size) := HB2.out
              have hHeld : wr.drew.cell? ⟨D, 1, none⟩ = some (.slice aa l.length ca) ∧ wr.drew.cell? ⟨N, 44 + j * 3, none⟩ = some (.int .i64 xw) := by
                refine ⟨HT0.out.cells.2, ?_⟩
                have := (HT0.out.tb.ent j hj64).1
                rw [HXW.out] at this
                exact this
              clear HX2 HJ2 HL2 HB2
              refine Till.region [7, 8] (fun W => W.cell? ⟨D, 1, none⟩ = some (.slice aa l.length ca) ∧ W.cell? ⟨N, 44 + j * 3, none⟩ = some (.int .i64 xw)) (by kernel_rfl) ?_
              refine Till.takeFree (i := 0) (oi := { dst := some 85, op := Op.fieldAddr 66 (Operand.tmp 5) 1, type := _, pos := _, after := _, guard := none }) (x := .pointer (some ⟨D, 1, none⟩)) rfl (by decide) (by kernel_rfl) (by kernel_rfl) (by kernel_rfl) (fun _ _ _ h => h) (Or.inl ⟨by rfl, fun w _ => by go_simp⟩) hHeld ?_
              simp only [Act.put, List.setIfInBounds_toArray, List.set_cons_zero, List.set_cons_succ]
              refine Till.take (i := 1) 8 (oi := { dst := some 86, op := Op.load 24 (Operand.tmp 85), type := _, pos := _, after := _, guard := none }) (x := (.slice aa l.length ca)) rfl (by decide) (by kernel_rfl) (by decide) (by kernel_rfl) (by kernel_rfl) (by kernel_rfl) (by kernel_rfl) (fun _ _ _ h => h) (Or.inl ⟨by rfl, fun w hSw => by (try dsimp only at hSw); obtain ⟨z0, z1⟩ := hSw; go_simp⟩) hHeld ?_
              simp only [Act.put, List.setIfInBounds_toArray, List.set_cons_zero, List.set_cons_succ]
              refine Till.takeFree (i := 2) (oi := { dst := some 87, op := Op.move (Operand.tmp 8), type := _, pos := _, after := _, guard := none }) (x := .int .i64 (j : Int)) rfl (by decide) (by kernel_rfl) (by kernel_rfl) (by kernel_rfl) (fun _ _ _ h => h) (Or.inl ⟨by rfl, fun w _ => by go_simp⟩) hHeld ?_
              simp only [Act.put, List.setIfInBounds_toArray, List.set_cons_zero, List.set_cons_succ]
              refine Till.takeFree (i := 3) (oi := { dst := some 88, op := Op.fieldAddr 47 (Operand.tmp 3) 3, type := _, pos := _, after := _, guard := none }) (x := .pointer (some ⟨N, 44, none⟩)) rfl (by decide) (by kernel_rfl) (by kernel_rfl) (by kernel_rfl) (fun _ _ _ h => h) (Or.inl ⟨by rfl, fun w _ => by go_simp⟩) hHeld ?_
              simp only [Act.put, List.setIfInBounds_toArray, List.set_cons_zero, List.set_cons_succ]
              refine Till.takeFree (i := 4) (oi := { dst := some 89, op := Op.indexAddr 45 (Operand.tmp 88) (Operand.tmp 87), type := _, pos := _, after := _, guard := none }) (x := .pointer (some ⟨N, 44 + j * 3, none⟩)) rfl (by decide) (by kernel_rfl) (by kernel_rfl) (by kernel_rfl) (fun _ _ _ h => h) (Or.inl ⟨by rfl, fun w _ => by go_simp⟩) hHeld ?_
              simp only [Act.put, List.setIfInBounds_toArray, List.set_cons_zero, List.set_cons_succ]
              refine Till.takeFree (i := 5) (oi := { dst := some 90, op := Op.fieldAddr 43 (Operand.tmp 89) 0, type := _, pos := _, after := _, guard := none }) (x := .pointer (some ⟨N, 44 + j * 3, none⟩)) rfl (by decide) (by kernel_rfl) (by kernel_rfl) (by kernel_rfl) (fun _ _ _ h => h) (Or.inl ⟨by rfl, fun w _ => by go_simp⟩) hHeld ?_
              simp only [Act.put, List.setIfInBounds_toArray, List.set_cons_zero, List.set_cons_succ]
              refine Till.take (i := 6) 7 (oi := { dst := some 91, op := Op.load 3 (Operand.tmp 90), type := _, pos := _, after := _, guard := none }) (x := .int .i64 xw) rfl (by decide) (by kernel_rfl) (by decide) (by kernel_rfl) (by kernel_rfl) (by kernel_rfl) (by kernel_rfl) (fun _ _ _ h => h) (Or.inl ⟨by rfl, fun w hSw => by (try dsimp only at hSw); obtain ⟨z0, z1⟩ := hSw; go_simp⟩) hHeld ?_
              simp only [Act.put, List.setIfInBounds_toArray, List.set_cons_zero, List.set_cons_succ]
              refine Till.one (i := 7) (o := { dst := some 92, op := Op.buildSlice 24 1 #[(0, Operand.tmp 91)], type := _, pos := _, after := _, guard := none }) rfl (by kernel_rfl) (fun K9 hK => ?_)
              go_simp
              refine hK.out _ _ (fun _ => ⟨cell_alloc_lt hHeld.1 _, cell_alloc_lt hHeld.2 _⟩) ?_
              clear hK K9
              try simp only [Act.put, List.setIfInBounds_toArray, List.set_cons_zero, List.set_cons_succ]
              refine Till.one (i := 8) (o := { dst := some 93, op := Op.call { callee := Callee.builtin Builtin.append, args := #[Operand.tmp 86, Operand.tmp 92], argTypes := _ }, type := _, pos := _, after := _, guard := none }) rfl (by kernel_rfl) (fun K9 hK => ?_)
              refine appN rfl 93 rfl _ _ rfl bJ (.slice aa l.length ca) l rfl (HRQ.out.alloc _) wr.drew.heap.size xw rfl (cell_one_new _ _ _) HLE.out (by show _ ≤ (World.alloc _ _).heap.size; rw [World.size_alloc]; exact Nat.le_succ_of_le HDL.out) ?_
              intro v' w7 hown7 hg7
              obtain ⟨av, cv, rfl⟩ := owns_slice hown7
              rw [show Value.slice av (l ++ [xw]).length cv = Value.slice av (l.length + 1) cv by simp] at hown7 ⊢
              have hP7 := (HT0.out.later (below_alloc _ _)).app (HRQ.out.alloc _) HDJ.out hg7
              obtain ⟨c70, c71⟩ := hP7.cells
              have f7 := row_frozen hP7.bt 1
              have HP9 : Hid (PB w (w7.setCell ⟨D, 1, none⟩ (.slice av (l.length + 1) cv)) B N K D t n (.slice aLV LV.length cLV) (.slice av (l.length + 1) cv)) := hP7.set1 (.slice av (l.length + 1) cv)
              have HR9 : Hid ((w7.setCell ⟨D, 1, none⟩ (.slice av (l.length + 1) cv)).ownsRow bJ 3 1 (.slice av (l.length + 1) cv) (l ++ [xw]).length (i64s (l ++ [xw]))) := own_other hown7 fun g hg => other_setCell (by have := (own_ge hown7 hg).1; have := HDJ.out; omega) _ _
              have HL9 : Hid ((w7.setCell ⟨D, 1, none⟩ (.slice av (l.length + 1) cv)).ownsRow (D + 1) 3 1 (.slice aLV LV.length cLV) LV.length (i64s LV)) := own_other (own_other (owns_later HLQ.out (below_alloc _ _)) fun g hg => hg7.block g (own_ge (owns_later HLQ.out (below_alloc _ _)) hg).2 (fun e => by have h1 := HAP.out g hg; have h2 := (own_ge HRQ.out e.symm).1; omega)) fun g hg => other_setCell (by have := (own_ge HLQ.out hg).1; omega) _ _
              have HB9 : Hid (bJ ≤ (w7.setCell ⟨D, 1, none⟩ (.slice av (l.length + 1) cv)).heap.size) := by unfold Hid; have h1 := hg7.size; have h2 : bJ ≤ wr.heap.size := HDL.out; simp at h1 ⊢; omega
              clear hg7 hown7 hP7
              refine hK.out _ _ (fun h => absurd h (by rintro ⟨c, hc, he⟩; revert hc he; decide +revert)) ?_
              clear hK K9
              try simp only [Act.put, List.setIfInBounds_toArray, List.set_cons_zero, List.set_cons_succ]
              refine Till.rest (by kernel_rfl) ?_
              refine wpAny_take (i := 9) (oi := { dst := some 94, op := Op.fieldAddr 66 (Operand.tmp 5) 1, type := _, pos := _, after := _, guard := none }) (v := .pointer (some ⟨D, 1, none⟩)) rfl (by kernel_rfl) (by kernel_rfl) (by kernel_rfl) (fun _ _ _ h => h) (Or.inl ⟨by rfl, fun w => by go_simp⟩) ?_
              simp only [Act.put, List.setIfInBounds_toArray, List.set_cons_zero, List.set_cons_succ]
              refine wpAny_ready (rs := [10]) (by kernel_rfl) (by simp) ?_
              refine AllReady.cons (o := { dst := none, op := Op.store 24 (Operand.tmp 94) (Operand.tmp 93), type := _, pos := _, after := _, guard := none }) rfl (fun K9 hK => ?_) AllReady.nil
              have HK9 : Shut _ := hK
              clear hK
              go_simp
              refine HK9.out _ _ ?_
              clear HK9 K9
              try simp only [Act.put, List.setIfInBounds_toArray, List.set_cons_zero, List.set_cons_succ]
              refine wpAny_done (by kernel_rfl) ?_ _
              go_wp2_with fail
              go_roundw
              case rel => exact ⟨k + 1, _, by omega, by rw [HLA2.out], HP9.out, by rw [HTJ.out]; exact HR9.out, HL9.out, HB9.out⟩
              case measure => have := HLT.out; simp [intOf]; omega
            · obtain rfl : k = J.length := by omega
              obtain rfl := HBN.out bb (by rw [HLA.out]; exact HBS.out)
              rw [List.take_length] at HJ2
              obtain ⟨c0, c1⟩ := HX2.out.cells
              have r0 : wr.cell? ⟨K, 0, none⟩ = some (.slice none 0 0) := cell_of_row wr K 0 _ _ _ HX2.out.rs
              have r1 : wr.cell? ⟨K, 1, none⟩ = some (.slice none 0 0) := cell_of_row wr K 1 _ _ _ HX2.out.rs
              have f0 := row_frozen HX2.out.rs 0
              have f1 := row_frozen HX2.out.rs 1
              obtain ⟨aa, ca, rfl⟩ := owns_slice HJ2.out
              have HKK : Hid (((wr.setCell ⟨K, 0, none⟩ (.slice aLV LV.length cLV)).setCell ⟨K, 1, none⟩ (.slice aa J.length ca)).heap[K]? = some (.cells #[.slice aLV LV.length cLV, .slice aa J.length ca] 66 (0, 0))) := row_setCell (row_setCell HX2.out.rs 0 _) 1 _
              have HFB : Hid (∀ g, D < g → ((wr.setCell ⟨K, 0, none⟩ (.slice aLV LV.length cLV)).setCell ⟨K, 1, none⟩ (.slice aa J.length ca)).heap[g]? = wr.heap[g]?) := fun g hg => by
                have := HX2.out.o3
                rw [other_setCell (by omega) _ _, other_setCell (by omega) _ _]
              have HBW : Hid (Below w.heap.size w ((wr.setCell ⟨K, 0, none⟩ (.slice aLV LV.length cLV)).setCell ⟨K, 1, none⟩ (.slice aa J.length ca))) := (HX2.out.bel.setCell (p := ⟨K, 0, none⟩) HX2.out.o4 _).setCell (p := ⟨K, 1, none⟩) HX2.out.o4 _
              go_wp2_with fail
              refine bodyPost_ret (results_bt (p := 4) rfl _ _ K _ _ rfl HKK.out) rfl ?_
              obtain ⟨a1, c1', e1, r1'⟩ := iv_rd (own_other HL2.out fun g hg => HFB.out g (by have := (own_ge HL2.out hg).1; omega))
              obtain ⟨a2, c2', e2, r2'⟩ := iv_rd (own_other HJ2.out fun g hg => HFB.out g (by have := (own_ge HJ2.out hg).1; have := HDJ.out; omega))
              cases e1
              cases e2
              exact ⟨⟨aLV, cLV, aa, ca, by rw [HLV.out], by rw [HLV.out]; exact r1', r2'⟩, HBW.out⟩
end Go.Proofs.YtpimbpfefhkojabGreatDoor
