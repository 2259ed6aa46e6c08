/- RsMm, PlP0, PlT0, joined. -/
import Derived.Test.YtnaiocdldghdeaaGreatRsJ5
import Derived.Test.YtnaiocdldghdeaaGreatOpenRs
import Derived.Laws.AppendOwnNone
import Derived.Maps.AppendAt
import Derived.Test.YtnaiocdldghdeaaGreatPlJ2
import Derived.Test.YtnaiocdldghdeaaGreatPlJ6
import Derived.Test.YtnaiocdldghdeaaGreatPlJ7
/- Lists that are copied, lists that are written to, and what stays. -/
namespace Go.Proofs.YtnaiocdldghdeaaGreat.Rs
open Go.RowKit Go.Maps
set_option linter.unusedVariables false
set_option linter.unusedSimpArgs false

def i64s (l : List Int) : List Value := l.map fun n : Int => Value.int .i64 n
@[simp] theorem i64s_length (l : List Int) : (i64s l).length = l.length := by simp [i64s]
/- A block of cells that may be written. -/
def Slot (W : World) (g : Nat) (t : TypeId) (n : Nat) : Prop := ∃ cs, W.heap[g]? = some (.cells cs t (0, 0)) ∧ n ≤ cs.size
theorem Slot.set {W : World} {g : Nat} {t : TypeId} {n : Nat} (h : Slot W g t n) (g' j : Nat) (u : Value) : Slot (W.setCell ⟨g', j, none⟩ u) g t n := by
  obtain ⟨cs, h1, h2⟩ := h
  by_cases e : g = g'
  · subst e
    exact ⟨_, row_setCell h1 j u, by simpa using h2⟩
  · exact ⟨cs, (other_setCell e j u).trans h1, h2⟩
theorem Slot.kept {W W' : World} {g : Nat} {t : TypeId} {n : Nat} (h : Slot W g t n) (he : W'.heap[g]? = W.heap[g]?) : Slot W' g t n := by
  obtain ⟨cs, h1, h2⟩ := h
  exact ⟨cs, he.trans h1, h2⟩
theorem Slot.lt {W : World} {g : Nat} {t : TypeId} {n : Nat} (h : Slot W g t n) : g < W.heap.size := by
  obtain ⟨cs, h1, h2⟩ := h
  exact (Array.getElem?_eq_some_iff.1 h1).1
theorem Slot.cell {W : World} {g : Nat} {t : TypeId} {n : Nat} (h : Slot W g t n) {j : Nat} (hj : j < n) : (∃ u, W.cell? ⟨g, j, none⟩ = some u) ∧ W.frozen? ⟨g, j, none⟩ = false := by
  obtain ⟨cs, h1, h2⟩ := h
  exact ⟨⟨cs[j]'(by omega), by rw [cell_of_row W g j _ _ _ h1]; exact Array.getElem?_eq_getElem (by omega)⟩, row_frozen h1 j⟩
theorem own_other {W W' : World} {b : Nat} {e : TypeId} {sz : Nat} {v : Value} {n : Nat} {xs : List Value} (h : W.ownsRow b e sz v n xs) (hk : ∀ g, v.ownBlock = some g → W'.heap[g]? = W.heap[g]?) : W'.ownsRow b e sz v n xs := by
  obtain ⟨h1, h2⟩ := h
  refine ⟨h1, ?_⟩
  rcases h2 with h2 | ⟨g, cap, cur, rfl, h3, h4, r⟩
  · exact .inl h2
  · exact .inr ⟨g, cap, cur, rfl, h3, (hk g (by simp [Value.ownBlock])).trans h4, r⟩
theorem own_set {W : World} {b : Nat} {e : TypeId} {sz : Nat} {v : Value} {n : Nat} {xs : List Value} (h : W.ownsRow b e sz v n xs) (g' j : Nat) (u : Value) : ∃ ys, (W.setCell ⟨g', j, none⟩ u).ownsRow b e sz v n ys := by
  rcases h.2 with ⟨rfl, h0⟩ | ⟨g, cap, cur, rfl, h3, h4, _⟩
  · exact ⟨xs, h.1, .inl ⟨rfl, h0⟩⟩
  · by_cases he : g = g'
    · subst he
      exact ⟨_, (h.stored j u).1⟩
    · refine ⟨xs, own_other h fun k hk => other_setCell ?_ j u⟩
      simp [Value.ownBlock] at hk
      subst hk
      exact he
/- What stays, but for the blocks of P. -/
structure Ke (P : Nat → Prop) (V W : World) : Prop where
  size : V.heap.size ≤ W.heap.size
  block : ∀ k, k < V.heap.size → ¬ P k → W.heap[k]? = V.heap[k]?
theorem Ke.refl (P : Nat → Prop) (V : World) : Ke P V V := ⟨Nat.le_refl _, fun _ _ _ => rfl⟩
theorem Ke.set {P : Nat → Prop} {V W : World} (h : Ke P V W) {g : Nat} (hg : P g) (j : Nat) (u : Value) : Ke P V (W.setCell ⟨g, j, none⟩ u) :=
  ⟨by simpa using h.size, fun k hk hn => (other_setCell (fun e => hn (by rw [e]; exact hg)) j u).trans (h.block k hk hn)⟩
theorem Ke.grown {P : Nat → Prop} {V W W' : World} (h : Ke P V W) {o : Obj} {r : Option Nat} (hg : (W.alloc o).grownBy W' r) (hr : ∀ j, r = some j → j < V.heap.size → P j) : Ke P V W' := by
  have h1 := h.size
  have h2 := hg.size
  rw [World.size_alloc] at h2
  refine ⟨by omega, fun k hk hn => ?_⟩
  rw [hg.block k (by simp; omega) (fun e => hn (hr k e.symm hk))]
  exact (((Below.refl _ W).alloc (Nat.le_refl _) o).block k (by omega)).trans (h.block k hk hn)
theorem RdS.ke {P : Nat → Prop} {V W : World} {a : Option Addr} {l : List (Int × Int)} (h : RdS V a l) (hk : Ke P V W) (hne : ∀ b, a = some ⟨b, 0, none⟩ → ¬ P b) : RdS W a l := fun i hi => by
  obtain ⟨b, e, c0, c1⟩ := h i hi
  have hlt := World.block_lt_of_cell? V _ c0
  have hb := hk.block b hlt (hne b e)
  exact ⟨b, e, (World.cell?_of_block hb).trans c0, (World.cell?_of_block hb).trans c1⟩
/- Two rows of seats and two of numbers that are written to. -/
structure PA (w V W : World) (P : Nat → Prop) (s : Nat) (vl : Value) (NL : Nat) (Xl : List Value) (vj : Value) (NJ : Nat) (Xj : List Value) (ga gb nL nJ : Nat) : Prop where
  ke : Ke P V W
  bel : Below w.heap.size w W
  sa : Slot W ga 3 nL
  sb : Slot W gb 3 nJ
  ol : W.ownsRow s 69 2 vl NL Xl
  oj : W.ownsRow s 69 2 vj NJ Xj
  ap : vl.ownBlock = none ∨ vl.ownBlock ≠ vj.ownBlock
  ws : w.heap.size ≤ s
  wa : w.heap.size ≤ ga
  wb : w.heap.size ≤ gb
  vs : s ≤ V.heap.size
section
variable {w V W W' : World} {P : Nat → Prop} {s : Nat} {vl : Value} {NL : Nat} {Xl : List Value} {vj : Value} {NJ : Nat} {Xj : List Value} {ga gb nL nJ : Nat}
theorem PA.setS (h : PA w V W P s vl NL Xl vj NJ Xj ga gb nL nJ) {g : Nat} (hg : P g) (hw : w.heap.size ≤ g) (j : Nat) (u : Value) : ∃ Yl Yj, PA w V (W.setCell ⟨g, j, none⟩ u) P s vl NL Yl vj NJ Yj ga gb nL nJ := by
  obtain ⟨Yl, hl⟩ := own_set h.ol g j u
  obtain ⟨Yj, hj⟩ := own_set h.oj g j u
  exact ⟨Yl, Yj, h.ke.set hg j u, h.bel.setCell (p := ⟨g, j, none⟩) hw u, h.sa.set g j u, h.sb.set g j u, hl, hj, h.ap, h.ws, h.wa, h.wb, h.vs⟩
theorem PA.set2 (h : PA w V W P s vl NL Xl vj NJ Xj ga gb nL nJ) {g : Nat} (hg : P g) (hw : w.heap.size ≤ g) (j j' : Nat) (u u' : Value) : ∃ Yl Yj, PA w V ((W.setCell ⟨g, j, none⟩ u).setCell ⟨g, j', none⟩ u') P s vl NL Yl vj NJ Yj ga gb nL nJ := by
  obtain ⟨_, _, h1⟩ := h.setS hg hw j u
  exact h1.setS hg hw j' u'
end
end Go.Proofs.YtnaiocdldghdeaaGreat.Rs
/- Lists of pairs that came in as arguments (they may lie anywhere in a block). -/
namespace Go.Proofs.YtnaiocdldghdeaaGreat
open Go.RowKit Go.Maps
open Rs (RdS RdI ps evl cell_later)
set_option linter.unusedVariables false
set_option linter.unusedSimpArgs false

def RdP (w : World) (a : Option Addr) (l : List (Int × Int)) : Prop := ∀ i, i < l.length → ∃ b o, a = some ⟨b, o, none⟩ ∧ w.cell? ⟨b, o + i * 2, none⟩ = some (.int .i64 (l.getD i (0, 0)).1) ∧ w.cell? ⟨b, o + i * 2 + 1, none⟩ = some (.int .i64 (l.getD i (0, 0)).2)
theorem RdP.later {w w' : World} {a : Option Addr} {l : List (Int × Int)} (h : RdP w a l) (hb : Below w.heap.size w w') : RdP w' a l := fun i hi => by
  obtain ⟨b, o, e, c0, c1⟩ := h i hi
  exact ⟨b, o, e, cell_later hb c0, cell_later hb c1⟩
end Go.Proofs.YtnaiocdldghdeaaGreat
/- Contract: the document's Replaced of any seats. -/
namespace Go.Proofs.YtnaiocdldghdeaaGreat
open Go.RowKit Go.Maps
open Rt (Ky zK KyAt Gd gv)
open Rs (En zE tkn RdS RdI ps evl cell_later)
open Sh (belB lef)
set_option linter.unusedVariables false
set_option linter.unusedSimpArgs false

/- The document's Replaced of any seats. -/
def gdl (l : List (Int × Int)) : List (Int × Int) := l.filter fun p => decide (0 ≤ lef p.2)
theorem rp_gdl (l : List (Int × Int)) : rp (gdl l) = rp l := by
  unfold rp
  refine mkW_congr 21 fun v _ => ?_
  unfold rpl gdl
  rw [List.any_filter]
  congr 1
  funext p
  by_cases h : 0 ≤ lef p.2
  · rw [decide_eq_true h, Bool.true_and]
  · rw [decide_eq_false h, Bool.false_and, Sh.belB_no' (Sh.nodeB_no (by omega))]
structure BS (w W : World) (v : Value) (l : List (Int × Int)) : Prop where
  bel : Below w.heap.size w W
  row : W.ownsRow w.heap.size 69 2 v l.length (ps l)
theorem BS.later {w W W' : World} {v : Value} {l : List (Int × Int)} (h : BS w W v l) (hb : Below W.heap.size W W') : BS w W' v l := ⟨h.bel.trans (hb.mono h.bel.size), Rs.owns_later h.row hb⟩
theorem BS.app {w W W1 : World} {v v' : Value} {l : List (Int × Int)} {o : Obj} {p : Int × Int} (h : BS w W v l) (hown : W1.ownsRow w.heap.size 69 2 v' (l.length + 1) (ps l ++ [.int .i64 p.1, .int .i64 p.2])) (hg : (W.alloc o).grownBy W1 v.ownBlock) : BS w W1 v' (l ++ [p]) := by
  refine ⟨Rs.grown_bel h.bel h.row (Nat.le_refl _) hg, ?_⟩
  rw [Rs.ps_snoc, List.length_append]
  exact hown
set_option maxRecDepth 100000 in
set_option maxHeartbeats 4000000 in
theorem rRepl_any (a : Option Addr) (c : Nat) (l : List (Int × Int)) (w : World) (hl : l.length * 16 ≤ 140737488351232) (hr : RdP w a l) :
    Calls Tryz.prog 56 #[.slice a l.length c] w fun e w' => e = .returned (.int .u32 ((rp l : Nat) : Int)) ∧ Below w.heap.size w w' := by
  obtain ⟨i0, hi, hz0, hz1, hz2⟩ := Rs.infoSeat_parts
  go_enter Tryz.func56, Tryz.ntmps56
  go_wp2_with fail
  go_loopw [3, 8] (fun x i wx => ∃ (k : Nat) (v : Value), k ≤ l.length ∧ i = .int .i64 (k : Int) ∧ v = x ∧ BS w wx v (gdl (l.take k))) (fun _ i _ => l.length - (intOf i).toNat)
  case atStart => exact ⟨0, _, by omega, rfl, rfl, ⟨Below.refl _ _, World.ownsRow_nil _ _ _ _⟩⟩
  case round =>
    obtain ⟨k, v, hk, rfl, rfl, hbs⟩ := hrel
    have HBS : Hid (BS w wr v (gdl (l.take k))) := hbs
    clear hbs
    by_cases hkN : k < l.length
    · have i1 : (0 : Int) ≤ (k : Int) := by omega
      have i2 : (k : Int) < (l.length : Int) := by omega
      obtain ⟨b, o, hal, hc0, hc1⟩ := (hr.later HBS.out.bel) k hkN
      have HTK : Hid (gdl (l.take (k + 1)) = gdl (l.take k) ++ if 0 ≤ lef (l.getD k (0, 0)).2 then [l.getD k (0, 0)] else []) := by
        unfold Hid gdl
        rw [take_snoc2 hkN, List.filter_append]
        congr 1
        by_cases h : 0 ≤ lef (l.getD k (0, 0)).2
        · rw [if_pos h, List.filter_cons_of_pos (by simpa using h)]; rfl
        · rw [if_neg h, List.filter_cons_of_neg (by simpa using h)]; rfl
      have HLN : Hid ((gdl (l.take k)).length ≤ k) := Nat.le_trans (List.length_filter_le _ _) (by rw [List.length_take]; omega)
      obtain ⟨q, hq⟩ : ∃ q, l.getD k (0, 0) = q := ⟨_, rfl⟩
      rw [hq] at hc0 hc1 HTK
      obtain ⟨px, py⟩ := q
      dsimp only at hc0 hc1
      clear hq
      subst hal
      obtain ⟨g, hg⟩ : ∃ g, gdl (l.take k) = g := ⟨_, rfl⟩
      rw [hg] at HTK HLN HBS
      clear hg
      obtain ⟨ar, cr, rfl⟩ := Rs.owns_slice HBS.out.row
      have hlf := Sh.rLeaf_any py
      have HTK2 : Hid (gdl (l.take (k + 1)) = g ++ if 0 ≤ lef py then [(px, py)] else []) := HTK.out
      obtain ⟨z, hz⟩ : ∃ z, lef py = z := ⟨_, rfl⟩
      rw [hz] at hlf HTK2
      clear hz HTK
      have HB2 : Hid (BS w (wr.alloc (.cells #[.int .i64 px, .int .i64 py] 69)) (.slice ar g.length cr) g) := HBS.out.later (below_alloc _ _)
      have hSE : StAt (wr.alloc (.cells #[.int .i64 px, .int .i64 py] 69)) wr.heap.size (px, py) := heap_alloc_last wr _
      clear HBS
      go_upto_region 5 with (fail)
      clear hc0 hc1
      generalize wr.alloc (.cells #[.int .i64 px, .int .i64 py] 69) = w5 at *
      generalize wr.heap.size = C at *
      obtain ⟨x0, x1⟩ := hSE.cells
      dsimp only at x0 x1
      go_wp2_with fail
      refine (hlf _).mono ?_
      rintro r w5 ⟨rfl, rfl⟩
      clear hlf
      by_cases hz : 0 ≤ z
      · have hd : decide (0 ≤ z) = true := decide_eq_true hz
        have HTK3 : Hid (gdl (l.take (k + 1)) = g ++ [(px, py)]) := by unfold Hid; rw [HTK2.out, if_pos hz]
        have hrow := HB2.out.row
        have hszr := HB2.out.bel.size
        have hlen := HLN.out
        clear hz HTK2
        go_wp2_with (at_builtin; (refine wpList_append_own _ rfl _ _ 28 rfl w.heap.size 69 i0 (.agg #[.int .i64 0, .int .i64 0]) 2 16 Tryz.underlying28 hi hz0 hz1 hz2 rfl (by decide) (.slice ar g.length cr) g.length (ps g) rfl (hrow.alloc _) ⟨w5.heap.size, 0, none⟩ 1 1 [.int .i64 px, .int .i64 py] rfl rfl (Rs.cell_two_new _ _ _ _) (by simp [Value.oneCell']) (by unfold maxLen; omega) (by omega) (by simp; omega) ?_); intro v' w8 hown' hg8 _; have HB8 : Hid (BS w w8 v' (g ++ [(px, py)])) := HB2.out.app (p := (px, py)) hown' hg8; clear hown' hg8)
        go_roundw
        case rel => exact ⟨k + 1, _, by omega, by go_num, rfl, by rw [HTK3.out]; exact HB8.out⟩
        case measure => simp [intOf]; omega
      · have hd : decide (0 ≤ z) = false := decide_eq_false hz
        have HTK3 : Hid (gdl (l.take (k + 1)) = g) := by unfold Hid; rw [HTK2.out, if_neg hz, List.append_nil]
        clear hz HTK2
        go_wp2_with fail
        go_roundw
        case rel => exact ⟨k + 1, _, by omega, by go_num, rfl, by rw [HTK3.out]; exact HB2.out⟩
        case measure => simp [intOf]; omega
    · obtain rfl : k = l.length := by omega
      have hdk : decide ((l.length : Int) < (l.length : Int)) = false := by simp
      rw [List.take_length] at HBS
      have HLN : Hid ((gdl l).length ≤ l.length) := List.length_filter_le _ _
      have HRG : Hid (rp (gdl l) = rp l) := rp_gdl l
      obtain ⟨g, hg⟩ : ∃ g, gdl l = g := ⟨_, rfl⟩
      rw [hg] at HBS HLN HRG
      clear hg
      obtain ⟨ar, cr, rfl⟩ := Rs.owns_slice HBS.out.row
      have hrp := rRep_any ar cr g wr (by have := HLN.out; omega) (rds_of HBS.out.row)
      rw [HRG.out] at hrp
      go_wp2_with fail
      refine hrp.mono ?_
      rintro r w9 ⟨rfl, hb9⟩
      clear hrp
      go_wp2_with fail
      go_ret
      exact ⟨rfl, HBS.out.bel.trans (hb9.mono HBS.out.bel.size)⟩
end Go.Proofs.YtnaiocdldghdeaaGreat
