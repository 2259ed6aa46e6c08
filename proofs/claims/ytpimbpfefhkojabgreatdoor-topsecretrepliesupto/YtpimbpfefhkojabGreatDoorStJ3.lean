/- StG, StI, StJ, StK, joined. -/
import Derived.Test.YtpimbpfefhkojabGreatDoorStJ2
import Derived.Deep.WholeRow
import Derived.Deep.LoopGhost
import Derived.Deep.DeepCutAuto
import Derived.Laws.ResultCell
import Derived.BigQuiet
import Derived.Deep.RegionHeld3
namespace Go.Proofs.YtpimbpfefhkojabGreatDoor.Rs
open Go.RowKit
set_option linter.unusedVariables false
set_option linter.unusedSimpArgs false

/- The 64 places as cells. -/
def plf (f : Nat → Bool) : Array Value := Array.ofFn (n := 64) fun i => .bool (f i.1)
@[simp] theorem plf_size (f : Nat → Bool) : (plf f).size = 64 := by simp [plf]
theorem plf_get (f : Nat → Bool) (i : Nat) (h : i < 64) : (plf f)[i]? = some (.bool (f i)) := by
  rw [Array.getElem?_eq_getElem (by simpa using h)]
  simp [plf]
theorem plf_congr {f g : Nat → Bool} (h : ∀ i, i < 64 → f i = g i) : plf f = plf g := by
  unfold plf
  congr 1
  funext i
  rw [h i.1 i.2]
theorem plf_set (f : Nat → Bool) (k : Nat) (b : Bool) (hk : k < 64) : (plf f).setIfInBounds k (.bool b) = plf (fun i => if i = k then b else f i) := by
  apply Array.ext
  · simp
  · intro i h1 h2
    simp at h1
    rw [Array.getElem_setIfInBounds (by simpa using h1)]
    simp only [plf, Array.getElem_ofFn]
    by_cases h : k = i
    · subst h; simp
    · rw [if_neg h, if_neg (fun e => h e.symm)]
theorem plf_one (f : Nat → Bool) : (plf f).all (·.oneCell') = true := by
  rw [Array.all_eq_true]
  intro i h
  simp [plf, Value.oneCell']
theorem info45 : (Tryz.prog.info? 154).map (·.size) = some 64 := by kernel_rfl
/- The places, as many as have been seen. -/
def seen (s k : Nat) : Array Value := plf fun i => decide (i < k) && s.testBit i
theorem seen_zero (s : Nat) : seen s 0 = plf fun _ => false := plf_congr fun i _ => by simp
theorem seen_all (s : Nat) : seen s 64 = plf fun i => s.testBit i := plf_congr fun i hi => by simp [hi]
theorem seen_set (s k : Nat) (hk : k < 64) : (seen s k).setIfInBounds k (.bool (s.testBit k)) = seen s (k + 1) := by
  unfold seen
  rw [plf_set _ _ _ hk]
  apply plf_congr
  intro i hi
  by_cases h : i = k
  · subst h; simp
  · rw [if_neg h, show decide (i < k) = decide (i < k + 1) by simp; omega]
theorem seen_get (s k : Nat) (hk : k < 64) : (seen s k)[k]? = some (.bool false) := by
  unfold seen
  rw [plf_get _ _ hk]
  simp
@[simp] theorem seen_size (s k : Nat) : (seen s k).size = 64 := by simp [seen]
theorem heap_setRow_same {w : World} {g : Nat} {cs : Array Value} {t : TypeId} {fr : Nat × Nat} (h : w.heap[g]? = some (.cells cs t fr)) (cs' : Array Value) : (w.setRow g cs').heap[g]? = some (.cells cs' t fr) := by
  simp only [World.setRow, Array.getElem?_modify]
  rw [if_pos trivial, h]
  rfl
theorem setRow_below {n g : Nat} {w W : World} (hg : n ≤ g) (h : Below n w W) (cs : Array Value) : Below n w (W.setRow g cs) := by
  refine h.trans ⟨rfl, rfl, rfl, by simp, fun k hk => ?_⟩
  simp only [World.setRow, Array.getElem?_modify]
  rw [if_neg (by omega)]
set_option maxRecDepth 100000 in
set_option maxHeartbeats 400000 in
theorem places_any (s : Nat) (hs : s < 18446744073709551616) (w : World) :
    Calls Tryz.prog 106 #[.int .u64 (s : Int)] w fun e w' => e = .returned (.agg (plf fun i => s.testBit i)) ∧ Below w.heap.size w w' := by
  go_enter Tryz.func106, Tryz.ntmps106
  go_wp2_with fail
  rw [show (#[Value.bool false, Value.bool false, Value.bool false, Value.bool false, Value.bool false, Value.bool false, Value.bool false, Value.bool false, Value.bool false, Value.bool false, Value.bool false, Value.bool false, Value.bool false, Value.bool false, Value.bool false, Value.bool false, Value.bool false, Value.bool false, Value.bool false, Value.bool false, Value.bool false, Value.bool false, Value.bool false, Value.bool false, Value.bool false, Value.bool false, Value.bool false, Value.bool false, Value.bool false, Value.bool false, Value.bool false, Value.bool false, Value.bool false, Value.bool false, Value.bool false, Value.bool false, Value.bool false, Value.bool false, Value.bool false, Value.bool false, Value.bool false, Value.bool false, Value.bool false, Value.bool false, Value.bool false, Value.bool false, Value.bool false, Value.bool false, Value.bool false, Value.bool false, Value.bool false, Value.bool false, Value.bool false, Value.bool false, Value.bool false, Value.bool false, Value.bool false, Value.bool false, Value.bool false, Value.bool false, Value.bool false, Value.bool false, Value.bool false, Value.bool false] : Array Value) = plf (fun _ => false) from rfl]
  obtain ⟨w1, hw1⟩ : ∃ w1, w.alloc (.cells (plf fun _ => false) 154) = w1 := ⟨_, rfl⟩
  have hR1 : w1.heap[w.heap.size]? = some (.cells (plf fun _ => false) 154 (0, 0)) := by rw [← hw1]; exact heap_alloc_last w _
  have hB1 : Below w.heap.size w w1 := by rw [← hw1]; exact (Below.refl _ w).alloc (Nat.le_refl _) _
  have hs1 : w.heap.size + 1 = w1.heap.size := by rw [← hw1, World.size_alloc]
  rw [hw1, ← seen_zero s, hs1]
  clear hw1
  go_loopw [0, 4] (fun x i wx => ∃ k : Nat, k ≤ 64 ∧ i = .int .i64 (k : Int) ∧ x = .int .u64 ((s / 2 ^ k : Nat) : Int) ∧ wx = w1.alloc (.cells (seen s k) 154)) (fun _ i _ => 64 - (intOf i).toNat)
  case atStart => exact ⟨0, by omega, rfl, by simp, rfl⟩
  case round =>
    obtain ⟨k, hk, rfl, rfl, rfl⟩ := hrel
    by_cases hk8 : k < 64
    · have k8 : (k : Int) < 64 := by omega
      have hbit : s.testBit k = decide (s / 2 ^ k % 2 = 1) := Nat.testBit_eq_decide_div_mod_eq
      have hsucc : s / 2 ^ (k + 1) = s / 2 ^ k / 2 := by rw [Nat.pow_succ, Nat.div_div_eq_div_mul]
      have hlt : s / 2 ^ k < 18446744073709551616 := Nat.lt_of_le_of_lt (Nat.div_le_self _ _) hs
      obtain ⟨q, hq⟩ : ∃ q, s / 2 ^ k = q := ⟨_, rfl⟩
      rw [hq] at hbit hsucc hlt ⊢
      have hget := seen_get s k hk8
      have hset := seen_set s k hk8
      have HQ : Hid (s / 2 ^ (k + 1) = q / 2) := hsucc
      have HS : Hid (_ = _) := hset
      have HB : Hid (_ = _) := hbit
      clear hq hsucc hset hbit
      go_wp2_with fail
      go_roundw
      case rel =>
        refine ⟨k + 1, by omega, by go_num, by rw [HQ.out]; congr 1, ?_⟩
        have hb : ((q : Int) % 2 == 1) = s.testBit k := by
          rw [HB.out, Bool.eq_iff_iff]
          simp
          omega
        rw [hb, HS.out]
      case measure => simp [intOf]; omega
    · obtain rfl : k = 64 := by omega
      obtain ⟨w2, hw2⟩ : ∃ w2, w1.alloc (.cells (seen s 64) 154) = w2 := ⟨_, rfl⟩
      have hP2 : w2.heap[w1.heap.size]? = some (.cells (seen s 64) 154 (0, 0)) := by rw [← hw2]; exact heap_alloc_last w1 _
      have hB2 : Below w1.heap.size w1 w2 := by rw [← hw2]; exact (Below.refl _ w1).alloc (Nat.le_refl _) _
      have hR2 : w2.heap[w.heap.size]? = some (.cells (plf fun _ => false) 154 (0, 0)) := (hB2.block _ (by omega)).trans hR1
      rw [hw2]
      clear hw2
      go_upto_region 7 with (fail)
      refine wp_region_lit ?_
      refine wpList_load_row rfl 154 _ rfl w1.heap.size rfl 154 (seen s 64) (0, 0) _ hP2 Tryz.underlying154 rfl (by rw [seen_size]; exact info45) ?_
      refine wpList_store_row rfl 154 _ _ rfl w.heap.size (seen s 64) rfl rfl 154 _ hR2 (by rw [seen_size]; exact info45) (by simp) (by unfold seen; exact plf_one _) ?_
      have hR3 := heap_setRow_same hR2 (seen s 64)
      have hB3 := setRow_below (n := w.heap.size) (Nat.le_refl _) (hB1.trans (hB2.mono (by omega))) (seen s 64)
      generalize w2.setRow w.heap.size (seen s 64) = w3 at *
      go_wp2_with fail
      refine bodyPost_ret (results_cell_row rfl _ _ w.heap.size 154 (seen s 64) (0, 0) _ rfl hR3 Tryz.underlying154 rfl (by rw [seen_size]; exact info45)) rfl ?_
      exact ⟨by rw [seen_all], hB3⟩
/- The word of the places. -/
theorem wd_step {f : Nat → Bool} {n : Nat} : wd f (n + 1) = 2 * wd f n + (f (63 - n)).toNat := rfl
set_option maxRecDepth 100000 in
set_option maxHeartbeats 400000 in
theorem word_any (f : Nat → Bool) (w : World) :
    Calls Tryz.prog 102 #[.agg (plf f)] w fun e w' => e = .returned (.int .u64 ((wd f 64 : Nat) : Int)) ∧ Below w.heap.size w w' := by
  have hsz := plf_size f
  have hget := plf_get f
  obtain ⟨c, hc⟩ : ∃ c, plf f = c := ⟨_, rfl⟩
  rw [hc] at hsz hget ⊢
  clear hc
  have hB : Below w.heap.size w (w.alloc (.cells c 154)) := (Below.refl _ w).alloc (Nat.le_refl _) _
  go_enter Tryz.func102, Tryz.ntmps102
  go_wp2_with fail
  go_loop [3, 4] (fun x i => ∃ k : Nat, k ≤ 64 ∧ i = .int .i64 (63 - (k : Int)) ∧ x = .int .u64 ((wd f k : Nat) : Int)) (fun _ i => (intOf i + 1).toNat)
  case atStart => exact ⟨0, by omega, rfl, rfl⟩
  case round =>
    obtain ⟨k, hk, rfl, rfl⟩ := hrel
    by_cases hk8 : k < 64
    · obtain ⟨j, hj⟩ : ∃ j : Nat, 63 - k = j := ⟨_, rfl⟩
      have hji : 63 - (k : Int) = (j : Int) := by omega
      have hj64 : (j : Int) < 64 := by omega
      have hjn : ¬ ((j : Int) < 0) := by omega
      have hcell := hget j (by omega)
      have hlt := wd_lt f k
      have hpw : 2 ^ k ≤ 2 ^ 63 := Nat.pow_le_pow_right (by omega) (by omega)
      have hst : wd f (k + 1) = 2 * wd f k + (f j).toNat := by rw [wd_step, hj]
      have h63 : wd f k < 9223372036854775808 := Nat.lt_of_lt_of_le hlt hpw
      clear hlt hpw hget
      obtain ⟨q, hq⟩ : ∃ q, wd f k = q := ⟨_, rfl⟩
      rw [hq] at hst h63 ⊢
      rw [hji]
      have HST : Hid (_ = _) := hst
      have HJ : Hid (63 - (k : Int) = (j : Int)) := hji
      clear hq hst hji hj
      cases hf : f j with
      | false =>
        rw [hf] at hcell
        go_wp2_with fail
        go_round
        case rel => exact ⟨k + 1, by omega, by have := HJ.out; go_num, by rw [HST.out, hf]; go_num⟩
        case measure => simp [intOf]
      | true =>
        rw [hf] at hcell
        go_wp2_with fail
        go_round
        case rel => exact ⟨k + 1, by omega, by have := HJ.out; go_num, by rw [HST.out, hf]; go_num⟩
        case measure => simp [intOf]
    · obtain rfl : k = 64 := by omega
      go_wp2_with fail
      go_ret
      exact ⟨rfl, hB⟩
open Go.RowKit Go.Maps Go.Shelf

theorem sc45 (f : Nat → Bool) (w : World) (c : Array Value) (hc : c.size = 64) : (storeCells ⟨w.heap.size, 0, none⟩ (plf f).toList 0).run Tryz.prog (w.alloc (.cells c 154)) = .ok () (w.alloc (.cells (plf f) 154)) :=
  run_storeCells_new w 154 c (plf f) (by rw [plf_size]; exact info45) (by rw [hc, plf_size]) (plf_one f)
theorem below_alloc {n : Nat} {w W : World} (h : Below n w W) (hn : n ≤ w.heap.size) (o : Obj) : Below n w (W.alloc o) := h.alloc (Nat.le_trans hn h.size) o
theorem row_grown {W w1 : World} {n0 : Nat} {e : TypeId} {v : Value} {k : Nat} {xs : List Value} {o : Obj} (h : W.ownsRow n0 e 1 v k xs) (hn : n0 ≤ W.heap.size) (hg : (W.alloc o).grownBy w1 v.ownBlock) : Below n0 W w1 := by
  refine ((Below.refl n0 W).alloc hn o).trans ⟨hg.os, hg.tape, hg.output, hg.size, fun j hj => hg.block j (by simp; omega) (fun e => ?_)⟩
  rcases h.2 with ⟨rfl, _⟩ | ⟨g, cap, cur, rfl, h3, _⟩
  · simp [Value.ownBlock] at e
  · simp [Value.ownBlock] at e
    omega
/- The list of places, n of them. -/
theorem bf_snoc (s : Nat) : ∀ (n p : Nat), bf s p (n + 1) = bf s p n ++ (if s.testBit (p + n) then [p + n] else [])
  | 0, p => by simp [bf]
  | n + 1, p => by
    rw [bf, bf_snoc s n (p + 1), bf, show p + 1 + n = p + (n + 1) by omega]
    split <;> simp
set_option maxRecDepth 100000 in
set_option maxHeartbeats 400000 in
theorem rList_any (s : Nat) (hs' : s < 18446744073709551616) (w : World) :
    Calls Tryz.prog 101 #[.int .u64 (s : Int)] w fun e w' => (∃ v, e = .returned v ∧ NewL w w' v (bl s)) ∧ Below w.heap.size w w' := by
  obtain ⟨i0, hi, hz0, hz1, hz2⟩ := info_parts infoInt
  go_enter Tryz.func101, Tryz.ntmps101
  go_wp2_with fail
  refine (places_any s hs' _).mono ?_
  rintro e w' ⟨rfl, hb⟩
  have hsc := fun c => sc45 (fun i => s.testBit i) w' c
  have hps := plf_size (fun i => s.testBit i)
  have hget := plf_get (fun i => s.testBit i)
  have hb2 := below_alloc hb (Nat.le_refl _) (.cells (plf fun i => s.testBit i) 154)
  generalize (plf fun i => s.testBit i) = c at *
  go_wp2_with fail
  clear hsc hps
  have hcells : ∀ i, i < 64 → (w'.alloc (.cells c 154)).cell? ⟨w'.heap.size, i, none⟩ = some (.bool (s.testBit i)) := fun i h => by
    rw [cell_of_row _ _ i c 154 (0, 0) (heap_alloc_last w' _)]
    exact hget i h
  have hsz : w'.heap.size < (w'.alloc (.cells c 154)).heap.size := by simp
  have hwb : w.heap.size ≤ w'.heap.size := hb.size
  generalize w'.alloc (.cells c 154) = w2 at *
  generalize w'.heap.size = B at *
  go_loopw [4, 5] (fun v i wx => ∃ k : Nat, k ≤ 64 ∧ i = .int .i64 (k : Int) ∧ wx.ownsRow w2.heap.size 3 1 v (bf s 0 k).length (nI (bf s 0 k)) ∧ Below w2.heap.size w2 wx) (fun _ i _ => 64 - (intOf i).toNat)
  case atStart => exact ⟨0, by omega, rfl, World.ownsRow_nil _ _ _ _, Below.refl _ _⟩
  case round =>
    obtain ⟨k, hk, rfl, hrow, hbw⟩ := hrel
    by_cases hk8 : k < 64
    · have k8 : (k : Int) < 64 := by omega
      have hcell : wr.cell? ⟨B, k, none⟩ = some (.bool (s.testBit k)) := (hbw.cell (p := ⟨B, k, none⟩) hsz).trans (hcells k hk8)
      have hsn := bf_snoc s k 0
      rw [Nat.zero_add] at hsn
      have hln := bf_len_le s k 0
      have HSN : Hid (_ = _) := hsn
      clear hget hcells hsn
      obtain ⟨l, hl⟩ : ∃ l, bf s 0 k = l := ⟨_, rfl⟩
      rw [hl] at hrow hln
      have HL : Hid (bf s 0 k = l) := hl
      clear hl
      cases hf : s.testBit k with
      | false =>
        rw [hf] at hcell
        go_wp2_with fail
        go_roundw
        case rel => exact ⟨k + 1, by omega, by go_num, by rw [HSN.out, HL.out, hf, if_neg (by simp), List.append_nil]; exact hrow, hbw⟩
        case measure => simp [intOf]; omega
      | true =>
        rw [hf] at hcell
        go_wp2_with (at_builtin; (refine wpList_append_own (w := _) rfl _ _ 24 rfl w2.heap.size 3 i0 _ 1 8 Tryz.underlying24 hi hz0 hz1 hz2 rfl (by decide) _ _ _ rfl (hrow.alloc _) ⟨wr.heap.size, 0, none⟩ 1 1 [.int .i64 (k : Int)] rfl rfl (cell_one_new _ _ _) (by simp [Value.oneCell']) (by unfold maxLen; omega) (by omega) (by have := hbw.size; simp; omega) ?_); intro v' w1 hown' hgrow _)
        go_roundw
        case rel =>
          refine ⟨k + 1, by omega, by go_num, ?_, hbw.trans (row_grown hrow hbw.size hgrow)⟩
          rw [HSN.out, HL.out, hf, if_pos rfl, nI_snoc, List.length_append]
          exact hown'
        case measure => simp [intOf]; omega
    · obtain rfl : k = 64 := by omega
      clear hget hcells
      go_wp2_with fail
      go_ret
      exact ⟨⟨_, rfl, row_wide hrow hb2.size⟩, hb2.trans (hbw.mono hb2.size)⟩

set_option maxHeartbeats 400000 in
theorem rCount_any (s : Nat) (hs : s < 18446744073709551616) (w : World) :
    Calls Tryz.prog 76 #[.int .u64 (s : Int)] w fun e w' => e = .returned (.int .i64 (((bl s).length : Nat) : Int)) ∧ Below w.heap.size w w' := by
  go_enter Tryz.func76, Tryz.ntmps76
  go_wp2_with fail
  refine (rList_any s hs _).mono ?_
  rintro e w' ⟨⟨v, rfl, hv⟩, hb⟩
  obtain ⟨a, cap, rfl⟩ := row_slice hv
  clear hv
  go_wp2_with fail
  go_ret
  exact ⟨rfl, hb⟩

/- Integers in memory. -/
def RdI (w : World) (a : Option Addr) (ws : List Int) : Prop :=
  ∀ i, i < ws.length → ∃ b o, a = some ⟨b, o, none⟩ ∧ w.cell? ⟨b, o + i, none⟩ = some (.int .i64 (ws.getD i 0))
theorem cell_later {w w' : World} {a : Addr} {v : Value} (hb : Below w.heap.size w w') (hc : w.cell? a = some v) : w'.cell? a = some v :=
  (World.cell?_of_block (hb.block a.block (World.block_lt_of_cell? w a hc))).trans hc
theorem RdI.later {w w' : World} {a : Option Addr} {ws : List Int} (h : RdI w a ws) (hb : Below w.heap.size w w') : RdI w' a ws := fun i hi => by
  obtain ⟨b, o, e, c0⟩ := h i hi
  exact ⟨b, o, e, cell_later hb c0⟩
theorem RdI.nil (w : World) (a : Option Addr) : RdI w a [] := fun i hi => by cases hi
theorem take_getD {l : List Int} {k : Nat} (h : k < l.length) : l.take (k + 1) = l.take k ++ [l.getD k 0] := by
  rw [List.take_succ_eq_append_getElem h, List.getD_eq_getElem?_getD, List.getElem?_eq_getElem h]; rfl
end Go.Proofs.YtpimbpfefhkojabGreatDoor.Rs
