/- Contracts: the document's Has, Set, List, Count, Lowest, Next. -/
import Derived.Test.YtieagbjempndnabDoorStG
import Derived.Test.YtieagbjempndnabDoorStF
namespace Go.Proofs.YtieagbjempndnabDoor
open Go.RowKit Go.Maps Go.Shelf
set_option linter.unusedVariables false
set_option linter.unusedSimpArgs false

theorem sc45 (f : Nat → Bool) (w : World) (c : Array Value) (hc : c.size = 64) : (storeCells ⟨w.heap.size, 0, none⟩ (plf f).toList 0).run Tryd.prog (w.alloc (.cells c 60)) = .ok () (w.alloc (.cells (plf f) 60)) :=
  run_storeCells_new w 60 c (plf f) (by rw [plf_size]; exact info45) (by rw [hc, plf_size]) (plf_one f)
theorem lc45 (f : Nat → Bool) (w : World) : (loadCellsFrom ⟨w.heap.size, 0, none⟩ 0 64 #[]).run Tryd.prog (w.alloc (.cells (plf f) 60)) = .ok (plf f) (w.alloc (.cells (plf f) 60)) :=
  run_loadCellsFrom_new w 60 (plf f) 64 (plf_size f)
theorem below_alloc {n : Nat} {w W : World} (h : Below n w W) (hn : n ≤ w.heap.size) (o : Obj) : Below n w (W.alloc o) := h.alloc (Nat.le_trans hn h.size) o
/- The set with the slot in or out. -/
def setR (s : Nat) (n : Int) (b : Bool) : Value := if b then putR s n else drpR s n
theorem setR_no {s : Nat} {n : Int} {b : Bool} (h : sl n = false) : setR s n b = .tuple #[.int .u64 0, .int .i64 1] := by unfold setR; cases b <;> simp [putR_no h, drpR_no h]
theorem setR_sl {s k : Nat} {b : Bool} (hs : s < 18446744073709551616) (hk : k < 64) : setR s (k : Int) b = .tuple #[.int .u64 ((wd (fun i => if i = k then b else s.testBit i) 64 : Nat) : Int), .int .i64 0] := by
  unfold setR
  cases b with
  | true =>
    rw [if_pos rfl, putR_sl hk, wd_all _ (put_lt hs hk)]
    intro i hi
    rw [put_bit]
    by_cases h : i = k
    · subst h; simp
    · simp [h, Ne.symm h]
  | false =>
    rw [if_neg (by simp), drpR_sl hk, wd_all _ (drp_lt hs)]
    intro i hi
    rw [drp_bit hk hi]
    by_cases h : i = k
    · subst h; simp
    · simp [h, Ne.symm h]
theorem row_grown {W w1 : World} {n0 : Nat} {e : TypeId} {v : Value} {k : Nat} {xs : List Value} {o : Obj} (h : W.ownsRow n0 e 1 v k xs) (hn : n0 ≤ W.heap.size) (hg : (W.alloc o).grownBy w1 v.ownBlock) : Below n0 W w1 := by
  refine ((Below.refl n0 W).alloc hn o).trans ⟨hg.os, hg.tape, hg.output, hg.size, fun j hj => hg.block j (by simp; omega) (fun e => ?_)⟩
  rcases h.2 with ⟨rfl, _⟩ | ⟨g, cap, cur, rfl, h3, _⟩
  · simp [Value.ownBlock] at e
  · simp [Value.ownBlock] at e
    omega
theorem row_below {W W' : World} {n0 : Nat} {e : TypeId} {v : Value} {k : Nat} {xs : List Value} (h : W.ownsRow n0 e 1 v k xs) (hn : n0 ≤ W.heap.size) (hb : Below W.heap.size W W') : W'.ownsRow n0 e 1 v k xs := by
  obtain ⟨h1, h2⟩ := h
  refine ⟨h1, ?_⟩
  rcases h2 with h2 | ⟨g, cap, cur, rfl, h3, h4, r⟩
  · exact .inl h2
  · exact .inr ⟨g, cap, cur, rfl, h3, (hb.block g (Array.getElem?_eq_some_iff.1 h4).1).trans h4, r⟩
/- The list of places, n of them. -/
theorem bf_snoc (s : Nat) : ∀ (n p : Nat), bf s p (n + 1) = bf s p n ++ (if s.testBit (p + n) then [p + n] else [])
  | 0, p => by simp [bf]
  | n + 1, p => by
    rw [bf, bf_snoc s n (p + 1), bf, show p + 1 + n = p + (n + 1) by omega]
    split <;> simp
set_option maxRecDepth 100000 in
set_option maxHeartbeats 400000 in
theorem rList_any (s : Nat) (hs' : s < 18446744073709551616) (w : World) :
    Calls Tryd.prog 27 #[.int .u64 (s : Int)] w fun e w' => (∃ v, e = .returned v ∧ NewL w w' v (bl s)) ∧ Below w.heap.size w w' := by
  obtain ⟨i0, hi, hz0, hz1, hz2⟩ := info_parts infoInt
  go_enter Tryd.func27, Tryd.ntmps27
  go_wp2_with fail
  refine (places_any s hs' _).mono ?_
  rintro e w' ⟨rfl, hb⟩
  have hsc := fun c => sc45 (fun i => s.testBit i) w' c
  have hps := plf_size (fun i => s.testBit i)
  have hget := plf_get (fun i => s.testBit i)
  have hb2 := below_alloc hb (Nat.le_refl _) (.cells (plf fun i => s.testBit i) 60)
  generalize (plf fun i => s.testBit i) = c at *
  go_wp2_with fail
  clear hsc hps
  have hcells : ∀ i, i < 64 → (w'.alloc (.cells c 60)).cell? ⟨w'.heap.size, i, none⟩ = some (.bool (s.testBit i)) := fun i h => by
    rw [cell_of_row _ _ i c 60 (0, 0) (heap_alloc_last w' _)]
    exact hget i h
  have hsz : w'.heap.size < (w'.alloc (.cells c 60)).heap.size := by simp
  have hwb : w.heap.size ≤ w'.heap.size := hb.size
  generalize w'.alloc (.cells c 60) = w2 at *
  generalize w'.heap.size = B at *
  go_loopw [4, 5] (fun v i wx => ∃ k : Nat, k ≤ 64 ∧ i = .int .i64 (k : Int) ∧ wx.ownsRow w2.heap.size 3 1 v (bf s 0 k).length (nI (bf s 0 k)) ∧ Below w2.heap.size w2 wx) (fun _ i _ => 64 - (intOf i).toNat)
  case atStart => exact ⟨0, by omega, rfl, World.ownsRow_nil _ _ _ _, Below.refl _ _⟩
  case round =>
    obtain ⟨k, hk, rfl, hrow, hbw⟩ := hrel
    by_cases hk8 : k < 64
    · have k8 : (k : Int) < 64 := by omega
      have hcell : wr.cell? ⟨B, k, none⟩ = some (.bool (s.testBit k)) := (hbw.cell (p := ⟨B, k, none⟩) hsz).trans (hcells k hk8)
      have hsn := bf_snoc s k 0
      rw [Nat.zero_add] at hsn
      have hln := bf_len_le s k 0
      have HSN : Hid (_ = _) := hsn
      clear hget hcells hsn
      obtain ⟨l, hl⟩ : ∃ l, bf s 0 k = l := ⟨_, rfl⟩
      rw [hl] at hrow hln
      have HL : Hid (bf s 0 k = l) := hl
      clear hl
      cases hf : s.testBit k with
      | false =>
        rw [hf] at hcell
        go_wp2_with fail
        go_roundw
        case rel => exact ⟨k + 1, by omega, by go_num, by rw [HSN.out, HL.out, hf, if_neg (by simp), List.append_nil]; exact hrow, hbw⟩
        case measure => simp [intOf]; omega
      | true =>
        rw [hf] at hcell
        go_wp2_with (at_builtin; (refine wpList_append_own (w := _) rfl _ _ 26 rfl w2.heap.size 3 i0 _ 1 8 Tryd.underlying26 hi hz0 hz1 hz2 rfl (by decide) _ _ _ rfl (hrow.alloc _) ⟨wr.heap.size, 0, none⟩ 1 1 [.int .i64 (k : Int)] rfl rfl (cell_one_new _ _ _) (by simp [Value.oneCell']) (by unfold maxLen; omega) (by omega) (by have := hbw.size; simp; omega) ?_); intro v' w1 hown' hgrow _)
        go_roundw
        case rel =>
          refine ⟨k + 1, by omega, by go_num, ?_, hbw.trans (row_grown hrow hbw.size hgrow)⟩
          rw [HSN.out, HL.out, hf, if_pos rfl, nI_snoc, List.length_append]
          exact hown'
        case measure => simp [intOf]; omega
    · obtain rfl : k = 64 := by omega
      clear hget hcells
      go_wp2_with fail
      go_ret
      exact ⟨⟨_, rfl, row_wide hrow hb2.size⟩, hb2.trans (hbw.mono hb2.size)⟩
end Go.Proofs.YtieagbjempndnabDoor
