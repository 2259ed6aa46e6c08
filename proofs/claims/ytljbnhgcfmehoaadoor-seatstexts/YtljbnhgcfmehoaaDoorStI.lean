/- Contracts: the document's Has, Set, List, Count, Lowest, Next. -/
import Derived.Test.YtljbnhgcfmehoaaDoorStG
import Derived.Test.YtljbnhgcfmehoaaDoorStF
namespace Go.Proofs.YtljbnhgcfmehoaaDoor
open Go.RowKit Go.Maps Go.Shelf
set_option linter.unusedVariables false
set_option linter.unusedSimpArgs false

theorem sc45 (f : Nat → Bool) (w : World) (c : Array Value) (hc : c.size = 64) : (storeCells ⟨w.heap.size, 0, none⟩ (plf f).toList 0).run Tryd.prog (w.alloc (.cells c 45)) = .ok () (w.alloc (.cells (plf f) 45)) :=
  run_storeCells_new w 45 c (plf f) (by rw [plf_size]; exact info45) (by rw [hc, plf_size]) (plf_one f)
theorem lc45 (f : Nat → Bool) (w : World) : (loadCellsFrom ⟨w.heap.size, 0, none⟩ 0 64 #[]).run Tryd.prog (w.alloc (.cells (plf f) 45)) = .ok (plf f) (w.alloc (.cells (plf f) 45)) :=
  run_loadCellsFrom_new w 45 (plf f) 64 (plf_size f)
theorem below_alloc {n : Nat} {w W : World} (h : Below n w W) (hn : n ≤ w.heap.size) (o : Obj) : Below n w (W.alloc o) := h.alloc (Nat.le_trans hn h.size) o
set_option maxRecDepth 100000 in
set_option maxHeartbeats 400000 in
theorem rHas_any (s : Nat) (hs' : s < 18446744073709551616) (n : Int) (w : World) :
    Calls Tryd.prog 14 #[.int .u64 (s : Int), .int .i64 n] w fun e w' => e = .returned (.bool (hs s n)) ∧ Below w.heap.size w w' := by
  go_enter Tryd.func14, Tryd.ntmps14
  go_wp2_with fail
  refine (places_any s hs' _).mono ?_
  rintro e w' ⟨rfl, hb⟩
  have hsc := fun c => sc45 (fun i => s.testBit i) w' c
  have hps := plf_size (fun i => s.testBit i)
  have hget := plf_get (fun i => s.testBit i)
  have hb2 := below_alloc hb (Nat.le_refl _) (.cells (plf fun i => s.testBit i) 45)
  go_wp2_with fail
  refine (slot_any n _).mono ?_
  rintro e w2 ⟨rfl, rfl⟩
  generalize (plf fun i => s.testBit i) = c at *
  clear hsc
  cases h : sl n with
  | false =>
    go_wp2_with fail
    go_ret
    exact ⟨ret_bool (hs_no h).symm, hb2⟩
  | true =>
    obtain ⟨k, rfl, hk⟩ := sl_nat h
    have hcell := hget k hk
    have hk1 : (k : Int) < 64 := by omega
    have HC : Hid (c[k]? = some (.bool (s.testBit k))) := hcell
    have HZ : Hid (c.size = 64) := hps
    clear hget hps
    go_wp2_with fail
    go_ret
    refine ⟨?_, hb2⟩
    rw [hs_sl hk]
    rfl
/- The set with the slot in or out. -/
def setR (s : Nat) (n : Int) (b : Bool) : Value := if b then putR s n else drpR s n
theorem setR_no {s : Nat} {n : Int} {b : Bool} (h : sl n = false) : setR s n b = .tuple #[.int .u64 0, .int .i64 1] := by unfold setR; cases b <;> simp [putR_no h, drpR_no h]
theorem setR_sl {s k : Nat} {b : Bool} (hs : s < 18446744073709551616) (hk : k < 64) : setR s (k : Int) b = .tuple #[.int .u64 ((wd (fun i => if i = k then b else s.testBit i) 64 : Nat) : Int), .int .i64 0] := by
  unfold setR
  cases b with
  | true =>
    rw [if_pos rfl, putR_sl hk, wd_all _ (put_lt hs hk)]
    intro i hi
    rw [put_bit]
    by_cases h : i = k
    · subst h; simp
    · simp [h, Ne.symm h]
  | false =>
    rw [if_neg (by simp), drpR_sl hk, wd_all _ (drp_lt hs)]
    intro i hi
    rw [drp_bit hk hi]
    by_cases h : i = k
    · subst h; simp
    · simp [h, Ne.symm h]
set_option maxRecDepth 100000 in
set_option maxHeartbeats 400000 in
theorem rSet_any (s : Nat) (hs' : s < 18446744073709551616) (n : Int) (b : Bool) (w : World) :
    Calls Tryd.prog 11 #[.int .u64 (s : Int), .int .i64 n, .bool b] w fun e w' => e = .returned (setR s n b) ∧ Below w.heap.size w w' := by
  have hsl := slot_any n w
  cases h : sl n with
  | false =>
    rw [setR_no h]
    rw [h] at hsl
    go_enter Tryd.func11, Tryd.ntmps11
    go_wp2_with fail
    refine hsl.mono ?_
    rintro e w2 ⟨rfl, rfl⟩
    clear hsl
    go_wp2_with fail
    go_ret2
    exact ⟨rfl, Below.refl _ _⟩
  | true =>
    rw [h] at hsl
    obtain ⟨k, rfl, hk⟩ := sl_nat h
    rw [setR_sl hs' hk]
    go_enter Tryd.func11, Tryd.ntmps11
    go_wp2_with fail
    refine hsl.mono ?_
    rintro e w2 ⟨rfl, rfl⟩
    clear hsl
    go_wp2_with fail
    refine (places_any s hs' _).mono ?_
    rintro e w' ⟨rfl, hb⟩
    have hsc := fun c => sc45 (fun i => s.testBit i) w' c
    have hps := plf_size (fun i => s.testBit i)
    have hget := plf_get (fun i => s.testBit i) k hk
    have hset := plf_set (fun i => s.testBit i) k b hk
    have hc2 := plf_size (fun i => if i = k then b else s.testBit i)
    have hw := word_any (fun i => if i = k then b else s.testBit i)
    have hb2 := below_alloc hb (Nat.le_refl _) (.cells (plf fun i => if i = k then b else s.testBit i) 45)
    have hk1 : (k : Int) < 64 := by omega
    generalize (plf fun i => if i = k then b else s.testBit i) = c2 at *
    generalize (plf fun i => s.testBit i) = c at *
    go_upto_region 5 with (fail)
    refine wp_region_lit ?_
    refine wpList_load_row rfl 45 _ rfl w'.heap.size rfl 45 c2 (0, 0) _ (heap_alloc_last w' _) Tryd.underlying45 rfl (by rw [hc2]; exact info45) ?_
    go_wp2_with fail
    refine (hw _).mono ?_
    rintro e w3 ⟨rfl, hb3⟩
    have hb4 := hb2.trans (hb3.mono hb2.size)
    clear hsc hset hw hb hb2 hb3 hget
    go_wp2_with fail
    go_ret2
    exact ⟨rfl, hb4⟩
set_option maxRecDepth 100000 in
set_option maxHeartbeats 400000 in
theorem rLowest_any (s : Nat) (hs' : s < 18446744073709551616) (w : World) :
    Calls Tryd.prog 18 #[.int .u64 (s : Int)] w fun e w' => e = .returned (.int .i64 (hd (bl (nt s)))) ∧ Below w.heap.size w w' := by
  go_enter Tryd.func18, Tryd.ntmps18
  go_wp2_with fail
  refine (places_any s hs' _).mono ?_
  rintro e w' ⟨rfl, hb⟩
  have hsc := fun c => sc45 (fun i => s.testBit i) w' c
  have hps := plf_size (fun i => s.testBit i)
  have hget := plf_get (fun i => s.testBit i)
  have hb2 := below_alloc hb (Nat.le_refl _) (.cells (plf fun i => s.testBit i) 45)
  generalize (plf fun i => s.testBit i) = c at *
  go_wp2_with fail
  clear hsc hps
  go_loop [4] (fun i => ∃ k : Nat, k ≤ 64 ∧ i = .int .i64 (k : Int) ∧ ∀ j, j < k → s.testBit j = true) (fun i => 64 - (intOf i).toNat)
  case atStart => exact ⟨0, by omega, rfl, by omega⟩
  case round =>
    obtain ⟨k, hk, rfl, hall⟩ := hrel
    have HA : Hid (∀ j, j < k → s.testBit j = true) := hall
    clear hall
    by_cases hk8 : k < 64
    · have k8 : (k : Int) < 64 := by omega
      have hcell := hget k hk8
      clear hget
      cases hf : s.testBit k with
      | false =>
        rw [hf] at hcell
        go_wp2_with fail
        go_ret
        refine ⟨ret_int ?_, hb2⟩
        have : bl (nt s) = bf (nt s) k (64 - k) := by
          unfold bl
          rw [bf_skip k 64 0 hk (fun i _ h2 => by rw [nt_bit hs' (by omega), HA.out i (by omega)]; rfl), Nat.zero_add]
        rw [this, show 64 - k = (63 - k) + 1 by omega, bf, if_pos (by rw [nt_bit hs' hk8, hf]; rfl)]
        rfl
      | true =>
        rw [hf] at hcell
        go_wp2_with fail
        go_round
        case rel => exact ⟨k + 1, by omega, by go_num, fun j hj => by
          by_cases h : j = k
          · subst h; exact hf
          · exact HA.out j (by omega)⟩
        case measure => simp [intOf]; omega
    · obtain rfl : k = 64 := by omega
      go_wp2_with fail
      go_ret
      refine ⟨ret_int ?_, hb2⟩
      have : bl (nt s) = [] := bf_none _ _ fun i _ h2 => by rw [nt_bit hs' (by omega), HA.out i (by omega)]; rfl
      rw [this]
      rfl
set_option maxRecDepth 100000 in
set_option maxHeartbeats 400000 in
theorem rNext_any (s : Nat) (hs' : s < 18446744073709551616) (n : Int) (hn0 : -9223372036854775808 ≤ n) (hn1 : n < 9223372036854775808) (w : World) :
    Calls Tryd.prog 20 #[.int .u64 (s : Int), .int .i64 n] w fun e w' => e = .returned (.int .i64 (nx s n)) ∧ Below w.heap.size w w' := by
  obtain ⟨m, hm⟩ : ∃ m : Nat, fm n = m := ⟨_, rfl⟩
  have hmx : (if n < 0 then 0 else n) = (m : Int) := by
    unfold fm at hm
    split <;> omega
  have hmm : (m : Int) < 9223372036854775808 := by split at hmx <;> omega
  unfold nx
  rw [hm]
  clear hm
  go_enter Tryd.func20, Tryd.ntmps20
  go_wp2_with fail
  refine (places_any s hs' _).mono ?_
  rintro e w' ⟨rfl, hb⟩
  have hsc := fun c => sc45 (fun i => s.testBit i) w' c
  have hps := plf_size (fun i => s.testBit i)
  have hget := plf_get (fun i => s.testBit i)
  have hb2 := below_alloc hb (Nat.le_refl _) (.cells (plf fun i => s.testBit i) 45)
  generalize (plf fun i => s.testBit i) = c at *
  go_wp2_with fail
  clear hsc hps
  go_loop [6] (fun i => ∃ k : Nat, m ≤ k ∧ (k = m ∨ k ≤ 64) ∧ i = .int .i64 (k : Int) ∧ ∀ j, m ≤ j → j < k → s.testBit j = false) (fun i => 64 - (intOf i).toNat)
  case atStart => exact ⟨m, Nat.le_refl _, .inl rfl, by simp only [hmx], by omega⟩
  case round =>
    obtain ⟨k, hmk, hk, rfl, hall⟩ := hrel
    have HA : Hid (∀ j, m ≤ j → j < k → s.testBit j = false) := hall
    have hki : (k : Int) < 9223372036854775808 := by omega
    clear hall hmx
    by_cases hk8 : k < 64
    · have k8 : (k : Int) < 64 := by omega
      have hcell := hget k hk8
      clear hget
      have HSKIP : Hid (bf s m (64 - m) = bf s k (64 - k)) := by
        show bf s m (64 - m) = bf s k (64 - k)
        rw [bf_skip (k - m) (64 - m) m (by omega) (fun i h1 h2 => HA.out i h1 (by omega)), show m + (k - m) = k by omega, show 64 - m - (k - m) = 64 - k by omega]
      cases hf : s.testBit k with
      | false =>
        rw [hf] at hcell
        go_wp2_with fail
        go_round
        case rel => exact ⟨k + 1, by omega, by omega, by go_num, fun j h1 hj => by
          by_cases h : j = k
          · subst h; exact hf
          · exact HA.out j h1 (by omega)⟩
        case measure => simp [intOf]; omega
      | true =>
        rw [hf] at hcell
        go_wp2_with fail
        go_ret
        refine ⟨ret_int ?_, hb2⟩
        rw [HSKIP.out, show 64 - k = (63 - k) + 1 by omega, bf, if_pos hf]
        rfl
    · have k8 : ¬ (k : Int) < 64 := by omega
      go_wp2_with fail
      go_ret
      refine ⟨ret_int ?_, hb2⟩
      rw [bf_none _ _ fun i h1 h2 => HA.out i h1 (by omega)]
      rfl
theorem row_grown {W w1 : World} {n0 : Nat} {e : TypeId} {v : Value} {k : Nat} {xs : List Value} {o : Obj} (h : W.ownsRow n0 e 1 v k xs) (hn : n0 ≤ W.heap.size) (hg : (W.alloc o).grownBy w1 v.ownBlock) : Below n0 W w1 := by
  refine ((Below.refl n0 W).alloc hn o).trans ⟨hg.os, hg.tape, hg.output, hg.size, fun j hj => hg.block j (by simp; omega) (fun e => ?_)⟩
  rcases h.2 with ⟨rfl, _⟩ | ⟨g, cap, cur, rfl, h3, _⟩
  · simp [Value.ownBlock] at e
  · simp [Value.ownBlock] at e
    omega
theorem row_below {W W' : World} {n0 : Nat} {e : TypeId} {v : Value} {k : Nat} {xs : List Value} (h : W.ownsRow n0 e 1 v k xs) (hn : n0 ≤ W.heap.size) (hb : Below W.heap.size W W') : W'.ownsRow n0 e 1 v k xs := by
  obtain ⟨h1, h2⟩ := h
  refine ⟨h1, ?_⟩
  rcases h2 with h2 | ⟨g, cap, cur, rfl, h3, h4, r⟩
  · exact .inl h2
  · exact .inr ⟨g, cap, cur, rfl, h3, (hb.block g (Array.getElem?_eq_some_iff.1 h4).1).trans h4, r⟩
/- The list of places, n of them. -/
theorem bf_snoc (s : Nat) : ∀ (n p : Nat), bf s p (n + 1) = bf s p n ++ (if s.testBit (p + n) then [p + n] else [])
  | 0, p => by simp [bf]
  | n + 1, p => by
    rw [bf, bf_snoc s n (p + 1), bf, show p + 1 + n = p + (n + 1) by omega]
    split <;> simp
set_option maxRecDepth 100000 in
set_option maxHeartbeats 400000 in
theorem rList_any (s : Nat) (hs' : s < 18446744073709551616) (w : World) :
    Calls Tryd.prog 27 #[.int .u64 (s : Int)] w fun e w' => (∃ v, e = .returned v ∧ NewL w w' v (bl s)) ∧ Below w.heap.size w w' := by
  obtain ⟨i0, hi, hz0, hz1, hz2⟩ := info_parts infoInt
  go_enter Tryd.func27, Tryd.ntmps27
  go_wp2_with fail
  refine (places_any s hs' _).mono ?_
  rintro e w' ⟨rfl, hb⟩
  have hsc := fun c => sc45 (fun i => s.testBit i) w' c
  have hps := plf_size (fun i => s.testBit i)
  have hget := plf_get (fun i => s.testBit i)
  have hb2 := below_alloc hb (Nat.le_refl _) (.cells (plf fun i => s.testBit i) 45)
  generalize (plf fun i => s.testBit i) = c at *
  go_wp2_with fail
  clear hsc hps
  have hcells : ∀ i, i < 64 → (w'.alloc (.cells c 45)).cell? ⟨w'.heap.size, i, none⟩ = some (.bool (s.testBit i)) := fun i h => by
    rw [cell_of_row _ _ i c 45 (0, 0) (heap_alloc_last w' _)]
    exact hget i h
  have hsz : w'.heap.size < (w'.alloc (.cells c 45)).heap.size := by simp
  have hwb : w.heap.size ≤ w'.heap.size := hb.size
  generalize w'.alloc (.cells c 45) = w2 at *
  generalize w'.heap.size = B at *
  go_loopw [4, 5] (fun v i wx => ∃ k : Nat, k ≤ 64 ∧ i = .int .i64 (k : Int) ∧ wx.ownsRow w2.heap.size 3 1 v (bf s 0 k).length (nI (bf s 0 k)) ∧ Below w2.heap.size w2 wx) (fun _ i _ => 64 - (intOf i).toNat)
  case atStart => exact ⟨0, by omega, rfl, World.ownsRow_nil _ _ _ _, Below.refl _ _⟩
  case round =>
    obtain ⟨k, hk, rfl, hrow, hbw⟩ := hrel
    by_cases hk8 : k < 64
    · have k8 : (k : Int) < 64 := by omega
      have hcell : wr.cell? ⟨B, k, none⟩ = some (.bool (s.testBit k)) := (hbw.cell (p := ⟨B, k, none⟩) hsz).trans (hcells k hk8)
      have hsn := bf_snoc s k 0
      rw [Nat.zero_add] at hsn
      have hln := bf_len_le s k 0
      have HSN : Hid (_ = _) := hsn
      clear hget hcells hsn
      obtain ⟨l, hl⟩ : ∃ l, bf s 0 k = l := ⟨_, rfl⟩
      rw [hl] at hrow hln
      have HL : Hid (bf s 0 k = l) := hl
      clear hl
      cases hf : s.testBit k with
      | false =>
        rw [hf] at hcell
        go_wp2_with fail
        go_roundw
        case rel => exact ⟨k + 1, by omega, by go_num, by rw [HSN.out, HL.out, hf, if_neg (by simp), List.append_nil]; exact hrow, hbw⟩
        case measure => simp [intOf]; omega
      | true =>
        rw [hf] at hcell
        go_wp2_with (at_builtin; (refine wpList_append_own (w := _) rfl _ _ 32 rfl w2.heap.size 3 i0 _ 1 8 Tryd.underlying32 hi hz0 hz1 hz2 rfl (by decide) _ _ _ rfl (hrow.alloc _) ⟨wr.heap.size, 0, none⟩ 1 1 [.int .i64 (k : Int)] rfl rfl (cell_one_new _ _ _) (by simp [Value.oneCell']) (by unfold maxLen; omega) (by omega) (by have := hbw.size; simp; omega) ?_); intro v' w1 hown' hgrow _)
        go_roundw
        case rel =>
          refine ⟨k + 1, by omega, by go_num, ?_, hbw.trans (row_grown hrow hbw.size hgrow)⟩
          rw [HSN.out, HL.out, hf, if_pos rfl, nI_snoc, List.length_append]
          exact hown'
        case measure => simp [intOf]; omega
    · obtain rfl : k = 64 := by omega
      clear hget hcells
      go_wp2_with fail
      go_ret
      exact ⟨⟨_, rfl, row_wide hrow hb2.size⟩, hb2.trans (hbw.mono hb2.size)⟩
end Go.Proofs.YtljbnhgcfmehoaaDoor
