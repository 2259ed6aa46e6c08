/- Contracts: areFree, evict. -/
import Derived.Test.YtieagbjempndnabDoorRsF
import Derived.Test.YtieagbjempndnabDoorRsMath3
import Derived.Test.YtieagbjempndnabDoorRsN
namespace Go.Proofs.YtieagbjempndnabDoor
open Go.RowKit Go.Maps
set_option linter.unusedVariables false
set_option linter.unusedSimpArgs false

set_option maxRecDepth 100000 in
set_option maxHeartbeats 1000000 in
theorem areFree_any (f : Nat → En) (bs : Int) (n : Nat) (hn : n < 1152921504606846976) (w : World) :
    Calls Tryd.prog 13 #[.agg (rcs f), .int .i64 bs, .int .i64 (n : Int)] w fun e w' => e = .returned (.bool (fre f bs n)) ∧ Below w.heap.size w w' := by
  have HFR : Hid (fre f bs n = (decide (n = 0) || (decide (1 ≤ bs) && decide (bs ≤ 32768 - (n : Int)) && frA f bs n 64))) := rfl
  have hR := RoAt.new w f
  have hB1 := alloc_ro w f
  have hsub : IntKind.i64.wrap (32768 - (n : Int)) = 32768 - (n : Int) := i64_fit _ (by omega) (by omega)
  go_enter Tryd.func13, Tryd.ntmps13
  go_upto_region 1 with (fail)
  generalize w.alloc (.cells (rcs f) 25) = w1 at *
  obtain ⟨c, hc⟩ : ∃ c, rcs f = c := ⟨_, rfl⟩
  by_cases hn0 : n = 0
  · subst hn0
    rw [hc]
    go_wp2_with fail
    go_ret
    exact ⟨ret_bool (by rw [HFR.out]; rfl), hB1⟩
  · have h0 : ¬ ((n : Int) = 0) := by omega
    have h0' : ((n : Int) == 0) = false := by simp; omega
    have HD : Hid (decide (n = 0) = false) := decide_eq_false hn0
    by_cases h1 : bs < 1
    · have HD1 : Hid (decide (1 ≤ bs) = false) := decide_eq_false (by omega)
      rw [hc]
      go_wp2_with fail
      go_ret
      exact ⟨ret_bool (by rw [HFR.out, HD.out, HD1.out]; rfl), hB1⟩
    · have HD1 : Hid (decide (1 ≤ bs) = true) := decide_eq_true (by omega)
      by_cases h2 : 32768 - (n : Int) < bs
      · have HD2 : Hid (decide (bs ≤ 32768 - (n : Int)) = false) := decide_eq_false (by omega)
        rw [hc]
        go_wp2_with fail
        go_ret
        exact ⟨ret_bool (by rw [HFR.out, HD.out, HD1.out, HD2.out]; rfl), hB1⟩
      · have HD2 : Hid (decide (bs ≤ 32768 - (n : Int)) = true) := decide_eq_true (by omega)
        have hsum : IntKind.i64.wrap (bs + (n : Int)) = bs + (n : Int) := i64_fit _ (by omega) (by omega)
        go_upto_region 5 with (fail)
        refine wp_region_lit ?_
        refine ld25 hR rfl _ rfl rfl ?_
        rw [hc]
        go_wp2_with fail
        go_loopw [20] (fun i wx => ∃ k : Nat, k ≤ 64 ∧ i = .int .i64 (k : Int) ∧ Below w1.heap.size w1 wx ∧ frA f bs n k = true) (fun i _ => 64 - (intOf i).toNat)
        case atStart => exact ⟨0, by omega, rfl, Below.refl _ _, rfl⟩
        case round =>
          obtain ⟨k, hk, rfl, hb, hf⟩ := hrel
          have HB : Hid (Below w.heap.size w wr) := hB1.trans (hb.mono hB1.size)
          have HBW : Hid (Below w1.heap.size w1 wr) := hb
          have HF : Hid (frA f bs n k = true) := hf
          clear hb hf
          by_cases hk8 : k < 64
          · have k8 : (k : Int) < 64 := by omega
            have hi := idx25 f k hk8
            rw [hc] at hi
            have hBE := alloc_en wr (f k)
            have HS : Hid (frA f bs n (k + 1) = (frA f bs n k && !(decide (bs ≤ (f k).bas) && decide ((f k).bas < bs + (n : Int))))) := rfl
            have HBAD : Hid ((decide (bs ≤ (f k).bas) && decide ((f k).bas < bs + (n : Int))) = true → frA f bs n 64 = false) := frA_bad hk8
            have HBE : Hid (Below wr.heap.size wr (wr.alloc (.cells #[.int .i64 (f k).who, .int .i64 (f k).bas, .int .i64 (f k).snc] 23))) := hBE
            generalize f k = e at *
            clear hBE
            by_cases g1 : bs ≤ e.bas
            · by_cases g2 : e.bas < bs + (n : Int)
              · go_wp2_with fail
                go_ret
                exact ⟨ret_bool (by rw [HFR.out, HD.out, HD1.out, HD2.out, HBAD.out (by simp [g1, g2])]; rfl), HB.out.trans (HBE.out.mono HB.out.size)⟩
              · go_wp2_with fail
                go_roundw
                case rel => exact ⟨k + 1, by omega, by go_num, HBW.out.trans (HBE.out.mono HBW.out.size), by rw [HS.out, HF.out]; simp; omega⟩
                case measure => simp [intOf]; omega
            · go_wp2_with fail
              go_roundw
              case rel => exact ⟨k + 1, by omega, by go_num, HBW.out.trans (HBE.out.mono HBW.out.size), by rw [HS.out, HF.out]; simp; omega⟩
              case measure => simp [intOf]; omega
          · obtain rfl : k = 64 := by omega
            go_wp2_with fail
            go_ret
            exact ⟨ret_bool (by rw [HFR.out, HD.out, HD1.out, HD2.out, HF.out]; rfl), HB.out⟩
/- Rosters that are written to. -/
theorem RoAt.set3 {w : World} {B : Nat} {f : Nat → En} (h : RoAt w B f) (k : Nat) (hk : k < 64) (a b c : Int) :
    RoAt (((w.setCell ⟨B, k * 3, none⟩ (.int .i64 a)).setCell ⟨B, k * 3 + 1, none⟩ (.int .i64 b)).setCell ⟨B, k * 3 + 2, none⟩ (.int .i64 c)) B (upd f k ⟨a, b, c⟩) := by
  have h3 := row_setCell (row_setCell (row_setCell h (k * 3) (.int .i64 a)) (k * 3 + 1) (.int .i64 b)) (k * 3 + 2) (.int .i64 c)
  rw [rcs_set f k ⟨a, b, c⟩ hk] at h3
  exact h3
theorem set3_below {n : Nat} {w W : World} (h : Below n w W) {B : Nat} (hB : n ≤ B) (i j k : Nat) (a b c : Value) : Below n w (((W.setCell ⟨B, i, none⟩ a).setCell ⟨B, j, none⟩ b).setCell ⟨B, k, none⟩ c) :=
  ((h.setCell (p := ⟨B, i, none⟩) hB a).setCell (p := ⟨B, j, none⟩) hB b).setCell (p := ⟨B, k, none⟩) hB c
theorem set3_other {w : World} {B C : Nat} (h : C ≠ B) (i j k : Nat) (a b c : Value) : (((w.setCell ⟨B, i, none⟩ a).setCell ⟨B, j, none⟩ b).setCell ⟨B, k, none⟩ c).heap[C]? = w.heap[C]? := by
  rw [other_setCell h, other_setCell h, other_setCell h]
theorem owns_block {W W' : World} {b : Nat} {e : TypeId} {sz : Nat} {v : Value} {n : Nat} {xs : List Value} (h : W.ownsRow b e sz v n xs) (hk : ∀ g, b ≤ g → g < W.heap.size → W'.heap[g]? = W.heap[g]?) : W'.ownsRow b e sz v n xs := by
  obtain ⟨h1, h2⟩ := h
  refine ⟨h1, ?_⟩
  rcases h2 with h2 | ⟨g, cap, cur, rfl, h3, h4, r⟩
  · exact .inl h2
  · exact .inr ⟨g, cap, cur, rfl, h3, (hk g h3 (Array.getElem?_eq_some_iff.1 h4).1).trans h4, r⟩
theorem owns_later {W W' : World} {b : Nat} {e : TypeId} {sz : Nat} {v : Value} {n : Nat} {xs : List Value} (h : W.ownsRow b e sz v n xs) (hb : Below W.heap.size W W') : W'.ownsRow b e sz v n xs := owns_block h fun g _ hg => hb.block g hg
theorem owns_wide {W : World} {b b' : Nat} {e : TypeId} {sz : Nat} {v : Value} {n : Nat} {xs : List Value} (h : W.ownsRow b e sz v n xs) (hb : b' ≤ b) : W.ownsRow b' e sz v n xs := by
  obtain ⟨h1, h2⟩ := h
  refine ⟨h1, ?_⟩
  rcases h2 with h2 | ⟨g, cap, cur, rfl, h3, r⟩
  · exact .inl h2
  · exact .inr ⟨g, cap, cur, rfl, by omega, r⟩
theorem owns_slice {W : World} {b : Nat} {e : TypeId} {sz : Nat} {v : Value} {n : Nat} {xs : List Value} (h : W.ownsRow b e sz v n xs) : ∃ a cap, v = .slice a n cap := by
  rcases h.2 with ⟨rfl, rfl⟩ | ⟨g, cap, cur, rfl, _⟩
  · exact ⟨none, 0, rfl⟩
  · exact ⟨_, cap, rfl⟩
theorem infoSeat : (Tryd.prog.info? 38).map (fun i => (i.zero, i.size, i.bytes)) = some (some (.agg #[.int .i64 0, .int .i64 0]), 2, 16) := by kernel_rfl
theorem infoSeat_parts : ∃ i, Tryd.prog.info? 38 = some i ∧ i.zero = some (.agg #[.int .i64 0, .int .i64 0]) ∧ i.size = 2 ∧ i.bytes = 16 := by
  have h := infoSeat
  cases hq : Tryd.prog.info? 38 with
  | none => rw [hq] at h; cases h
  | some i =>
    rw [hq] at h
    simp at h
    exact ⟨i, rfl, h.1, h.2.1, h.2.2⟩
theorem cell_two_new (w : World) (x y : Value) (t : TypeId) : ∀ j u, [x, y][j]? = some u → (w.alloc (.cells #[x, y] t)).cell? ((⟨w.heap.size, 0, none⟩ : Addr).add j) = some u := by
  intro j u hu
  match j with
  | 0 =>
    rw [show (⟨w.heap.size, 0, none⟩ : Addr).add 0 = ⟨w.heap.size, 0, none⟩ from rfl, cell_of_row _ _ 0 _ _ _ (heap_alloc_last w _)]
    exact hu
  | 1 =>
    rw [show (⟨w.heap.size, 0, none⟩ : Addr).add 1 = ⟨w.heap.size, 1, none⟩ from rfl, cell_of_row _ _ 1 _ _ _ (heap_alloc_last w _)]
    exact hu
  | j + 2 => simp at hu
theorem zero25 : zeroCells25 = rcs fun _ => zE := by kernel_rfl
theorem results_ro2 {fn : Func} {p t : Tmp} (hf : fn.results = #[.cell p 25, .tmp t]) (tmps : Array Value) (W : World) (B : Nat) (f : Nat → En) (hp : tmps[p]? = some (.pointer (some ⟨B, 0, none⟩))) (hb : RoAt W B f) :
    (results fn tmps).run Tryd.prog W = .ok (.tuple #[.agg (rcs f), tmps.getD t undef]) W := by
  have h := run_loadVar_row W B _ 25 _ _ _ hb Tryd.underlying25 rfl (by rw [rcs_size]; exact info25)
  simp [results, hf, hp, asAddr, h]
end Go.Proofs.YtieagbjempndnabDoor
