/- Contracts: People of the program. -/
import Derived.Test.YtieagbjempndnaaDoorRsI
import Derived.Test.YtieagbjempndnaaDoorRsMath8
import Derived.Test.YtieagbjempndnaaDoorShelf2
import Derived.Test.YtieagbjempndnaaDoorShelf3
import Derived.Shelf.SortM.Plain
import Derived.Shelf.SortM.SortNone
import Derived.Shelf.SlicesG.CompactI
namespace Go.Proofs.YtieagbjempndnaaDoor
open Go.RowKit Go.Maps Go.Shelf Go.Sort
set_option linter.unusedVariables false
set_option linter.unusedSimpArgs false

def iv (l : List Int) : List Value := l.map (Value.int .i64)
@[simp] theorem iv_length (l : List Int) : (iv l).length = l.length := by simp [iv]
theorem iv_snoc (l : List Int) (x : Int) : iv (l ++ [x]) = iv l ++ [.int .i64 x] := by simp [iv]
/- A row that has been put anew. -/
theorem heap_put {w : World} {g n : Nat} {cur : Array Value} {e : TypeId} {fr : Nat × Nat} (d : Array Int) (hb : w.heap[g]? = some (.cells cur e fr)) : (putRow (Value.int .i64) (Sort.ahead w n) g 0 d).heap[g]? = some (.cells (putCells (Value.int .i64) 0 d cur) e fr) := by
  simp [putRow, mapBlock, Sort.ahead, Array.getElem?_modify, hb, onCells]
theorem heap_put_ne {w : World} {g n k : Nat} (d : Array Int) (hne : k ≠ g) : (putRow (Value.int .i64) (Sort.ahead w n) g 0 d).heap[k]? = w.heap[k]? := by
  have : ¬ g = k := fun e => hne e.symm
  simp [putRow, mapBlock, Sort.ahead, Array.getElem?_modify, this]
theorem put_size {w : World} {g n : Nat} (d : Array Int) : (putRow (Value.int .i64) (Sort.ahead w n) g 0 d).heap.size = w.heap.size := by
  simp [putRow, mapBlock, Sort.ahead]
theorem put_below {n0 : Nat} {w0 w : World} {g n : Nat} (h : Below n0 w0 w) (hg : n0 ≤ g) (d : Array Int) : Below n0 w0 (putRow (Value.int .i64) (Sort.ahead w n) g 0 d) :=
  h.trans ⟨rfl, rfl, rfl, by rw [put_size]; exact Nat.le_refl _, fun k hk => heap_put_ne d (by omega)⟩
theorem grow_below {n0 : Nat} {w0 w : World} (h : Below n0 w0 w) (hn : n0 ≤ w.heap.size) (os : Array Obj) : Below n0 w0 (grow w os) :=
  h.trans ⟨rfl, rfl, rfl, by simp [grow], fun k hk => heap_grow_old _ _ (by omega)⟩
theorem put_cells (cur : Array Value) (d : List Int) (h : d.length ≤ cur.size) : (putCells (Value.int .i64) 0 d.toArray cur).size = cur.size ∧ (putCells (Value.int .i64) 0 d.toArray cur).toList.take d.length = iv d := by
  refine ⟨by simp [putCells], ?_⟩
  apply List.ext_getElem?
  intro j
  by_cases hj : j < d.length
  · rw [List.getElem?_take_of_lt hj]
    have hc : j < cur.size := by omega
    simp [putCells, iv, hj, hc]
  · rw [List.getElem?_eq_none (by simp; omega), List.getElem?_eq_none (by simp; omega)]
theorem take_less {l m : List Value} {n k : Nat} (h : l.take n = m) (hk : k ≤ n) : l.take k = m.take k := by rw [← h, List.take_take, Nat.min_eq_left hk]
/- A row of the call's own, sorted; and each once. -/
theorem owns_holds {W : World} {b g cap : Nat} {l : List Int} (h : W.ownsRow b 3 1 (.slice (some ⟨g, 0, none⟩) l.length cap) l.length (iv l)) : Holds (Value.int .i64) W g 0 l.toArray := by
  intro j hj
  have hj' : j < l.length := by simpa using hj
  rcases h.2 with ⟨h0, _⟩ | ⟨g', cap', cur, e, h3, h4, _⟩
  · cases h0
  · simp at e
    obtain ⟨rfl, rfl⟩ := e
    refine ⟨?_, by simp [World.frozen?, h4]⟩
    have hc := World.ownsRow.cellAt h j (by omega)
    rw [Nat.zero_add, hc]
    simp [iv, hj']
set_option maxHeartbeats 400000 in
theorem compact_none (a : Option Addr) (c : Nat) (w : World) : Calls Tryd.prog 31 #[.slice a 0 c] w fun e w' => e = .returned (.slice a 0 c) ∧ w' = w := by
  go_enter Tryd.func31, Tryd.ntmps31
  go_wp2
  go_ret
  exact ⟨rfl, rfl⟩
set_option maxRecDepth 100000 in
set_option maxHeartbeats 2000000 in
theorem people_any (f : Nat → En) (w : World) :
    Calls Tryd.prog 16 #[.agg (rcs f)] w fun e w' => (∃ v, e = .returned v ∧ w'.ownsRow (w.heap.size + 1) 3 1 v (ppl f).length (iv (ppl f))) ∧ Below w.heap.size w w' := by
  have hn := RoAt.new w f
  have hB1 := alloc_ro w f
  obtain ⟨i0, hi, hz0, hz1, hz2⟩ := info_parts infoInt
  go_enter Tryd.func16, Tryd.ntmps16
  go_upto_region 2 with (fail)
  have hs1 : w.heap.size + 1 ≤ (w.alloc (.cells (rcs f) 25)).heap.size := by simp
  generalize w.alloc (.cells (rcs f) 25) = w1 at *
  refine wp_region_lit ?_
  refine ld25 hn rfl _ rfl rfl ?_
  obtain ⟨c, hc⟩ : ∃ c, rcs f = c := ⟨_, rfl⟩
  rw [hc]
  go_wp2_with fail
  go_loopw [3, 7] (fun v i wx => ∃ (k : Nat) (vl : Value), k ≤ 64 ∧ i = .int .i64 (k : Int) ∧ vl = v ∧ Below w.heap.size w wx ∧ w.heap.size + 1 ≤ wx.heap.size ∧ wx.ownsRow (w.heap.size + 1) 3 1 vl (wl f k).length (iv (wl f k))) (fun _ i _ => 64 - (intOf i).toNat)
  case atStart => exact ⟨0, _, by omega, rfl, rfl, hB1, hs1, World.ownsRow_nil _ _ _ _⟩
  case round =>
    obtain ⟨k, vl, hk, rfl, rfl, hb, hsz, hrw⟩ := hrel
    have HB : Hid (Below w.heap.size w wr) := hb
    have HR : Hid (wr.ownsRow (w.heap.size + 1) 3 1 vl (wl f k).length (iv (wl f k))) := hrw
    clear hb hrw
    by_cases hk8 : k < 64
    · have k8 : (k : Int) < 64 := by omega
      have ht := isTaken_any (f k)
      have hix := idx25 f k hk8
      rw [hc] at hix
      have hE := EnAt.new wr (f k)
      have hBE := alloc_en wr (f k)
      have HW : Hid (wl f (k + 1) = if tkn (f k) then wl f k ++ [(f k).who] else wl f k) := rfl
      have hlen := wl_len f k
      obtain ⟨l, hl⟩ : ∃ l, wl f k = l := ⟨_, rfl⟩
      rw [hl] at HR HW hlen
      generalize f k = e at *
      clear hl hc
      go_wp2_with fail
      refine (ht _).mono ?_
      rintro r w2 ⟨rfl, hb2⟩
      have hE2 := hE.later hb2
      have hb3 := hBE.trans (hb2.mono hBE.size)
      have HB2 : Hid (Below w.heap.size w w2) := HB.out.trans (hb3.mono HB.out.size)
      have HR2 : Hid (w2.ownsRow (w.heap.size + 1) 3 1 vl l.length (iv l)) := owns_later HR.out hb3
      have hsz2 : w.heap.size + 1 ≤ w2.heap.size := Nat.le_trans hsz hb3.size
      clear hE hBE hb2 hb3 ht hix HB HR hsz
      cases hkt : tkn e with
      | false =>
        go_wp2_with fail
        go_roundw
        case rel => exact ⟨k + 1, _, by omega, by go_num, rfl, HB2.out, hsz2, by rw [HW.out, hkt]; exact HR2.out⟩
        case measure => simp [intOf]; omega
      | true =>
        obtain ⟨c0, c1, c2⟩ := hE2.cells
        obtain ⟨a1, cap1, rfl⟩ := owns_slice HR2.out
        obtain ⟨N, hN⟩ : ∃ N, l.length = N := ⟨_, rfl⟩
        have hrow : w2.ownsRow (w.heap.size + 1) 3 1 (.slice a1 N cap1) N (iv l) := by have h := HR2.out; rw [hN] at h; exact h
        rw [hN] at hlen ⊢
        have HN : Hid (l.length = N) := hN
        clear hN
        go_upto_region 7 with (at_builtin; (refine wpList_append_own _ rfl _ _ 32 rfl (w.heap.size + 1) 3 i0 _ 1 8 Tryd.underlying32 hi hz0 hz1 hz2 rfl (by decide) (.slice a1 N cap1) N (iv l) rfl (hrow.alloc _) ⟨w2.heap.size, 0, none⟩ 1 1 [.int .i64 e.who] rfl rfl (cell_one_new _ _ _) (by simp [Value.oneCell']) (by unfold maxLen; omega) (by omega) (by simp; omega) ?_); intro v' w3 hown' hg3 _)
        have HB3 : Hid (Below w.heap.size w w3) := below_grown (HB2.out.alloc HB2.out.size _) hg3 (by have := HB2.out.size; simp; omega) fun j hj => by
          rcases Nat.lt_or_ge j (w.heap.size + 1) with hlt | hge
          · exact absurd hj.symm (row_far hrow hlt)
          · omega
        have HR3 : Hid (w3.ownsRow (w.heap.size + 1) 3 1 v' (l ++ [e.who]).length (iv (l ++ [e.who]))) := by
          show w3.ownsRow _ _ _ _ _ _
          rw [iv_snoc, List.length_append, HN.out]
          exact hown'
        have hsz3 : w.heap.size + 1 ≤ w3.heap.size := Nat.le_trans hsz2 (Nat.le_trans (by simp) hg3.size)
        clear hown' hg3 hrow hsz2 HB2 HR2 hE2 c0 c1 c2
        go_wp2_with fail
        go_roundw
        case rel => exact ⟨k + 1, _, by omega, by go_num, rfl, HB3.out, hsz3, by rw [HW.out, hkt]; exact HR3.out⟩
        case measure => simp [intOf]; omega
    · obtain rfl : k = 64 := by omega
      have hlen := wl_len f 64
      have hperm := srt_len f
      have hpl := ppl_len_le f
      clear hc
      rcases HR.out.2 with ⟨rfl, h0⟩ | ⟨g, cap, cur, rfl, h3, h4, h5, h6, h7, h8⟩
      · have hso := AnyM.slices_Sort_int_none Tryd.sortL none 0 wr
        change Calls Tryd.prog 30 _ _ _ at hso
        have hp0 : ppl f = [] := List.length_eq_zero_iff.1 (by omega)
        go_wp2_with fail
        refine hso.mono ?_
        rintro r w2 ⟨rfl, rfl⟩
        go_wp2_with fail
        refine (compact_none none 0 w2).mono ?_
        rintro r w3 ⟨rfl, rfl⟩
        go_wp2_with fail
        go_ret
        refine ⟨⟨_, rfl, ?_⟩, HB.out⟩
        rw [hp0]
        exact World.ownsRow_nil _ _ _ _
      · have hso := AnyM.slices_Sort_int Tryd.sortL g 0 cap (wl f 64) wr (owns_holds HR.out) (Array.getElem?_eq_some_iff.1 h4).1 (by omega)
        change Calls Tryd.prog 30 _ _ _ at hso
        obtain ⟨N, hN⟩ : ∃ N, (wl f 64).length = N := ⟨_, rfl⟩
        rw [hN] at hso ⊢
        have HN : Hid ((wl f 64).length = N) := hN
        clear hN
        go_wp2_with fail
        refine hso.mono ?_
        rintro r w2 ⟨rfl, n, os, hw2⟩
        have hg : g < wr.heap.size := (Array.getElem?_eq_some_iff.1 h4).1
        have hb2 : Below w.heap.size w w2 := by
          rw [hw2]
          exact grow_below (put_below (n := n) HB.out (show w.heap.size ≤ g by omega) (srt f).toArray) (by rw [put_size]; exact HB.out.size) os
        have hh2 : w2.heap[g]? = some (.cells (putCells (Value.int .i64) 0 (srt f).toArray cur) 3 (0, 0)) := by
          rw [hw2]
          exact (heap_grow_old _ _ (by rw [put_size]; exact hg)).trans (heap_put _ h4)
        have hsN : (srt f).length = N := hperm.trans HN.out
        have hN5 : N ≤ cap := by have := HN.out; omega
        obtain ⟨p1, p2⟩ := put_cells cur (srt f) (by rw [hsN, h7]; omega)
        have hrow2 : w2.ownsRow (w.heap.size + 1) 3 1 (.slice (some ⟨g, 0, none⟩) (srt f).length cap) (srt f).length (iv (srt f)) :=
          ⟨by simp, .inr ⟨g, cap, _, rfl, h3, hh2, by omega, h6, by rw [p1, h7], by rw [Nat.mul_one]; exact p2⟩⟩
        have hco := AnyG.slices_Compact_int Tryd.compL g 0 cap (srt f) w2 (owns_holds hrow2) (by omega) (by omega)
        change Calls Tryd.prog 31 _ _ _ at hco
        rw [hsN] at hco
        clear hso hw2 hrow2
        go_wp2_with fail
        refine hco.mono ?_
        rintro r w3 ⟨rfl, q, hw3⟩
        have hb3 : Below w.heap.size w w3 := by rw [hw3]; exact put_below hb2 (by omega) _
        have hh3 : w3.heap[g]? = some (.cells (putCells (Value.int .i64) 0 (ppl f ++ List.replicate (N - (ppl f).length) 0).toArray (putCells (Value.int .i64) 0 (srt f).toArray cur)) 3 (0, 0)) := by rw [hw3]; exact heap_put _ hh2
        have hpl' : (ppl f).length ≤ N := by omega
        obtain ⟨q1, q2⟩ := put_cells (putCells (Value.int .i64) 0 (srt f).toArray cur) (ppl f ++ List.replicate (N - (ppl f).length) 0) (by rw [p1, h7]; simp; omega)
        have HR3 : Hid (w3.ownsRow (w.heap.size + 1) 3 1 (.slice (some ⟨g, 0, none⟩) (ppl f).length cap) (ppl f).length (iv (ppl f))) := by
          refine ⟨by simp, .inr ⟨g, cap, _, rfl, h3, hh3, by omega, h6, by rw [q1, p1, h7], ?_⟩⟩
          have h9 := take_less q2 (show (ppl f).length ≤ _ by simp)
          rw [Nat.mul_one, h9]
          simp [iv]
        have HB3 : Hid (Below w.heap.size w w3) := hb3
        clear hco hw3 hh3 hb3 q1 q2 p1 p2 hh2 hb2 h8
        obtain ⟨M, hM⟩ : ∃ M, (ppl f).length = M := ⟨_, rfl⟩
        rw [show (Lib.compact (srt f)).length = M from hM]
        have HM : Hid ((ppl f).length = M) := hM
        clear hM
        go_wp2_with fail
        go_ret
        refine ⟨⟨_, rfl, ?_⟩, HB3.out⟩
        have h := HR3.out
        rw [HM.out] at h ⊢
        exact h
end Go.Proofs.YtieagbjempndnaaDoor
