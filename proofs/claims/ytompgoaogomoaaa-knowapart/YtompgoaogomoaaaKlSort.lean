/- Contract: the library's sort at a slice of keys of the call's own. -/
import Derived.Test.YtompgoaogomoaaaKlSortM
import Derived.Test.YtompgoaogomoaaaShelf
import Derived.Test.YtompgoaogomoaaaKeyC
import Derived.Shelf.SlSortCmp.NoneTotal
import Derived.Sort.OwnSorted
namespace Go.Proofs.Ytompgoaogomoaaa.Rt
open Go.Sort Go.Proofs Go.ChangeShapes Go.WideShapes Go.Shelf Go.RowKit Go.Lib

def encK (x : Int × Int) : List Value := [.int .i64 x.1, .int .i64 x.2]
/- The cells of keys, one behind the other. -/
def cellsL (l : List (Int × Int)) : List Value := l.flatMap fun p => [.int .i64 p.1, .int .i64 p.2]
theorem cellsL_append (l m : List (Int × Int)) : cellsL (l ++ m) = cellsL l ++ cellsL m := by simp [cellsL]
theorem cellsL_cons (x : Int × Int) (l : List (Int × Int)) : cellsL (x :: l) = .int .i64 x.1 :: .int .i64 x.2 :: cellsL l := by simp [cellsL]
theorem cellsL_length (l : List (Int × Int)) : (cellsL l).length = l.length * 2 := by
  induction l with
  | nil => rfl
  | cons x l ih => rw [cellsL_cons]; simp only [List.length_cons]; omega
theorem cellsL_get : ∀ (l : List (Int × Int)) (i : Nat), i < l.length → (cellsL l)[i * 2]? = some (.int .i64 (l.getD i (0, 0)).1) ∧ (cellsL l)[i * 2 + 1]? = some (.int .i64 (l.getD i (0, 0)).2)
  | [], i, h => by cases h
  | x :: l, 0, _ => by rw [cellsL_cons]; simp
  | x :: l, i + 1, h => by
    have := cellsL_get l i (by simpa using h)
    rw [cellsL_cons, show (i + 1) * 2 = i * 2 + 2 by omega]
    simpa using this
theorem flat_cells (l : List (Int × Int)) : flatK encK 2 l.toArray = (cellsL l).toArray := by
  apply Array.ext
  · simp [cellsL_length]
  · intro t h1 h2
    have ht : t < l.length * 2 := by simpa using h1
    have e1 : (flatK encK 2 l.toArray)[t] = (flatK encK 2 l.toArray)[t]! := (getElem!_pos _ t h1).symm
    rw [e1, get_flatK _ _ _ _ (by simpa using ht)]
    have hd : t / 2 < l.length := by omega
    have hg := cellsL_get l (t / 2) hd
    have e3 : l.toArray[t / 2]! = l.getD (t / 2) (0, 0) := by simp [hd]
    rw [e3]
    have hm : t % 2 = 0 ∨ t % 2 = 1 := by omega
    rcases hm with hm | hm
    · have e4 : t / 2 * 2 = t := by omega
      rw [e4] at hg
      have := hg.1
      rw [List.getElem?_eq_getElem (by rw [cellsL_length]; exact ht)] at this
      simp only [Option.some.injEq] at this
      simp only [List.getElem_toArray, this, hm, encK]
      rfl
    · have e4 : t / 2 * 2 + 1 = t := by omega
      rw [e4] at hg
      have := hg.2
      rw [List.getElem?_eq_getElem (by rw [cellsL_length]; exact ht)] at this
      simp only [Option.some.injEq] at this
      simp only [List.getElem_toArray, this, hm, encK]
      rfl
theorem holds_of_blockK {w : World} {g : Nat} {cur : Array Value} {e : TypeId} {L : List (Int × Int)} (hb : w.heap[g]? = some (.cells cur e (0, 0))) (ht : cur.toList.take (L.length * 2) = cellsL L) : HoldsK encK 2 w g 0 L.toArray := by
  unfold HoldsK
  rw [flat_cells]
  intro j hj
  have hj' : j < L.length * 2 := by simpa [cellsL_length] using hj
  refine ⟨?_, by simp [World.frozen?, hb]⟩
  have h1 : (cur.toList.take (L.length * 2))[j]? = (cellsL L)[j]? := by rw [ht]
  rw [List.getElem?_take_of_lt hj'] at h1
  simp only [World.cell?, hb, Nat.zero_add]
  simp only [Option.isSome_none, Bool.false_eq_true, if_false]
  rw [← Array.getElem?_toList, h1]
  have hjl : j < (cellsL L).length := by rw [cellsL_length]; exact hj'
  simp [hjl]
theorem heap_sortedK {w : World} {g n : Nat} {os : Array Obj} {cur : Array Value} {e : TypeId} {fr : Nat × Nat} (d : Array Value) (hb : w.heap[g]? = some (.cells cur e fr)) :
    (grow (putRow id (Sort.ahead w n) g 0 d) os).heap[g]? = some (.cells (putCells id 0 d cur) e fr) := by
  have hg : g < w.heap.size := (Array.getElem?_eq_some_iff.1 hb).1
  rw [heap_grow_old _ _ (by simpa using hg)]
  simp [putRow, mapBlock, Sort.ahead, Array.getElem?_modify, hb, onCells]
theorem grownBy_sortedK {w : World} {g n : Nat} {os : Array Obj} (d : Array (Int × Int)) : w.grownBy (sortWorldK encK 2 w g 0 n d os) (some g) := by
  unfold sortWorldK putRowK
  refine ⟨rfl, rfl, rfl, by simp, fun k hk hne => ?_⟩
  rw [heap_grow_old _ _ (by simpa using hk)]
  have : g ≠ k := fun e => hne (by rw [e])
  simp [putRow, mapBlock, Sort.ahead, Array.getElem?_modify, this]
theorem take_putCellsK (cur : Array Value) (ts : List Value) (h : ts.length ≤ cur.size) : (putCells id 0 ts.toArray cur).toList.take ts.length = ts := by
  apply List.ext_getElem?
  intro j
  by_cases hj : j < ts.length
  · rw [List.getElem?_take_of_lt hj, Array.getElem?_toList]
    simp [putCells, hj, show j < cur.size by omega]
  · rw [List.getElem?_take_eq_none (by omega), List.getElem?_eq_none (by omega)]
/- Behind the sort the same slice owns the sorted keys. -/
theorem ownsRow_sortedK {w : World} {base g cap n : Nat} {e : TypeId} {os : Array Obj} {cur : Array Value} {L M : List (Int × Int)} (hl : M.length = L.length) (hbase : base ≤ g) (hb : w.heap[g]? = some (.cells cur e (0, 0)))
    (h1 : L.length ≤ cap) (h2 : cap ≤ maxLen) (h3 : cur.size = cap * 2) :
    (sortWorldK encK 2 w g 0 n M.toArray os).ownsRow base e 2 (.slice (some ⟨g, 0, none⟩) L.length cap) L.length (cellsL M) := by
  unfold sortWorldK putRowK
  rw [flat_cells]
  refine ⟨by rw [cellsL_length, hl], .inr ⟨g, cap, _, rfl, hbase, heap_sortedK _ hb, h1, h2, by simp [putCells, h3], ?_⟩⟩
  have := take_putCellsK cur (cellsL M) (by rw [cellsL_length, hl]; omega)
  rwa [cellsL_length, hl] at this

theorem two_grow (W : World) (o o' : Obj) : (W.alloc o).alloc o' = grow (W.drewN 0) (#[o] ++ #[o']) := by rw [alloc_eq_grow, alloc_eq_grow, grow_grow]; rfl
theorem sort_any (g cap : Nat) (L : List (Int × Int)) (w : World) (hH : HoldsK encK 2 w g 0 L.toArray) (hg : g < w.heap.size) (hsz : L.length < 4611686018427387904) :
    Calls Try.prog 56 #[.slice (some ⟨g, 0, none⟩) L.length cap, .func (.func 47) #[] #[]] w fun e w' => e = .returned (.tuple #[]) ∧ ∃ n os, w' = sortWorldK encK 2 w g 0 n (L.mergeSort fun x y => !(ltOf cmpK) y x).toArray os := by
  have eg : ∀ args w, (callFunc 47 args).run Try.prog w = .ok (.enter 47 args) w := enters_of Try.func47 (by kernel_rfl) rfl
  have hcmp : CmpLays Try.prog 47 #[] encK 2 cmpK g 0 L.toArray.size w := fun m os dk _ x y =>
    (compare_any x.1 x.2 y.1 y.2 _).mono fun e w' ⟨he, hw⟩ => ⟨he, 0, _, hw.trans (two_grow _ _ _)⟩
  have hcon := AnyQ.slices_SortFunc_total Try.sortL 2 Try.isAgg33 Try.sizeOf33 encK (fun _ => rfl) (fun x v hv => by simp [encK] at hv; rcases hv with rfl | rfl <;> rfl) cmpK swoK 47 #[] g 0 cap L.toArray w eg hcmp hH hg (by simpa using hsz) totK
  change Calls Try.prog 56 _ _ _ at hcon
  simpa using hcon
end Go.Proofs.Ytompgoaogomoaaa.Rt
