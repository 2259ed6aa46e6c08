/- Contracts: the document's seen, read. -/
import Derived.Test.YtompgoaogomoaaaKnE
import Derived.Maps.StringElems
namespace Go.Proofs.Ytompgoaogomoaaa.Kn
open Go.RowKit Go.Maps
open Rt (Gd gd gd_yes gd_no rGood_any)
set_option linter.unusedVariables false
set_option linter.unusedSimpArgs false

def RdX (w : World) (a : Option Addr) (l : List Sd) : Prop :=
  ∀ i, i < l.length → ∃ b o, a = some ⟨b, o, none⟩ ∧ w.cell? ⟨b, o + i * 4, none⟩ = some (.int .i64 (l.getD i (0, ((0, 0), ⟨#[]⟩))).1) ∧ w.cell? ⟨b, o + i * 4 + 1, none⟩ = some (.int .i64 (l.getD i (0, ((0, 0), ⟨#[]⟩))).2.1.1) ∧ w.cell? ⟨b, o + i * 4 + 2, none⟩ = some (.int .i64 (l.getD i (0, ((0, 0), ⟨#[]⟩))).2.1.2) ∧ w.cell? ⟨b, o + i * 4 + 3, none⟩ = some (.string (l.getD i (0, ((0, 0), ⟨#[]⟩))).2.2)
section
variable {w w' : World} {N : Nat}
theorem RdX.later {a : Option Addr} {l : List Sd} (h : RdX w a l) (hb : Below w.heap.size w w') : RdX w' a l := fun i hi => by
  obtain ⟨b, o, e, c0, c1, c2, c3⟩ := h i hi
  exact ⟨b, o, e, cell_later hb c0, cell_later hb c1, cell_later hb c2, cell_later hb c3⟩
theorem rdX_of {a : Option Addr} {c : Nat} {l : List Sd} (h : w.ownsRow N 37 4 (.slice a l.length c) l.length (l.flatMap sC)) : RdX w a l := fun i hi => by
  rcases h.2 with ⟨h0, h1⟩ | ⟨g, cap, cur, h5, _⟩
  · omega
  · simp at h5
    obtain ⟨rfl, rfl⟩ := h5
    refine ⟨g, 0, rfl, ?_, ?_, ?_, ?_⟩
    · rw [Nat.zero_add, h.cellAt (i * 4) (by omega), show i * 4 = i * 4 + 0 from rfl, fm_get (f := sC) (m := 4) (fun _ => rfl) (0, ((0, 0), ⟨#[]⟩)) hi (by omega)]; rfl
    · rw [Nat.zero_add, h.cellAt (i * 4 + 1) (by omega), fm_get (f := sC) (m := 4) (fun _ => rfl) (0, ((0, 0), ⟨#[]⟩)) hi (by omega)]; rfl
    · rw [Nat.zero_add, h.cellAt (i * 4 + 2) (by omega), fm_get (f := sC) (m := 4) (fun _ => rfl) (0, ((0, 0), ⟨#[]⟩)) hi (by omega)]; rfl
    · rw [Nat.zero_add, h.cellAt (i * 4 + 3) (by omega), fm_get (f := sC) (m := 4) (fun _ => rfl) (0, ((0, 0), ⟨#[]⟩)) hi (by omega)]; rfl
theorem int_ne {x y : Int} (h : x ≠ y) : (x == y) = false := beq_eq_false_iff_ne.2 h
theorem str_ne {X Y : ByteArray} (h : X ≠ Y) : (X.toList == Y.toList) = false := by
  rw [beq_eq_false_iff_ne, ByteArray.toList_eq, ByteArray.toList_eq]
  intro e
  exact h (ByteArray.ext (Array.ext' e))
theorem ne4 {α : Type} {y0 b0 y1 b1 y2 b2 : Int} {y3 b3 : α} (h : ¬ (y0 = b0 ∧ y1 = b1 ∧ y2 = b2 ∧ y3 = b3)) : (y0 == b0) = false ∨ (y0 = b0 ∧ (y1 == b1) = false) ∨ (y0 = b0 ∧ y1 = b1 ∧ (y2 == b2) = false) ∨ (y0 = b0 ∧ y1 = b1 ∧ y2 = b2 ∧ y3 ≠ b3) := by
  by_cases h0 : y0 = b0
  · by_cases h1 : y1 = b1
    · by_cases h2 : y2 = b2
      · exact .inr (.inr (.inr ⟨h0, h1, h2, fun h3 => h ⟨h0, h1, h2, h3⟩⟩))
      · exact .inr (.inr (.inl ⟨h0, h1, beq_eq_false_iff_ne.2 h2⟩))
    · exact .inr (.inl ⟨h0, beq_eq_false_iff_ne.2 h1⟩)
  · exact .inl (beq_eq_false_iff_ne.2 h0)
theorem boxed4 (w : World) (x y z u : Value) (t : TypeId) : (w.alloc (.cells #[x, y, z, u] t)).cell? ⟨w.heap.size, 0, none⟩ = some x ∧ (w.alloc (.cells #[x, y, z, u] t)).cell? ⟨w.heap.size, 1, none⟩ = some y ∧ (w.alloc (.cells #[x, y, z, u] t)).cell? ⟨w.heap.size, 2, none⟩ = some z ∧ (w.alloc (.cells #[x, y, z, u] t)).cell? ⟨w.heap.size, 3, none⟩ = some u := by
  have h := _root_.Go.heap_alloc_last w (.cells #[x, y, z, u] t)
  exact ⟨cell_of_row _ _ 0 _ _ _ h, cell_of_row _ _ 1 _ _ _ h, cell_of_row _ _ 2 _ _ _ h, cell_of_row _ _ 3 _ _ _ h⟩
end
set_option maxRecDepth 100000 in
set_option maxHeartbeats 4000000 in
theorem seen_any (w : World) (p : Nat) (l : List B2) (aT : Option Addr) (cT : Nat) (b0 b1 b2 b3 : Int) (hc : w.cell? ⟨p, 1, none⟩ = some (.slice aT l.length cT)) (hr : RdB w aT l) (hl : l.length < 4611686018427387904) :
    Calls Try.prog 40 #[.pointer (some ⟨p, 0, none⟩), .agg #[.int .i64 b0, .int .i64 b1, .int .i64 b2, .int .i64 b3] ] w fun e w' => (∃ v, e = .returned (.bool v) ∧ (v = true ↔ ((b0, b1), (b2, b3)) ∈ l)) ∧ Below w.heap.size w w' := by
  obtain ⟨n, hn⟩ : ∃ n, l.length = n := ⟨_, rfl⟩
  have HNE : Hid (l.length = n) := hn
  have HRT : Hid (RdB w aT l) := hr
  rw [hn] at hc hl
  have hb1 : Below w.heap.size w (w.alloc (.cells #[.int .i64 b0, .int .i64 b1, .int .i64 b2, .int .i64 b3] 35)) := Rt.below1 _ _
  obtain ⟨x0, x1, x2, x3⟩ := boxed4 w (.int .i64 b0) (.int .i64 b1) (.int .i64 b2) (.int .i64 b3) 35
  have hq : w.heap.size < (w.alloc (.cells #[.int .i64 b0, .int .i64 b1, .int .i64 b2, .int .i64 b3] 35)).heap.size := by rw [World.size_alloc]; omega
  have c1 := cell_later hb1 hc
  go_enter Try.func40, Try.ntmps40
  go_upto_region 1 with (fail)
  generalize w.alloc (.cells #[.int .i64 b0, .int .i64 b1, .int .i64 b2, .int .i64 b3] 35) = w1 at *
  have HB1 : Hid (Below w.heap.size w w1) := hb1
  obtain ⟨Q, hQ⟩ : ∃ Q, w.heap.size = Q := ⟨_, rfl⟩
  rw [hQ] at x0 x1 x2 x3 hq ⊢
  have HQ : Hid (Q < w1.heap.size ∧ w1.cell? ⟨Q, 0, none⟩ = some (.int .i64 b0) ∧ w1.cell? ⟨Q, 1, none⟩ = some (.int .i64 b1) ∧ w1.cell? ⟨Q, 2, none⟩ = some (.int .i64 b2) ∧ w1.cell? ⟨Q, 3, none⟩ = some (.int .i64 b3)) := ⟨hq, x0, x1, x2, x3⟩
  clear hb1 hc hq hQ hn hr x0 x1 x2 x3
  go_wp2_with fail
  go_loopw [12] (fun i wx => ∃ k : Nat, k ≤ n ∧ i = .int .i64 (k : Int) ∧ Below w1.heap.size w1 wx ∧ ∀ j, j < k → l.getD j ((0, 0), (0, 0)) ≠ ((b0, b1), (b2, b3))) (fun i _ => n - (intOf i).toNat)
  case atStart => exact ⟨0, by omega, rfl, Below.refl _ _, fun j hj => by omega⟩
  case round =>
    obtain ⟨k, hk, rfl, hb, hne⟩ := hrel
    have HB2 : Hid (Below w.heap.size w wr) := Rt.Below.then HB1.out hb
    have HNQ : Hid (∀ j, j < k → l.getD j ((0, 0), (0, 0)) ≠ ((b0, b1), (b2, b3))) := hne
    have hbw : Below w1.heap.size w1 wr := hb
    have HBW : Hid (Below w1.heap.size w1 wr) := hb
    clear hne hb c1
    by_cases hkn : k < n
    · have hkT : k < l.length := by rw [HNE.out]; exact hkn
      obtain ⟨a, o, ha, c0, c1, c2, c3⟩ := (HRT.out.later HB2.out) k hkT
      have HM : Hid (l.getD k ((0, 0), (0, 0)) ∈ l) := getD_of hkT
      obtain ⟨y, hy⟩ : ∃ y, l.getD k ((0, 0), (0, 0)) = y := ⟨_, rfl⟩
      have HY : Hid (l.getD k ((0, 0), (0, 0)) = y) := hy
      rw [hy] at c0 c1 c2 c3 HM
      subst ha
      obtain ⟨⟨y0, y1⟩, ⟨y2, y3⟩⟩ := y
      dsimp only at c0 c1 c2 c3
      obtain ⟨q0, q1, q2, q3, q4⟩ := HQ.out
      have x0 := cell_later hbw q1
      have x1 := cell_later hbw q2
      have x2 := cell_later hbw q3
      have x3 := cell_later hbw q4
      have k1 : (0 : Int) ≤ (k : Int) := by omega
      have k2 : (k : Int) < (n : Int) := by omega
      have x0a := (World.cell?_alloc_some wr ⟨Q, 0, none⟩ (.cells #[.int .i64 y0, .int .i64 y1, .int .i64 y2, .int .i64 y3] 35) (by rw [x0]; rfl)).trans x0
      have x1a := (World.cell?_alloc_some wr ⟨Q, 1, none⟩ (.cells #[.int .i64 y0, .int .i64 y1, .int .i64 y2, .int .i64 y3] 35) (by rw [x1]; rfl)).trans x1
      have x2a := (World.cell?_alloc_some wr ⟨Q, 2, none⟩ (.cells #[.int .i64 y0, .int .i64 y1, .int .i64 y2, .int .i64 y3] 35) (by rw [x2]; rfl)).trans x2
      have x3a := (World.cell?_alloc_some wr ⟨Q, 3, none⟩ (.cells #[.int .i64 y0, .int .i64 y1, .int .i64 y2, .int .i64 y3] 35) (by rw [x3]; rfl)).trans x3
      clear hy hbw q0 q1 q2 q3 q4
      by_cases he : ((y0, y1), (y2, y3)) = ((b0, b1), (b2, b3))
      · have HE : Hid (((b0, b1), (b2, b3)) ∈ l) := by show ((b0, b1), (b2, b3)) ∈ l; rw [← he]; exact HM.out
        obtain ⟨rfl, rfl⟩ := he
        go_wp2_with fail
        go_ret
        exact ⟨⟨true, rfl, by simp [HE.out]⟩, Rt.Below.more HB2.out _⟩
      · have HNEQ : Hid (((y0, y1), (y2, y3)) ≠ ((b0, b1), (b2, b3))) := he
        rcases ne4 (y0 := y0) (b0 := b0) (y1 := y1) (b1 := b1) (y2 := y2) (b2 := b2) (y3 := y3) (b3 := b3) (by rintro ⟨rfl, rfl, rfl, rfl⟩; exact he rfl) with e0 | ⟨rfl, e1⟩ | ⟨rfl, rfl, e2⟩ | ⟨rfl, rfl, rfl, e3⟩
        all_goals
          clear he
          try (have e4 := int_ne e3; clear e3)
          go_wp2_with fail
          go_roundw
          case rel =>
            refine ⟨k + 1, by omega, by go_num, HBW.out.trans ((Rt.below1 _ _).mono HBW.out.size), fun j hj => ?_⟩
            rcases Nat.lt_or_ge j k with h | h
            · exact HNQ.out j h
            · obtain rfl : j = k := by omega
              rw [HY.out]; exact HNEQ.out
          case measure => simp [intOf]; omega
    · obtain rfl : k = n := by omega
      have dkn : decide ((k : Int) < (k : Int)) = false := by simp
      have HNL : Hid (¬ ((b0, b1), (b2, b3)) ∈ l) := fun hm => by
        obtain ⟨j, hj, e⟩ := List.mem_iff_getElem.1 hm
        exact HNQ.out j (by rw [← HNE.out]; exact hj) (by rw [List.getD_eq_getElem?_getD, List.getElem?_eq_getElem hj]; exact e)
      clear hbw hk hkn
      go_wp2_with fail
      go_ret
      exact ⟨⟨false, rfl, by simp [HNL.out]⟩, HB2.out⟩
set_option maxRecDepth 100000 in
set_option maxHeartbeats 4000000 in
theorem read_any (w : World) (p : Nat) (l : List Sd) (aT : Option Addr) (cT : Nat) (b0 b1 b2 : Int) (b3 : ByteArray) (hc : w.cell? ⟨p, 2, none⟩ = some (.slice aT l.length cT)) (hr : RdX w aT l) (hl : l.length < 4611686018427387904) :
    Calls Try.prog 43 #[.pointer (some ⟨p, 0, none⟩), .agg #[.int .i64 b0, .int .i64 b1, .int .i64 b2, .string b3] ] w fun e w' => (∃ v, e = .returned (.bool v) ∧ (v = true ↔ (b0, ((b1, b2), b3)) ∈ l)) ∧ Below w.heap.size w w' := by
  obtain ⟨n, hn⟩ : ∃ n, l.length = n := ⟨_, rfl⟩
  have HNE : Hid (l.length = n) := hn
  have HRT : Hid (RdX w aT l) := hr
  rw [hn] at hc hl
  have hb1 : Below w.heap.size w (w.alloc (.cells #[.int .i64 b0, .int .i64 b1, .int .i64 b2, .string b3] 37)) := Rt.below1 _ _
  obtain ⟨x0, x1, x2, x3⟩ := boxed4 w (.int .i64 b0) (.int .i64 b1) (.int .i64 b2) (.string b3) 37
  have hq : w.heap.size < (w.alloc (.cells #[.int .i64 b0, .int .i64 b1, .int .i64 b2, .string b3] 37)).heap.size := by rw [World.size_alloc]; omega
  have c1 := cell_later hb1 hc
  go_enter Try.func43, Try.ntmps43
  go_upto_region 1 with (fail)
  generalize w.alloc (.cells #[.int .i64 b0, .int .i64 b1, .int .i64 b2, .string b3] 37) = w1 at *
  have HB1 : Hid (Below w.heap.size w w1) := hb1
  obtain ⟨Q, hQ⟩ : ∃ Q, w.heap.size = Q := ⟨_, rfl⟩
  rw [hQ] at x0 x1 x2 x3 hq ⊢
  have HQ : Hid (Q < w1.heap.size ∧ w1.cell? ⟨Q, 0, none⟩ = some (.int .i64 b0) ∧ w1.cell? ⟨Q, 1, none⟩ = some (.int .i64 b1) ∧ w1.cell? ⟨Q, 2, none⟩ = some (.int .i64 b2) ∧ w1.cell? ⟨Q, 3, none⟩ = some (.string b3)) := ⟨hq, x0, x1, x2, x3⟩
  clear hb1 hc hq hQ hn hr x0 x1 x2 x3
  go_wp2_with fail
  go_loopw [12] (fun i wx => ∃ k : Nat, k ≤ n ∧ i = .int .i64 (k : Int) ∧ Below w1.heap.size w1 wx ∧ ∀ j, j < k → l.getD j (0, ((0, 0), ⟨#[]⟩)) ≠ (b0, ((b1, b2), b3))) (fun i _ => n - (intOf i).toNat)
  case atStart => exact ⟨0, by omega, rfl, Below.refl _ _, fun j hj => by omega⟩
  case round =>
    obtain ⟨k, hk, rfl, hb, hne⟩ := hrel
    have HB2 : Hid (Below w.heap.size w wr) := Rt.Below.then HB1.out hb
    have HNQ : Hid (∀ j, j < k → l.getD j (0, ((0, 0), ⟨#[]⟩)) ≠ (b0, ((b1, b2), b3))) := hne
    have hbw : Below w1.heap.size w1 wr := hb
    have HBW : Hid (Below w1.heap.size w1 wr) := hb
    clear hne hb c1
    by_cases hkn : k < n
    · have hkT : k < l.length := by rw [HNE.out]; exact hkn
      obtain ⟨a, o, ha, c0, c1, c2, c3⟩ := (HRT.out.later HB2.out) k hkT
      have HM : Hid (l.getD k (0, ((0, 0), ⟨#[]⟩)) ∈ l) := getD_of hkT
      obtain ⟨y, hy⟩ : ∃ y, l.getD k (0, ((0, 0), ⟨#[]⟩)) = y := ⟨_, rfl⟩
      have HY : Hid (l.getD k (0, ((0, 0), ⟨#[]⟩)) = y) := hy
      rw [hy] at c0 c1 c2 c3 HM
      subst ha
      obtain ⟨y0, ⟨y1, y2⟩, y3⟩ := y
      dsimp only at c0 c1 c2 c3
      obtain ⟨q0, q1, q2, q3, q4⟩ := HQ.out
      have x0 := cell_later hbw q1
      have x1 := cell_later hbw q2
      have x2 := cell_later hbw q3
      have x3 := cell_later hbw q4
      have k1 : (0 : Int) ≤ (k : Int) := by omega
      have k2 : (k : Int) < (n : Int) := by omega
      have x0a := (World.cell?_alloc_some wr ⟨Q, 0, none⟩ (.cells #[.int .i64 y0, .int .i64 y1, .int .i64 y2, .string y3] 37) (by rw [x0]; rfl)).trans x0
      have x1a := (World.cell?_alloc_some wr ⟨Q, 1, none⟩ (.cells #[.int .i64 y0, .int .i64 y1, .int .i64 y2, .string y3] 37) (by rw [x1]; rfl)).trans x1
      have x2a := (World.cell?_alloc_some wr ⟨Q, 2, none⟩ (.cells #[.int .i64 y0, .int .i64 y1, .int .i64 y2, .string y3] 37) (by rw [x2]; rfl)).trans x2
      have x3a := (World.cell?_alloc_some wr ⟨Q, 3, none⟩ (.cells #[.int .i64 y0, .int .i64 y1, .int .i64 y2, .string y3] 37) (by rw [x3]; rfl)).trans x3
      clear hy hbw q0 q1 q2 q3 q4
      by_cases he : (y0, ((y1, y2), y3)) = (b0, ((b1, b2), b3))
      · have HE : Hid ((b0, ((b1, b2), b3)) ∈ l) := by show (b0, ((b1, b2), b3)) ∈ l; rw [← he]; exact HM.out
        obtain ⟨rfl, rfl⟩ := he
        go_wp2_with fail
        go_ret
        exact ⟨⟨true, rfl, by simp [HE.out]⟩, Rt.Below.more HB2.out _⟩
      · have HNEQ : Hid ((y0, ((y1, y2), y3)) ≠ (b0, ((b1, b2), b3))) := he
        rcases ne4 (y0 := y0) (b0 := b0) (y1 := y1) (b1 := b1) (y2 := y2) (b2 := b2) (y3 := y3) (b3 := b3) (by rintro ⟨rfl, rfl, rfl, rfl⟩; exact he rfl) with e0 | ⟨rfl, e1⟩ | ⟨rfl, rfl, e2⟩ | ⟨rfl, rfl, rfl, e3⟩
        all_goals
          clear he
          try (have e4 := str_ne e3; clear e3)
          go_wp2_with fail
          go_roundw
          case rel =>
            refine ⟨k + 1, by omega, by go_num, HBW.out.trans ((Rt.below1 _ _).mono HBW.out.size), fun j hj => ?_⟩
            rcases Nat.lt_or_ge j k with h | h
            · exact HNQ.out j h
            · obtain rfl : j = k := by omega
              rw [HY.out]; exact HNEQ.out
          case measure => simp [intOf]; omega
    · obtain rfl : k = n := by omega
      have dkn : decide ((k : Int) < (k : Int)) = false := by simp
      have HNL : Hid (¬ (b0, ((b1, b2), b3)) ∈ l) := fun hm => by
        obtain ⟨j, hj, e⟩ := List.mem_iff_getElem.1 hm
        exact HNQ.out j (by rw [← HNE.out]; exact hj) (by rw [List.getD_eq_getElem?_getD, List.getElem?_eq_getElem hj]; exact e)
      clear hbw hk hkn
      go_wp2_with fail
      go_ret
      exact ⟨⟨false, rfl, by simp [HNL.out]⟩, HB2.out⟩
end Go.Proofs.Ytompgoaogomoaaa.Kn
