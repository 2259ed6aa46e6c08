/- Contracts: Good, Text of package key and of the document's answers. -/
import Derived.Test.YtpofjkjcbflloabDoorChecked
import Derived.Test.YtpofjkjcbflloabDoorKtMath
import Derived.Test.YtpofjkjcbflloabDoorShelf
import Derived.Lib.LaidTab
import Derived.LoopTactic
namespace Go.Proofs.YtpofjkjcbflloabDoor
open Go.RowKit Go.Lib Go.Sort
set_option linter.unusedVariables false

theorem ret_int {k : IntKind} {a b : Int} (h : a = b) : Ending.returned (.int k a) = .returned (.int k b) := by rw [h]
theorem ret_bool {a b : Bool} (h : a = b) : Ending.returned (.bool a) = .returned (.bool b) := by rw [h]
theorem below1 (w : World) (o : Obj) : Below w.heap.size w (w.alloc o) := (Below.refl _ _).alloc (Nat.le_refl _) _
theorem Below.more {w0 w : World} (h : Below w0.heap.size w0 w) (o : Obj) : Below w0.heap.size w0 (w.alloc o) := h.alloc h.size _
theorem Below.then {w0 w w' : World} (h : Below w0.heap.size w0 w) (hb : Below w.heap.size w w') : Below w0.heap.size w0 w' := h.trans (hb.mono h.size)
theorem below_grow (w : World) (k : Nat) (os : Array Obj) : Below w.heap.size w (grow (w.drewN k) os) :=
  ⟨rfl, rfl, rfl, by simp [grow, World.drewN], fun i hi => by simp [grow, World.drewN, Array.getElem?_append, hi]⟩
theorem gTab : Tryd.prog.globalNamed "internal/strconv.uint64pow10" = some 0 := by kernel_rfl
/- What the package-level variables of the library hold. -/
structure Vs (w : World) : Prop where
  tab : TabIs Tryd.prog w "internal/strconv.uint64pow10" .u64 pow10Tab
  ml : ∃ m, w.cell? ⟨1, 0, none⟩ = some (.int .i64 m)
  es : ∃ tp p, w.cell? ⟨2, 0, none⟩ = some (.iface tp p)
  er : ∃ tp p, w.cell? ⟨3, 0, none⟩ = some (.iface tp p)
theorem var_later {n : String} {g : Nat} {cs : Array Value} {w w' : World} (hg : Tryd.prog.globalNamed n = some g) (h : w.var? Tryd.prog n = some cs) (hb : Below w.heap.size w w') : w'.var? Tryd.prog n = some cs := by
  unfold World.var? at *
  rw [hg] at h ⊢
  simp only [Option.bind_some] at h ⊢
  have hlt : g < w.heap.size := by
    rcases Nat.lt_or_ge g w.heap.size with h' | h'
    · exact h'
    · rw [Array.getElem?_eq_none h'] at h; cases h
  rw [hb.block g hlt]
  exact h
theorem Vs.later {w w' : World} (h : Vs w) (hb : Below w.heap.size w w') : Vs w' :=
  ⟨var_later gTab h.tab hb, h.ml.imp fun m hm => cell_later hb hm, h.es.imp fun tp hp => hp.imp fun p hc => cell_later hb hc, h.er.imp fun tp hp => hp.imp fun p hc => cell_later hb hc⟩
def Gd (b s : Int) : Prop := 1 ≤ b ∧ b ≤ 65535 ∧ 0 ≤ s ∧ s ≤ 255
theorem Itoa_any (n : Int) (h0 : -9223372036854775808 ≤ n) (h1 : n ≤ 9223372036854775807) (w : World) (hv : Vs w) : Calls Tryd.prog 12 #[.int .i64 n] w fun e w' => e = .returned (.string ⟨(itoa n).toArray⟩) ∧ Below w.heap.size w w' :=
  (show Calls Tryd.prog 12 #[.int .i64 n] w fun e w' => e = .returned (.string ⟨(itoa n).toArray⟩) ∧ ∃ k os, w' = grow (w.drewN k) os from Any.strconv_Itoa Tryd.laysM171 n h0 h1 w hv.tab).mono fun e w' ⟨he, k, os, hw⟩ => ⟨he, hw ▸ below_grow w k os⟩
theorem good_yes (b s : Int) (h : Gd b s) (w : World) :
    Calls Tryd.prog 11 #[.agg #[.int .i64 b, .int .i64 s]] w fun e w' => e = .returned (.bool true) ∧ Below w.heap.size w w' := by
  obtain ⟨h1, h2, h3, h4⟩ := h
  go_enter Tryd.func11, Tryd.ntmps11
  go_wp2
  go_ret
  exact ⟨rfl, below1 _ _⟩
theorem good_no (b s : Int) (h : ¬ Gd b s) (w : World) :
    Calls Tryd.prog 11 #[.agg #[.int .i64 b, .int .i64 s]] w fun e w' => e = .returned (.bool false) ∧ Below w.heap.size w w' := by
  by_cases h1 : 1 ≤ b
  · by_cases h2 : b ≤ 65535
    · by_cases h3 : 0 ≤ s
      · have h4 : decide (s ≤ 255) = false := by unfold Gd at h; simp; omega
        clear h
        go_enter Tryd.func11, Tryd.ntmps11
        go_wp2
        go_ret
        exact ⟨ret_bool (by first | rfl | exact h4), below1 _ _⟩
      · clear h
        go_enter Tryd.func11, Tryd.ntmps11
        go_wp2
        go_ret
        exact ⟨rfl, below1 _ _⟩
    · clear h
      go_enter Tryd.func11, Tryd.ntmps11
      go_wp2
      go_ret
      exact ⟨rfl, below1 _ _⟩
  · clear h
    go_enter Tryd.func11, Tryd.ntmps11
    go_wp2
    go_ret
    exact ⟨rfl, below1 _ _⟩
theorem rGood_yes (b s : Int) (h : Gd b s) (w : World) :
    Calls Tryd.prog 13 #[.agg #[.int .i64 b, .int .i64 s]] w fun e w' => e = .returned (.bool true) ∧ Below w.heap.size w w' := by
  obtain ⟨h1, h2, h3, h4⟩ := h
  go_enter Tryd.func13, Tryd.ntmps13
  go_wp2
  go_ret
  exact ⟨rfl, below1 _ _⟩
theorem rGood_no (b s : Int) (h : ¬ Gd b s) (w : World) :
    Calls Tryd.prog 13 #[.agg #[.int .i64 b, .int .i64 s]] w fun e w' => e = .returned (.bool false) ∧ Below w.heap.size w w' := by
  by_cases h1 : 1 ≤ b
  · by_cases h2 : b ≤ 65535
    · by_cases h3 : 0 ≤ s
      · have h4 : decide (s ≤ 255) = false := by unfold Gd at h; simp; omega
        clear h
        go_enter Tryd.func13, Tryd.ntmps13
        go_wp2
        go_ret
        exact ⟨ret_bool (by first | rfl | exact h4), below1 _ _⟩
      · clear h
        go_enter Tryd.func13, Tryd.ntmps13
        go_wp2
        go_ret
        exact ⟨rfl, below1 _ _⟩
    · clear h
      go_enter Tryd.func13, Tryd.ntmps13
      go_wp2
      go_ret
      exact ⟨rfl, below1 _ _⟩
  · clear h
    go_enter Tryd.func13, Tryd.ntmps13
    go_wp2
    go_ret
    exact ⟨rfl, below1 _ _⟩
theorem vsOf {A C : Prop} {w : World} (h : A ∧ Vs w ∧ C) : Vs w := h.2.1
theorem keepS {w W w' : World} {b s : Value} {n : Nat} (h : Below w.heap.size w W ∧ Vs W ∧ W.cell? ⟨n, 0, none⟩ = some b ∧ W.cell? ⟨n, 1, none⟩ = some s) (hb : Below W.heap.size W w') : Below w.heap.size w w' ∧ Vs w' ∧ w'.cell? ⟨n, 0, none⟩ = some b ∧ w'.cell? ⟨n, 1, none⟩ = some s :=
  ⟨Below.then h.1 hb, h.2.1.later hb, cell_later hb h.2.2.1, cell_later hb h.2.2.2⟩
theorem cell_two (w : World) (x y : Value) (t : TypeId) : (w.alloc (.cells #[x, y] t)).cell? ⟨w.heap.size, 0, none⟩ = some x ∧ (w.alloc (.cells #[x, y] t)).cell? ⟨w.heap.size, 1, none⟩ = some y := by simp [go_sem]
theorem itoa_small (n : Int) (h0 : 0 ≤ n) (h1 : n ≤ 65535) : (⟨(itoa n).toArray⟩ : ByteArray).size ≤ 5 := by
  obtain ⟨u, rfl⟩ : ∃ u : Nat, n = (u : Int) := ⟨n.toNat, by omega⟩
  rw [itoa_nat]
  have := dec_len u (by omega)
  simpa [ByteArray.size] using this
theorem text_no (b s : Int) (h : ¬ Gd b s) (w : World) :
    Calls Tryd.prog 5 #[.agg #[.int .i64 b, .int .i64 s]] w fun e w' => e = .returned (.tuple #[.string ⟨#[]⟩, .int .i64 3]) ∧ Below w.heap.size w w' := by
  go_enter Tryd.func5, Tryd.ntmps5
  go_wp2_with fail
  refine (good_no b s h _).mono ?_
  rintro e w1 ⟨rfl, hb1⟩
  have HB1 : Hid (Below w.heap.size w w1) := Below.then (below1 _ _) hb1
  clear hb1
  go_wp2
  go_ret2
  exact ⟨rfl, HB1.out⟩
theorem text_yes (b s : Int) (h : Gd b s) (w : World) (hv : Vs w) :
    Calls Tryd.prog 5 #[.agg #[.int .i64 b, .int .i64 s]] w fun e w' => e = .returned (.tuple #[.string (tt b s), .int .i64 0]) ∧ Below w.heap.size w w' := by
  have hz1 := itoa_small b (by have := h.1; omega) h.2.1
  have hz2 := itoa_small s h.2.2.1 (by have := h.2.2.2; omega)
  have hsum : (tt b s).size ≤ 12 := by
    unfold tt
    rw [ByteArray.size_append, ByteArray.size_append, ByteArray.size_append]
    have e1 : (⟨#[107]⟩ : ByteArray).size = 1 := rfl
    have e2 : (⟨#[46]⟩ : ByteArray).size = 1 := rfl
    omega
  have HH : Hid (Gd b s ∧ Vs w) := ⟨h, hv⟩
  obtain ⟨x, hx⟩ : ∃ x : ByteArray, (⟨(itoa b).toArray⟩ : ByteArray) = x := ⟨_, rfl⟩
  obtain ⟨y, hy⟩ : ∃ y : ByteArray, (⟨(itoa s).toArray⟩ : ByteArray) = y := ⟨_, rfl⟩
  rw [hx] at hz1
  rw [hy] at hz2
  have HXY : Hid ((⟨(itoa b).toArray⟩ : ByteArray) = x ∧ (⟨(itoa s).toArray⟩ : ByteArray) = y) := ⟨hx, hy⟩
  have hi1 : ∀ w0, Vs w0 → Calls Tryd.prog 12 #[.int .i64 b] w0 fun e w' => e = .returned (.string x) ∧ Below w0.heap.size w0 w' := fun w0 hv0 => by
    have := Itoa_any b (by have := h.1; omega) (by have := h.2.1; omega) w0 hv0
    rw [hx] at this; exact this
  have hi2 : ∀ w0, Vs w0 → Calls Tryd.prog 12 #[.int .i64 s] w0 fun e w' => e = .returned (.string y) ∧ Below w0.heap.size w0 w' := fun w0 hv0 => by
    have := Itoa_any s (by have := h.2.2.1; omega) (by have := h.2.2.2; omega) w0 hv0
    rw [hy] at this; exact this
  have e1 : (⟨#[107]⟩ : ByteArray).size = 1 := rfl
  have e2 : (⟨#[46]⟩ : ByteArray).size = 1 := rfl
  have s1 : ((⟨#[107]⟩ : ByteArray) ++ x).size ≤ 6 := by rw [ByteArray.size_append]; omega
  have s2 : (((⟨#[107]⟩ : ByteArray) ++ x) ++ ⟨#[46]⟩).size ≤ 7 := by rw [ByteArray.size_append, ByteArray.size_append]; omega
  have HS : Hid ((⟨#[107]⟩ : ByteArray).size + x.size ≤ 9223372036854775807 ∧ ((⟨#[107]⟩ : ByteArray) ++ x).size + (⟨#[46]⟩ : ByteArray).size ≤ 9223372036854775807 ∧ (((⟨#[107]⟩ : ByteArray) ++ x) ++ ⟨#[46]⟩).size + y.size ≤ 9223372036854775807) := ⟨by omega, by omega, by omega⟩
  have r1 := fun w0 => run_string_add_sum (P := Tryd.prog) w0 _ _ HS.out.1
  have r2 := fun w0 => run_string_add_sum (P := Tryd.prog) w0 _ _ HS.out.2.1
  have r3 := fun w0 => run_string_add_sum (P := Tryd.prog) w0 _ _ HS.out.2.2
  clear hsum hz1 hz2 s1 s2 e1 e2 hx hy h hv
  go_enter Tryd.func5, Tryd.ntmps5
  go_wp2_with fail
  refine (good_yes b s HH.out.1 _).mono ?_
  rintro e w1 ⟨rfl, hb1⟩
  have c0 : w1.cell? ⟨w.heap.size, 0, none⟩ = some (.int .i64 b) := cell_later hb1 (cell_two _ _ _ _).1
  have c1 : w1.cell? ⟨w.heap.size, 1, none⟩ = some (.int .i64 s) := cell_later hb1 (cell_two _ _ _ _).2
  have hB1 : Below w.heap.size w w1 := Below.then (below1 _ _) hb1
  have hV1 : Vs w1 := HH.out.2.later hB1
  clear hb1
  go_wp2_with fail
  go_region_held3 (fun w' => Below w.heap.size w w' ∧ Vs w' ∧ w'.cell? ⟨w.heap.size, 0, none⟩ = some (.int .i64 b) ∧ w'.cell? ⟨w.heap.size, 1, none⟩ = some (.int .i64 s)) (first | exact ⟨hB1.drew, ⟨hV1.tab, hV1.ml, hV1.es, hV1.er⟩, c0, c1⟩ | exact keepS (by assumption) hb) (first | (go_at_call 12; refine (hi1 _ ?_).mono ?_; exact vsOf (by assumption); rintro e w' ⟨rfl, hb⟩) | (go_at_call 12; refine (hi2 _ ?_).mono ?_; exact vsOf (by assumption); rintro e w' ⟨rfl, hb⟩))
  rename_i hHH
  have HBE : Hid (Below w.heap.size w w') := hHH.1
  clear hHH
  go_wp2
  go_ret2
  exact ⟨by unfold tt; rw [HXY.out.1, HXY.out.2]; rfl, HBE.out⟩
theorem rText_no (b s : Int) (h : ¬ Gd b s) (w : World) :
    Calls Tryd.prog 6 #[.agg #[.int .i64 b, .int .i64 s]] w fun e w' => e = .returned (.tuple #[.string ⟨#[]⟩, .int .i64 3]) ∧ Below w.heap.size w w' := by
  go_enter Tryd.func6, Tryd.ntmps6
  go_wp2_with fail
  refine (rGood_no b s h _).mono ?_
  rintro e w1 ⟨rfl, hb1⟩
  have HB1 : Hid (Below w.heap.size w w1) := Below.then (below1 _ _) hb1
  clear hb1
  go_wp2
  go_ret2
  exact ⟨rfl, HB1.out⟩
theorem rText_yes (b s : Int) (h : Gd b s) (w : World) (hv : Vs w) :
    Calls Tryd.prog 6 #[.agg #[.int .i64 b, .int .i64 s]] w fun e w' => e = .returned (.tuple #[.string (tt b s), .int .i64 0]) ∧ Below w.heap.size w w' := by
  have hz1 := itoa_small b (by have := h.1; omega) h.2.1
  have hz2 := itoa_small s h.2.2.1 (by have := h.2.2.2; omega)
  have hsum : (tt b s).size ≤ 12 := by
    unfold tt
    rw [ByteArray.size_append, ByteArray.size_append, ByteArray.size_append]
    have e1 : (⟨#[107]⟩ : ByteArray).size = 1 := rfl
    have e2 : (⟨#[46]⟩ : ByteArray).size = 1 := rfl
    omega
  have HH : Hid (Gd b s ∧ Vs w) := ⟨h, hv⟩
  obtain ⟨x, hx⟩ : ∃ x : ByteArray, (⟨(itoa b).toArray⟩ : ByteArray) = x := ⟨_, rfl⟩
  obtain ⟨y, hy⟩ : ∃ y : ByteArray, (⟨(itoa s).toArray⟩ : ByteArray) = y := ⟨_, rfl⟩
  rw [hx] at hz1
  rw [hy] at hz2
  have HXY : Hid ((⟨(itoa b).toArray⟩ : ByteArray) = x ∧ (⟨(itoa s).toArray⟩ : ByteArray) = y) := ⟨hx, hy⟩
  have hi1 : ∀ w0, Vs w0 → Calls Tryd.prog 12 #[.int .i64 b] w0 fun e w' => e = .returned (.string x) ∧ Below w0.heap.size w0 w' := fun w0 hv0 => by
    have := Itoa_any b (by have := h.1; omega) (by have := h.2.1; omega) w0 hv0
    rw [hx] at this; exact this
  have hi2 : ∀ w0, Vs w0 → Calls Tryd.prog 12 #[.int .i64 s] w0 fun e w' => e = .returned (.string y) ∧ Below w0.heap.size w0 w' := fun w0 hv0 => by
    have := Itoa_any s (by have := h.2.2.1; omega) (by have := h.2.2.2; omega) w0 hv0
    rw [hy] at this; exact this
  have e1 : (⟨#[107]⟩ : ByteArray).size = 1 := rfl
  have e2 : (⟨#[46]⟩ : ByteArray).size = 1 := rfl
  have s1 : ((⟨#[107]⟩ : ByteArray) ++ x).size ≤ 6 := by rw [ByteArray.size_append]; omega
  have s2 : (((⟨#[107]⟩ : ByteArray) ++ x) ++ ⟨#[46]⟩).size ≤ 7 := by rw [ByteArray.size_append, ByteArray.size_append]; omega
  have HS : Hid ((⟨#[107]⟩ : ByteArray).size + x.size ≤ 9223372036854775807 ∧ ((⟨#[107]⟩ : ByteArray) ++ x).size + (⟨#[46]⟩ : ByteArray).size ≤ 9223372036854775807 ∧ (((⟨#[107]⟩ : ByteArray) ++ x) ++ ⟨#[46]⟩).size + y.size ≤ 9223372036854775807) := ⟨by omega, by omega, by omega⟩
  have r1 := fun w0 => run_string_add_sum (P := Tryd.prog) w0 _ _ HS.out.1
  have r2 := fun w0 => run_string_add_sum (P := Tryd.prog) w0 _ _ HS.out.2.1
  have r3 := fun w0 => run_string_add_sum (P := Tryd.prog) w0 _ _ HS.out.2.2
  clear hsum hz1 hz2 s1 s2 e1 e2 hx hy h hv
  go_enter Tryd.func6, Tryd.ntmps6
  go_wp2_with fail
  refine (rGood_yes b s HH.out.1 _).mono ?_
  rintro e w1 ⟨rfl, hb1⟩
  have c0 : w1.cell? ⟨w.heap.size, 0, none⟩ = some (.int .i64 b) := cell_later hb1 (cell_two _ _ _ _).1
  have c1 : w1.cell? ⟨w.heap.size, 1, none⟩ = some (.int .i64 s) := cell_later hb1 (cell_two _ _ _ _).2
  have hB1 : Below w.heap.size w w1 := Below.then (below1 _ _) hb1
  have hV1 : Vs w1 := HH.out.2.later hB1
  clear hb1
  go_wp2_with fail
  go_region_held3 (fun w' => Below w.heap.size w w' ∧ Vs w' ∧ w'.cell? ⟨w.heap.size, 0, none⟩ = some (.int .i64 b) ∧ w'.cell? ⟨w.heap.size, 1, none⟩ = some (.int .i64 s)) (first | exact ⟨hB1.drew, ⟨hV1.tab, hV1.ml, hV1.es, hV1.er⟩, c0, c1⟩ | exact keepS (by assumption) hb) (first | (go_at_call 12; refine (hi1 _ ?_).mono ?_; exact vsOf (by assumption); rintro e w' ⟨rfl, hb⟩) | (go_at_call 12; refine (hi2 _ ?_).mono ?_; exact vsOf (by assumption); rintro e w' ⟨rfl, hb⟩))
  rename_i hHH
  have HBE : Hid (Below w.heap.size w w') := hHH.1
  clear hHH
  go_wp2
  go_ret2
  exact ⟨by unfold tt; rw [HXY.out.1, HXY.out.2]; rfl, HBE.out⟩
end Go.Proofs.YtpofjkjcbflloabDoor
