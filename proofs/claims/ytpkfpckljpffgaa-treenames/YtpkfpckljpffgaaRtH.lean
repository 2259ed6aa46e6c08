/- Contracts: LeafAt of both. -/
import Derived.Test.YtpkfpckljpffgaaRtA
import Derived.Test.YtpkfpckljpffgaaKeyB
namespace Go.Proofs.Ytpkfpckljpffgaa.Rt
open Go.RowKit
set_option linter.unusedVariables false
set_option linter.unusedSimpArgs false

def lfR (b s : Int) : Bool := decide (1 ≤ b) && (decide (b < 32768) && (decide (1 ≤ s) && decide (s ≤ 200)))
def lfE (b s p : Int) : Int := if b = 0 then 16 else if lfR b s then (if p < s then 21 else if s + 255 < p then 4 else 0) else 31
def lfB (b s p : Int) : Int := if lfE b s p = 0 then b else 0
def lfS (b s p : Int) : Int := if lfE b s p = 0 then p - s else 0
def LeafA (b s p : Int) : Ending := .returned (.tuple #[.agg #[.int .i64 (lfB b s p), .int .i64 (lfS b s p)], .int .i64 (lfE b s p)])
theorem LeafA.no {b s p x : Int} (h : lfE b s p = x) (hx : x ≠ 0) : Ending.returned (.tuple #[.agg #[.int .i64 0, .int .i64 0], .int .i64 x]) = LeafA b s p := by
  unfold LeafA lfB lfS
  rw [h, if_neg hx, if_neg hx]
theorem LeafA.yes {b s p : Int} (h : lfE b s p = 0) : Ending.returned (.tuple #[.agg #[.int .i64 b, .int .i64 (p - s)], .int .i64 0]) = LeafA b s p := by
  unfold LeafA lfB lfS
  rw [h, if_pos rfl, if_pos rfl]
theorem lfE_off {s p : Int} : lfE 0 s p = 16 := rfl
theorem lfE_bad {b s p : Int} (h0 : ¬ b = 0) (h : lfR b s = false) : lfE b s p = 31 := by unfold lfE; rw [if_neg h0, h]; rfl
theorem lfE_old {b s p : Int} (h0 : ¬ b = 0) (h : lfR b s = true) (h1 : p < s) : lfE b s p = 21 := by unfold lfE; rw [if_neg h0, h, if_pos rfl, if_pos h1]
theorem lfE_far {b s p : Int} (h0 : ¬ b = 0) (h : lfR b s = true) (h1 : ¬ p < s) (h2 : s + 255 < p) : lfE b s p = 4 := by unfold lfE; rw [if_neg h0, h, if_pos rfl, if_neg h1, if_pos h2]
theorem lfE_ok {b s p : Int} (h0 : ¬ b = 0) (h : lfR b s = true) (h1 : ¬ p < s) (h2 : ¬ s + 255 < p) : lfE b s p = 0 := by unfold lfE; rw [if_neg h0, h, if_pos rfl, if_neg h1, if_neg h2]
theorem lfR_1 {b s : Int} (h : ¬ 1 ≤ b) : lfR b s = false := by unfold lfR; rw [decide_eq_false h]; rfl
theorem lfR_2 {b s : Int} (h : ¬ b < 32768) : lfR b s = false := by unfold lfR; rw [decide_eq_false h, Bool.false_and, Bool.and_false]
theorem lfR_3 {b s : Int} (h : ¬ 1 ≤ s) : lfR b s = false := by unfold lfR; rw [decide_eq_false h, Bool.false_and, Bool.and_false, Bool.and_false]
theorem lfR_4 {b s : Int} (h : ¬ s ≤ 200) : lfR b s = false := by unfold lfR; rw [decide_eq_false h, Bool.and_false, Bool.and_false, Bool.and_false]
theorem lfR_ok {b s : Int} (h1 : 1 ≤ b) (h2 : b < 32768) (h3 : 1 ≤ s) (h4 : s ≤ 200) : lfR b s = true := by unfold lfR; rw [decide_eq_true h1, decide_eq_true h2, decide_eq_true h3, decide_eq_true h4]; rfl
theorem lf_bel (w : World) (o o' : Obj) : Below w.heap.size w ((w.alloc o).alloc o') := Below.more (below1 _ _) _
set_option maxHeartbeats 1000000 in
theorem leafAt_any (who b s p : Int) (hp : p < 9223372036854775808) (w : World) :
    Calls Try.prog 36 #[.agg #[.int .i64 who, .int .i64 b, .int .i64 s], .int .i64 p] w fun e w' => e = LeafA b s p ∧ Below w.heap.size w w' := by
  have ho := isOwn_any b
  by_cases h0 : b = 0
  · have HE : Hid (lfE b s p = 16) := by rw [h0]; exact lfE_off
    subst h0
    go_enter Try.func36, Try.ntmps36
    go_wp2_with fail
    exact bodyPost_ret (v := .tuple #[.agg #[.int .i64 0, .int .i64 0], .int .i64 16]) (by simp [results, Try.results36, go_sem]) rfl ⟨LeafA.no HE.out (by decide), lf_bel _ _ _⟩
  · have h0' : (b == 0) = false := by simp [h0]
    by_cases h1 : 1 ≤ b
    · by_cases h2 : b < 32768
      · rw [show own b = true by simp [own, h1, h2]] at ho
        by_cases h3 : 1 ≤ s
        · by_cases h4 : s ≤ 200
          · have hR : lfR b s = true := lfR_ok h1 h2 h3 h4
            have HR : Hid (lfR b s = true) := hR
            clear hR
            by_cases h5 : p < s
            · have hu2 := hp
              have HE : Hid (lfE b s p = 21) := lfE_old h0 HR.out h5
              go_enter Try.func36, Try.ntmps36
              go_wp2_with (go_at_call 48; refine (ho _).mono ?_; rintro e w' ⟨rfl, rfl⟩)
              exact bodyPost_ret (v := .tuple #[.agg #[.int .i64 0, .int .i64 0], .int .i64 21]) (by simp [results, Try.results36, go_sem]) rfl ⟨LeafA.no HE.out (by decide), lf_bel _ _ _⟩
            · have hsub : IntKind.i64.wrap (p - s) = p - s := i64_fit _ (by omega) (by omega)
              by_cases h6 : s + 255 < p
              · have ha := ahead_far b 0 (p - s) ⟨h1, by omega, by omega, by omega⟩ (Or.inr (by omega))
                have HE : Hid (lfE b s p = 4) := lfE_far h0 HR.out h5 h6
                have hn := heap_alloc_last (w.alloc (.cells #[.int .i64 who, .int .i64 b, .int .i64 s] 27)) (.cells #[.int .i64 0, .int .i64 0] 23)
                rw [World.size_alloc] at hn
                go_enter Try.func36, Try.ntmps36
                go_wp2_with (go_at_call 48; refine (ho _).mono ?_; rintro e w' ⟨rfl, rfl⟩)
                refine (ha _).mono ?_
                rintro e w2 ⟨rfl, hb2⟩
                have hk2 := (hb2.block (w.heap.size + 1) (by simp)).trans hn
                have HB2 : Hid (Below w.heap.size w w2) := (lf_bel w _ _).trans (hb2.mono (by simp; omega))
                have c0 := cell_of_row w2 (w.heap.size + 1) 0 _ _ _ hk2
                have c1 := cell_of_row w2 (w.heap.size + 1) 1 _ _ _ hk2
                have f0 := row_frozen hk2 0
                have f1 := row_frozen hk2 1
                have HS0 : Hid (((w2.setCell ⟨w.heap.size + 1, 0, none⟩ (.int .i64 0)).setCell ⟨w.heap.size + 1, 1, none⟩ (.int .i64 0)).heap[w.heap.size + 1]? = some (.cells #[.int .i64 0, .int .i64 0] 23 (0, 0))) := row_setCell (row_setCell hk2 0 (.int .i64 0)) 1 (.int .i64 0)
                clear hn hk2 ha hb2
                simp at c0 c1
                go_wp2_with fail
                have HS1 := HS0.out
                have HB3 := set2_below HB2.out (B := w.heap.size + 1) (by omega) 0 1 (.int .i64 0) (.int .i64 0)
                generalize (w2.setCell ⟨w.heap.size + 1, 0, none⟩ (.int .i64 0)).setCell ⟨w.heap.size + 1, 1, none⟩ (.int .i64 0) = w3 at *
                have d0 := cell_of_row w3 (w.heap.size + 1) 0 _ _ _ HS1
                have d1 := cell_of_row w3 (w.heap.size + 1) 1 _ _ _ HS1
                simp at d0 d1
                exact bodyPost_ret (v := .tuple #[.agg #[.int .i64 0, .int .i64 0], .int .i64 4]) (by simp [results, Try.results36, go_sem, d0, d1]) rfl ⟨LeafA.no HE.out (by decide), HB3⟩
              · have ha := ahead_yes b 0 (p - s) ⟨h1, by omega, by omega, by omega⟩ (by omega) (by omega)
                rw [Int.zero_add] at ha
                have HE : Hid (lfE b s p = 0) := lfE_ok h0 HR.out h5 h6
                have hn := heap_alloc_last (w.alloc (.cells #[.int .i64 who, .int .i64 b, .int .i64 s] 27)) (.cells #[.int .i64 0, .int .i64 0] 23)
                rw [World.size_alloc] at hn
                go_enter Try.func36, Try.ntmps36
                go_wp2_with (go_at_call 48; refine (ho _).mono ?_; rintro e w' ⟨rfl, rfl⟩)
                refine (ha _).mono ?_
                rintro e w2 ⟨rfl, hb2⟩
                have hk2 := (hb2.block (w.heap.size + 1) (by simp)).trans hn
                have HB2 : Hid (Below w.heap.size w w2) := (lf_bel w _ _).trans (hb2.mono (by simp; omega))
                have c0 := cell_of_row w2 (w.heap.size + 1) 0 _ _ _ hk2
                have c1 := cell_of_row w2 (w.heap.size + 1) 1 _ _ _ hk2
                have f0 := row_frozen hk2 0
                have f1 := row_frozen hk2 1
                have HS0 : Hid (((w2.setCell ⟨w.heap.size + 1, 0, none⟩ (.int .i64 b)).setCell ⟨w.heap.size + 1, 1, none⟩ (.int .i64 (p - s))).heap[w.heap.size + 1]? = some (.cells #[.int .i64 b, .int .i64 (p - s)] 23 (0, 0))) := row_setCell (row_setCell hk2 0 (.int .i64 b)) 1 (.int .i64 (p - s))
                clear hn hk2 ha hb2
                simp at c0 c1
                go_wp2_with fail
                have HS1 := HS0.out
                have HB3 := set2_below HB2.out (B := w.heap.size + 1) (by omega) 0 1 (.int .i64 b) (.int .i64 (p - s))
                generalize (w2.setCell ⟨w.heap.size + 1, 0, none⟩ (.int .i64 b)).setCell ⟨w.heap.size + 1, 1, none⟩ (.int .i64 (p - s)) = w3 at *
                have d0 := cell_of_row w3 (w.heap.size + 1) 0 _ _ _ HS1
                have d1 := cell_of_row w3 (w.heap.size + 1) 1 _ _ _ HS1
                simp at d0 d1
                exact bodyPost_ret (v := .tuple #[.agg #[.int .i64 b, .int .i64 (p - s)], .int .i64 0]) (by simp [results, Try.results36, go_sem, d0, d1]) rfl ⟨LeafA.yes HE.out, HB3⟩
          · have hu3 := hp
            have HE : Hid (lfE b s p = 31) := lfE_bad h0 (lfR_4 h4)
            go_enter Try.func36, Try.ntmps36
            go_wp2_with (go_at_call 48; refine (ho _).mono ?_; rintro e w' ⟨rfl, rfl⟩)
            exact bodyPost_ret (v := .tuple #[.agg #[.int .i64 0, .int .i64 0], .int .i64 31]) (by simp [results, Try.results36, go_sem]) rfl ⟨LeafA.no HE.out (by decide), lf_bel _ _ _⟩
        · have hu4 := hp
          have HE : Hid (lfE b s p = 31) := lfE_bad h0 (lfR_3 h3)
          go_enter Try.func36, Try.ntmps36
          go_wp2_with (go_at_call 48; refine (ho _).mono ?_; rintro e w' ⟨rfl, rfl⟩)
          exact bodyPost_ret (v := .tuple #[.agg #[.int .i64 0, .int .i64 0], .int .i64 31]) (by simp [results, Try.results36, go_sem]) rfl ⟨LeafA.no HE.out (by decide), lf_bel _ _ _⟩
      · rw [show own b = false by simp [own, h1, h2]] at ho
        have HE : Hid (lfE b s p = 31) := lfE_bad h0 (lfR_2 h2)
        go_enter Try.func36, Try.ntmps36
        go_wp2_with (go_at_call 48; refine (ho _).mono ?_; rintro e w' ⟨rfl, rfl⟩)
        exact bodyPost_ret (v := .tuple #[.agg #[.int .i64 0, .int .i64 0], .int .i64 31]) (by simp [results, Try.results36, go_sem]) rfl ⟨LeafA.no HE.out (by decide), lf_bel _ _ _⟩
    · rw [show own b = false by simp [own]; omega] at ho
      have HE : Hid (lfE b s p = 31) := lfE_bad h0 (lfR_1 h1)
      go_enter Try.func36, Try.ntmps36
      go_wp2_with (go_at_call 48; refine (ho _).mono ?_; rintro e w' ⟨rfl, rfl⟩)
      exact bodyPost_ret (v := .tuple #[.agg #[.int .i64 0, .int .i64 0], .int .i64 31]) (by simp [results, Try.results36, go_sem]) rfl ⟨LeafA.no HE.out (by decide), lf_bel _ _ _⟩
set_option maxHeartbeats 1000000 in
theorem rLeafAt_any (who b s p : Int) (hp : p < 9223372036854775808) (w : World) :
    Calls Try.prog 45 #[.agg #[.int .i64 who, .int .i64 b, .int .i64 s], .int .i64 p] w fun e w' => e = LeafA b s p ∧ Below w.heap.size w w' := by
  by_cases h0 : b = 0
  · have HE : Hid (lfE b s p = 16) := by rw [h0]; exact lfE_off
    subst h0
    go_enter Try.func45, Try.ntmps45
    go_wp2_with fail
    exact bodyPost_ret (v := .tuple #[.agg #[.int .i64 0, .int .i64 0], .int .i64 16]) (by simp [results, Try.results45, go_sem]) rfl ⟨LeafA.no HE.out (by decide), lf_bel _ _ _⟩
  · have h0' : (b == 0) = false := by simp [h0]
    by_cases h1 : 1 ≤ b
    · by_cases h2 : b < 32768
      · have hu := hp
        by_cases h3 : 1 ≤ s
        · by_cases h4 : s ≤ 200
          · have hR : lfR b s = true := lfR_ok h1 h2 h3 h4
            have HR : Hid (lfR b s = true) := hR
            clear hR
            by_cases h5 : p < s
            · have hu2 := hp
              have HE : Hid (lfE b s p = 21) := lfE_old h0 HR.out h5
              go_enter Try.func45, Try.ntmps45
              go_wp2_with fail
              exact bodyPost_ret (v := .tuple #[.agg #[.int .i64 0, .int .i64 0], .int .i64 21]) (by simp [results, Try.results45, go_sem]) rfl ⟨LeafA.no HE.out (by decide), lf_bel _ _ _⟩
            · have hsub : IntKind.i64.wrap (p - s) = p - s := i64_fit _ (by omega) (by omega)
              by_cases h6 : s + 255 < p
              · have hadd : IntKind.i64.wrap (s + 255) = s + 255 := i64_fit _ (by omega) (by omega)
                have HE : Hid (lfE b s p = 4) := lfE_far h0 HR.out h5 h6
                go_enter Try.func45, Try.ntmps45
                go_wp2_with fail
                exact bodyPost_ret (v := .tuple #[.agg #[.int .i64 0, .int .i64 0], .int .i64 4]) (by simp [results, Try.results45, go_sem]) rfl ⟨LeafA.no HE.out (by decide), lf_bel _ _ _⟩
              · have hadd : IntKind.i64.wrap (s + 255) = s + 255 := i64_fit _ (by omega) (by omega)
                have HE : Hid (lfE b s p = 0) := lfE_ok h0 HR.out h5 h6
                go_enter Try.func45, Try.ntmps45
                go_wp2_with fail
                exact bodyPost_ret (v := .tuple #[.agg #[.int .i64 b, .int .i64 (p - s)], .int .i64 0]) (by simp [results, Try.results45, go_sem]) rfl ⟨LeafA.yes HE.out, lf_bel _ _ _⟩
          · have hu3 := hp
            have HE : Hid (lfE b s p = 31) := lfE_bad h0 (lfR_4 h4)
            go_enter Try.func45, Try.ntmps45
            go_wp2_with fail
            exact bodyPost_ret (v := .tuple #[.agg #[.int .i64 0, .int .i64 0], .int .i64 31]) (by simp [results, Try.results45, go_sem]) rfl ⟨LeafA.no HE.out (by decide), lf_bel _ _ _⟩
        · have hu4 := hp
          have HE : Hid (lfE b s p = 31) := lfE_bad h0 (lfR_3 h3)
          go_enter Try.func45, Try.ntmps45
          go_wp2_with fail
          exact bodyPost_ret (v := .tuple #[.agg #[.int .i64 0, .int .i64 0], .int .i64 31]) (by simp [results, Try.results45, go_sem]) rfl ⟨LeafA.no HE.out (by decide), lf_bel _ _ _⟩
      · have hu := hp
        have HE : Hid (lfE b s p = 31) := lfE_bad h0 (lfR_2 h2)
        go_enter Try.func45, Try.ntmps45
        go_wp2_with fail
        exact bodyPost_ret (v := .tuple #[.agg #[.int .i64 0, .int .i64 0], .int .i64 31]) (by simp [results, Try.results45, go_sem]) rfl ⟨LeafA.no HE.out (by decide), lf_bel _ _ _⟩
    · have hu := hp
      have HE : Hid (lfE b s p = 31) := lfE_bad h0 (lfR_1 h1)
      go_enter Try.func45, Try.ntmps45
      go_wp2_with fail
      exact bodyPost_ret (v := .tuple #[.agg #[.int .i64 0, .int .i64 0], .int .i64 31]) (by simp [results, Try.results45, go_sem]) rfl ⟨LeafA.no HE.out (by decide), lf_bel _ _ _⟩
end Go.Proofs.Ytpkfpckljpffgaa.Rt
