/- Contracts: the small tests of package wire and of the document's answer. -/
import Derived.Test.YtdkfifnhmfbagaaWiT
import Derived.Test.YtdkfifnhmfbagaaKeyF
namespace Go.Proofs.Ytdkfifnhmfbagaa.Wi
open Go.RowKit Go.Maps
open Rt (gd)
open Sh (belB par par_bd belB_up belB_at belB_no' nodeB_no)
set_option linter.unusedVariables false
set_option linter.unusedSimpArgs false

theorem goodEpoch_any (n : Int) (w : World) : Calls Try.prog 57 #[.int .i64 n] w fun e w' => e = .returned (.bool (gE n)) ∧ w' = w := by
  by_cases h0 : 1 ≤ n
  · by_cases h1 : n ≤ 200
    · go_enter Try.func57, Try.ntmps57
      go_wp2
      go_ret
      exact ⟨ret_bool (by simp [gE, h0, h1]), rfl⟩
    · go_enter Try.func57, Try.ntmps57
      go_wp2
      go_ret
      exact ⟨ret_bool (by simp [gE, h0, h1]), rfl⟩
  · go_enter Try.func57, Try.ntmps57
    go_wp2
    go_ret
    exact ⟨ret_bool (by simp [gE]; omega), rfl⟩
theorem rEpoch_any (n : Int) (w : World) : Calls Try.prog 43 #[.int .i64 n] w fun e w' => e = .returned (.bool (gE n)) ∧ w' = w := by
  by_cases h0 : 1 ≤ n
  · by_cases h1 : n ≤ 200
    · go_enter Try.func43, Try.ntmps43
      go_wp2
      go_ret
      exact ⟨ret_bool (by simp [gE, h0, h1]), rfl⟩
    · go_enter Try.func43, Try.ntmps43
      go_wp2
      go_ret
      exact ⟨ret_bool (by simp [gE, h0, h1]), rfl⟩
  · go_enter Try.func43, Try.ntmps43
    go_wp2
    go_ret
    exact ⟨ret_bool (by simp [gE]; omega), rfl⟩
theorem goodWho_any (n : Int) (w : World) : Calls Try.prog 62 #[.int .i64 n] w fun e w' => e = .returned (.bool (gW n)) ∧ w' = w := by
  by_cases h0 : 0 ≤ n
  · by_cases h1 : n < 256
    · go_enter Try.func62, Try.ntmps62
      go_wp2
      go_ret
      exact ⟨ret_bool (by simp [gW, h0, h1]), rfl⟩
    · go_enter Try.func62, Try.ntmps62
      go_wp2
      go_ret
      exact ⟨ret_bool (by simp [gW, h0, h1]), rfl⟩
  · go_enter Try.func62, Try.ntmps62
    go_wp2
    go_ret
    exact ⟨ret_bool (by simp [gW]; omega), rfl⟩
theorem rPerson_any (n : Int) (w : World) : Calls Try.prog 47 #[.int .i64 n] w fun e w' => e = .returned (.bool (gW n)) ∧ w' = w := by
  by_cases h0 : 0 ≤ n
  · by_cases h1 : n < 256
    · go_enter Try.func47, Try.ntmps47
      go_wp2
      go_ret
      exact ⟨ret_bool (by simp [gW, h0, h1]), rfl⟩
    · go_enter Try.func47, Try.ntmps47
      go_wp2
      go_ret
      exact ⟨ret_bool (by simp [gW, h0, h1]), rfl⟩
  · go_enter Try.func47, Try.ntmps47
    go_wp2
    go_ret
    exact ⟨ret_bool (by simp [gW]; omega), rfl⟩
def gL (n : Int) : Bool := decide (0 ≤ n) && decide (n < 64)
theorem rSlot_any (n : Int) (w : World) : Calls Try.prog 48 #[.int .i64 n] w fun e w' => e = .returned (.bool (gL n)) ∧ w' = w := by
  by_cases h0 : 0 ≤ n
  · by_cases h1 : n < 64
    · go_enter Try.func48, Try.ntmps48
      go_wp2
      go_ret
      exact ⟨ret_bool (by simp [gL, h0, h1]), rfl⟩
    · go_enter Try.func48, Try.ntmps48
      go_wp2
      go_ret
      exact ⟨ret_bool (by simp [gL, h0, h1]), rfl⟩
  · go_enter Try.func48, Try.ntmps48
    go_wp2
    go_ret
    exact ⟨ret_bool (by simp [gL]; omega), rfl⟩
theorem goodSeat_any (s : Int × Int) (w : World) : Calls Try.prog 59 #[.agg #[.int .i64 s.1, .int .i64 s.2] ] w fun e w' => e = .returned (.bool (gS s)) ∧ Below w.heap.size w w' := by
  obtain ⟨a, b⟩ := s
  dsimp only
  have hW := goodWho_any a
  cases hw : gW a with
  | false =>
    rw [hw] at hW
    have HE : Hid (gS (a, b) = false) := by unfold Hid gS; rw [hw]; rfl
    clear hw
    go_enter Try.func59, Try.ntmps59
    go_wp2_with (go_at_call 62; refine (hW _).mono ?_; rintro r w' ⟨rfl, rfl⟩)
    go_ret
    exact ⟨ret_bool HE.out.symm, below_alloc _ _⟩
  | true =>
    rw [hw] at hW
    have HE : Hid (gS (a, b) = (decide (0 ≤ b) && decide (b < 64))) := by unfold Hid gS; rw [hw]; rfl
    clear hw
    by_cases h0 : 0 ≤ b
    · by_cases h1 : b < 64
      · go_enter Try.func59, Try.ntmps59
        go_wp2_with (go_at_call 62; refine (hW _).mono ?_; rintro r w' ⟨rfl, rfl⟩)
        go_ret
        exact ⟨ret_bool (by rw [HE.out]; simp [h0, h1]), below_alloc _ _⟩
      · have d1 : decide (b < 64) = false := by simp; omega
        go_enter Try.func59, Try.ntmps59
        go_wp2_with (go_at_call 62; refine (hW _).mono ?_; rintro r w' ⟨rfl, rfl⟩)
        go_ret
        exact ⟨ret_bool (by rw [HE.out]; simp [h0, h1]), below_alloc _ _⟩
    · have d1 : decide (0 ≤ b) = false := by simp; omega
      go_enter Try.func59, Try.ntmps59
      go_wp2_with (go_at_call 62; refine (hW _).mono ?_; rintro r w' ⟨rfl, rfl⟩)
      go_ret
      exact ⟨ret_bool (by rw [HE.out, d1]; rfl), below_alloc _ _⟩
theorem goodBox_any (b : (Int × Int) × (Int × Int)) (w : World) : Calls Try.prog 64 #[.agg #[.int .i64 b.1.1, .int .i64 b.1.2, .int .i64 b.2.1, .int .i64 b.2.2] ] w fun e w' => e = .returned (.bool (gB b)) ∧ Below w.heap.size w w' := by
  obtain ⟨⟨a1, a2⟩, b1, b2⟩ := b
  dsimp only
  have h1 := Rt.good_any a1 a2
  have h2 := Rt.good_any b1 b2
  cases e1 : gd a1 a2 with
  | false =>
    rw [e1] at h1
    have HE : Hid (gB ((a1, a2), (b1, b2)) = false) := by unfold Hid gB gK; dsimp only; rw [e1]; rfl
    clear e1 h2
    go_enter Try.func64, Try.ntmps64
    go_wp2_with fail
    refine (h1 _).mono ?_
    rintro r w' ⟨rfl, rfl⟩
    go_wp2_with fail
    go_ret
    exact ⟨ret_bool HE.out.symm, Below.plus (below_alloc _ _) _⟩
  | true =>
    rw [e1] at h1
    have HE : Hid (gB ((a1, a2), (b1, b2)) = gd b1 b2) := by unfold Hid gB gK; dsimp only; rw [e1]; rfl
    clear e1
    obtain ⟨g, hg⟩ : ∃ g, gd b1 b2 = g := ⟨_, rfl⟩
    rw [hg] at h2 HE
    rw [HE.out]
    clear hg HE
    go_enter Try.func64, Try.ntmps64
    go_wp2_with fail
    refine (h1 _).mono ?_
    rintro r w' ⟨rfl, rfl⟩
    go_wp2_with fail
    refine (h2 _).mono ?_
    rintro r w' ⟨rfl, rfl⟩
    go_wp2_with fail
    go_ret
    exact ⟨by cases g <;> rfl, Below.plus (Below.plus (below_alloc _ _) _) _⟩
theorem rGoodBox_any (b : (Int × Int) × (Int × Int)) (w : World) : Calls Try.prog 46 #[.agg #[.int .i64 b.1.1, .int .i64 b.1.2, .int .i64 b.2.1, .int .i64 b.2.2] ] w fun e w' => e = .returned (.bool (gB b)) ∧ Below w.heap.size w w' := by
  obtain ⟨⟨a1, a2⟩, b1, b2⟩ := b
  dsimp only
  have h1 := Rt.rGood_any a1 a2
  have h2 := Rt.rGood_any b1 b2
  cases e1 : gd a1 a2 with
  | false =>
    rw [e1] at h1
    have HE : Hid (gB ((a1, a2), (b1, b2)) = false) := by unfold Hid gB gK; dsimp only; rw [e1]; rfl
    clear e1 h2
    go_enter Try.func46, Try.ntmps46
    go_wp2_with fail
    refine (h1 _).mono ?_
    rintro r w' ⟨rfl, rfl⟩
    go_wp2_with fail
    go_ret
    exact ⟨ret_bool HE.out.symm, Below.plus (below_alloc _ _) _⟩
  | true =>
    rw [e1] at h1
    have HE : Hid (gB ((a1, a2), (b1, b2)) = gd b1 b2) := by unfold Hid gB gK; dsimp only; rw [e1]; rfl
    clear e1
    obtain ⟨g, hg⟩ : ∃ g, gd b1 b2 = g := ⟨_, rfl⟩
    rw [hg] at h2 HE
    rw [HE.out]
    clear hg HE
    go_enter Try.func46, Try.ntmps46
    go_wp2_with fail
    refine (h1 _).mono ?_
    rintro r w' ⟨rfl, rfl⟩
    go_wp2_with fail
    refine (h2 _).mono ?_
    rintro r w' ⟨rfl, rfl⟩
    go_wp2_with fail
    go_ret
    exact ⟨by cases g <;> rfl, Below.plus (Below.plus (below_alloc _ _) _) _⟩
theorem dpr_no {v u : Int} (h : u ≤ v ∨ 85 ≤ u) (h0 : 0 ≤ v) (h1 : v < 85) : dpr v u = false := by
  unfold dpr
  by_cases hu : 0 ≤ u ∧ u < 85
  · rw [belB_at hu.1 (by omega) h1]
    by_cases e : u = v
    · simp [e]
    · simp [e]
  · rw [belB_no' (nodeB_no (by omega))]; rfl
theorem deeper_any (v u : Int) (h0 : 0 ≤ v) (h1 : v < 21) (w : World) : Calls Try.prog 84 #[.int .i64 v, .int .i64 u] w fun e w' => e = .returned (.bool (dpr v u)) ∧ w' = w := by
  by_cases hu : u ≤ v
  · have HE : Hid (dpr v u = false) := dpr_no (.inl hu) h0 (by omega)
    go_enter Try.func84, Try.ntmps84
    go_wp2
    go_ret
    exact ⟨ret_bool HE.out.symm, rfl⟩
  · by_cases hu2 : 85 ≤ u
    · have HE : Hid (dpr v u = false) := dpr_no (.inr hu2) h0 (by omega)
      go_enter Try.func84, Try.ntmps84
      go_wp2
      go_ret
      exact ⟨ret_bool HE.out.symm, rfl⟩
    · have HE : Hid (dpr v u = belB v u) := by
        unfold Hid dpr
        rw [decide_eq_true (show u ≠ v by omega), Bool.and_true]
      go_enter Try.func84, Try.ntmps84
      go_wp2
      go_loop [1] (fun b => ∃ x : Int, 0 ≤ x ∧ x < 85 ∧ Hid (belB v x = belB v u) ∧ b = .int .i64 x) (fun b => (intOf b).toNat)
      case atStart => exact ⟨u, by omega, by omega, rfl, rfl⟩
      case round =>
        obtain ⟨x, hx0, hx1, hm, rfl⟩ := hrel
        by_cases hlt : v < x
        · have hp : par x = (x - 1) / 4 := by unfold par; rw [if_pos (by omega)]
          have hq : Hid (belB v ((x - 1) / 4) = belB v u) := by unfold Hid; rw [← hp, ← belB_up h0 hlt hx1, hm.out]
          have htd : (x - 1).tdiv 4 = (x - 1) / 4 := Int.tdiv_eq_ediv_of_nonneg (by omega)
          clear hp hu hu2
          go_wp2
          go_round
          case rel => exact ⟨(x - 1) / 4, by omega, by omega, hq, by first | rfl | (rw [htd]) | go_num⟩
          case measure => simp [intOf]; omega
        · have hq : Hid ((x == v) = belB v u) := by unfold Hid; rw [← hm.out, belB_at hx0 (by omega) (by omega)]
          go_wp2
          go_ret
          exact ⟨ret_bool (by rw [HE.out]; exact hq.out), rfl⟩
theorem goodItem_any (i : (Int × Int) × ((Int × Int) × (Int × Int))) (w : World) : Calls Try.prog 61 #[.agg #[.int .i64 i.1.1, .int .i64 i.1.2, .int .i64 i.2.1.1, .int .i64 i.2.1.2, .int .i64 i.2.2.1, .int .i64 i.2.2.2] ] w fun e w' => e = .returned (.bool (gI i)) ∧ Below w.heap.size w w' := by
  obtain ⟨⟨v, u⟩, b⟩ := i
  dsimp only
  by_cases h0 : 0 ≤ v
  · by_cases h1 : v < 21
    · have hD := deeper_any v u h0 h1
      have HE : Hid (gI ((v, u), b) = (dpr v u && gB b)) := by unfold Hid gI; dsimp only; rw [decide_eq_true h0, decide_eq_true h1]; rfl
      have hB := goodBox_any b
      rw [HE.out]
      clear HE
      cases hd : dpr v u with
      | false =>
        rw [hd] at hD
        clear hd hB
        go_enter Try.func61, Try.ntmps61
        go_wp2_with (go_at_call 84; refine (hD _).mono ?_; rintro r w' ⟨rfl, rfl⟩)
        go_ret
        exact ⟨rfl, below_alloc _ _⟩
      | true =>
        rw [hd] at hD
        clear hd
        rw [Bool.true_and]
        obtain ⟨g, hg⟩ : ∃ g, gB b = g := ⟨_, rfl⟩
        rw [hg] at hB
        rw [hg]
        clear hg
        go_enter Try.func61, Try.ntmps61
        go_wp2_with (go_at_call 84; refine (hD _).mono ?_; rintro r w' ⟨rfl, rfl⟩)
        refine (hB _).mono ?_
        rintro r w2 ⟨rfl, hb2⟩
        have HB : Hid (Below w.heap.size w w2) := Below.join (below_alloc _ _) hb2
        clear hb2
        go_wp2_with fail
        go_ret
        exact ⟨by cases g <;> rfl, HB.out⟩
    · have HE : Hid (gI ((v, u), b) = false) := by unfold Hid gI; dsimp only; rw [decide_eq_false h1, Bool.and_false]; rfl
      go_enter Try.func61, Try.ntmps61
      go_wp2
      go_ret
      exact ⟨ret_bool HE.out.symm, below_alloc _ _⟩
  · have HE : Hid (gI ((v, u), b) = false) := by unfold Hid gI; dsimp only; rw [decide_eq_false h0]; rfl
    go_enter Try.func61, Try.ntmps61
    go_wp2
    go_ret
    exact ⟨ret_bool HE.out.symm, below_alloc _ _⟩
end Go.Proofs.Ytdkfifnhmfbagaa.Wi
