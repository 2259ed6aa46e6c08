/- Contracts: the document's GoodRekey, GoodRequest, GoodReply, GoodSealed. -/
import Derived.Test.YtpimbpfefhkojaaWiJ1
namespace Go.Proofs.Ytpimbpfefhkojaa.Wi
open Go.RowKit Go.Maps
open Rt (gd)
open Sh (belB)
set_option linter.unusedVariables false
set_option linter.unusedSimpArgs false

theorem gS_split (s : Int × Int) : gS s = (gW s.1 && gL s.2) := rfl
set_option maxRecDepth 100000 in
theorem rSealed_any (d : Int × ((Int × Int) × ByteArray)) (w : World) (hn : d.2.2.size < 4611686018427387904) : Calls Try.prog 18 #[.agg (sdl d).toArray] w fun e w' => e = .returned (.bool (gD d)) ∧ Below w.heap.size w w' := by
  obtain ⟨a, ⟨b, c⟩, s⟩ := d
  unfold sdl
  dsimp only at *
  have HG : Hid (gD (a, (b, c), s) = (gE a && (gd b c && decide (s.size ≤ 64)))) := rfl
  rw [HG.out]
  have h1 := rEpoch_any a
  have h2 := Rt.rGood_any b c
  generalize gE a = x at *
  generalize gd b c = y at *
  clear HG
  obtain ⟨n, hne⟩ : ∃ n, s.size = n := ⟨_, rfl⟩
  rw [hne] at hn
  rw [hne]
  have HN : Hid (s.size = n) := hne
  cases x with
  | false =>
    go_enter Try.func18, Try.ntmps18
    go_wp2_with (go_at_call 32; refine (h1 _).mono ?_; rintro r w' ⟨rfl, rfl⟩)
    go_ret
    exact ⟨rfl, below_alloc _ _⟩
  | true =>
    cases y with
    | false =>
      go_enter Try.func18, Try.ntmps18
      go_wp2_with (first | (go_at_call 32; refine (h1 _).mono ?_; rintro r w' ⟨rfl, rfl⟩) | (go_at_call 33; refine (h2 _).mono ?_; rintro r w' ⟨rfl, rfl⟩))
      go_ret
      exact ⟨rfl, Below.plus (below_alloc _ _) _⟩
    | true =>
      by_cases h64 : n ≤ 64
      · have d1 : (n : Int) ≤ 64 := by omega
        go_enter Try.func18, Try.ntmps18
        go_wp2_with (first | (go_at_call 32; refine (h1 _).mono ?_; rintro r w' ⟨rfl, rfl⟩) | (go_at_call 33; refine (h2 _).mono ?_; rintro r w' ⟨rfl, rfl⟩))
        go_ret
        exact ⟨by simp [h64], Below.plus (below_alloc _ _) _⟩
      · have d1 : decide ((n : Int) ≤ 64) = false := by simp; omega
        go_enter Try.func18, Try.ntmps18
        go_wp2_with (first | (go_at_call 32; refine (h1 _).mono ?_; rintro r w' ⟨rfl, rfl⟩) | (go_at_call 33; refine (h2 _).mono ?_; rintro r w' ⟨rfl, rfl⟩))
        go_ret
        exact ⟨by simp [h64] <;> omega, Below.plus (below_alloc _ _) _⟩
theorem gI_no1 {i : (Int × Int) × ((Int × Int) × (Int × Int))} (h : ¬ (0 ≤ i.1.1 ∧ i.1.1 < 21)) : gI i = false := by
  unfold gI
  by_cases h0 : 0 ≤ i.1.1
  · rw [decide_eq_false (show ¬ i.1.1 < 21 from fun h1 => h ⟨h0, h1⟩), Bool.and_false]; rfl
  · rw [decide_eq_false h0]; rfl
theorem gI_yes1 {i : (Int × Int) × ((Int × Int) × (Int × Int))} (h0 : 0 ≤ i.1.1) (h1 : i.1.1 < 21) : gI i = (dpr i.1.1 i.1.2 && gB i.2) := by
  unfold gI
  rw [decide_eq_true h0, decide_eq_true h1]; rfl
end Go.Proofs.Ytpimbpfefhkojaa.Wi
