/- Contract: Keys of the program's know. -/
import Derived.Test.YtompgoaogomoaaaKnAa
namespace Go.Proofs.Ytompgoaogomoaaa.Kn
open Go.RowKit Go.Maps Go.Shelf Go.Sort
open Rt (Gd gd gd_yes gd_no keyElem elKey keyElem_mk keyElem_inv MapIs lstf sort_any sorted_is ownsRow_sortedK grownBy_sortedK holds_of_blockK cellsL)
set_option linter.unusedVariables false
set_option linter.unusedSimpArgs false

theorem lp_keys (f : Nat → Int) : ∀ n : Nat, n + 1 ≤ 32768 → Rt.lpart (LF f) n = keysT f (n + 1)
  | 0, _ => by simp [Rt.lpart, keysT]
  | n + 1, h => by
    rw [Rt.lpart_succ, lp_keys f n (by omega)]
    show keysT f (n + 1) ++ _ = keysT f (n + 1) ++ (if n + 1 = 0 ∨ f (n + 1) = 0 then [] else [(((n + 1 : Nat) : Int), f (n + 1) - 1)])
    congr 1
    have e : ((n : Int) + 1).toNat = n + 1 := by omega
    unfold LF
    rw [e]
    by_cases h0 : f (n + 1) = 0
    · simp [h0]
    · have h1 : ¬ ((n : Int) + 1 < 1 ∨ 32768 ≤ (n : Int) + 1 ∨ f (n + 1) = 0) := by omega
      have h2 : ¬ (n + 1 = 0 ∨ f (n + 1) = 0) := by omega
      rw [if_neg h1, if_neg h2]
      simp
theorem lp_far (f : Nat → Int) : ∀ n : Nat, 32767 ≤ n → Rt.lpart (LF f) n = Rt.lpart (LF f) 32767
  | n, h => by
    induction n with
    | zero => omega
    | succ n ih =>
      by_cases e : n + 1 = 32767
      · rw [e]
      · rw [Rt.lpart_succ, ih (by omega)]
        have : LF f ((n : Int) + 1) = none := by unfold LF; rw [if_pos (by omega)]
        rw [this]
        simp
theorem lst_keys (f : Nat → Int) : lstf (LF f) = keysT f 32768 := by
  unfold Rt.lstf
  rw [lp_far f 65535 (by omega), lp_keys f 32767 (by omega)]
theorem collect_any (Bm b : Nat) (f : Nat → Int) (w : World) (hBm : Bm < w.heap.size) (hm : w.cell? ⟨Bm, 0, none⟩ = some (.map (some b))) (hl : Lm w b f) :
    Calls Try.prog 55 #[.func (.func 57) #[] #[.pointer (some ⟨Bm, 0, none⟩)] ] w fun e w' => (∃ (v : Value) (xs : List K2), e = .returned v ∧ xs.Perm (keysT f 32768) ∧ w'.ownsRow w.heap.size 33 2 v xs.length (xs.flatMap kC)) ∧ Below w.heap.size w w' := by
  obtain ⟨nn, D0, hown, hM⟩ := hl
  have hc := callsIn_wide.1 (appSeq_in 4 (by omega) Bm b nn D0 (LF f) hM w hBm hm hown)
  rw [lst_keys] at hc
  clear hown hM
  go_enter Try.func55, Try.ntmps55
  go_wp2_with (go_at_call 60; refine hc.mono ?_; rintro r w2 ⟨⟨v, xs, rfl, h1, h2⟩, h3⟩)
  go_ret
  exact ⟨⟨_, xs, rfl, h1, h2⟩, h3⟩
theorem sorted_any (Bm b : Nat) (f : Nat → Int) (w : World) (hBm : Bm < w.heap.size) (hm : w.cell? ⟨Bm, 0, none⟩ = some (.map (some b))) (hl : Lm w b f) :
    Calls Try.prog 45 #[.func (.func 57) #[] #[.pointer (some ⟨Bm, 0, none⟩)], .func (.func 47) #[] #[] ] w fun e w' => (∃ v, e = .returned v ∧ w'.ownsRow w.heap.size 33 2 v (keysT f 32768).length ((keysT f 32768).flatMap kC)) ∧ Below w.heap.size w w' := by
  have hc := collect_any Bm b f w hBm hm hl
  clear hl
  go_enter Try.func45, Try.ntmps45
  go_upto_region 2 with (go_at_call 55; refine hc.mono ?_; rintro r w2 ⟨⟨v, xs, rfl, h1, h2⟩, h3⟩)
  have hlen : (keysT f 32768).length = xs.length := h1.length_eq.symm
  have hxl : xs.length ≤ 32768 := by rw [← hlen]; exact keysT_len 32768
  have hp : xs.Perm (lstf (LF f)) := by rw [lst_keys f]; exact h1
  have hsi := sorted_is hp
  rw [lst_keys f] at hsi
  clear hp
  rcases h2.2 with ⟨rfl, h0⟩ | ⟨g, cap, cur, rfl, hbase, hbk, q1, q2, q3, q4⟩
  · have hn := AnyF.slices_SortFunc_none Try.sortL none 0 (.func (.func 47) #[] #[]) w2
    change Calls Try.prog 56 _ _ _ at hn
    have HL : Hid ((keysT f 32768).length = 0) := hlen.trans h0
    clear h2 hlen hxl hsi h1 h0 hc
    go_wp2_with (go_at_call 56; refine hn.mono ?_; rintro e w3 ⟨rfl, rfl⟩)
    go_ret
    refine ⟨⟨_, rfl, ?_⟩, h3⟩
    rw [List.length_eq_zero_iff.1 HL.out]
    exact World.ownsRow_nil _ _ _ _
  · have hgl : g < w2.heap.size := (Array.getElem?_eq_some_iff.1 hbk).1
    have hs := sort_any g cap xs w2 (holds_of_blockK (L := xs) hbk q4) hgl (by omega)
    rw [hsi] at hs
    have hO := fun nn os => ownsRow_sortedK (n := nn) (os := os) (M := keysT f 32768) hlen hbase hbk q1 q2 q3
    have HL : Hid ((keysT f 32768).length = xs.length) := hlen
    have HO : Hid _ := hO
    have HB : Hid (w.heap.size ≤ g) := hbase
    clear h2 hlen hxl hsi h1 hc hO hbk q1 q2 q3 q4
    go_wp2_with (go_at_call 56; refine hs.mono ?_; rintro e w3 ⟨rfl, nn, os, rfl⟩)
    go_ret
    refine ⟨⟨_, rfl, ?_⟩, h3.grown (grownBy_sortedK _) h3.size (fun j hj => by cases hj; exact HB.out)⟩
    rw [HL.out]
    exact HO.out nn os
theorem keys_p (w : World) (N p : Nat) (f : Nat → Int) (pd B : List B2) (X : List Sd) (bl bb bt bs : Nat) (vs : K2 → Value) (h : Pk w N p f pd B X bl bb bt bs vs) :
    Calls Try.prog 21 #[.pointer (some ⟨p, 0, none⟩)] w fun e w' => ∃ v, e = .returned v ∧ w'.ownsRow w.heap.size 33 2 v (keysT f 32768).length ((keysT f 32768).flatMap kC) ∧ Below w.heap.size w w' := by
  have hv : Calls Try.prog 46 #[.map (some bl)] w fun e w' => e = .returned (.func (.func 57) #[] #[.pointer (some ⟨w.heap.size, 0, none⟩)]) ∧ w' = w.alloc (.cells #[.map (some bl)] 64) := by
    go_enter Try.func46, Try.ntmps46
    go_wp2
    go_ret
    exact ⟨rfl, rfl⟩
  have hb1 := Rt.below1 w (.cells #[.map (some bl)] 64)
  have hb := Boxed.new w 64 (.map (some bl))
  have hs := sorted_any w.heap.size bl f _ hb.lt hb.cell (h.lst.later hb1)
  have c0 := h.c0
  clear h hb
  go_enter Try.func21, Try.ntmps21
  go_wp2_with (first | (go_at_call 46; refine hv.mono ?_; rintro r w2 ⟨rfl, rfl⟩) | (go_at_call 45; refine hs.mono ?_; rintro r w3 ⟨⟨v, rfl, h1⟩, h2⟩))
  go_ret
  refine ⟨_, rfl, ?_, Rt.Below.then hb1 h2⟩
  rcases h1.2 with q | ⟨g, cap, cur, q0, q1, q2⟩
  · exact ⟨h1.1, .inl q⟩
  · exact ⟨h1.1, .inr ⟨g, cap, cur, q0, Nat.le_trans hb1.size q1, q2⟩⟩
end Go.Proofs.Ytompgoaogomoaaa.Kn
