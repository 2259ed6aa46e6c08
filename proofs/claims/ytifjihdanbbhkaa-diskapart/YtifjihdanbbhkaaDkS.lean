/- Contract: one call on both disks. -/
import Derived.Test.YtifjihdanbbhkaaDkT
namespace Go.Proofs.Ytifjihdanbbhkaa
open Go.RowKit Go.Maps
set_option linter.unusedVariables false
set_option linter.unusedSimpArgs false
attribute [local go_sem ↓] Go.wp_at_zero Go.wp_at_succ

theorem cells_op {W : World} {o : Nat} {kd at' : Int} {t : ByteArray} (h : W.heap[o]? = some (.cells #[.int .i64 kd, .int .i64 at', .string t] 35)) : W.cell? ⟨o, 1, none⟩ = some (.int .i64 at') ∧ W.cell? ⟨o, 2, none⟩ = some (.string t) := ⟨by simp [World.cell?, h], by simp [World.cell?, h]⟩
set_option maxHeartbeats 2000000 in
set_option maxRecDepth 100000 in
theorem step_write (N : Nat) (w : World) (p q : Nat) (s : St) (h : Two N w p q s) (at' : Int) (t : ByteArray) (w2 : (Lit.int .i64 at').wf = true) (ht : t.size ≤ 9223372036854775807) (hl : s.log.length + 1 ≤ 5864062014805) (hN : N ≤ w.heap.size) :
    Calls Try.prog 12 #[.pointer (some ⟨p, 0, none⟩), .pointer (some ⟨q, 0, none⟩), .agg #[.int .i64 1, .int .i64 at', .string t]] w fun e w' => e = .returned (.bool true) ∧ StepDone N w p q (nx s at' t) w' := by
  have hb0 := below1 w (.cells #[.int .i64 1, .int .i64 at', .string t] 35)
  have HB0 : Hid _ := hb0
  have ho := heap_alloc_new w (.cells #[.int .i64 1, .int .i64 at', .string t] 35)
  have HM0 : Hid (Mid N (w.alloc (.cells #[.int .i64 1, .int .i64 at', .string t] 35)) (w.alloc (.cells #[.int .i64 1, .int .i64 at', .string t] 35)) p q s s) := ⟨fun _ _ e => e, h.later hb0, Below.refl _ _, Nat.le_trans hN hb0.size⟩
  obtain ⟨w0, e0⟩ : ∃ w0, w.alloc (.cells #[.int .i64 1, .int .i64 at', .string t] 35) = w0 := ⟨_, rfl⟩
  have hmid : ∀ (W : World) (s' t' : St), Mid N w0 W p q s' t' → W.cell? ⟨w.heap.size, 1, none⟩ = some (.int .i64 at') ∧ W.cell? ⟨w.heap.size, 2, none⟩ = some (.string t) := fun W s' t' hm => cells_op (hm.op _ _ (by rw [← e0]; exact ho))
  rw [e0] at HM0 HB0
  have HE0 : Hid (w.alloc (.cells #[.int .i64 1, .int .i64 at', .string t] 35) = w0) := e0
  obtain ⟨v, ev⟩ : ∃ v, we s.left at' t = v := ⟨_, rfl⟩
  have hL : ∀ (W : World) (t' : St), Mid N w0 W p q s t' → Calls Try.prog 22 #[.pointer (some ⟨p, 0, none⟩), .int .i64 at', .string t] W fun e w'' => e = .returned (.int .i64 v) ∧ Mid N w0 w'' p q (nx s at' t) t' := fun W t' hm => by rw [← ev]; exact mid_left hm w2 ht hl
  have hR : ∀ (W : World) (s' : St), Mid N w0 W p q s' s → Calls Try.prog 26 #[.pointer (some ⟨q, 0, none⟩), .int .i64 at', .string t] W fun e w'' => e = .returned (.int .i64 v) ∧ Mid N w0 w'' p q s' (nx s at' t) := fun W s' hm => by rw [← ev]; exact mid_right hm ht hl
  have HLR : Hid _ := hL
  have HRR : Hid _ := hR
  have HMID : Hid _ := hmid
  obtain ⟨m1, m2⟩ := hmid w0 _ _ HM0.out
  clear hb0 ho hL hR hmid ev e0
  go_enter Try.func12, Try.ntmps12
  go_wp2_with fail
  rw [HE0.out]
  go_region_with (first
    | (go_at_call 22; refine (HLR.out _ _ HM0.out.drew).mono ?_; rintro e w5 ⟨rfl, hm5⟩; obtain ⟨n1, n2⟩ := HMID.out _ _ _ hm5; have HM5 : Hid _ := hm5; clear hm5)
    | (go_at_call 22; refine (HLR.out _ _ HM6.out).mono ?_; rintro e w7 ⟨rfl, hm7⟩; have HM7 : Hid _ := hm7; clear hm7)
    | (go_at_call 26; refine (HRR.out _ _ HM0.out.drew).mono ?_; rintro e w6 ⟨rfl, hm6⟩; obtain ⟨n1, n2⟩ := HMID.out _ _ _ hm6; have HM6 : Hid _ := hm6; clear hm6)
    | (go_at_call 26; refine (HRR.out _ _ HM5.out).mono ?_; rintro e w7 ⟨rfl, hm7⟩; have HM7 : Hid _ := hm7; clear hm7))
  all_goals go_wp2
  all_goals go_ret
  all_goals exact ⟨ret_bool (by simp), HM7.out.done HB0.out hN⟩
end Go.Proofs.Ytifjihdanbbhkaa
