/- Contract: one call on both disks: Read, Up, Off, and none. -/
import Derived.Test.YtifjihdanbbhkaaDkT
namespace Go.Proofs.Ytifjihdanbbhkaa
open Go.RowKit Go.Maps
set_option linter.unusedVariables false
set_option linter.unusedSimpArgs false

theorem cells_op3 {W : World} {o : Nat} {kd at' : Int} {t : ByteArray} (h : W.heap[o]? = some (.cells #[.int .i64 kd, .int .i64 at', .string t] 35)) : W.cell? ⟨o, 1, none⟩ = some (.int .i64 at') := by simp [World.cell?, h]
theorem mid_read {N : Nat} {w w' : World} {p q : Nat} {s t : St} (h : Mid N w w' p q s t) (at' : Int) (hw : (Lit.int .i64 at').wf = true) :
    Calls Try.prog 25 #[.pointer (some ⟨p, 0, none⟩), .int .i64 at'] w' fun e w'' => e = .returned (.tuple #[.string (rd s at'), .int .i64 (rf s.left at')]) ∧ w'' = w' := by
  obtain ⟨b, m, x, f, y, z, hT⟩ := h.tw
  exact read_any N w' p s b m x hT.d at' hw
theorem mid_rRead {N : Nat} {w w' : World} {p q : Nat} {s t : St} (h : Mid N w w' p q s t) (at' : Int) :
    Calls Try.prog 28 #[.pointer (some ⟨q, 0, none⟩), .int .i64 at'] w' fun e w'' => e = .returned (.tuple #[.string (rd t at'), .int .i64 (rf t.left at')]) ∧ w'' = w' := by
  obtain ⟨b, m, x, f, y, z, hT⟩ := h.tw
  exact rRead_any N w' q t f y z hT.r at'
set_option maxHeartbeats 2000000 in
set_option maxRecDepth 100000 in
theorem step_read (N : Nat) (w : World) (p q : Nat) (s : St) (h : Two N w p q s) (at' : Int) (t : ByteArray) (w2 : (Lit.int .i64 at').wf = true) (hN : N ≤ w.heap.size) :
    Calls Try.prog 12 #[.pointer (some ⟨p, 0, none⟩), .pointer (some ⟨q, 0, none⟩), .agg #[.int .i64 2, .int .i64 at', .string t]] w fun e w' => e = .returned (.bool true) ∧ StepDone N w p q s w' := by
  obtain ⟨kd, hkd⟩ : ∃ kd : Int, kd = 2 := ⟨_, rfl⟩
  rw [← hkd]
  have hb0 := below1 w (.cells #[.int .i64 kd, .int .i64 at', .string t] 35)
  have HB0 : Hid _ := hb0
  have ho := heap_alloc_new w (.cells #[.int .i64 kd, .int .i64 at', .string t] 35)
  have HM0 : Hid (Mid N (w.alloc (.cells #[.int .i64 kd, .int .i64 at', .string t] 35)) (w.alloc (.cells #[.int .i64 kd, .int .i64 at', .string t] 35)) p q s s) := ⟨fun _ _ e => e, h.later hb0, Below.refl _ _, Nat.le_trans hN hb0.size⟩
  have h1 := mid_read HM0.out at' w2
  have h2 := mid_rRead HM0.out at'
  obtain ⟨u, eu⟩ : ∃ u, rd s at' = u := ⟨_, rfl⟩
  obtain ⟨v, ev⟩ : ∃ v, rf s.left at' = v := ⟨_, rfl⟩
  rw [eu, ev] at h1 h2
  clear hb0 ho eu ev
  subst hkd
  go_enter Try.func12, Try.ntmps12
  go_wp2_with fail
  refine h1.mono ?_
  rintro e w5 ⟨rfl, rfl⟩
  go_wp2_with fail
  refine h2.mono ?_
  rintro e w6 ⟨rfl, rfl⟩
  go_wp2
  go_ret
  exact ⟨ret_bool (by simp), HM0.out.done HB0.out hN⟩
set_option maxHeartbeats 2000000 in
set_option maxRecDepth 100000 in
theorem step_up (N : Nat) (w : World) (p q : Nat) (s : St) (h : Two N w p q s) (at' : Int) (t : ByteArray) (w2 : (Lit.int .i64 at').wf = true) (hN : N ≤ w.heap.size) :
    Calls Try.prog 12 #[.pointer (some ⟨p, 0, none⟩), .pointer (some ⟨q, 0, none⟩), .agg #[.int .i64 3, .int .i64 at', .string t]] w fun e w' => e = .returned (.bool true) ∧ StepDone N w p q ⟨s.img, s.log, max at' (-1)⟩ w' := by
  obtain ⟨kd, hkd⟩ : ∃ kd : Int, kd = 3 := ⟨_, rfl⟩
  rw [← hkd]
  have hb0 := below1 w (.cells #[.int .i64 kd, .int .i64 at', .string t] 35)
  have HB0 : Hid _ := hb0
  have ho := heap_alloc_new w (.cells #[.int .i64 kd, .int .i64 at', .string t] 35)
  have HM0 : Hid (Mid N (w.alloc (.cells #[.int .i64 kd, .int .i64 at', .string t] 35)) (w.alloc (.cells #[.int .i64 kd, .int .i64 at', .string t] 35)) p q s s) := ⟨fun _ _ e => e, h.later hb0, Below.refl _ _, Nat.le_trans hN hb0.size⟩
  have hle : at' ≤ 9223372036854775807 := by
    have h := w2
    simp [Lit.wf, IntKind.bits, IntKind.signed] at h
    omega
  have h1 := mid_up HM0.out at' hle
  have HO : Hid _ := ho
  clear hb0 ho
  subst hkd
  go_enter Try.func12, Try.ntmps12
  go_wp2_with fail
  refine h1.mono ?_
  rintro e w5 ⟨rfl, hm5⟩
  have c1 := cells_op3 (hm5.op _ _ HO.out)
  have h2 := mid_rUp hm5 at' hle
  clear hm5
  go_wp2_with fail
  refine h2.mono ?_
  rintro e w6 ⟨rfl, hm6⟩
  have HM6 : Hid _ := hm6
  clear hm6
  go_wp2
  go_ret
  exact ⟨rfl, HM6.out.done HB0.out hN⟩
set_option maxHeartbeats 2000000 in
set_option maxRecDepth 100000 in
theorem step_off (N : Nat) (w : World) (p q : Nat) (s : St) (h : Two N w p q s) (at' : Int) (t : ByteArray) (hN : N ≤ w.heap.size) :
    Calls Try.prog 12 #[.pointer (some ⟨p, 0, none⟩), .pointer (some ⟨q, 0, none⟩), .agg #[.int .i64 4, .int .i64 at', .string t]] w fun e w' => e = .returned (.bool true) ∧ StepDone N w p q ⟨s.img, s.log, 0⟩ w' := by
  obtain ⟨kd, hkd⟩ : ∃ kd : Int, kd = 4 := ⟨_, rfl⟩
  rw [← hkd]
  have hb0 := below1 w (.cells #[.int .i64 kd, .int .i64 at', .string t] 35)
  have HB0 : Hid _ := hb0
  have ho := heap_alloc_new w (.cells #[.int .i64 kd, .int .i64 at', .string t] 35)
  have HM0 : Hid (Mid N (w.alloc (.cells #[.int .i64 kd, .int .i64 at', .string t] 35)) (w.alloc (.cells #[.int .i64 kd, .int .i64 at', .string t] 35)) p q s s) := ⟨fun _ _ e => e, h.later hb0, Below.refl _ _, Nat.le_trans hN hb0.size⟩
  have h1 := mid_off HM0.out
  clear hb0 ho
  subst hkd
  go_enter Try.func12, Try.ntmps12
  go_wp2_with fail
  refine h1.mono ?_
  rintro e w5 ⟨rfl, hm5⟩
  have h2 := mid_rOff hm5
  clear hm5
  go_wp2_with fail
  refine h2.mono ?_
  rintro e w6 ⟨rfl, hm6⟩
  have HM6 : Hid _ := hm6
  clear hm6
  go_wp2
  go_ret
  exact ⟨rfl, HM6.out.done HB0.out hN⟩
set_option maxHeartbeats 2000000 in
set_option maxRecDepth 100000 in
theorem step_other (N : Nat) (w : World) (p q : Nat) (s : St) (h : Two N w p q s) (kd at' : Int) (t : ByteArray) (hN : N ≤ w.heap.size) (k1 : kd ≠ 1) (k2 : kd ≠ 2) (k3 : kd ≠ 3) (k4 : kd ≠ 4) (k5 : kd ≠ 5) :
    Calls Try.prog 12 #[.pointer (some ⟨p, 0, none⟩), .pointer (some ⟨q, 0, none⟩), .agg #[.int .i64 kd, .int .i64 at', .string t]] w fun e w' => e = .returned (.bool true) ∧ StepDone N w p q s w' := by
  have hb0 := below1 w (.cells #[.int .i64 kd, .int .i64 at', .string t] 35)
  have HB0 : Hid _ := hb0
  have ho := heap_alloc_new w (.cells #[.int .i64 kd, .int .i64 at', .string t] 35)
  have HM0 : Hid (Mid N (w.alloc (.cells #[.int .i64 kd, .int .i64 at', .string t] 35)) (w.alloc (.cells #[.int .i64 kd, .int .i64 at', .string t] 35)) p q s s) := ⟨fun _ _ e => e, h.later hb0, Below.refl _ _, Nat.le_trans hN hb0.size⟩
  have b1 : (kd == 1) = false := by simpa using k1
  have b2 : (kd == 2) = false := by simpa using k2
  have b3 : (kd == 3) = false := by simpa using k3
  have b4 : (kd == 4) = false := by simpa using k4
  have b5 : (kd == 5) = false := by simpa using k5
  clear hb0 ho k1 k2 k3 k4 k5
  go_enter Try.func12, Try.ntmps12
  go_wp2
  go_ret
  exact ⟨rfl, HM0.out.done HB0.out hN⟩
end Go.Proofs.Ytifjihdanbbhkaa
