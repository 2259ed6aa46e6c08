/- Contract: one call on both disks: Image. -/
import Derived.Test.YtifjihdanbbhkaaDkT
namespace Go.Proofs.Ytifjihdanbbhkaa
open Go.RowKit Go.Maps
set_option linter.unusedVariables false
set_option linter.unusedSimpArgs false
attribute [local go_sem ↓] Go.wp_at_zero Go.wp_at_succ

set_option maxHeartbeats 4000000 in
set_option maxRecDepth 100000 in
theorem step_image (N : Nat) (w : World) (p q : Nat) (s : St) (h : Two N w p q s) (at' : Int) (t : ByteArray) (hl : s.log.length ≤ 5864062014805) (hN : N ≤ w.heap.size) :
    Calls Try.prog 12 #[.pointer (some ⟨p, 0, none⟩), .pointer (some ⟨q, 0, none⟩), .agg #[.int .i64 5, .int .i64 at', .string t]] w fun e w' => e = .returned (.bool true) ∧ StepDone N w p q s w' := by
  have hb0 := below1 w (.cells #[.int .i64 5, .int .i64 at', .string t] 35)
  have HB0 : Hid _ := hb0
  have HT0 : Hid (Two N (w.alloc (.cells #[.int .i64 5, .int .i64 at', .string t] 35)) p q s) := h.later hb0
  obtain ⟨w0, e0⟩ : ∃ w0, w.alloc (.cells #[.int .i64 5, .int .i64 at', .string t] 35) = w0 := ⟨_, rfl⟩
  rw [e0] at HT0 HB0
  have HE0 : Hid (w.alloc (.cells #[.int .i64 5, .int .i64 at', .string t] 35) = w0) := e0
  obtain ⟨T, hT⟩ : ∃ T, (im s.bl).length = T := ⟨_, rfl⟩
  have hT2 : T ≤ 2048 := by rw [← hT, im_length]; exact top_le _
  obtain ⟨L, hL⟩ : ∃ L, s.log.length = L := ⟨_, rfl⟩
  have hl2 := hl
  rw [hL] at hl2
  have HI : Hid _ := two_image HT0.out hl hT
  have HRI : Hid _ := two_rImage HT0.out hT
  have HW : Hid _ := two_writes HT0.out hl hL
  obtain ⟨aL, cL, hLg⟩ := two_log HT0.out hL
  have HLG : Hid _ := hLg
  have HS : Hid _ := same_n hT (by omega)
  have HSW : Hid _ := sameW_n hL (by omega)
  have HBD : Hid (Below w0.heap.size w0 w0.drew) := (Below.refl _ w0).drew
  have q2 := (hLg w0 (Below.refl _ _)).1
  have hl3 : L ≤ 5864062014805 := hl2
  clear hb0 e0 hLg hT hL hl hl2
  go_enter Try.func12, Try.ntmps12
  go_wp2_with fail
  rw [HE0.out]
  go_region_with (first
    | (go_at_call 18; refine (HI.out _ HBD.out).mono ?_; rintro e w1 ⟨a1, cp1, rfl, hr1, hb1, hbb1⟩; have HR1 : Hid (RdS w1 a1 (im s.bl)) := hr1; have HB1 : Hid _ := hb1; have HBB1 : Hid _ := hbb1; clear hr1 hb1 hbb1)
    | (go_at_call 18; refine (HI.out _ HB2.out).mono ?_; rintro e w1 ⟨a1, cp1, rfl, hr1, hb1, hbb1⟩; have HRS : Hid (RdS w1 _ (im s.bl) ∧ RdS w1 _ (im s.bl)) := ⟨hr1, HR2.out.later hbb1⟩; have HBS : Hid _ := hb1; clear hr1 hb1 hbb1)
    | (go_at_call 19; refine (HRI.out _ HBD.out).mono ?_; rintro e w1 ⟨a2, cp2, rfl, hr2, hb2, hbb2⟩; have HR2 : Hid (RdS w1 a2 (im s.bl)) := hr2; have HB2 : Hid _ := hb2; have HBB2 : Hid _ := hbb2; clear hr2 hb2 hbb2)
    | (go_at_call 19; refine (HRI.out _ HB1.out).mono ?_; rintro e w2 ⟨a2, cp2, rfl, hr2, hb2, hbb2⟩; have HRS : Hid (RdS w2 _ (im s.bl) ∧ RdS w2 _ (im s.bl)) := ⟨HR1.out.later hbb2, hr2⟩; have HBS : Hid _ := hb2; clear hr2 hb2 hbb2)
    | (go_at_call 17; refine (HS.out _ _ _ _ _ HRS.out.1 HRS.out.2).mono ?_; rintro e w3 ⟨rfl, hb3⟩; have HB3 : Hid _ := thenB HBS.out hb3; have q3 := (HLG.out _ HB3.out).1; clear hb3)
    | (go_at_call 21; refine (HW.out _ HB3.out).mono ?_; rintro e w4 ⟨a4, cp4, rfl, hr4, hb4, hbb4⟩; have HR4 : Hid (RdW w4 a4 s.log) := hr4; have HB4 : Hid _ := hb4; have q4 := (HLG.out _ HB4.out).1; clear hr4 hb4 hbb4)
    | (go_at_call 20; refine (HSW.out _ _ _ _ _ HR4.out (HLG.out _ HB4.out).2).mono ?_; rintro e w5 ⟨rfl, hb5⟩; have HB5 : Hid _ := thenB HB4.out hb5; clear hb5))
  all_goals go_wp2
  all_goals go_ret
  all_goals exact ⟨rfl, HT0.out.later HB5.out, OpKept.ofBelow (thenB HB0.out HB5.out), belowW (thenB HB0.out HB5.out) hN⟩
end Go.Proofs.Ytifjihdanbbhkaa
