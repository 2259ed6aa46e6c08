/- Contract: a disk lives. -/
import Derived.Test.YtifjihdanbbhkaaDkE
namespace Go.Proofs.Ytifjihdanbbhkaa
open Go.RowKit Go.Maps
set_option linter.unusedVariables false
set_option linter.unusedSimpArgs false

def ab : ByteArray := ⟨#[97, 98]⟩
theorem gp_ab : Gp (3, ab) := ⟨by decide, by decide, by decide⟩
theorem nx_ab : nx nu 3 ab = ⟨[], [(3, ab)], -1⟩ := by
  unfold nx
  rw [if_pos (we_good (by decide) gp_ab)]
  rfl
theorem bl_ab : (St.mk [] [(3, ab)] (-1)).bl = setB (fun _ => ⟨#[]⟩) 3 ab := by
  unfold St.bl rp
  rw [fnI_nil]
  rfl
theorem top_ab : top (setB (fun _ => ⟨#[]⟩) 3 ab) = 4 := by
  refine top_eq (by decide) (.inr ?_) (fun i h1 h2 => ?_)
  · show (setB _ 3 ab ((4 : Nat) - 1 : Int)).size ≠ 0
    have : ((4 : Nat) - 1 : Int) = 3 := by decide
    rw [this, setB_same]; decide
  · rw [setB_other _ _ (by omega)]; rfl
theorem rd_ab : rd ⟨[], [(3, ab)], -1⟩ 3 = ab := by
  unfold rd
  rw [if_pos (by decide), bl_ab, setB_same]
set_option maxHeartbeats 2000000 in
theorem lives_any (w : World) : Calls Try.prog 7 #[] w fun e w' => e = .returned (.bool true) ∧ Below w.heap.size w w' := by
  go_enter Try.func7, Try.ntmps7
  go_wp2_with fail
  refine (new_any w).mono ?_
  rintro e w1 ⟨p, b, m, x, rfl, hd, hb1⟩
  have HB1 : Hid (Below w.heap.size w w1) := hb1
  have HD1 : Hid (Dk w.heap.size w1 p nu b m x) := hd
  have hN := hb1.size
  clear hd hb1
  go_wp2_with fail
  refine (write_any w.heap.size w1 p nu b m x HD1.out 3 ab (by decide) (by decide) (by decide) hN).mono ?_
  rintro e w2 ⟨rfl, x2, hd2, hk2, _⟩
  rw [nx_ab] at hd2
  rw [we_good (by decide) gp_ab]
  have hb2 := Kept.below (B := w.heap.size) hk2 hN (fun k hk => (HD1.out.inHeap k hk).2)
  have HB2 : Hid (Below w.heap.size w w2) := ⟨hb2.os.trans HB1.out.os, hb2.tape.trans HB1.out.tape, hb2.output.trans HB1.out.output, Nat.le_trans HB1.out.size hb2.size, fun k hk => (hb2.block k hk).trans (HB1.out.block k hk)⟩
  have HD2 : Hid (Dk w.heap.size w2 p ⟨[], [(3, ab)], -1⟩ b m x2) := hd2
  clear hd2 hk2 hb2
  go_wp2_with fail
  refine (read_any w.heap.size w2 p _ b m x2 HD2.out 3 (by decide)).mono ?_
  rintro e w' ⟨rfl, rfl⟩
  rw [rd_ab, show rf (St.mk [] [(3, ab)] (-1)).left 3 = 0 from by decide]
  have habl : ab.toList = [97, 98] := by rw [ByteArray.toList_eq]; rfl
  have hab : (ab.toList == [97, 98]) = true := by rw [habl]; decide
  go_wp2_with fail
  refine (image_any w.heap.size _ p _ b m x2 HD2.out (by decide)).mono ?_
  rintro e w3 ⟨v3, rfl, hr3, hb3⟩
  obtain ⟨a3, cap3, e3⟩ := row_spell hr3
  rw [bl_ab, im_length, top_ab] at e3
  subst e3
  have HB3 : Hid (Below w.heap.size w w3) := thenB HB2.out hb3
  have HD3 : Hid (Dk w.heap.size w3 p ⟨[], [(3, ab)], -1⟩ b m x2) := HD2.out.later hb3
  clear hr3 hb3
  go_wp2_with fail
  refine (writes_any w.heap.size _ p _ b m x2 HD3.out (by decide)).mono ?_
  rintro e w4 ⟨v4, rfl, hr4, hb4⟩
  obtain ⟨a4, cap4, e4⟩ := row_spell hr4
  have e4' : v4 = .slice a4 1 cap4 := e4
  subst e4'
  have HB4 : Hid (Below w.heap.size w w4) := thenB HB3.out hb4
  have HD4 : Hid (Dk w.heap.size w4 p ⟨[], [(3, ab)], -1⟩ b m x2) := HD3.out.later hb4
  clear hr4 hb4 e4
  go_wp2_with fail
  refine (cut_any w.heap.size _ p _ b m x2 HD4.out (by decide) 0 (by decide)).mono ?_
  rintro e w5 ⟨p5, b5, m5, x5, rfl, hd5, hb5⟩
  have HB5 : Hid (Below w.heap.size w w5) := thenB HB4.out hb5
  clear hd5 hb5
  go_wp2
  go_ret
  exact ⟨rfl, HB5.out⟩
end Go.Proofs.Ytifjihdanbbhkaa
