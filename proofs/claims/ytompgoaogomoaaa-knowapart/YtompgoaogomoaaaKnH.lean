/- Contracts: the document's Closed at its object, In at a closed table, Has, Makes, MakesSealed. -/
import Derived.Test.YtompgoaogomoaaaHd
import Derived.Test.YtompgoaogomoaaaKnG
namespace Go.Proofs.Ytompgoaogomoaaa.Kn
open Go.RowKit Go.Maps
open Rt (Gd gd gd_yes gd_no rGood_any)
set_option linter.unusedVariables false
set_option linter.unusedSimpArgs false

theorem bool_of (P : Prop) : ∃ v : Bool, v = true ↔ P := by
  by_cases h : P
  · exact ⟨true, by simp [h]⟩
  · exact ⟨false, by simp [h]⟩
section
variable {w w' : World} {N p : Nat} {st : Kst} {vt vb vx : Value}
theorem KnAt.closed (h : KnAt w N p st vt vb vx) (lT : st.T.length < 4611686018427387904) (lB : st.B.length < 4611686018427387904) :
    Calls Try.prog 13 #[.pointer (some ⟨p, 0, none⟩)] w fun e w' => ∃ g c f, e = .returned (.slice (some ⟨g, 0, none⟩) 32768 c) ∧ CL w w' 32768 g c f ∧ Tab st.T st.B f := by
  obtain ⟨aT, cT, e1, -⟩ := own_spell h.told
  obtain ⟨aB, cB, e2, -⟩ := own_spell h.box
  exact closed_any p aT aB cT cB st.T st.B w (e1 ▸ h.c0) (e2 ▸ h.c1) (rdK_of (e1 ▸ h.told)) (rdB_of (e2 ▸ h.box)) lT lB h.gt h.gb
theorem KnAt.seen (h : KnAt w N p st vt vb vx) (lB : st.B.length < 4611686018427387904) (b0 b1 b2 b3 : Int) {v : Bool} (hv : v = true ↔ ((b0, b1), (b2, b3)) ∈ st.B) :
    Calls Try.prog 40 #[.pointer (some ⟨p, 0, none⟩), .agg #[.int .i64 b0, .int .i64 b1, .int .i64 b2, .int .i64 b3] ] w fun e w' => e = .returned (.bool v) ∧ Below w.heap.size w w' := by
  obtain ⟨aB, cB, e2, -⟩ := own_spell h.box
  refine (seen_any w p st.B aB cB b0 b1 b2 b3 (e2 ▸ h.c1) (rdB_of (e2 ▸ h.box)) lB).mono ?_
  rintro e w' ⟨⟨u, rfl, hu⟩, hb⟩
  exact ⟨by rw [Bool.eq_iff_iff.2 (hu.trans hv.symm)], hb⟩
theorem KnAt.read (h : KnAt w N p st vt vb vx) (lX : st.X.length < 4611686018427387904) (b0 b1 b2 : Int) (b3 : ByteArray) {v : Bool} (hv : v = true ↔ (b0, ((b1, b2), b3)) ∈ st.X) :
    Calls Try.prog 43 #[.pointer (some ⟨p, 0, none⟩), .agg #[.int .i64 b0, .int .i64 b1, .int .i64 b2, .string b3] ] w fun e w' => e = .returned (.bool v) ∧ Below w.heap.size w w' := by
  obtain ⟨aB, cB, e2, -⟩ := own_spell h.txt
  refine (read_any w p st.X aB cB b0 b1 b2 b3 (e2 ▸ h.c2) (rdX_of (e2 ▸ h.txt)) lX).mono ?_
  rintro e w' ⟨⟨u, rfl, hu⟩, hb⟩
  exact ⟨by rw [Bool.eq_iff_iff.2 (hu.trans hv.symm)], hb⟩
theorem in_tab {w0 W : World} {g c : Nat} {f : Nat → Int} {T : List K2} {B : List B2} (hR : RdT W g f) (hT : Tab T B f) (b s : Int) {v : Bool} (hv : v = true ↔ Had T B (b, s)) :
    Calls Try.prog 15 #[.slice (some ⟨g, 0, none⟩) 32768 c, .agg #[.int .i64 b, .int .i64 s] ] W fun e w' => e = .returned (.bool v) ∧ Below W.heap.size W w' := by
  refine (in_any g c f b s W hR hT.snd.bd).mono ?_
  rintro e w' ⟨rfl, hb⟩
  exact ⟨by rw [Bool.eq_iff_iff.2 (hT.iff.trans hv.symm)], hb⟩
end
set_option maxRecDepth 100000 in
set_option maxHeartbeats 2000000 in
theorem has_any (w : World) (N p : Nat) (st : Kst) (vt vb vx : Value) (b s : Int) (h : KnAt w N p st vt vb vx) (lT : st.T.length < 4611686018427387904) (lB : st.B.length < 4611686018427387904) {v : Bool} (hv : v = true ↔ Had st.T st.B (b, s)) :
    Calls Try.prog 44 #[.pointer (some ⟨p, 0, none⟩), .agg #[.int .i64 b, .int .i64 s] ] w fun e w' => e = .returned (.bool v) ∧ Below w.heap.size w w' := by
  have HK : Hid (KnAt w N p st vt vb vx ∧ st.T.length < 4611686018427387904 ∧ st.B.length < 4611686018427387904) := ⟨h, lT, lB⟩
  have HV : Hid (v = true ↔ Had st.T st.B (b, s)) := hv
  obtain ⟨x0, x1⟩ : (w.alloc (.cells #[.int .i64 b, .int .i64 s] 33)).cell? ⟨w.heap.size, 0, none⟩ = some (.int .i64 b) ∧ (w.alloc (.cells #[.int .i64 b, .int .i64 s] 33)).cell? ⟨w.heap.size, 1, none⟩ = some (.int .i64 s) := boxed2 w (.int .i64 b) (.int .i64 s) 33 0
  have hb1 : Below w.heap.size w (w.alloc (.cells #[.int .i64 b, .int .i64 s] 33)) := Rt.below1 _ _
  clear h lT lB hv
  go_enter Try.func44, Try.ntmps44
  go_upto_region 1 with (fail)
  generalize w.alloc (.cells #[.int .i64 b, .int .i64 s] 33) = w1 at *
  have HB1 : Hid (Below w.heap.size w w1) := hb1
  obtain ⟨Q, hQ⟩ : ∃ Q, w.heap.size = Q := ⟨_, rfl⟩
  have HQ : Hid (w.heap.size = Q) := hQ
  rw [hQ] at x0 x1 ⊢
  have hS0 : Below w.heap.size w w1.drew ∧ w1.drew.cell? ⟨Q, 0, none⟩ = some (.int .i64 b) ∧ w1.drew.cell? ⟨Q, 1, none⟩ = some (.int .i64 s) := ⟨hb1.drew, x0, x1⟩
  clear hb1 hQ x0 x1
  refine wp_region_held_drew (S := fun W => Below w.heap.size w W ∧ W.cell? ⟨Q, 0, none⟩ = some (.int .i64 b) ∧ W.cell? ⟨Q, 1, none⟩ = some (.int .i64 s)) (by kernel_rfl) hS0 (fun hHeld => ?_)
  refine opT 0 5 (.move (.tmp 0)) (.pointer (some ⟨p, 0, none⟩)) rfl ?_
  go_frame
  refine opR 2 7 (.load 33 (.tmp 3)) (.agg #[.int .i64 b, .int .i64 s]) rfl (fun w hSw => by obtain ⟨_, c0, c1⟩ := hSw; go_simp) ?_
  go_frame
  refine wpAnyH_ready (rs := [1]) (by kernel_rfl) (by simp) ?_
  refine AllReadyH.cons rfl (fun K hK => ?_) AllReadyH.nil
  go_simp
  refine (((HK.out.1.later hHeld.1).closed HK.out.2.1 HK.out.2.2)).mono ?_
  rintro r w3 ⟨g, c, f, rfl, hC, hT⟩
  go_wp2_with fail
  have hB3 := Rt.Below.then hHeld.1 hC.bel
  refine hK.out _ _ ⟨hB3, cell_later hC.bel hHeld.2.1, cell_later hC.bel hHeld.2.2⟩ (fun hHeld2 => ?_)
  clear hK K
  try go_frame
  refine wpAnyH_ready (rs := [3]) (by kernel_rfl) (by simp) ?_
  refine AllReadyH.cons rfl (fun K hK => ?_) AllReadyH.nil
  go_simp
  refine (in_tab (w0 := w) (hC.rd rfl) hT b s HV.out).mono ?_
  rintro r w4 ⟨rfl, hb4⟩
  go_wp2_with fail
  refine hK.out _ _ ⟨Rt.Below.then hB3 hb4, cell_later hb4 hHeld2.2.1, cell_later hb4 hHeld2.2.2⟩ (fun hHeld3 => ?_)
  clear hK K
  try go_frame
  refine opT 4 4 (.assign (.tmp 8)) (.bool v) rfl ?_
  go_frame
  refine wpAnyH_done (by kernel_rfl) ?_ _
  go_wp2_with fail
  go_ret
  exact ⟨rfl, hHeld3.1⟩
set_option maxRecDepth 100000 in
set_option maxHeartbeats 2000000 in
theorem makes_any (w : World) (N p : Nat) (st : Kst) (vt vb vx : Value) (b0 b1 b2 b3 : Int) (h : KnAt w N p st vt vb vx) (lT : st.T.length < 4611686018427387904) (lB : st.B.length < 4611686018427387904) {v : Bool} (hv : v = true ↔ gb ((b0, b1), (b2, b3)) = true ∧ (((b0, b1), (b2, b3)) ∈ st.B ∨ (Had st.T st.B (b0, b1) ∧ Had st.T st.B (b2, b3)))) :
    Calls Try.prog 17 #[.pointer (some ⟨p, 0, none⟩), .agg #[.int .i64 b0, .int .i64 b1, .int .i64 b2, .int .i64 b3] ] w fun e w' => e = .returned (.bool v) ∧ Below w.heap.size w w' := by
  have hg := gb_any b0 b1 b2 b3
  have HK : Hid (KnAt w N p st vt vb vx ∧ st.T.length < 4611686018427387904 ∧ st.B.length < 4611686018427387904) := ⟨h, lT, lB⟩
  obtain ⟨u1, hu1⟩ := bool_of (((b0, b1), (b2, b3)) ∈ st.B)
  obtain ⟨u2, hu2⟩ := bool_of (Had st.T st.B (b0, b1))
  obtain ⟨u3, hu3⟩ := bool_of (Had st.T st.B (b2, b3))
  have hcl := fun W (hW : Below w.heap.size w W) => (h.later hW).closed lT lB
  have hse := fun W (hW : Below w.heap.size w W) => (h.later hW).seen lB b0 b1 b2 b3 hu1
  have hi1 := fun (W : World) (g c : Nat) (f : Nat → Int) (hR : RdT W g f) (hT : Tab st.T st.B f) => in_tab (w0 := w) (c := c) hR hT b0 b1 hu2
  have hi2 := fun (W : World) (g c : Nat) (f : Nat → Int) (hR : RdT W g f) (hT : Tab st.T st.B f) => in_tab (w0 := w) (c := c) hR hT b2 b3 hu3
  have HV : Hid (v = (gb ((b0, b1), (b2, b3)) && (u1 || (u2 && u3)))) := by
    unfold Hid
    rw [Bool.eq_iff_iff, hv]
    simp only [Bool.and_eq_true, Bool.or_eq_true, hu1, hu2, hu3]
  rw [HV.out]
  have hb1 : Below w.heap.size w (w.alloc (.cells #[.int .i64 b0, .int .i64 b1, .int .i64 b2, .int .i64 b3] 35)) := Rt.below1 _ _
  obtain ⟨x0, x1, x2, x3⟩ := boxed4 w (.int .i64 b0) (.int .i64 b1) (.int .i64 b2) (.int .i64 b3) 35
  generalize gb ((b0, b1), (b2, b3)) = u0 at *
  clear h lT lB hv hu1 hu2 hu3 HV
  go_enter Try.func17, Try.ntmps17
  go_upto_region 1 with (fail)
  generalize w.alloc (.cells #[.int .i64 b0, .int .i64 b1, .int .i64 b2, .int .i64 b3] 35) = w1 at *
  have HB1 : Hid (Below w.heap.size w w1) := hb1
  have HB0 := fun W (h : Below w1.heap.size w1 W) => Rt.Below.then HB1.out h
  obtain ⟨Q, hQ⟩ : ∃ Q, w.heap.size = Q := ⟨_, rfl⟩
  rw [hQ] at x0 x1 x2 x3 ⊢
  clear hb1 hQ
  have q0 := fun W (h : Below w1.heap.size w1 W) => cell_later h x0
  have q1 := fun W (h : Below w1.heap.size w1 W) => cell_later h x1
  have q2 := fun W (h : Below w1.heap.size w1 W) => cell_later h x2
  have q3 := fun W (h : Below w1.heap.size w1 W) => cell_later h x3
  cases u0 with
  | false =>
    go_wp2_with (go_at_call 27; refine (hg _).mono ?_; rintro r wg ⟨rfl, hbg⟩)
    go_ret
    exact ⟨rfl, HB0 _ hbg⟩
  | true =>
    go_upto_region 4 with (first | (go_at_call 27; refine (hg _).mono ?_; rintro r wg ⟨rfl, hbg⟩) | (go_at_call 13; refine (hcl _ (HB0 _ hbg)).mono ?_; rintro r wc ⟨g, c, f, rfl, hC, hT⟩))
    have hb2 := Rt.Below.then hbg hC.bel
    have HT : Hid (Tab st.T st.B f ∧ RdT wc g f ∧ Below w1.heap.size w1 wc) := ⟨hT, hC.rd rfl, hb2⟩
    have y0 := q0 _ hb2
    have y1 := q1 _ hb2
    have y2 := q2 _ hb2
    have y3 := q3 _ hb2
    clear hC hT hbg
    cases u1 with
    | true =>
      go_wp2_with (go_at_call 40; refine (hse _ (HB0 _ HT.out.2.2)).mono ?_; rintro r ws ⟨rfl, hbs⟩)
      go_ret
      exact ⟨rfl, HB0 _ (Rt.Below.then HT.out.2.2 hbs)⟩
    | false =>
      cases u2 with
      | false =>
        go_wp2_with (first | (go_at_call 40; refine (hse _ (HB0 _ HT.out.2.2)).mono ?_; rintro r ws ⟨rfl, hbs⟩; have z0 := cell_later hbs y0; have z1 := cell_later hbs y1) | (go_at_call 15; refine (hi1 _ g c f (HT.out.2.1.later hbs) HT.out.1).mono ?_; rintro r wi ⟨rfl, hbi⟩))
        go_ret
        exact ⟨rfl, HB0 _ (Rt.Below.then (Rt.Below.then HT.out.2.2 hbs) hbi)⟩
      | true =>
        go_wp2_with (first | (go_at_call 40; refine (hse _ (HB0 _ HT.out.2.2)).mono ?_; rintro r ws ⟨rfl, hbs⟩; have z0 := cell_later hbs y0; have z1 := cell_later hbs y1; have z2 := cell_later hbs y2; have z3 := cell_later hbs y3) | (go_at_call 15; refine (hi2 _ g c f (HT.out.2.1.later (Rt.Below.then hbs hbi)) HT.out.1).mono ?_; rintro r wj ⟨rfl, hbj⟩) | (go_at_call 15; refine (hi1 _ g c f (HT.out.2.1.later hbs) HT.out.1).mono ?_; rintro r wi ⟨rfl, hbi⟩; have z2 := cell_later hbi z2; have z3 := cell_later hbi z3))
        go_ret
        exact ⟨by cases u3 <;> rfl, HB0 _ (Rt.Below.then (Rt.Below.then (Rt.Below.then HT.out.2.2 hbs) hbi) hbj)⟩
end Go.Proofs.Ytompgoaogomoaaa.Kn
