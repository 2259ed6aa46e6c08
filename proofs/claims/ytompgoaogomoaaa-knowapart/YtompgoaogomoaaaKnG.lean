/- Contracts: the document's GoodBox, GoodSealed, See, SeeSealed. MADE by wip/mk_kn.py. -/
import Derived.Test.YtompgoaogomoaaaKnF
namespace Go.Proofs.Ytompgoaogomoaaa.Kn
open Go.RowKit Go.Maps
open Rt (Gd gd gd_yes gd_no rGood_any rGoodBox_up rGoodBox_low rGoodBox_yes)
set_option linter.unusedVariables false
set_option linter.unusedSimpArgs false

theorem gb_any (a b c d : Int) (w : World) : Calls Try.prog 27 #[.agg #[.int .i64 a, .int .i64 b, .int .i64 c, .int .i64 d]] w fun e w' => e = .returned (.bool (gb ((a, b), (c, d)))) ∧ Below w.heap.size w w' := by
  by_cases h1 : Gd a b
  · by_cases h2 : Gd c d
    · refine (rGoodBox_yes a b c d h1 h2 w).mono ?_
      rintro e w' ⟨rfl, rfl⟩
      exact ⟨by unfold gb; rw [gd_yes h1, gd_yes h2]; rfl, Rt.Below.more (Rt.Below.more (Rt.below1 _ _) _) _⟩
    · refine (rGoodBox_low a b c d h1 h2 w).mono ?_
      rintro e w' ⟨rfl, rfl⟩
      exact ⟨by unfold gb; rw [gd_yes h1, gd_no h2]; rfl, Rt.Below.more (Rt.Below.more (Rt.below1 _ _) _) _⟩
  · refine (rGoodBox_up a b c d h1 w).mono ?_
    rintro e w' ⟨rfl, rfl⟩
    exact ⟨by unfold gb; rw [gd_no h1]; rfl, Rt.Below.more (Rt.below1 _ _) _⟩
def ge (a : Int) : Bool := decide (1 ≤ a) && decide (a ≤ 200)
def gx (d : Sd) : Bool := ge d.1 && (gd d.2.1.1 d.2.1.2 && decide (d.2.2.size ≤ 64))
theorem epoch_any (a : Int) (w : World) : Calls Try.prog 54 #[.int .i64 a] w fun e w' => e = .returned (.bool (ge a)) ∧ w' = w := by
  by_cases h1 : 1 ≤ a
  · by_cases h2 : a ≤ 200
    · have e : ge a = true := by simp [ge, h1, h2]
      rw [e]
      go_enter Try.func54, Try.ntmps54
      go_wp2
      go_ret
      exact ⟨rfl, rfl⟩
    · have e : ge a = false := by simp [ge, h1, h2]
      have d2 : decide (a ≤ 200) = false := decide_eq_false h2
      rw [e]
      clear h2
      go_enter Try.func54, Try.ntmps54
      go_wp2
      go_ret
      exact ⟨by first | rfl | (rw [d2]; rfl), rfl⟩
  · have e : ge a = false := by simp [ge, h1]
    have d1 : decide (1 ≤ a) = false := decide_eq_false h1
    rw [e]
    clear h1
    go_enter Try.func54, Try.ntmps54
    go_wp2
    go_ret
    exact ⟨rfl, rfl⟩
set_option maxRecDepth 100000 in
theorem sealed_any (a b c : Int) (s : ByteArray) (w : World) (hn : s.size ≤ 9223372036854775807) : Calls Try.prog 42 #[.agg #[.int .i64 a, .int .i64 b, .int .i64 c, .string s]] w fun e w' => e = .returned (.bool (gx (a, ((b, c), s)))) ∧ Below w.heap.size w w' := by
  have HG : Hid (gx (a, (b, c), s) = (ge a && (gd b c && decide (s.size ≤ 64)))) := rfl
  rw [HG.out]
  have h1 := epoch_any a
  have h2 := rGood_any b c
  generalize ge a = x at *
  generalize gd b c = y at *
  clear HG
  obtain ⟨n, hne⟩ : ∃ n, s.size = n := ⟨_, rfl⟩
  rw [hne] at hn
  rw [hne]
  have HN : Hid (s.size = n) := hne
  cases x with
  | false =>
    go_enter Try.func42, Try.ntmps42
    go_wp2_with (go_at_call 54; refine (h1 _).mono ?_; rintro r w' ⟨rfl, rfl⟩)
    go_ret
    exact ⟨rfl, Rt.below1 _ _⟩
  | true =>
    cases y with
    | false =>
      go_enter Try.func42, Try.ntmps42
      go_wp2_with (first | (go_at_call 54; refine (h1 _).mono ?_; rintro r w' ⟨rfl, rfl⟩) | (go_at_call 28; refine (h2 _).mono ?_; rintro r w' ⟨rfl, rfl⟩))
      go_ret
      exact ⟨rfl, Rt.Below.more (Rt.below1 _ _) _⟩
    | true =>
      by_cases h64 : n ≤ 64
      · have d1 : (n : Int) ≤ 64 := by omega
        go_enter Try.func42, Try.ntmps42
        go_wp2_with (first | (go_at_call 54; refine (h1 _).mono ?_; rintro r w' ⟨rfl, rfl⟩) | (go_at_call 28; refine (h2 _).mono ?_; rintro r w' ⟨rfl, rfl⟩))
        go_ret
        exact ⟨by simp [h64], Rt.Below.more (Rt.below1 _ _) _⟩
      · have d1 : decide ((n : Int) ≤ 64) = false := by simp; omega
        go_enter Try.func42, Try.ntmps42
        go_wp2_with (first | (go_at_call 54; refine (h1 _).mono ?_; rintro r w' ⟨rfl, rfl⟩) | (go_at_call 28; refine (h2 _).mono ?_; rintro r w' ⟨rfl, rfl⟩))
        go_ret
        exact ⟨by simp [h64] <;> omega, Rt.Below.more (Rt.below1 _ _) _⟩
def snB (B : List B2) (b : B2) : List B2 := if gb b = true ∧ ¬ b ∈ B then B ++ [b] else B
section
variable {w w' w3 : World} {N p g c : Nat} {st : Kst} {vt vb vx : Value}
theorem KnAt.grewB (h : KnAt w N p st vt vb vx) (x : B2) (hx : Gd x.1.1 x.1.2 ∧ Gd x.2.1 x.2.2) (hk : Kept (fun k => vb.ownBlock = some k) w w3) (hr : w3.ownsRow N 35 4 (.slice (some ⟨g, 0, none⟩) (st.B.length + 1) c) (st.B.length + 1) (st.B.flatMap bC ++ bC x)) (hg : vb.ownBlock = some g ∨ w.heap.size ≤ g) :
    KnP w (w3.setCell ⟨p, 1, none⟩ (.slice (some ⟨g, 0, none⟩) (st.B.length + 1) c)) N p ⟨st.T, st.B ++ [x], st.X⟩ vt vb vx := by
  obtain ⟨a1, a2, a3, a4, a5⟩ := h.apart
  have hpl := h.lt
  have hb3 := (hk.block p hpl a2).trans h.blk
  have hgp : g ≠ p := by
    rcases hg with e | e
    · intro e'; subst e'; exact a2 e
    · omega
  have ks : Kept (fun k => k = p) w3 (w3.setCell ⟨p, 1, none⟩ (.slice (some ⟨g, 0, none⟩) (st.B.length + 1) c)) := (Kept.refl (fun k => k = p) w3).setCell (p := ⟨p, 1, none⟩) (fun _ => rfl) _
  have nb : ∀ k, vt.ownBlock = some k → ¬ vb.ownBlock = some k := fun k e e' => (a4 k e).1 e'
  have nx : ∀ k, vx.ownBlock = some k → ¬ vb.ownBlock = some k := fun k e e' => a5 k e' e
  refine ⟨vt, .slice (some ⟨g, 0, none⟩) (st.B.length + 1) c, vx, ⟨?_, ks.row (hk.row h.told nb) (fun k e e' => a1 (e' ▸ e)), ?_, ks.row (hk.row h.txt nx) (fun k e e' => a3 (e' ▸ e)), h.np, h.gt, ?_⟩, ?_, ?_⟩
  · rw [blk_set hb3]; simp
  · have e : (st.B ++ [x]).flatMap bC = st.B.flatMap bC ++ bC x := by simp
    rw [e, List.length_append]
    exact ks.row hr fun k e e' => hgp (by cases e; exact e')
  · intro k hk'
    rcases List.mem_append.1 hk' with h1 | h1
    · exact h.gb k h1
    · rw [List.mem_singleton] at h1; subst h1; exact hx
  · exact (hk.mono (F' := Fk p vt vb vx) fun _ _ e => .inr (.inr (.inl e))).setCell (fun _ => .inl rfl) _
  · rintro k (e | e | e | e)
    · exact .inl (.inl e)
    · exact .inl (.inr (.inl e))
    · cases e
      exact hg.imp (fun e => .inr (.inr (.inl e))) id
    · exact .inl (.inr (.inr (.inr e)))
theorem KnAt.grewX (h : KnAt w N p st vt vb vx) (x : Sd) (hk : Kept (fun k => vx.ownBlock = some k) w w3) (hr : w3.ownsRow N 37 4 (.slice (some ⟨g, 0, none⟩) (st.X.length + 1) c) (st.X.length + 1) (st.X.flatMap sC ++ sC x)) (hg : vx.ownBlock = some g ∨ w.heap.size ≤ g) :
    KnP w (w3.setCell ⟨p, 2, none⟩ (.slice (some ⟨g, 0, none⟩) (st.X.length + 1) c)) N p ⟨st.T, st.B, st.X ++ [x]⟩ vt vb vx := by
  obtain ⟨a1, a2, a3, a4, a5⟩ := h.apart
  have hpl := h.lt
  have hb3 := (hk.block p hpl a3).trans h.blk
  have hgp : g ≠ p := by
    rcases hg with e | e
    · intro e'; subst e'; exact a3 e
    · omega
  have ks : Kept (fun k => k = p) w3 (w3.setCell ⟨p, 2, none⟩ (.slice (some ⟨g, 0, none⟩) (st.X.length + 1) c)) := (Kept.refl (fun k => k = p) w3).setCell (p := ⟨p, 2, none⟩) (fun _ => rfl) _
  have nb : ∀ k, vt.ownBlock = some k → ¬ vx.ownBlock = some k := fun k e e' => (a4 k e).2 e'
  have nx : ∀ k, vb.ownBlock = some k → ¬ vx.ownBlock = some k := fun k e e' => a5 k e e'
  refine ⟨vt, vb, .slice (some ⟨g, 0, none⟩) (st.X.length + 1) c, ⟨?_, ks.row (hk.row h.told nb) (fun k e e' => a1 (e' ▸ e)), ks.row (hk.row h.box nx) (fun k e e' => a2 (e' ▸ e)), ?_, h.np, h.gt, h.gb⟩, ?_, ?_⟩
  · rw [blk_set hb3]; simp
  · have e : (st.X ++ [x]).flatMap sC = st.X.flatMap sC ++ sC x := by simp
    rw [e, List.length_append]
    exact ks.row hr fun k e e' => hgp (by cases e; exact e')
  · exact (hk.mono (F' := Fk p vt vb vx) fun _ _ e => .inr (.inr (.inr e))).setCell (fun _ => .inl rfl) _
  · rintro k (e | e | e | e)
    · exact .inl (.inl e)
    · exact .inl (.inr (.inl e))
    · exact .inl (.inr (.inr (.inl e)))
    · cases e
      exact hg.imp (fun e => .inr (.inr (.inr e))) id
end
set_option maxRecDepth 100000 in
set_option maxHeartbeats 4000000 in
theorem see_any (w : World) (N p : Nat) (st : Kst) (vt vb vx : Value) (b0 b1 b2 b3 : Int) (h : KnAt w N p st vt vb vx) (hN : N ≤ w.heap.size) (hl : st.B.length < 2748779069440)  :
    Calls Try.prog 34 #[.pointer (some ⟨p, 0, none⟩), .agg #[.int .i64 b0, .int .i64 b1, .int .i64 b2, .int .i64 b3 ] ] w fun e w' => e = .returned (.tuple #[]) ∧ KnP w w' N p ⟨st.T, snB st.B ((b0, b1), (b2, b3)), st.X⟩ vt vb vx := by
  have hg := gb_any b0 b1 b2 b3
  have HK : Hid (KnAt w N p st vt vb vx) := h
  have hpl := h.lt
  have hb1 : Below w.heap.size w (w.alloc (.cells #[.int .i64 b0, .int .i64 b1, .int .i64 b2, .int .i64 b3 ] 35)) := Rt.below1 _ _
  obtain ⟨x0, x1, x2, x3⟩ := boxed4 w (.int .i64 b0) (.int .i64 b1) (.int .i64 b2) (.int .i64 b3) 35
  have hq : w.heap.size < (w.alloc (.cells #[.int .i64 b0, .int .i64 b1, .int .i64 b2, .int .i64 b3 ] 35)).heap.size := by rw [World.size_alloc]; omega
  obtain ⟨k, hn⟩ : ∃ k, st.B.length = k := ⟨_, rfl⟩
  obtain ⟨aT, cT, hvt, -⟩ := own_spell h.box
  have HVT : Hid (vb = .slice aT st.B.length cT) := hvt
  have HNE : Hid (st.B.length = k) := hn
  have HRT : Hid (RdB w aT st.B) := rdB_of (hvt ▸ h.box)
  have hc := h.c1
  rw [hvt] at hc
  have HC : Hid (w.cell? ⟨p, 1, none⟩ = some (.slice aT st.B.length cT)) := hc
  have hs := fun W (hW : Below w.heap.size w W) => seen_any W p st.B aT cT b0 b1 b2 b3 (cell_later hW HC.out) (HRT.out.later hW) (by omega)
  rw [hn] at hl
  cases hgd : gb ((b0, b1), (b2, b3)) with
  | false =>
    have HGD : Hid (gb ((b0, b1), (b2, b3)) = false) := hgd
    rw [hgd] at hg
    clear h hgd hvt hn hc hs
    go_enter Try.func34, Try.ntmps34
    go_upto_region 1 with (fail)
    generalize w.alloc (.cells #[.int .i64 b0, .int .i64 b1, .int .i64 b2, .int .i64 b3 ] 35) = w1 at *
    obtain ⟨Q, hQ⟩ : ∃ Q, w.heap.size = Q := ⟨_, rfl⟩
    have HB1 : Hid (Below w.heap.size w w1) := hb1
    rw [hQ] at x0 x1 x2 x3 ⊢
    clear hb1 hQ
    go_wp2_with (go_at_call 27; refine (hg _).mono ?_; rintro r wg ⟨rfl, hbg⟩)
    first | go_end0 | refine bodyPost_ret (results_none rfl _ _ _) rfl ?_
    exact ⟨rfl, (by rw [show snB st.B ((b0, b1), (b2, b3)) = st.B from if_neg fun h => by rw [HGD.out] at h; cases h.1]; exact HK.out.same (Rt.Below.then HB1.out hbg))⟩
  | true =>
    have HGD : Hid (gb ((b0, b1), (b2, b3)) = true) := hgd
    rw [hgd] at hg
    by_cases hin : ((b0, b1), (b2, b3)) ∈ st.B
    · have HIN : Hid (((b0, b1), (b2, b3)) ∈ st.B) := hin
      have hs1 : ∀ W, Below w.heap.size w W → Calls Try.prog 40 #[.pointer (some ⟨p, 0, none⟩), .agg #[.int .i64 b0, .int .i64 b1, .int .i64 b2, .int .i64 b3 ] ] W fun e w' => e = .returned (.bool true) ∧ Below W.heap.size W w' := fun W hW => by
        refine (hs W hW).mono ?_
        rintro e w' ⟨⟨v, rfl, hv⟩, hb⟩
        exact ⟨by rw [hv.2 HIN.out], hb⟩
      clear h hgd hvt hn hc hs hin
      go_enter Try.func34, Try.ntmps34
      go_upto_region 1 with (fail)
      generalize w.alloc (.cells #[.int .i64 b0, .int .i64 b1, .int .i64 b2, .int .i64 b3 ] 35) = w1 at *
      obtain ⟨Q, hQ⟩ : ∃ Q, w.heap.size = Q := ⟨_, rfl⟩
      have HB1 : Hid (Below w.heap.size w w1) := hb1
      have HB0 := fun W (h : Below w1.heap.size w1 W) => Rt.Below.then HB1.out h
      rw [hQ] at x0 x1 x2 x3 ⊢
      clear hb1 hQ
      have q0 := fun W (h : Below w1.heap.size w1 W) => cell_later h x0
      have q1 := fun W (h : Below w1.heap.size w1 W) => cell_later h x1
      have q2 := fun W (h : Below w1.heap.size w1 W) => cell_later h x2
      have q3 := fun W (h : Below w1.heap.size w1 W) => cell_later h x3
      go_wp2_with (first | (go_at_call 27; refine (hg _).mono ?_; rintro r wg ⟨rfl, hbg⟩; have y0 := q0 _ hbg; have y1 := q1 _ hbg; have y2 := q2 _ hbg; have y3 := q3 _ hbg) | (go_at_call 40; refine (hs1 _ (HB0 _ hbg)).mono ?_; rintro r w2 ⟨rfl, hbs⟩))
      first | go_end0 | refine bodyPost_ret (results_none rfl _ _ _) rfl ?_
      exact ⟨rfl, (by rw [show snB st.B ((b0, b1), (b2, b3)) = st.B from if_neg fun h => h.2 HIN.out]; exact HK.out.same (Rt.Below.then HB1.out (Rt.Below.then hbg hbs)))⟩
    · have HNI : Hid (¬ ((b0, b1), (b2, b3)) ∈ st.B) := hin
      have hs1 : ∀ W, Below w.heap.size w W → Calls Try.prog 40 #[.pointer (some ⟨p, 0, none⟩), .agg #[.int .i64 b0, .int .i64 b1, .int .i64 b2, .int .i64 b3 ] ] W fun e w' => e = .returned (.bool false) ∧ Below W.heap.size W w' := fun W hW => by
        refine (hs W hW).mono ?_
        rintro e w' ⟨⟨v, rfl, hv⟩, hb⟩
        refine ⟨?_, hb⟩
        cases v with
        | false => rfl
        | true => exact absurd (hv.1 rfl) HNI.out
      have HN : Hid (N ≤ w.heap.size) := hN
      have HRW : Hid (w.ownsRow N 35 4 (.slice aT k cT) k (st.B.flatMap bC)) := by have := HK.out.box; rw [HVT.out, HNE.out] at this; exact this
      have HPV : Hid (¬ (Value.slice aT k cT).ownBlock = some p) := by have := HK.out.apart.2.1; rw [HVT.out, HNE.out] at this; exact this
      have HFZ : Hid (∀ W, Kept (fun j => (Value.slice aT k cT).ownBlock = some j) w W → W.frozen? ⟨p, 1, none⟩ = false) := fun W hW => by
        have := (hW.block p hpl HPV.out).trans HK.out.blk
        simp [World.frozen?, this]
      have HCN : Hid (w.cell? ⟨p, 1, none⟩ = some (.slice aT k cT)) := by have := HC.out; rw [HNE.out] at this; exact this
      clear h hgd hvt hn hc hs hin
      go_enter Try.func34, Try.ntmps34
      go_upto_region 1 with (fail)
      generalize w.alloc (.cells #[.int .i64 b0, .int .i64 b1, .int .i64 b2, .int .i64 b3 ] 35) = w1 at *
      obtain ⟨Q, hQ⟩ : ∃ Q, w.heap.size = Q := ⟨_, rfl⟩
      have HB1 : Hid (Below w.heap.size w w1) := hb1
      have HB0 := fun W (h : Below w1.heap.size w1 W) => Rt.Below.then HB1.out h
      have HQV : Hid (¬ (Value.slice aT k cT).ownBlock = some Q) := fun e => by have := (HRW.out.lt Q e).2; omega
      rw [hQ] at x0 x1 x2 x3 ⊢
      clear hb1 hQ
      have q0 := fun W (h : Below w1.heap.size w1 W) => cell_later h x0
      have q1 := fun W (h : Below w1.heap.size w1 W) => cell_later h x1
      have q2 := fun W (h : Below w1.heap.size w1 W) => cell_later h x2
      have q3 := fun W (h : Below w1.heap.size w1 W) => cell_later h x3
      go_upto_region 2 with (first | (go_at_call 27; refine (hg _).mono ?_; rintro r wg ⟨rfl, hbg⟩; have y0 := q0 _ hbg; have y1 := q1 _ hbg; have y2 := q2 _ hbg; have y3 := q3 _ hbg) | (go_at_call 40; refine (hs1 _ (HB0 _ hbg)).mono ?_; rintro r w2 ⟨rfl, hbs⟩))
      have hb12 := Rt.Below.then hbg hbs
      have HB2 : Hid (Below w.heap.size w w2) := HB0 _ hb12
      have hp2 := cell_later HB2.out HCN.out
      replace x0 := q0 _ hb12
      replace x1 := q1 _ hb12
      replace x2 := q2 _ hb12
      replace x3 := q3 _ hb12
      obtain ⟨i0, hi, hz0, hz1, hz2⟩ := info_parts infoBox
      clear q0 q1 q2 q3 y0 y1 y2 y3 hb12 hbg hbs HB0 hs1 hg hN hq
      refine Till.region [10] (fun W => W.cell? ⟨p, 1, none⟩ = some (Value.slice aT k cT) ∧ W.cell? ⟨Q, 0, none⟩ = some (.int .i64 b0) ∧ W.cell? ⟨Q, 1, none⟩ = some (.int .i64 b1) ∧ W.cell? ⟨Q, 2, none⟩ = some (.int .i64 b2) ∧ W.cell? ⟨Q, 3, none⟩ = some (.int .i64 b3)) (by kernel_rfl) ?_
      have KB : Hid (Below w.heap.size w w2.drew) := HB2.out.drew
      have hHeld : w2.drew.cell? ⟨p, 1, none⟩ = some (Value.slice aT k cT) ∧ w2.drew.cell? ⟨Q, 0, none⟩ = some (.int .i64 b0) ∧ w2.drew.cell? ⟨Q, 1, none⟩ = some (.int .i64 b1) ∧ w2.drew.cell? ⟨Q, 2, none⟩ = some (.int .i64 b2) ∧ w2.drew.cell? ⟨Q, 3, none⟩ = some (.int .i64 b3) := ⟨hp2, x0, x1, x2, x3⟩
      generalize w2.drew = W at *
      refine Till.takeFree (i := 0) (oi := { dst := some 12, op := Op.move (Operand.tmp 0), type := _, pos := _, after := _, guard := none }) (x := .pointer (some ⟨p, 0, none⟩)) rfl (by decide) (by kernel_rfl) (by kernel_rfl) (by kernel_rfl) (fun _ _ _ h => h) (Or.inl ⟨by rfl, fun w _ => by go_simp⟩) hHeld ?_
      simp only [Act.put, List.setIfInBounds_toArray, List.set_cons_zero, List.set_cons_succ]
      refine Till.takeFree (i := 1) (oi := { dst := some 13, op := Op.move (Operand.tmp 0), type := _, pos := _, after := _, guard := none }) (x := .pointer (some ⟨p, 0, none⟩)) rfl (by decide) (by kernel_rfl) (by kernel_rfl) (by kernel_rfl) (fun _ _ _ h => h) (Or.inl ⟨by rfl, fun w _ => by go_simp⟩) hHeld ?_
      simp only [Act.put, List.setIfInBounds_toArray, List.set_cons_zero, List.set_cons_succ]
      refine Till.takeFree (i := 2) (oi := { dst := some 14, op := Op.nilCheck (Operand.tmp 13), type := _, pos := _, after := _, guard := none }) (x := .pointer (some ⟨p, 0, none⟩)) rfl (by decide) (by kernel_rfl) (by kernel_rfl) (by kernel_rfl) (fun _ _ _ h => h) (Or.inl ⟨by rfl, fun w _ => by go_simp⟩) hHeld ?_
      simp only [Act.put, List.setIfInBounds_toArray, List.set_cons_zero, List.set_cons_succ]
      refine Till.takeFree (i := 3) (oi := { dst := some 15, op := Op.fieldAddr 31 (Operand.tmp 14) 1, type := _, pos := _, after := _, guard := none }) (x := .pointer (some ⟨p, 1, none⟩)) rfl (by decide) (by kernel_rfl) (by kernel_rfl) (by kernel_rfl) (fun _ _ _ h => h) (Or.inl ⟨by rfl, fun w _ => by go_simp⟩) hHeld ?_
      simp only [Act.put, List.setIfInBounds_toArray, List.set_cons_zero, List.set_cons_succ]
      refine Till.take (i := 4) 10 (oi := { dst := some 16, op := Op.load 28 (Operand.tmp 15), type := _, pos := _, after := _, guard := none }) (x := (Value.slice aT k cT)) rfl (by decide) (by kernel_rfl) (by decide) (by kernel_rfl) (by kernel_rfl) (by kernel_rfl) (by kernel_rfl) (fun _ _ _ h => h) (Or.inl ⟨by rfl, fun w hSw => by (obtain ⟨c0, e0, e1, e2, e3⟩ := hSw; go_simp)⟩) hHeld ?_
      simp only [Act.put, List.setIfInBounds_toArray, List.set_cons_zero, List.set_cons_succ]
      refine Till.take (i := 5) 10 (oi := { dst := some 17, op := Op.load 35 (Operand.tmp 3), type := _, pos := _, after := _, guard := none }) (x := (.agg #[.int .i64 b0, .int .i64 b1, .int .i64 b2, .int .i64 b3])) rfl (by decide) (by kernel_rfl) (by decide) (by kernel_rfl) (by kernel_rfl) (by kernel_rfl) (by kernel_rfl) (fun _ _ _ h => h) (Or.inl ⟨by rfl, fun w hSw => by (obtain ⟨c0, e0, e1, e2, e3⟩ := hSw; go_simp)⟩) hHeld ?_
      simp only [Act.put, List.setIfInBounds_toArray, List.set_cons_zero, List.set_cons_succ]
      refine Till.one (i := 6) (o := { dst := some 18, op := Op.buildSlice 28 1 #[(0, Operand.tmp 17)], type := _, pos := _, after := _, guard := none }) rfl (by kernel_rfl) (fun K9 hK => ?_)
      go_simp
      have KB1 : Hid (Below w.heap.size w (W.alloc (.cells #[.int .i64 b0, .int .i64 b1, .int .i64 b2, .int .i64 b3] 35))) := KB.out.alloc KB.out.size _
      have hh1 : (W.alloc (.cells #[.int .i64 b0, .int .i64 b1, .int .i64 b2, .int .i64 b3] 35)).cell? ⟨p, 1, none⟩ = some (Value.slice aT k cT) ∧ (W.alloc (.cells #[.int .i64 b0, .int .i64 b1, .int .i64 b2, .int .i64 b3] 35)).cell? ⟨Q, 0, none⟩ = some (.int .i64 b0) ∧ (W.alloc (.cells #[.int .i64 b0, .int .i64 b1, .int .i64 b2, .int .i64 b3] 35)).cell? ⟨Q, 1, none⟩ = some (.int .i64 b1) ∧ (W.alloc (.cells #[.int .i64 b0, .int .i64 b1, .int .i64 b2, .int .i64 b3] 35)).cell? ⟨Q, 2, none⟩ = some (.int .i64 b2) ∧ (W.alloc (.cells #[.int .i64 b0, .int .i64 b1, .int .i64 b2, .int .i64 b3] 35)).cell? ⟨Q, 3, none⟩ = some (.int .i64 b3) := by obtain ⟨c0, e0, e1, e2, e3⟩ := hHeld; exact ⟨cell_later (Rt.below1 _ _) c0, cell_later (Rt.below1 _ _) e0, cell_later (Rt.below1 _ _) e1, cell_later (Rt.below1 _ _) e2, cell_later (Rt.below1 _ _) e3⟩
      have hnw : (W.alloc (.cells #[.int .i64 b0, .int .i64 b1, .int .i64 b2, .int .i64 b3] 35)).heap[W.heap.size]? = some (.cells #[.int .i64 b0, .int .i64 b1, .int .i64 b2, .int .i64 b3] 35 (0, 0)) := _root_.Go.heap_alloc_last W _
      refine hK _ _ (fun _ => hh1) ?_
      clear hK K9 hHeld KB
      try simp only [Act.put, List.setIfInBounds_toArray, List.set_cons_zero, List.set_cons_succ]
      generalize (W.alloc (.cells #[.int .i64 b0, .int .i64 b1, .int .i64 b2, .int .i64 b3] 35)) = W1 at *
      generalize W.heap.size = g1 at *
      have hHeld := hh1
      clear hh1
      have hrow1 := own_later HRW.out KB1.out
      refine Till.one (i := 7) (o := { dst := some 19, op := Op.call { callee := Callee.builtin Builtin.append, args := #[Operand.tmp 16, Operand.tmp 18], argTypes := _ }, type := _, pos := _, after := _, guard := none }) rfl (by kernel_rfl) (fun K9 hK => ?_)
      refine step_append_lies W1 rfl _ _ _ rfl N 35 i0 _ 4 32 Try.underlying28 hi hz0 hz1 hz2 rfl (by omega) _ k (st.B.flatMap bC) rfl hrow1 ⟨g1, 0, none⟩ 1 1 [.int .i64 b0, .int .i64 b1, .int .i64 b2, .int .i64 b3] rfl rfl (news_of hnw) (by simp [Value.oneCell']) (by omega) (by unfold maxLen; omega) (by omega) (Nat.le_trans HN.out KB1.out.size) W1.heap.size rfl ?_
      intro g3 cap3 w3 hown3 hgrow3 hat3 hlt3
      have hk3 : Kept (fun j => (Value.slice aT k cT).ownBlock = some j) w w3 := (Kept.ofBelow KB1.out).grown hgrow3 (fun j e _ => e)
      have hg3 : (Value.slice aT k cT).ownBlock = some g3 ∨ w.heap.size ≤ g3 := hat3.imp id (fun e => by rw [e]; exact KB1.out.size)
      have hHeld3 : w3.cell? ⟨p, 1, none⟩ = some (Value.slice aT k cT) ∧ w3.cell? ⟨Q, 0, none⟩ = some (.int .i64 b0) ∧ w3.cell? ⟨Q, 1, none⟩ = some (.int .i64 b1) ∧ w3.cell? ⟨Q, 2, none⟩ = some (.int .i64 b2) ∧ w3.cell? ⟨Q, 3, none⟩ = some (.int .i64 b3) := by obtain ⟨c0, e0, e1, e2, e3⟩ := hHeld; have hkg := (Kept.refl (fun j => (Value.slice aT k cT).ownBlock = some j) W1).grown hgrow3 (fun j e _ => e); exact ⟨hkg.cell c0 HPV.out, hkg.cell e0 HQV.out, hkg.cell e1 HQV.out, hkg.cell e2 HQV.out, hkg.cell e3 HQV.out⟩
      refine hK _ _ (fun _ => hHeld3) ?_
      clear hK K9 hHeld
      try simp only [Act.put, List.setIfInBounds_toArray, List.set_cons_zero, List.set_cons_succ]
      have hHeld := hHeld3
      refine Till.takeFree (i := 8) (oi := { dst := some 20, op := Op.nilCheck (Operand.tmp 12), type := _, pos := _, after := _, guard := none }) (x := .pointer (some ⟨p, 0, none⟩)) rfl (by decide) (by kernel_rfl) (by kernel_rfl) (by kernel_rfl) (fun _ _ _ h => h) (Or.inl ⟨by rfl, fun w _ => by go_simp⟩) hHeld ?_
      simp only [Act.put, List.setIfInBounds_toArray, List.set_cons_zero, List.set_cons_succ]
      refine Till.takeFree (i := 9) (oi := { dst := some 21, op := Op.fieldAddr 31 (Operand.tmp 20) 1, type := _, pos := _, after := _, guard := none }) (x := .pointer (some ⟨p, 1, none⟩)) rfl (by decide) (by kernel_rfl) (by kernel_rfl) (by kernel_rfl) (fun _ _ _ h => h) (Or.inl ⟨by rfl, fun w _ => by go_simp⟩) hHeld ?_
      simp only [Act.put, List.setIfInBounds_toArray, List.set_cons_zero, List.set_cons_succ]
      clear hHeld
      obtain ⟨hc3, -, -, -, -⟩ := hHeld3
      have hf3 : w3.frozen? ⟨p, 1, none⟩ = false := HFZ.out w3 hk3
      refine Till.one (i := 10) (o := { dst := none, op := Op.store 28 (Operand.tmp 21) (Operand.tmp 19), type := _, pos := _, after := _, guard := none }) rfl (by kernel_rfl) (fun K9 hK => ?_)
      go_simp
      refine hK _ _ (by simp) ?_
      clear hK K9
      try simp only [Act.put, List.setIfInBounds_toArray, List.set_cons_zero, List.set_cons_succ]
      refine Till.rest (by kernel_rfl) ?_
      refine wpAny_done (by kernel_rfl) ?_ _
      go_wp2_with fail
      go_end0
      refine ⟨rfl, ?_⟩
      rw [show snB st.B ((b0, b1), (b2, b3)) = st.B ++ [((b0, b1), (b2, b3))] from if_pos ⟨HGD.out, HNI.out⟩]
      have e1 := HNE.out
      have e2 := HVT.out
      subst e1
      subst e2
      exact HK.out.grewB ((b0, b1), (b2, b3)) (by have h := HGD.out; unfold gb at h; rw [Bool.and_eq_true] at h; exact ⟨gd_iff.1 h.1, gd_iff.1 h.2⟩) hk3 hown3 hg3
set_option maxRecDepth 100000 in
set_option maxHeartbeats 4000000 in
theorem seeX_any (w : World) (N p : Nat) (st : Kst) (vt vb vx : Value) (b0 b1 b2 : Int) (b3 : ByteArray) (h : KnAt w N p st vt vb vx) (hN : N ≤ w.heap.size) (hl : st.X.length < 2748779069440) (hb3 : b3.size ≤ 9223372036854775807) :
    Calls Try.prog 35 #[.pointer (some ⟨p, 0, none⟩), .agg #[.int .i64 b0, .int .i64 b1, .int .i64 b2, .string b3 ] ] w fun e w' => e = .returned (.tuple #[]) ∧ ∃ X', KnP w w' N p ⟨st.T, st.B, X'⟩ vt vb vx ∧ (∀ y, y ∈ X' ↔ y ∈ st.X ∨ (gx (b0, ((b1, b2), b3)) = true ∧ y = (b0, ((b1, b2), b3)))) ∧ X'.length ≤ st.X.length + 1 := by
  have hg := fun W => sealed_any b0 b1 b2 b3 W hb3
  have HK : Hid (KnAt w N p st vt vb vx) := h
  have hpl := h.lt
  have hb1 : Below w.heap.size w (w.alloc (.cells #[.int .i64 b0, .int .i64 b1, .int .i64 b2, .string b3 ] 37)) := Rt.below1 _ _
  obtain ⟨x0, x1, x2, x3⟩ := boxed4 w (.int .i64 b0) (.int .i64 b1) (.int .i64 b2) (.string b3) 37
  have hq : w.heap.size < (w.alloc (.cells #[.int .i64 b0, .int .i64 b1, .int .i64 b2, .string b3 ] 37)).heap.size := by rw [World.size_alloc]; omega
  obtain ⟨k, hn⟩ : ∃ k, st.X.length = k := ⟨_, rfl⟩
  obtain ⟨aT, cT, hvt, -⟩ := own_spell h.txt
  have HVT : Hid (vx = .slice aT st.X.length cT) := hvt
  have HNE : Hid (st.X.length = k) := hn
  have HRT : Hid (RdX w aT st.X) := rdX_of (hvt ▸ h.txt)
  have hc := h.c2
  rw [hvt] at hc
  have HC : Hid (w.cell? ⟨p, 2, none⟩ = some (.slice aT st.X.length cT)) := hc
  have hs := fun W (hW : Below w.heap.size w W) => read_any W p st.X aT cT b0 b1 b2 b3 (cell_later hW HC.out) (HRT.out.later hW) (by omega)
  rw [hn] at hl
  cases hgd : gx (b0, ((b1, b2), b3)) with
  | false =>
    have HGD : Hid (gx (b0, ((b1, b2), b3)) = false) := hgd
    rw [hgd] at hg
    clear h hgd hvt hn hc hs
    go_enter Try.func35, Try.ntmps35
    go_upto_region 1 with (fail)
    generalize w.alloc (.cells #[.int .i64 b0, .int .i64 b1, .int .i64 b2, .string b3 ] 37) = w1 at *
    obtain ⟨Q, hQ⟩ : ∃ Q, w.heap.size = Q := ⟨_, rfl⟩
    have HB1 : Hid (Below w.heap.size w w1) := hb1
    rw [hQ] at x0 x1 x2 x3 ⊢
    clear hb1 hQ
    go_wp2_with (go_at_call 42; refine (hg _).mono ?_; rintro r wg ⟨rfl, hbg⟩)
    first | go_end0 | refine bodyPost_ret (results_none rfl _ _ _) rfl ?_
    exact ⟨rfl, ⟨st.X, HK.out.same (Rt.Below.then HB1.out hbg), fun y => ⟨.inl, fun h => h.elim id fun h => by cases h.1⟩, by omega⟩⟩
  | true =>
    have HGD : Hid (gx (b0, ((b1, b2), b3)) = true) := hgd
    rw [hgd] at hg
    by_cases hin : (b0, ((b1, b2), b3)) ∈ st.X
    · have HIN : Hid ((b0, ((b1, b2), b3)) ∈ st.X) := hin
      have hs1 : ∀ W, Below w.heap.size w W → Calls Try.prog 43 #[.pointer (some ⟨p, 0, none⟩), .agg #[.int .i64 b0, .int .i64 b1, .int .i64 b2, .string b3 ] ] W fun e w' => e = .returned (.bool true) ∧ Below W.heap.size W w' := fun W hW => by
        refine (hs W hW).mono ?_
        rintro e w' ⟨⟨v, rfl, hv⟩, hb⟩
        exact ⟨by rw [hv.2 HIN.out], hb⟩
      clear h hgd hvt hn hc hs hin
      go_enter Try.func35, Try.ntmps35
      go_upto_region 1 with (fail)
      generalize w.alloc (.cells #[.int .i64 b0, .int .i64 b1, .int .i64 b2, .string b3 ] 37) = w1 at *
      obtain ⟨Q, hQ⟩ : ∃ Q, w.heap.size = Q := ⟨_, rfl⟩
      have HB1 : Hid (Below w.heap.size w w1) := hb1
      have HB0 := fun W (h : Below w1.heap.size w1 W) => Rt.Below.then HB1.out h
      rw [hQ] at x0 x1 x2 x3 ⊢
      clear hb1 hQ
      have q0 := fun W (h : Below w1.heap.size w1 W) => cell_later h x0
      have q1 := fun W (h : Below w1.heap.size w1 W) => cell_later h x1
      have q2 := fun W (h : Below w1.heap.size w1 W) => cell_later h x2
      have q3 := fun W (h : Below w1.heap.size w1 W) => cell_later h x3
      go_wp2_with (first | (go_at_call 42; refine (hg _).mono ?_; rintro r wg ⟨rfl, hbg⟩; have y0 := q0 _ hbg; have y1 := q1 _ hbg; have y2 := q2 _ hbg; have y3 := q3 _ hbg) | (go_at_call 43; refine (hs1 _ (HB0 _ hbg)).mono ?_; rintro r w2 ⟨rfl, hbs⟩))
      first | go_end0 | refine bodyPost_ret (results_none rfl _ _ _) rfl ?_
      exact ⟨rfl, ⟨st.X, HK.out.same (Rt.Below.then HB1.out (Rt.Below.then hbg hbs)), fun y => ⟨.inl, fun h => h.elim id fun h => h.2 ▸ HIN.out⟩, by omega⟩⟩
    · have HNI : Hid (¬ (b0, ((b1, b2), b3)) ∈ st.X) := hin
      have hs1 : ∀ W, Below w.heap.size w W → Calls Try.prog 43 #[.pointer (some ⟨p, 0, none⟩), .agg #[.int .i64 b0, .int .i64 b1, .int .i64 b2, .string b3 ] ] W fun e w' => e = .returned (.bool false) ∧ Below W.heap.size W w' := fun W hW => by
        refine (hs W hW).mono ?_
        rintro e w' ⟨⟨v, rfl, hv⟩, hb⟩
        refine ⟨?_, hb⟩
        cases v with
        | false => rfl
        | true => exact absurd (hv.1 rfl) HNI.out
      have HN : Hid (N ≤ w.heap.size) := hN
      have HRW : Hid (w.ownsRow N 37 4 (.slice aT k cT) k (st.X.flatMap sC)) := by have := HK.out.txt; rw [HVT.out, HNE.out] at this; exact this
      have HPV : Hid (¬ (Value.slice aT k cT).ownBlock = some p) := by have := HK.out.apart.2.2.1; rw [HVT.out, HNE.out] at this; exact this
      have HFZ : Hid (∀ W, Kept (fun j => (Value.slice aT k cT).ownBlock = some j) w W → W.frozen? ⟨p, 2, none⟩ = false) := fun W hW => by
        have := (hW.block p hpl HPV.out).trans HK.out.blk
        simp [World.frozen?, this]
      have HCN : Hid (w.cell? ⟨p, 2, none⟩ = some (.slice aT k cT)) := by have := HC.out; rw [HNE.out] at this; exact this
      clear h hgd hvt hn hc hs hin
      go_enter Try.func35, Try.ntmps35
      go_upto_region 1 with (fail)
      generalize w.alloc (.cells #[.int .i64 b0, .int .i64 b1, .int .i64 b2, .string b3 ] 37) = w1 at *
      obtain ⟨Q, hQ⟩ : ∃ Q, w.heap.size = Q := ⟨_, rfl⟩
      have HB1 : Hid (Below w.heap.size w w1) := hb1
      have HB0 := fun W (h : Below w1.heap.size w1 W) => Rt.Below.then HB1.out h
      have HQV : Hid (¬ (Value.slice aT k cT).ownBlock = some Q) := fun e => by have := (HRW.out.lt Q e).2; omega
      rw [hQ] at x0 x1 x2 x3 ⊢
      clear hb1 hQ
      have q0 := fun W (h : Below w1.heap.size w1 W) => cell_later h x0
      have q1 := fun W (h : Below w1.heap.size w1 W) => cell_later h x1
      have q2 := fun W (h : Below w1.heap.size w1 W) => cell_later h x2
      have q3 := fun W (h : Below w1.heap.size w1 W) => cell_later h x3
      go_upto_region 2 with (first | (go_at_call 42; refine (hg _).mono ?_; rintro r wg ⟨rfl, hbg⟩; have y0 := q0 _ hbg; have y1 := q1 _ hbg; have y2 := q2 _ hbg; have y3 := q3 _ hbg) | (go_at_call 43; refine (hs1 _ (HB0 _ hbg)).mono ?_; rintro r w2 ⟨rfl, hbs⟩))
      have hb12 := Rt.Below.then hbg hbs
      have HB2 : Hid (Below w.heap.size w w2) := HB0 _ hb12
      have hp2 := cell_later HB2.out HCN.out
      replace x0 := q0 _ hb12
      replace x1 := q1 _ hb12
      replace x2 := q2 _ hb12
      replace x3 := q3 _ hb12
      obtain ⟨i0, hi, hz0, hz1, hz2⟩ := info_parts infoSld
      clear q0 q1 q2 q3 y0 y1 y2 y3 hb12 hbg hbs HB0 hs1 hg hN hq
      refine Till.region [10] (fun W => W.cell? ⟨p, 2, none⟩ = some (Value.slice aT k cT) ∧ W.cell? ⟨Q, 0, none⟩ = some (.int .i64 b0) ∧ W.cell? ⟨Q, 1, none⟩ = some (.int .i64 b1) ∧ W.cell? ⟨Q, 2, none⟩ = some (.int .i64 b2) ∧ W.cell? ⟨Q, 3, none⟩ = some (.string b3)) (by kernel_rfl) ?_
      have KB : Hid (Below w.heap.size w w2.drew) := HB2.out.drew
      have hHeld : w2.drew.cell? ⟨p, 2, none⟩ = some (Value.slice aT k cT) ∧ w2.drew.cell? ⟨Q, 0, none⟩ = some (.int .i64 b0) ∧ w2.drew.cell? ⟨Q, 1, none⟩ = some (.int .i64 b1) ∧ w2.drew.cell? ⟨Q, 2, none⟩ = some (.int .i64 b2) ∧ w2.drew.cell? ⟨Q, 3, none⟩ = some (.string b3) := ⟨hp2, x0, x1, x2, x3⟩
      generalize w2.drew = W at *
      refine Till.takeFree (i := 0) (oi := { dst := some 12, op := Op.move (Operand.tmp 0), type := _, pos := _, after := _, guard := none }) (x := .pointer (some ⟨p, 0, none⟩)) rfl (by decide) (by kernel_rfl) (by kernel_rfl) (by kernel_rfl) (fun _ _ _ h => h) (Or.inl ⟨by rfl, fun w _ => by go_simp⟩) hHeld ?_
      simp only [Act.put, List.setIfInBounds_toArray, List.set_cons_zero, List.set_cons_succ]
      refine Till.takeFree (i := 1) (oi := { dst := some 13, op := Op.move (Operand.tmp 0), type := _, pos := _, after := _, guard := none }) (x := .pointer (some ⟨p, 0, none⟩)) rfl (by decide) (by kernel_rfl) (by kernel_rfl) (by kernel_rfl) (fun _ _ _ h => h) (Or.inl ⟨by rfl, fun w _ => by go_simp⟩) hHeld ?_
      simp only [Act.put, List.setIfInBounds_toArray, List.set_cons_zero, List.set_cons_succ]
      refine Till.takeFree (i := 2) (oi := { dst := some 14, op := Op.nilCheck (Operand.tmp 13), type := _, pos := _, after := _, guard := none }) (x := .pointer (some ⟨p, 0, none⟩)) rfl (by decide) (by kernel_rfl) (by kernel_rfl) (by kernel_rfl) (fun _ _ _ h => h) (Or.inl ⟨by rfl, fun w _ => by go_simp⟩) hHeld ?_
      simp only [Act.put, List.setIfInBounds_toArray, List.set_cons_zero, List.set_cons_succ]
      refine Till.takeFree (i := 3) (oi := { dst := some 15, op := Op.fieldAddr 31 (Operand.tmp 14) 2, type := _, pos := _, after := _, guard := none }) (x := .pointer (some ⟨p, 2, none⟩)) rfl (by decide) (by kernel_rfl) (by kernel_rfl) (by kernel_rfl) (fun _ _ _ h => h) (Or.inl ⟨by rfl, fun w _ => by go_simp⟩) hHeld ?_
      simp only [Act.put, List.setIfInBounds_toArray, List.set_cons_zero, List.set_cons_succ]
      refine Till.take (i := 4) 10 (oi := { dst := some 16, op := Op.load 29 (Operand.tmp 15), type := _, pos := _, after := _, guard := none }) (x := (Value.slice aT k cT)) rfl (by decide) (by kernel_rfl) (by decide) (by kernel_rfl) (by kernel_rfl) (by kernel_rfl) (by kernel_rfl) (fun _ _ _ h => h) (Or.inl ⟨by rfl, fun w hSw => by (obtain ⟨c0, e0, e1, e2, e3⟩ := hSw; go_simp)⟩) hHeld ?_
      simp only [Act.put, List.setIfInBounds_toArray, List.set_cons_zero, List.set_cons_succ]
      refine Till.take (i := 5) 10 (oi := { dst := some 17, op := Op.load 37 (Operand.tmp 3), type := _, pos := _, after := _, guard := none }) (x := (.agg #[.int .i64 b0, .int .i64 b1, .int .i64 b2, .string b3])) rfl (by decide) (by kernel_rfl) (by decide) (by kernel_rfl) (by kernel_rfl) (by kernel_rfl) (by kernel_rfl) (fun _ _ _ h => h) (Or.inl ⟨by rfl, fun w hSw => by (obtain ⟨c0, e0, e1, e2, e3⟩ := hSw; go_simp)⟩) hHeld ?_
      simp only [Act.put, List.setIfInBounds_toArray, List.set_cons_zero, List.set_cons_succ]
      refine Till.one (i := 6) (o := { dst := some 18, op := Op.buildSlice 29 1 #[(0, Operand.tmp 17)], type := _, pos := _, after := _, guard := none }) rfl (by kernel_rfl) (fun K9 hK => ?_)
      go_simp
      have KB1 : Hid (Below w.heap.size w (W.alloc (.cells #[.int .i64 b0, .int .i64 b1, .int .i64 b2, .string b3] 37))) := KB.out.alloc KB.out.size _
      have hh1 : (W.alloc (.cells #[.int .i64 b0, .int .i64 b1, .int .i64 b2, .string b3] 37)).cell? ⟨p, 2, none⟩ = some (Value.slice aT k cT) ∧ (W.alloc (.cells #[.int .i64 b0, .int .i64 b1, .int .i64 b2, .string b3] 37)).cell? ⟨Q, 0, none⟩ = some (.int .i64 b0) ∧ (W.alloc (.cells #[.int .i64 b0, .int .i64 b1, .int .i64 b2, .string b3] 37)).cell? ⟨Q, 1, none⟩ = some (.int .i64 b1) ∧ (W.alloc (.cells #[.int .i64 b0, .int .i64 b1, .int .i64 b2, .string b3] 37)).cell? ⟨Q, 2, none⟩ = some (.int .i64 b2) ∧ (W.alloc (.cells #[.int .i64 b0, .int .i64 b1, .int .i64 b2, .string b3] 37)).cell? ⟨Q, 3, none⟩ = some (.string b3) := by obtain ⟨c0, e0, e1, e2, e3⟩ := hHeld; exact ⟨cell_later (Rt.below1 _ _) c0, cell_later (Rt.below1 _ _) e0, cell_later (Rt.below1 _ _) e1, cell_later (Rt.below1 _ _) e2, cell_later (Rt.below1 _ _) e3⟩
      have hnw : (W.alloc (.cells #[.int .i64 b0, .int .i64 b1, .int .i64 b2, .string b3] 37)).heap[W.heap.size]? = some (.cells #[.int .i64 b0, .int .i64 b1, .int .i64 b2, .string b3] 37 (0, 0)) := _root_.Go.heap_alloc_last W _
      refine hK _ _ (fun _ => hh1) ?_
      clear hK K9 hHeld KB
      try simp only [Act.put, List.setIfInBounds_toArray, List.set_cons_zero, List.set_cons_succ]
      generalize (W.alloc (.cells #[.int .i64 b0, .int .i64 b1, .int .i64 b2, .string b3] 37)) = W1 at *
      generalize W.heap.size = g1 at *
      have hHeld := hh1
      clear hh1
      have hrow1 := own_later HRW.out KB1.out
      refine Till.one (i := 7) (o := { dst := some 19, op := Op.call { callee := Callee.builtin Builtin.append, args := #[Operand.tmp 16, Operand.tmp 18], argTypes := _ }, type := _, pos := _, after := _, guard := none }) rfl (by kernel_rfl) (fun K9 hK => ?_)
      refine step_append_lies W1 rfl _ _ _ rfl N 37 i0 _ 4 40 Try.underlying29 hi hz0 hz1 hz2 rfl (by omega) _ k (st.X.flatMap sC) rfl hrow1 ⟨g1, 0, none⟩ 1 1 [.int .i64 b0, .int .i64 b1, .int .i64 b2, .string b3] rfl rfl (news_of hnw) (by simp [Value.oneCell']) (by omega) (by unfold maxLen; omega) (by omega) (Nat.le_trans HN.out KB1.out.size) W1.heap.size rfl ?_
      intro g3 cap3 w3 hown3 hgrow3 hat3 hlt3
      have hk3 : Kept (fun j => (Value.slice aT k cT).ownBlock = some j) w w3 := (Kept.ofBelow KB1.out).grown hgrow3 (fun j e _ => e)
      have hg3 : (Value.slice aT k cT).ownBlock = some g3 ∨ w.heap.size ≤ g3 := hat3.imp id (fun e => by rw [e]; exact KB1.out.size)
      have hHeld3 : w3.cell? ⟨p, 2, none⟩ = some (Value.slice aT k cT) ∧ w3.cell? ⟨Q, 0, none⟩ = some (.int .i64 b0) ∧ w3.cell? ⟨Q, 1, none⟩ = some (.int .i64 b1) ∧ w3.cell? ⟨Q, 2, none⟩ = some (.int .i64 b2) ∧ w3.cell? ⟨Q, 3, none⟩ = some (.string b3) := by obtain ⟨c0, e0, e1, e2, e3⟩ := hHeld; have hkg := (Kept.refl (fun j => (Value.slice aT k cT).ownBlock = some j) W1).grown hgrow3 (fun j e _ => e); exact ⟨hkg.cell c0 HPV.out, hkg.cell e0 HQV.out, hkg.cell e1 HQV.out, hkg.cell e2 HQV.out, hkg.cell e3 HQV.out⟩
      refine hK _ _ (fun _ => hHeld3) ?_
      clear hK K9 hHeld
      try simp only [Act.put, List.setIfInBounds_toArray, List.set_cons_zero, List.set_cons_succ]
      have hHeld := hHeld3
      refine Till.takeFree (i := 8) (oi := { dst := some 20, op := Op.nilCheck (Operand.tmp 12), type := _, pos := _, after := _, guard := none }) (x := .pointer (some ⟨p, 0, none⟩)) rfl (by decide) (by kernel_rfl) (by kernel_rfl) (by kernel_rfl) (fun _ _ _ h => h) (Or.inl ⟨by rfl, fun w _ => by go_simp⟩) hHeld ?_
      simp only [Act.put, List.setIfInBounds_toArray, List.set_cons_zero, List.set_cons_succ]
      refine Till.takeFree (i := 9) (oi := { dst := some 21, op := Op.fieldAddr 31 (Operand.tmp 20) 2, type := _, pos := _, after := _, guard := none }) (x := .pointer (some ⟨p, 2, none⟩)) rfl (by decide) (by kernel_rfl) (by kernel_rfl) (by kernel_rfl) (fun _ _ _ h => h) (Or.inl ⟨by rfl, fun w _ => by go_simp⟩) hHeld ?_
      simp only [Act.put, List.setIfInBounds_toArray, List.set_cons_zero, List.set_cons_succ]
      clear hHeld
      obtain ⟨hc3, -, -, -, -⟩ := hHeld3
      have hf3 : w3.frozen? ⟨p, 2, none⟩ = false := HFZ.out w3 hk3
      refine Till.one (i := 10) (o := { dst := none, op := Op.store 29 (Operand.tmp 21) (Operand.tmp 19), type := _, pos := _, after := _, guard := none }) rfl (by kernel_rfl) (fun K9 hK => ?_)
      go_simp
      refine hK _ _ (by simp) ?_
      clear hK K9
      try simp only [Act.put, List.setIfInBounds_toArray, List.set_cons_zero, List.set_cons_succ]
      refine Till.rest (by kernel_rfl) ?_
      refine wpAny_done (by kernel_rfl) ?_ _
      go_wp2_with fail
      go_end0
      refine ⟨rfl, ?_⟩
      refine ⟨st.X ++ [(b0, ((b1, b2), b3))], ?_, fun y => by simp [HGD.out], by simp⟩
      have e1 := HNE.out
      have e2 := HVT.out
      subst e1
      subst e2
      exact HK.out.grewX (b0, ((b1, b2), b3))  hk3 hown3 hg3
end Go.Proofs.Ytompgoaogomoaaa.Kn
