/- Contracts: the document's MakesSealed, Keys; the law's model. -/
import Derived.Test.YtompgoaogomoaaaKnH
namespace Go.Proofs.Ytompgoaogomoaaa.Kn
open Go.RowKit Go.Maps
open Rt (Gd gd gd_yes gd_no rGood_any)
set_option linter.unusedVariables false
set_option linter.unusedSimpArgs false

set_option maxRecDepth 100000 in
set_option maxHeartbeats 2000000 in
theorem makesX_any (w : World) (N p : Nat) (st : Kst) (vt vb vx : Value) (b0 b1 b2 : Int) (b3 : ByteArray) (h : KnAt w N p st vt vb vx) (lT : st.T.length < 4611686018427387904) (lB : st.B.length < 4611686018427387904) (lX : st.X.length < 4611686018427387904) (hb3 : b3.size ≤ 9223372036854775807) {v : Bool}
    (hv : v = true ↔ gx (b0, ((b1, b2), b3)) = true ∧ ((b0, ((b1, b2), b3)) ∈ st.X ∨ Had st.T st.B (b1, b2))) :
    Calls Try.prog 19 #[.pointer (some ⟨p, 0, none⟩), .agg #[.int .i64 b0, .int .i64 b1, .int .i64 b2, .string b3] ] w fun e w' => e = .returned (.bool v) ∧ Below w.heap.size w w' := by
  have hg := fun W => sealed_any b0 b1 b2 b3 W hb3
  obtain ⟨u1, hu1⟩ := bool_of ((b0, ((b1, b2), b3)) ∈ st.X)
  obtain ⟨u2, hu2⟩ := bool_of (Had st.T st.B (b1, b2))
  have hse := fun W (hW : Below w.heap.size w W) => (h.later hW).read lX b0 b1 b2 b3 hu1
  have hha := fun W (hW : Below w.heap.size w W) => has_any W N p st vt vb vx b1 b2 (h.later hW) lT lB hu2
  have HV : Hid (v = (gx (b0, ((b1, b2), b3)) && (u1 || u2))) := by
    unfold Hid
    rw [Bool.eq_iff_iff, hv]
    simp only [Bool.and_eq_true, Bool.or_eq_true, hu1, hu2]
  rw [HV.out]
  have hb1 : Below w.heap.size w (w.alloc (.cells #[.int .i64 b0, .int .i64 b1, .int .i64 b2, .string b3] 37)) := Rt.below1 _ _
  obtain ⟨x0, x1, x2, x3⟩ := boxed4 w (.int .i64 b0) (.int .i64 b1) (.int .i64 b2) (.string b3) 37
  generalize gx (b0, ((b1, b2), b3)) = u0 at *
  clear h lT lB hv hu1 hu2 HV lX hb3
  go_enter Try.func19, Try.ntmps19
  go_upto_region 1 with (fail)
  generalize w.alloc (.cells #[.int .i64 b0, .int .i64 b1, .int .i64 b2, .string b3] 37) = w1 at *
  have HB1 : Hid (Below w.heap.size w w1) := hb1
  have HB0 := fun W (h : Below w1.heap.size w1 W) => Rt.Below.then HB1.out h
  obtain ⟨Q, hQ⟩ : ∃ Q, w.heap.size = Q := ⟨_, rfl⟩
  rw [hQ] at x0 x1 x2 x3 ⊢
  clear hb1 hQ
  have q0 := fun W (h : Below w1.heap.size w1 W) => cell_later h x0
  have q1 := fun W (h : Below w1.heap.size w1 W) => cell_later h x1
  have q2 := fun W (h : Below w1.heap.size w1 W) => cell_later h x2
  have q3 := fun W (h : Below w1.heap.size w1 W) => cell_later h x3
  cases u0 with
  | false =>
    go_wp2_with (go_at_call 42; refine (hg _).mono ?_; rintro r wg ⟨rfl, hbg⟩)
    go_ret
    exact ⟨rfl, HB0 _ hbg⟩
  | true =>
    cases u1 with
    | true =>
      go_wp2_with (first | (go_at_call 42; refine (hg _).mono ?_; rintro r wg ⟨rfl, hbg⟩; have y0 := q0 _ hbg; have y1 := q1 _ hbg; have y2 := q2 _ hbg; have y3 := q3 _ hbg) | (go_at_call 43; refine (hse _ (HB0 _ hbg)).mono ?_; rintro r ws ⟨rfl, hbs⟩))
      go_ret
      exact ⟨rfl, HB0 _ (Rt.Below.then hbg hbs)⟩
    | false =>
      go_wp2_with (first | (go_at_call 42; refine (hg _).mono ?_; rintro r wg ⟨rfl, hbg⟩; have y0 := q0 _ hbg; have y1 := q1 _ hbg; have y2 := q2 _ hbg; have y3 := q3 _ hbg) | (go_at_call 43; refine (hse _ (HB0 _ hbg)).mono ?_; rintro r ws ⟨rfl, hbs⟩; have z1 := cell_later hbs y1; have z2 := cell_later hbs y2) | (go_at_call 44; refine (hha _ (HB0 _ (Rt.Below.then hbg hbs))).mono ?_; rintro r wh ⟨rfl, hbh⟩))
      go_ret
      exact ⟨by cases u2 <;> rfl, HB0 _ (Rt.Below.then (Rt.Below.then hbg hbs) hbh)⟩
theorem own_apart {w : World} {N N' e e' z z' n n' : Nat} {v v' : Value} {xs xs' : List Value} (hr : w.ownsRow N e z v n xs) (hr' : w.ownsRow N' e' z' v' n' xs') (he : e ≠ e') : ∀ k, v.ownBlock = some k → v'.ownBlock ≠ some k := by
  intro k hk hk'
  obtain ⟨_, _, cur, hc⟩ := own_type hr hk
  obtain ⟨_, _, cur', hc'⟩ := own_type hr' hk'
  rw [hc] at hc'
  simp at hc'
  exact he hc'.2
theorem keysT_skip {f : Nat → Int} {k : Nat} (h : k = 0 ∨ f k = 0) : keysT f (k + 1) = keysT f k := by show keysT f k ++ _ = _; rw [if_pos h, List.append_nil]
theorem keysT_next {f : Nat → Int} {k : Nat} (h : ¬ (k = 0 ∨ f k = 0)) : keysT f (k + 1) = keysT f k ++ [((k : Int), f k - 1)] := by show keysT f k ++ _ = _; rw [if_neg h]
set_option maxRecDepth 100000 in
set_option maxHeartbeats 2000000 in
theorem keys_any (w : World) (N0 p : Nat) (st : Kst) (vt vb vx : Value) (h : KnAt w N0 p st vt vb vx) (lT : st.T.length < 4611686018427387904) (lB : st.B.length < 4611686018427387904) :
    Calls Try.prog 22 #[.pointer (some ⟨p, 0, none⟩)] w fun e w' => ∃ v f, e = .returned v ∧ Tab st.T st.B f ∧ w'.ownsRow w.heap.size 33 2 v (keysT f 32768).length ((keysT f 32768).flatMap kC) ∧ Below w.heap.size w w' := by
  have hcl := h.closed lT lB
  clear h lT lB
  go_enter Try.func22, Try.ntmps22
  go_wp2_with fail
  refine hcl.mono ?_
  rintro r w1 ⟨g, c, f, rfl, hC, hT⟩
  clear hcl
  obtain ⟨N, hN⟩ : ∃ N : Nat, 32768 = N := ⟨_, rfl⟩
  have HN : Hid (32768 = N) := hN
  have HT : Hid (Tab st.T st.B f) := hT
  rw [hN] at hC
  have HC1 : Hid (CL w w1 N g c f) := hC
  obtain ⟨i0, hi, hz0, hz1, hz2⟩ := info_parts infoKey
  have hsl : (Value.slice (some ⟨g, 0, none⟩) 32768 c) = .slice (some ⟨g, 0, none⟩) N c := by rw [hN]
  rw [hsl]
  clear hsl hN hC hT
  go_wp2_with fail
  go_loopw [4, 5] (fun o i wx => ∃ (k : Nat) (v : Value), 1 ≤ k ∧ k ≤ N ∧ i = .int .i64 (k : Int) ∧ v = o ∧ CL w wx N g c f ∧ wx.ownsRow w.heap.size 33 2 v (keysT f k).length ((keysT f k).flatMap kC)) (fun _ i _ => N - (intOf i).toNat)
  case atStart => exact ⟨1, _, by omega, by rw [← HN.out]; omega, rfl, rfl, HC1.out, World.ownsRow_nil _ _ _ _⟩
  case round =>
    obtain ⟨k, v, hk1, hk, rfl, rfl, hC, hrow⟩ := hrel
    clear HC1
    have HC : Hid (CL w wr N g c f) := hC
    by_cases hkn : k < N
    · have k1 : (0 : Int) ≤ (k : Int) := by omega
      have k2 : (k : Int) < (N : Int) := by omega
      have d0 : decide ((k : Int) < 32768) = true := decide_eq_true (by have := HN.out; omega)
      obtain ⟨t0, -⟩ := hC.cell hkn
      obtain ⟨u, hu⟩ : ∃ u, f k = u := ⟨_, rfl⟩
      have HU : Hid (f k = u) := hu
      have hbd := HT.out.snd.bd k
      rw [hu] at t0 hbd
      have hlen := keysT_len (f := f) k
      have HR : Hid (wr.ownsRow w.heap.size 33 2 v (keysT f k).length ((keysT f k).flatMap kC)) := hrow
      have HK0 : Hid (1 ≤ k ∧ k < N ∧ k < 32768) := ⟨hk1, hkn, by have := HN.out; omega⟩
      have hk68 : k < 32768 := HK0.out.2.2
      have hk62 : k < 4611686018427387904 := by omega
      have hsize := hC.bel.size
      clear hu hC hrow
      by_cases hu0 : u = 0
      · subst hu0
        clear hbd hk68 hsize hlen
        go_wp2_with fail
        go_roundw
        case rel => exact ⟨k + 1, v, by omega, by omega, by go_num, rfl, HC.out, by rw [keysT_skip (.inr HU.out)]; exact HR.out⟩
        case measure => simp [intOf]; omega
      · have d1 : (u != 0) = true := by simpa using hu0
        have hws : IntKind.i64.wrap (u - 1) = u - 1 := i64_fit _ (by omega) (by omega)
        obtain ⟨m, hm⟩ : ∃ m, (keysT f k).length = m := ⟨_, rfl⟩
        rw [hm] at hlen
        have HM : Hid ((keysT f k).length = m) := hm
        have hm1 : m ≤ 32768 := by omega
        have HR2 : Hid (wr.ownsRow w.heap.size 33 2 v m ((keysT f k).flatMap kC)) := by have := HR.out; rw [hm] at this; exact this
        clear hbd hk68 hm hlen
        go_wp2_with (at_builtin; refine wpList_append_lies _ rfl _ _ _ rfl w.heap.size 33 i0 _ 2 16 Try.underlying27 hi hz0 hz1 hz2 rfl (by omega) _ m ((keysT f k).flatMap kC) rfl (own_later HR2.out (Rt.below1 _ _)) ⟨wr.heap.size, 0, none⟩ 1 1 [.int .i64 (k : Int), .int .i64 (u - 1)] rfl rfl (news_of (_root_.Go.heap_alloc_last _ _)) (by simp [Value.oneCell']) (by omega) (by unfold maxLen; omega) (by omega) (by simp; omega) (wr.heap.size + 1) (by simp) ?_; intro g3 cap3 w3 hown3 hgrow3 hat3 hlt3)
        go_roundw
        case rel =>
          have hC1 := HC.out.alloc (.cells #[.int .i64 (k : Int), .int .i64 (u - 1)] 33)
          have hr1 := own_later HR2.out (Rt.below1 wr (.cells #[.int .i64 (k : Int), .int .i64 (u - 1)] 33))
          have hkg := (Kept.refl (fun j => v.ownBlock = some j) _).grown hgrow3 (fun j e _ => e)
          have hb3 := (Kept.below (B := w.heap.size) hkg (hC1.bel.size) (fun j e => (hr1.lt j e).1))
          refine ⟨k + 1, _, by omega, by have := HK0.out.2.1; omega, by go_num, rfl, ⟨hkg.row hC1.tab (fun j e e' => own_apart hC1.tab hr1 (by decide) j e e'), hC1.bel.trans hb3⟩, ?_⟩
          rw [keysT_next (fun h => by have h1 := HK0.out.1; have h2 := HU.out; rcases h with h | h <;> omega), List.length_append, HM.out, HU.out]
          have e : (keysT f k ++ [((k : Int), u - 1)]).flatMap kC = (keysT f k).flatMap kC ++ [.int .i64 (k : Int), .int .i64 (u - 1)] := by simp [kC]
          rw [e]
          exact hown3
        case measure => have := HK0.out.2.1; simp [intOf]; omega
    · obtain rfl : k = N := by omega
      have d0 : decide ((k : Int) < 32768) = false := decide_eq_false (by have := HN.out; omega)
      have HR : Hid (wr.ownsRow w.heap.size 33 2 v (keysT f k).length ((keysT f k).flatMap kC)) := hrow
      clear hrow hk hkn hk1 hC
      go_wp2_with fail
      go_ret
      refine ⟨v, f, rfl, HT.out, ?_, HC.out.bel⟩
      rw [HN.out]
      exact HR.out
end Go.Proofs.Ytompgoaogomoaaa.Kn
