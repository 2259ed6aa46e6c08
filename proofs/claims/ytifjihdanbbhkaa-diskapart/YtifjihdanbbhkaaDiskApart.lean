/- For every image and every write: DiskApart answers true. No condition but the form's own reach. -/
import Derived.Test.YtifjihdanbbhkaaRows
import Derived.Test.YtifjihdanbbhkaaDkH
import Derived.Test.YtifjihdanbbhkaaOpenDk
import Derived.Deep.DeepCutAuto
import Derived.Laws.AppendOwnNone
namespace Go.Proofs.Ytifjihdanbbhkaa.diskApart
open Go.ChangeShapes Go.WideShapes Go.ChangeAt Go.RowKit
set_option linter.unusedVariables false
set_option linter.unusedSimpArgs false
attribute [local go_sem ↓] Go.wp_at_zero Go.wp_at_succ

def spare : ByteArray := ⟨#[115, 112, 97, 114, 101]⟩
theorem Tw.kept {N : Nat} {w w' : World} {p q : Nat} {s t : St} {b m : Nat} {x f y z : Value} (h : Tw N w p q s t b m x f y z) {F : Nat → Prop} (hk : Kept F w w') (hF : ∀ k, F k → k < N) : Tw N w' p q s t b m x f y z :=
  ⟨h.d.kept hk (fun k h1 h2 => by have := (h.d.inHeap k h1).2; have := hF k h2; omega), h.r.kept hk (fun k h1 h2 => by have := (h.r.inHeap k h1).2; have := hF k h2; omega), h.dj⟩
theorem wrap_small (d : Nat) (h : d < 4611686018427387904) : IntKind.i64.wrap ((d : Int) + 1) = (d : Int) + 1 := by simp [IntKind.wrap, IntKind.bits, IntKind.signed]; omega
theorem im_nu : (im nu.bl).length = 0 := by
  have e0 : nu.bl = fun _ => ⟨#[]⟩ := by unfold St.bl nu rp; simp [fnI_nil]
  rw [im_length, e0]
  exact top_eq (by omega) (.inl rfl) (fun i _ _ => rfl)
set_option maxHeartbeats 8000000 in
set_option maxRecDepth 100000 in
theorem walk (a0 : Option Addr) (c0 : Nat) (l0 : List ByteArray) (a1 : Int) (s1 : ByteArray) (w : World)
    (rd0 : RdS w a0 l0) (hl0 : l0.length * 16 ≤ 140737488351232) (hn0 : a0 = none → c0 = 0) (hg0 : ∀ t ∈ l0, t.size ≤ 9223372036854775807)
    (w1 : (Lit.int .i64 a1).wf = true) (hz1 : s1.size ≤ 9223372036854775807) :
    Calls Try.prog 6 #[.slice a0 l0.length c0, .agg #[.int .i64 a1, .string s1]] w fun e w' => e = .returned (.bool true) ∧ Below w.heap.size w w' := by
  obtain ⟨i0, hi, hz0, hzz1, hz2⟩ := info_parts infoS
  obtain ⟨iw, hiw, hw0, hw1, hw2⟩ := info_parts infoW
  obtain ⟨n, hn⟩ : ∃ n, l0.length = n := ⟨_, rfl⟩
  have HN : Hid (l0.length = n) := hn
  have HRD : Hid (RdS w a0 l0) := rd0
  have HG0 : Hid (∀ t ∈ l0, t.size ≤ 9223372036854775807) := hg0
  have HNIL : Hid (a0 = none → c0 = 0) := hn0
  rw [hn] at hl0 ⊢
  clear hn rd0 hg0 hn0
  have HO : Hid _ := below1 w (.cells #[.int .i64 a1, .string s1] 49)
  obtain ⟨o0, o1⟩ := two_cells w (.int .i64 a1) (.string s1) 49
  have HO0 : Hid _ := o0
  have HO1 : Hid _ := o1
  go_enter Try.func6, Try.ntmps6
  go_wp2_with fail
  refine (lives_any _).mono ?_
  rintro e wl ⟨rfl, hbl⟩
  have HBL : Hid (Below w.heap.size w wl) := thenB HO.out hbl
  have p0 := cell_later hbl (Nat.le_refl _) o0
  have p1 := cell_later hbl (Nat.le_refl _) o1
  clear hbl o0 o1
  go_upto_region 3 with (fail)
  go_cut [5] (fun s5 wx => ∃ g cap, s5 = .slice (some ⟨g, 0, none⟩) (n + 1) cap ∧ RwS wx wl.heap.size s5 (l0 ++ [spare]) ∧ Below wl.heap.size wl wx)
  case first =>
    have HRR : Hid (RdS wl a0 l0) := HRD.out.later HBL.out
    have HCL : Hid ((cellsS l0).length = n * 1) := by show (cellsS l0).length = n * 1; rw [cellsS_length, HN.out]; omega
    have HE0 : Hid _ := row_empty wl 9 1
    have hb0 := below1 wl (.cells #[] 9)
    have HB0 : Hid _ := hb0
    cases a0 with
    | none =>
      have n0 : n = 0 := by
        rcases Nat.eq_zero_or_pos n with h | h
        · exact h
        · obtain ⟨_, _, e, _⟩ := HRR.out 0 (by rw [HN.out]; exact h)
          cases e
      have c0' := HNIL.out rfl
      have el : l0 = [] := List.length_eq_zero_iff.1 (by rw [HN.out]; exact n0)
      subst c0'
      have HN0 : Hid (n = 0) := n0
      have HEL : Hid (l0 = []) := el
      obtain ⟨w2, ew2⟩ : ∃ w2, wl.alloc (.cells #[] 9) = w2 := ⟨_, rfl⟩
      have HO2 : Hid (w2.ownsRow wl.heap.size 9 1 (.slice (some ⟨wl.heap.size, 0, none⟩) n 0) n (cellsS l0)) := by
        rw [el, n0, ← ew2]; exact HE0.out
      have HB2 : Hid (Below wl.heap.size wl w2) := by rw [← ew2]; exact hb0
      have HW2 : Hid (wl.alloc (.cells #[] 9) = w2) := ew2
      clear n0 hb0 el ew2
      go_wp2_with (first
        | (at_builtin; refine wpList_append_own_none rfl _ _ _ rfl wl.heap.size 9 i0 1 Try.underlying22 hi (.slice (some ⟨wl.heap.size, 0, none⟩) n 0) n (cellsS l0) (by show Value.slice _ 0 0 = _; rw [HN0.out]) (by rw [HW2.out]; exact HO2.out) (by show Value.slice none n 0 = _; rw [HN0.out]) ?_; rw [HW2.out])
        | (at_builtin; refine wpList_append_lies _ rfl _ _ _ rfl wl.heap.size 9 i0 _ 1 16 Try.underlying22 hi hz0 hzz1 hz2 rfl (by omega) _ n (cellsS l0) rfl (HO2.out.alloc _) ⟨w2.heap.size, 0, none⟩ 1 1 [.string ⟨#[115, 112, 97, 114, 101]⟩] rfl rfl (cell_one_at _ _ _ _ rfl) (by simp [Value.oneCell']) (by omega) (by unfold maxLen; omega) (by omega) (by have := HB2.out.size; simp; omega) (w2.heap.size + 1) (by simp) ?_; intro g3 cap3 w3 hown3 hgrow3 hat3 hlt3; have HO3 : Hid (w3.ownsRow wl.heap.size 9 1 (.slice (some ⟨g3, 0, none⟩) (n + 1) cap3) (n + 1) (cellsS l0 ++ [.string ⟨#[115, 112, 97, 114, 101]⟩])) := hown3; have HB3 : Hid (Below wl.heap.size wl w3) := (Below.more HB2.out _).grown hgrow3 (by have := HB2.out.size; simp; omega) (fun j hj => (World.ownsRow.lt HO2.out j hj).1); clear hown3 hgrow3 hat3 hlt3)
        | fail)
      go_meet
      case rel =>
        refine ⟨g3, cap3, rfl, ?_, HB3.out⟩
        unfold RwS
        have e : (l0 ++ [spare]).length = n + 1 := by simp [HN.out]
        rw [e]
        have := HO3.out
        rw [show cellsS l0 ++ [.string ⟨#[115, 112, 97, 114, 101]⟩] = cellsS (l0 ++ [spare]) by simp [cellsS, spare]] at this
        exact this
    | some ad =>
      have HNW : Hid _ := (HRR.out.later hb0).newsA
      clear hb0
      by_cases h0 : n = 0
      · have H0 : Hid (n = 0) := h0
        clear h0
        go_wp2_with (first
          | (at_builtin; refine wpList_append_fits _ rfl _ _ _ rfl wl.heap.size 9 i0 1 Try.underlying22 hi hzz1 wl.heap.size 0 0 [] rfl HE0.out ad n c0 (cellsS l0) rfl HCL.out HNW.out (cellsS_one _) (by have := H0.out; omega) ?_; intro w2 hown2 hgrow2; rw [Nat.zero_add, List.nil_append] at hown2; have HO2 : Hid (w2.ownsRow wl.heap.size 9 1 (.slice (some ⟨wl.heap.size, 0, none⟩) n 0) n (cellsS l0)) := hown2; have HB2 : Hid (Below wl.heap.size wl w2) := HB0.out.grown hgrow2 HB0.out.size (fun j hj => by cases hj; exact Nat.le_refl _); clear hown2 hgrow2)
          | (at_builtin; refine wpList_append_lies _ rfl _ _ _ rfl wl.heap.size 9 i0 _ 1 16 Try.underlying22 hi hz0 hzz1 hz2 rfl (by omega) _ n (cellsS l0) rfl (HO2.out.alloc _) ⟨w2.heap.size, 0, none⟩ 1 1 [.string ⟨#[115, 112, 97, 114, 101]⟩] rfl rfl (cell_one_at _ _ _ _ rfl) (by simp [Value.oneCell']) (by omega) (by unfold maxLen; omega) (by omega) (by have := HB2.out.size; simp; omega) (w2.heap.size + 1) (by simp) ?_; intro g3 cap3 w3 hown3 hgrow3 hat3 hlt3; have HO3 : Hid (w3.ownsRow wl.heap.size 9 1 (.slice (some ⟨g3, 0, none⟩) (n + 1) cap3) (n + 1) (cellsS l0 ++ [.string ⟨#[115, 112, 97, 114, 101]⟩])) := hown3; have HB3 : Hid (Below wl.heap.size wl w3) := (Below.more HB2.out _).grown hgrow3 (by have := HB2.out.size; simp; omega) (fun j hj => (World.ownsRow.lt HO2.out j hj).1); clear hown3 hgrow3 hat3 hlt3)
          | fail)
        go_meet
        case rel =>
          refine ⟨g3, cap3, rfl, ?_, HB3.out⟩
          unfold RwS
          have e : (l0 ++ [spare]).length = n + 1 := by simp [HN.out]
          rw [e]
          have := HO3.out
          rw [show cellsS l0 ++ [.string ⟨#[115, 112, 97, 114, 101]⟩] = cellsS (l0 ++ [spare]) by simp [cellsS, spare]] at this
          exact this
      · have h0' : 0 < n := by omega
        go_wp2_with (first
          | (at_builtin; refine wpList_append_lies _ rfl _ _ _ rfl wl.heap.size 9 i0 _ 1 16 Try.underlying22 hi hz0 hzz1 hz2 rfl (by omega) _ 0 [] rfl HE0.out ad n c0 (cellsS l0) rfl HCL.out HNW.out (cellsS_one _) h0' (by unfold maxLen; omega) (by omega) (by simp) (wl.heap.size + 1) (by simp) ?_; intro g2 cap2 w2 hown2 hgrow2 hat2 hlt2; rw [Nat.zero_add, List.nil_append] at hown2; have HO2 : Hid (w2.ownsRow wl.heap.size 9 1 (.slice (some ⟨g2, 0, none⟩) n cap2) n (cellsS l0)) := hown2; have HB2 : Hid (Below wl.heap.size wl w2) := HB0.out.grown hgrow2 HB0.out.size (fun j hj => by cases hj; exact Nat.le_refl _); clear hown2 hgrow2 hat2 hlt2)
          | (at_builtin; refine wpList_append_lies _ rfl _ _ _ rfl wl.heap.size 9 i0 _ 1 16 Try.underlying22 hi hz0 hzz1 hz2 rfl (by omega) _ n (cellsS l0) rfl (HO2.out.alloc _) ⟨w2.heap.size, 0, none⟩ 1 1 [.string ⟨#[115, 112, 97, 114, 101]⟩] rfl rfl (cell_one_at _ _ _ _ rfl) (by simp [Value.oneCell']) (by omega) (by unfold maxLen; omega) (by omega) (by have := HB2.out.size; simp; omega) (w2.heap.size + 1) (by simp) ?_; intro g3 cap3 w3 hown3 hgrow3 hat3 hlt3; have HO3 : Hid (w3.ownsRow wl.heap.size 9 1 (.slice (some ⟨g3, 0, none⟩) (n + 1) cap3) (n + 1) (cellsS l0 ++ [.string ⟨#[115, 112, 97, 114, 101]⟩])) := hown3; have HB3 : Hid (Below wl.heap.size wl w3) := (Below.more HB2.out _).grown hgrow3 (by have := HB2.out.size; simp; omega) (fun j hj => (World.ownsRow.lt HO2.out j hj).1); clear hown3 hgrow3 hat3 hlt3)
          | fail)
        go_meet
        case rel =>
          refine ⟨g3, cap3, rfl, ?_, HB3.out⟩
          unfold RwS
          have e : (l0 ++ [spare]).length = n + 1 := by simp [HN.out]
          rw [e]
          have := HO3.out
          rw [show cellsS l0 ++ [.string ⟨#[115, 112, 97, 114, 101]⟩] = cellsS (l0 ++ [spare]) by simp [cellsS, spare]] at this
          exact this
  case rest =>
    obtain ⟨g, cap, rfl, hrow, hb1⟩ := hcut
    have HROW : Hid (wc.ownsRow wl.heap.size 9 1 (.slice (some ⟨g, 0, none⟩) (n + 1) cap) (n + 1) (cellsS (l0 ++ [spare]))) := by
      have e : (l0 ++ [spare]).length = n + 1 := by simp [HN.out]
      have := hrow
      unfold RwS at this
      rw [e] at this
      exact this
    have HB1 : Hid (Below wl.heap.size wl wc) := hb1
    have hgw := hrow.lt g rfl
    have hcap : n + 1 ≤ cap ∧ cap ≤ 9223372036854775807 := by
      rcases HROW.out.2 with ⟨h0, _⟩ | ⟨g', cap', cur, hv, _, _, h1, h2, _⟩
      · cases h0
      · cases hv; exact ⟨h1, h2⟩
    have HRG : Hid (RdS wc (some ⟨g, 0, none⟩) l0) := by
      have := hrow.rd.take l0.length
      rwa [List.take_left' rfl] at this
    have k1 : (0 : Int) ≤ (n : Int) := by omega
    have k2 : (n : Int) ≤ (cap : Int) := by omega
    have k3 : (n : Int) < ((n + 1 : Nat) : Int) := by omega
    have k4 : (n : Int) < (n : Int) + 1 := by omega
    obtain ⟨v, ev⟩ : ∃ v, fe l0 = v := ⟨_, rfl⟩
    have hfr := from_any (some ⟨g, 0, none⟩) cap l0 wc (by rw [HN.out]; omega) HRG.out HG0.out
    have HRF : Hid (∀ W, Below w.heap.size w W → Calls Try.prog 9 #[.slice a0 n c0] W fun e w' => ∃ dv, e = .returned (.tuple #[.pointer dv, .int .i64 v]) ∧ Below W.heap.size W w' ∧ ((v ≠ 0 ∧ dv = none) ∨ (v = 0 ∧ ∃ p f y x, dv = some ⟨p, 0, none⟩ ∧ Rk W.heap.size w' p (st l0) f y x))) := fun W hb => by
      rw [← ev, ← HN.out]
      exact rFrom_any a0 c0 l0 W (by rw [HN.out]; omega) (HRD.out.later hb) HG0.out HNIL.out
    rw [HN.out, ev] at hfr
    clear hrow hb1 ev
    go_wp2_with fail
    refine hfr.mono ?_
    rintro e W2 ⟨dv, rfl, hb2, hd2⟩
    have HB2 : Hid (Below wc.heap.size wc W2) := hb2
    have HD2 : Hid ((v ≠ 0 ∧ dv = none) ∨ (v = 0 ∧ ∃ p b m x, dv = some ⟨p, 0, none⟩ ∧ Dk wc.heap.size W2 p (st l0) b m x)) := hd2
    clear hb2 hd2 hfr
    go_wp2_with fail
    refine (HRF.out _ (thenB HBL.out (thenB HB1.out HB2.out))).mono ?_
    rintro e W3 ⟨mv, rfl, hb3, hd3⟩
    have HB3 : Hid (Below W2.heap.size W2 W3) := hb3
    have HD3 : Hid ((v ≠ 0 ∧ mv = none) ∨ (v = 0 ∧ ∃ p f y x, mv = some ⟨p, 0, none⟩ ∧ Rk W2.heap.size W3 p (st l0) f y x)) := hd3
    have HB13 : Hid (Below wc.heap.size wc W3) := thenB HB2.out HB3.out
    have HROW3 : Hid (W3.ownsRow wl.heap.size 9 1 (.slice (some ⟨g, 0, none⟩) (n + 1) cap) (n + 1) (cellsS (l0 ++ [spare]))) := row_later HROW.out HB13.out
    have csp : W3.cell? ⟨g, n, none⟩ = some (.string ⟨#[115, 112, 97, 114, 101]⟩) := by
      rw [HROW3.out.cellAt n (by omega)]
      have := cellsS_get (l0 ++ [spare]) n (by simp [HN.out])
      rw [this]
      have e : (l0 ++ [spare]).getD n ⟨#[]⟩ = spare := by rw [← HN.out]; simp
      rw [e]; rfl
    have hsm := same_n HN.out (by omega) (some ⟨g, 0, none⟩) a0 cap c0 W3 (HRG.out.later HB13.out) (HRD.out.later (thenB HBL.out (thenB HB1.out HB13.out)))
    clear hb3 hd3
    go_wp2_with fail
    refine hsm.mono ?_
    rintro e W4 ⟨rfl, hb4⟩
    have HB4 : Hid (Below W3.heap.size W3 W4) := hb4
    have HB14 : Hid (Below wc.heap.size wc W4) := thenB HB13.out hb4
    clear hb4 hsm
    by_cases hv : v = 0
    · rcases HD2.out with ⟨h0, _⟩ | ⟨_, p, b, m, x, rfl, hd⟩
      · exact absurd hv h0
      rcases HD3.out with ⟨h0, _⟩ | ⟨_, q, f, y, z, rfl, hr⟩
      · exact absurd hv h0
      obtain ⟨b, m, x, f, y, z, hTT⟩ := (made_two (Nat.le_refl _) hd HB2.out hr HB3.out).later HB4.out
      have HTT : Hid (Tw wc.heap.size W4 p q (st l0) (st l0) b m x f y z) := hTT
      have HTK4 : Hid (∀ k, (Fd p b m x k ∨ Fr q f y z k) → wc.heap.size ≤ k ∧ k < W4.heap.size) := fun k hk => by
        rcases hk with hk | hk
        · exact ⟨(hTT.d.inHeap k hk).2, (hTT.d.inHeap k hk).1⟩
        · exact ⟨(hTT.r.inHeap k hk).2, (hTT.r.inHeap k hk).1⟩
      clear hd hr HD2 HD3 hTT
      subst hv
      go_wp2_with fail
      refine (new_any W4).mono ?_
      rintro e W5 ⟨po, bo, mo, xo, rfl, hdo, hb5⟩
      have HO5 : Hid (Dk W4.heap.size W5 po nu bo mo xo) := hdo
      have HB5 : Hid (Below W4.heap.size W4 W5) := hb5
      have HT5 : Hid (Tw wc.heap.size W5 p q (st l0) (st l0) b m x f y z) := HTT.out.later hb5
      have HB15 : Hid (Below wc.heap.size wc W5) := thenB HB14.out hb5
      have HROW5 : Hid (W5.ownsRow wl.heap.size 9 1 (.slice (some ⟨g, 0, none⟩) (n + 1) cap) (n + 1) (cellsS (l0 ++ [spare]))) := row_later HROW.out HB15.out
      clear hdo hb5 HTT csp HROW3
      go_wp2_with fail
      go_loopw [66] (fun i wr => ∃ j : Nat, j ≤ n ∧ i = .int .i64 (j : Int) ∧ (∃ xs, wr.ownsRow wl.heap.size 9 1 (.slice (some ⟨g, 0, none⟩) (n + 1) cap) (n + 1) xs) ∧ Kept (fun k => k = g) W5 wr) (fun i _ => n - (intOf i).toNat)
      case atStart => exact ⟨0, by omega, rfl, ⟨_, HROW5.out⟩, Kept.refl _ _⟩
      case round =>
        obtain ⟨j, hj, rfl, ⟨xs, hrw⟩, hkg⟩ := hrel
        have HKG : Hid (Kept (fun k => k = g) W5 wr) := hkg
        by_cases hjn : j < n
        · have hxl : xs.length = n + 1 := by have := hrw.1; omega
          have hcell : wr.cell? ⟨g, j, none⟩ = some (xs[j]'(by omega)) := by rw [hrw.cellAt j (by omega)]; exact List.getElem?_eq_getElem _
          have hfz := hrw.frozenAt j
          have HST : Hid _ := (hrw.stored j (.string ⟨#[115, 112, 111, 105, 108, 116]⟩)).1
          have j1 : (0 : Int) ≤ (j : Int) := by omega
          have j2 : (j : Int) < (n : Int) := by omega
          clear hrw hkg
          go_wp2
          go_roundw
          case rel => exact ⟨j + 1, by omega, by go_num, ⟨_, HST.out⟩, HKG.out.setCell (p := ⟨g, j, none⟩) (fun _ => rfl) _⟩
          case measure => simp [intOf]; omega
        · have hjn' : decide ((j : Int) < (n : Int)) = false := by simp; omega
          have HT6 : Hid (Tw wc.heap.size wr p q (st l0) (st l0) b m x f y z) := Tw.kept HT5.out hkg (fun k e => by subst e; exact hgw.2)
          have HO6 : Hid (Dk W4.heap.size wr po nu bo mo xo) := HO5.out.kept hkg (fun k h1 h2 => by have := (HO5.out.inHeap k h1).2; have := HB14.out.size; omega)
          have HBW : Hid (Below wl.heap.size wl wr) := belowK (thenB HB1.out HB15.out) hkg (fun i e => by subst e; exact hgw.1) (thenB HB1.out HB15.out).size
          have hws : wc.heap.size ≤ wr.heap.size := Nat.le_trans HB15.out.size hkg.size
          have h1s := HB1.out.size
          have c0' := cell_later HBW.out (Nat.le_refl _) p0
          have c1' := cell_later HBW.out (Nat.le_refl _) p1
          have hwd := write_any wc.heap.size wr p _ b m x HT6.out.d a1 s1 w1 hz1 (by simp [st]) hws
          clear hkg hrw
          go_wp2_with fail
          refine hwd.mono ?_
          rintro e W7 ⟨rfl, hW7⟩
          obtain ⟨x7, hT7, hk7⟩ := HT6.out.left hW7
          have HT7 : Hid (Tw wc.heap.size W7 p q (nx (st l0) a1 s1) (st l0) b m x7 f y z) := hT7
          have HO7 : Hid (Dk W4.heap.size W7 po nu bo mo xo) := HO6.out.kept hk7 (fun k h1 h2 => by have := (HO6.out.inHeap k h1).2; have := (HTK4.out k (.inl h2)).2; omega)
          have HBW7 : Hid (Below wl.heap.size wl W7) := belowK HBW.out hk7 (fun i e => by have := (HTK4.out i (.inl e)).1; omega) HBW.out.size
          have hws7 : wc.heap.size ≤ W7.heap.size := Nat.le_trans hws hk7.size
          have c0' := cell_later HBW7.out (Nat.le_refl _) p0
          have c1' := cell_later HBW7.out (Nat.le_refl _) p1
          have hwm := rWrite_any wc.heap.size W7 q _ f y z HT7.out.r a1 s1 hz1 (by simp [st]) hws7
          clear hW7 hT7 hk7 hwd
          go_wp2_with fail
          refine hwm.mono ?_
          rintro e W8 ⟨rfl, hW8⟩
          obtain ⟨z8, hT8, hk8⟩ := HT7.out.right hW8
          obtain ⟨s', es'⟩ : ∃ s', nx (st l0) a1 s1 = s' := ⟨_, rfl⟩
          have hsl : s'.log.length ≤ 1 := by
            rw [← es']; unfold nx
            split <;> simp [st]
          rw [es'] at hT8
          have HT8 : Hid (Tw wc.heap.size W8 p q s' s' b m x7 f y z8) := hT8
          have HO8 : Hid (Dk W4.heap.size W8 po nu bo mo xo) := HO7.out.kept hk8 (fun k h1 h2 => by have := (HO7.out.inHeap k h1).2; have := (HTK4.out k (.inr h2)).2; omega)
          have HBW8 : Hid (Below wl.heap.size wl W8) := belowK HBW7.out hk8 (fun i e => by have := (HTK4.out i (.inr e)).1; omega) HBW7.out.size
          obtain ⟨T, hT⟩ : ∃ T, (im s'.bl).length = T := ⟨_, rfl⟩
          have HT : Hid ((im s'.bl).length = T) := hT
          have hT2 : T ≤ 2048 := by rw [← hT, im_length]; exact top_le _
          obtain ⟨L, hL⟩ : ∃ L, s'.log.length = L := ⟨_, rfl⟩
          have HL : Hid (s'.log.length = L) := hL
          have hL2 : L ≤ 1 := by rw [← hL]; exact hsl
          have him := image_any wc.heap.size W8 p _ b m x7 HT8.out.d (by omega)
          clear hW8 hT8 hk8 hwm es' hT hL
          go_wp2_with fail
          refine him.mono ?_
          rintro e W9 ⟨va, rfl, hra, hb9⟩
          obtain ⟨aa, ca, ea⟩ := row_spell hra
          rw [HT.out] at ea
          subst ea
          have HRA : Hid (RwS W9 W8.heap.size (.slice aa T ca) (im s'.bl)) := hra
          have HB9 : Hid (Below W8.heap.size W8 W9) := hb9
          have HT9 : Hid (Tw wc.heap.size W9 p q s' s' b m x7 f y z8) := HT8.out.later hb9
          have him := image_any wc.heap.size W9 p _ b m x7 HT9.out.d (by omega)
          clear hra hb9
          go_wp2_with fail
          refine him.mono ?_
          rintro e W10 ⟨vb, rfl, hrb, hb10⟩
          obtain ⟨ab, cb, eb⟩ := row_spell hrb
          rw [HT.out] at eb
          subst eb
          have HRB : Hid (RwS W10 W9.heap.size (.slice ab T cb) (im s'.bl)) := hrb
          have HB10 : Hid (Below W9.heap.size W9 W10) := hb10
          have HT10 : Hid (Tw wc.heap.size W10 p q s' s' b m x7 f y z8) := HT9.out.later hb10
          have hwx := writes_any wc.heap.size W10 p _ b m x7 HT10.out.d (by omega)
          clear hrb hb10 him
          go_wp2_with fail
          refine hwx.mono ?_
          rintro e W11 ⟨vx, rfl, hrx, hb11⟩
          obtain ⟨ax, cx, ex⟩ := row_spell hrx
          rw [HL.out] at ex
          subst ex
          have HRX : Hid (RwW W11 W10.heap.size (.slice ax L cx) s'.log) := hrx
          have HB11 : Hid (Below W10.heap.size W10 W11) := hb11
          have HT11 : Hid (Tw wc.heap.size W11 p q s' s' b m x7 f y z8) := HT10.out.later hb11
          have hwy := writes_any wc.heap.size W11 p _ b m x7 HT11.out.d (by omega)
          clear hrx hb11 hwx
          go_wp2_with fail
          refine hwy.mono ?_
          rintro e W12 ⟨vy, rfl, hry, hb12⟩
          obtain ⟨ay, cy, ey⟩ := row_spell hry
          rw [HL.out] at ey
          subst ey
          have HRY : Hid (RwW W12 W11.heap.size (.slice ay L cy) s'.log) := hry
          have HB12 : Hid (Below W11.heap.size W11 W12) := hb12
          have HT12 : Hid (Tw wc.heap.size W12 p q s' s' b m x7 f y z8) := HT11.out.later hb12
          have HB8 : Hid (Below W8.heap.size W8 W12) := thenB (thenB HB9.out HB10.out) (thenB HB11.out hb12)
          have HA12 : Hid (W12.ownsRow W8.heap.size 9 1 (.slice aa T ca) T (cellsS (im s'.bl))) := by
            have h := row_later HRA.out (thenB HB10.out (thenB HB11.out hb12))
            rw [HT.out] at h; exact h
          have HX12 : Hid (W12.ownsRow W10.heap.size 49 2 (.slice ax L cx) L (cellsW s'.log)) := by
            have h := row_later HRX.out hb12
            rw [HL.out] at h; exact h
          have HSZ : Hid (∀ k, ((Value.slice aa T ca).ownBlock = some k → W8.heap.size ≤ k ∧ k < W9.heap.size) ∧ ((Value.slice ab T cb).ownBlock = some k → W9.heap.size ≤ k ∧ k < W10.heap.size) ∧ ((Value.slice ax L cx).ownBlock = some k → W10.heap.size ≤ k ∧ k < W11.heap.size) ∧ ((Value.slice ay L cy).ownBlock = some k → W11.heap.size ≤ k ∧ k < W12.heap.size)) := fun k =>
            ⟨fun e => World.ownsRow.lt HRA.out k e, fun e => World.ownsRow.lt HRB.out k e, fun e => World.ownsRow.lt HRX.out k e, fun e => World.ownsRow.lt HRY.out k e⟩
          have HSI : Hid (W8.heap.size ≤ W9.heap.size ∧ W9.heap.size ≤ W10.heap.size ∧ W10.heap.size ≤ W11.heap.size ∧ W11.heap.size ≤ W12.heap.size) := ⟨HB9.out.size, HB10.out.size, HB11.out.size, hb12.size⟩
          have HBX : Hid (Below W10.heap.size W10 W12) := thenB HB11.out hb12
          clear hry hb12 hwy HT9 HT10 HT11 HB9 HB10 HB11 HB12
          go_wp2_with fail
          go_loopw [95] (fun i wr => ∃ j : Nat, j ≤ T ∧ i = .int .i64 (j : Int) ∧ (∃ xs, wr.ownsRow W8.heap.size 9 1 (.slice aa T ca) T xs) ∧ Kept (fun k => (Value.slice aa T ca).ownBlock = some k) W12 wr) (fun i _ => T - (intOf i).toNat)
          case atStart => exact ⟨0, by omega, rfl, ⟨_, HA12.out⟩, Kept.refl _ _⟩
          case round =>
            obtain ⟨j2, hj2, rfl, ⟨xs, hrw⟩, hkg⟩ := hrel
            have HKA : Hid (Kept (fun k => (Value.slice aa T ca).ownBlock = some k) W12 wr) := hkg
            by_cases hjT : j2 < T
            · obtain ⟨ga, rfl⟩ : ∃ ga, aa = some ⟨ga, 0, none⟩ := by
                rcases hrw.2 with ⟨_, h0⟩ | ⟨g', cap', cur, hv, _⟩
                · omega
                · simp at hv; exact ⟨g', hv.1⟩
              have hxl : xs.length = T := by have := hrw.1; omega
              have hcell : wr.cell? ⟨ga, j2, none⟩ = some (xs[j2]'(by omega)) := by rw [hrw.cellAt j2 (by omega)]; exact List.getElem?_eq_getElem _
              have hfz := hrw.frozenAt j2
              have HST : Hid _ := (hrw.stored j2 (.string ⟨#[109, 97, 114, 107]⟩)).1
              have q1 : (0 : Int) ≤ (j2 : Int) := by omega
              have q2 : (j2 : Int) < (T : Int) := by omega
              clear hrw hkg
              go_wp2
              go_roundw
              case rel => exact ⟨j2 + 1, by omega, by go_num, ⟨_, HST.out⟩, HKA.out.setCell (p := ⟨ga, j2, none⟩) (fun _ => rfl) _⟩
              case measure => simp [intOf]; omega
            · have hjT' : decide ((j2 : Int) < (T : Int)) = false := by simp; omega
              have HA13 : Hid (∃ xs, wr.ownsRow W8.heap.size 9 1 (.slice aa T ca) T xs) := ⟨xs, hrw⟩
              have HX13 : Hid (wr.ownsRow W10.heap.size 49 2 (.slice ax L cx) L (cellsW s'.log)) := hkg.row HX12.out (fun k e e' => by have := ((HSZ.out k).1 e').2; have := ((HSZ.out k).2.2.1 e).1; have := HSI.out; omega)
              obtain ⟨W13, eW13⟩ : ∃ W13, W13 = wr := ⟨_, rfl⟩
              have HKA' : Hid (Kept (fun k => (Value.slice aa T ca).ownBlock = some k) W12 W13) := by rw [eW13]; exact hkg
              have HA13' : Hid (∃ xs, W13.ownsRow W8.heap.size 9 1 (.slice aa T ca) T xs) := by rw [eW13]; exact HA13.out
              have HX13' : Hid (W13.ownsRow W10.heap.size 49 2 (.slice ax L cx) L (cellsW s'.log)) := by rw [eW13]; exact HX13.out
              have HEW : Hid (W13 = wr) := eW13
              clear hrw hkg eW13 HKA HA13 HX13
              go_wp2_with fail
              rw [← HEW.out]
              clear HEW
              go_loopw [104] (fun i wr => ∃ j : Nat, j ≤ L ∧ i = .int .i64 (j : Int) ∧ (∃ xs, wr.ownsRow W10.heap.size 49 2 (.slice ax L cx) L xs) ∧ Kept (fun k => (Value.slice ax L cx).ownBlock = some k) W13 wr) (fun i _ => L - (intOf i).toNat)
              case atStart => exact ⟨0, by omega, rfl, ⟨_, HX13'.out⟩, Kept.refl _ _⟩
              case round =>
                obtain ⟨j3, hj3, rfl, ⟨xs, hrw⟩, hkg⟩ := hrel
                have HKX : Hid (Kept (fun k => (Value.slice ax L cx).ownBlock = some k) W13 wr) := hkg
                by_cases hjL : j3 < L
                · obtain ⟨gx, rfl⟩ : ∃ gx, ax = some ⟨gx, 0, none⟩ := by
                    rcases hrw.2 with ⟨_, h0⟩ | ⟨g', cap', cur, hv, _⟩
                    · omega
                    · simp at hv; exact ⟨g', hv.1⟩
                  have hxl : xs.length = L * 2 := hrw.1
                  have hcell : wr.cell? ⟨gx, j3 * 2, none⟩ = some (xs[j3 * 2]'(by omega)) := by rw [hrw.cellAt (j3 * 2) (by omega)]; exact List.getElem?_eq_getElem _
                  have hcell2 : wr.cell? ⟨gx, j3 * 2 + 1, none⟩ = some (xs[j3 * 2 + 1]'(by omega)) := by rw [hrw.cellAt (j3 * 2 + 1) (by omega)]; exact List.getElem?_eq_getElem _
                  have hfz := hrw.frozenAt (j3 * 2)
                  have hfz2 := hrw.frozenAt (j3 * 2 + 1)
                  have HST : Hid _ := ((hrw.stored (j3 * 2) (.int .i64 (-1))).1.stored (j3 * 2 + 1) (.string ⟨#[]⟩)).1
                  have q1 : (0 : Int) ≤ (j3 : Int) := by omega
                  have q2 : (j3 : Int) < (L : Int) := by omega
                  clear hrw hkg
                  go_wp2
                  go_roundw
                  case rel => exact ⟨j3 + 1, by omega, by go_num, ⟨_, HST.out⟩, (HKX.out.setCell (p := ⟨gx, j3 * 2, none⟩) (fun _ => rfl) _).setCell (p := ⟨gx, j3 * 2 + 1, none⟩) (fun _ => rfl) _⟩
                  case measure => simp [intOf]; omega
                · have hjL' : decide ((j3 : Int) < (L : Int)) = false := by simp; omega
                  obtain ⟨xsa, hra0⟩ := HA13'.out
                  have HA14 : Hid (wr.ownsRow W8.heap.size 9 1 (.slice aa T ca) T xsa) := hkg.row hra0 (fun k e e' => by have := ((HSZ.out k).1 e).2; have := ((HSZ.out k).2.2.1 e').1; have := HSI.out; omega)
                  have HX14 : Hid (wr.ownsRow W10.heap.size 49 2 (.slice ax L cx) L xs) := hrw
                  have HKW : Hid (Kept (fun k => (Value.slice aa T ca).ownBlock = some k ∨ (Value.slice ax L cx).ownBlock = some k) W12 wr) := (HKA'.out.mono (fun _ _ e => .inl e)).trans hkg (fun _ _ e => .inr e)
                  have hs14 : W12.heap.size ≤ wr.heap.size := HKW.out.size
                  have hs8 := HSI.out
                  clear hrw hkg hra0 HKX
                  go_wp2_with (first
                    | (at_builtin; refine wpList_append_lies _ rfl _ _ _ rfl W8.heap.size 9 i0 _ 1 16 Try.underlying22 hi hz0 hzz1 hz2 rfl (by omega) _ T xsa rfl (HA14.out.alloc _) ⟨wr.heap.size, 0, none⟩ 1 1 [.string ⟨#[109, 111, 114, 101]⟩] rfl rfl (cell_one_at _ _ _ _ rfl) (by simp [Value.oneCell']) (by omega) (by unfold maxLen; omega) (by omega) (by simp; omega) (wr.heap.size + 1) (by simp) ?_; intro ga' ca' W15 hown15 hgrow15 hat15 hlt15; have HK15 : Hid (Kept (fun k => (Value.slice aa T ca).ownBlock = some k ∨ (Value.slice ax L cx).ownBlock = some k) W12 W15) := (HKW.out.alloc _).grown hgrow15 (fun k e _ => .inl e); have HX15 : Hid (W15.ownsRow W10.heap.size 49 2 (.slice ax L cx) L xs) := (((Kept.refl (fun k => (Value.slice aa T ca).ownBlock = some k) wr).alloc _).grown hgrow15 (fun k e _ => e)).row HX14.out (fun k e e' => by have := ((HSZ.out k).1 e').2; have := ((HSZ.out k).2.2.1 e).1; have := HSI.out; omega); have hs15 := HK15.out.size; clear hown15 hgrow15 hat15 hlt15)
                    | (at_builtin; refine wpList_append_lies _ rfl _ _ _ rfl W10.heap.size 49 iw _ 2 24 Try.underlying42 hiw hw0 hw1 hw2 rfl (by omega) _ L xs rfl (HX15.out.alloc _) ⟨W15.heap.size, 0, none⟩ 1 1 [.int .i64 (-2), .string ⟨#[]⟩] rfl rfl (cell_two_at _ _ _ _ _ rfl) (by simp [Value.oneCell']) (by omega) (by unfold maxLen; omega) (by omega) (by simp; omega) (W15.heap.size + 1) (by simp) ?_; intro gx' cx' W16 hown16 hgrow16 hat16 hlt16; have HK16 : Hid (Kept (fun k => (Value.slice aa T ca).ownBlock = some k ∨ (Value.slice ax L cx).ownBlock = some k) W12 W16) := (HK15.out.alloc _).grown hgrow16 (fun k e _ => .inr e); clear hown16 hgrow16 hat16 hlt16)
                    | fail)
                  have HLO : Hid (∀ k, ((Value.slice aa T ca).ownBlock = some k ∨ (Value.slice ax L cx).ownBlock = some k) → W8.heap.size ≤ k) := fun k e => by
                    have := HSI.out
                    rcases e with e | e
                    · exact ((HSZ.out k).1 e).1
                    · have := ((HSZ.out k).2.2.1 e).1; omega
                  have HTF : Hid (Two wc.heap.size W16 p q s') := ⟨b, m, x7, f, y, z8, HT12.out.d.kept HK16.out (fun k h1 h2 => by have := (HT8.out.d.inHeap k h1).1; have := HLO.out k h2; omega), HT12.out.r.kept HK16.out (fun k h1 h2 => by have := (HT8.out.r.inHeap k h1).1; have := HLO.out k h2; omega), HT12.out.dj⟩
                  have HOF : Hid (Dk W4.heap.size W16 po nu bo mo xo) := (HO8.out.later HB8.out).kept HK16.out (fun k h1 h2 => by have := (HO8.out.inHeap k h1).1; have := HLO.out k h2; omega)
                  have HBF : Hid (RdS W16 ab (im s'.bl)) := by
                    have h12 : RwS W12 W9.heap.size (.slice ab T cb) (im s'.bl) := row_later HRB.out ⟨HBX.out.os, HBX.out.tape, HBX.out.output, HBX.out.size, HBX.out.block⟩
                    have h16 : RwS W16 W9.heap.size (.slice ab T cb) (im s'.bl) := HK16.out.row h12 (fun k e e' => by
                      have := (HSZ.out k).2.1 e
                      have := HSI.out
                      rcases e' with e' | e'
                      · have := ((HSZ.out k).1 e').2; omega
                      · have := ((HSZ.out k).2.2.1 e').1; omega)
                    exact h16.rd
                  have HYF : Hid (RdW W16 ay s'.log) := by
                    have h16 : RwW W16 W11.heap.size (.slice ay L cy) s'.log := HK16.out.row HRY.out (fun k e e' => by
                      have := (HSZ.out k).2.2.2 e
                      have := HSI.out
                      rcases e' with e' | e'
                      · have := ((HSZ.out k).1 e').2; omega
                      · have := ((HSZ.out k).2.2.1 e').2; omega)
                    exact h16.rd
                  have HBWF : Hid (Below wl.heap.size wl W16) := belowK (thenB HBW8.out HB8.out) HK16.out (fun k e => by have := HLO.out k e; have := HBW8.out.size; omega) (thenB HBW8.out HB8.out).size
                  have HI : Hid _ := two_image HTF.out (by omega) HT.out
                  have HRI : Hid _ := two_rImage HTF.out HT.out
                  have HW : Hid _ := two_writes HTF.out (by omega) HL.out
                  obtain ⟨aL, cL, hLg⟩ := two_log HTF.out HL.out
                  have HLG : Hid _ := hLg
                  have HS : Hid _ := same_n HT.out (by omega)
                  have HSW : Hid _ := sameW_n HL.out (by omega)
                  have HBD : Hid (Below W16.heap.size W16 W16.drew) := (Below.refl _ W16).drew
                  have HOI : Hid (∀ W, Below W16.heap.size W16 W → Calls Try.prog 18 #[.pointer (some ⟨po, 0, none⟩)] W fun e W' => (∃ a cap, e = .returned (.slice a 0 cap)) ∧ Below W16.heap.size W16 W') := fun W hb => by
                    refine (image_any W4.heap.size W po nu bo mo xo (HOF.out.later hb) (by decide)).mono ?_
                    rintro e W' ⟨v, rfl, hr, hb'⟩
                    obtain ⟨a, cap, e⟩ := row_spell hr
                    rw [im_nu] at e
                    exact ⟨⟨a, cap, by rw [e]⟩, thenB hb hb'⟩
                  have q2 := (hLg W16 (Below.refl _ _)).1
                  clear hLg
                  have hwT := wrap_small T (by omega)
                  have hwL := wrap_small L (by omega)
                  have HEND : Hid (Below w.heap.size w W16) := thenB HBL.out HBWF.out
                  clear HN HRD HG0 HNIL HO HO0 HO1 HROW HRG HRF HB2 HB3 HB13 HB4 HB14 HTK4 HO5 HB5 HT5 HB15 HROW5 HKG HT6 HO6 HBW hws h1s c0' c1' HT7 HO7 HBW7 hws7 HT8 HO8 HBW8 HRA HRB
                  go_region_held3 (fun W => W.cell? ⟨q, 2, none⟩ = some (.slice aL L cL)) (first | exact (HLG.out _ HV9.out).1 | exact (HLG.out _ HV8.out).1 | exact (HLG.out _ HV7.out).1 | exact (HLG.out _ HV6.out).1 | exact (HLG.out _ HV5.out).1 | exact (HLG.out _ HV4.out).1 | exact (HLG.out _ HV3.out).1 | exact (HLG.out _ HV2.out).1 | exact (HLG.out _ HV1.out).1 | exact (HLG.out _ HBD.out).1) (first
                    | (go_at_call 18; refine (HOI.out _ HV8.out).mono ?_; rintro e V9 ⟨⟨a9, cp9, rfl⟩, hb9⟩; have HV9 : Hid _ := hb9; clear hb9)
                    | (go_at_call 20; refine (HSW.out _ _ _ _ _ HR7.out (HLG.out _ HV7.out).2).mono ?_; rintro e V8 ⟨rfl, hb8⟩; have HV8 : Hid _ := thenB HV7.out hb8; clear hb8)
                    | (go_at_call 21; refine (HW.out _ HV6.out).mono ?_; rintro e V7 ⟨a7, cp7, rfl, hr7, hb7, hbb7⟩; have HR7 : Hid (RdW V7 a7 s'.log) := hr7; have HV7 : Hid _ := hb7; clear hr7 hb7 hbb7)
                    | (go_at_call 20; refine (HSW.out _ _ _ _ _ (HYF.out.later HV5.out) (HLG.out _ HV5.out).2).mono ?_; rintro e V6 ⟨rfl, hb6⟩; have HV6 : Hid _ := thenB HV5.out hb6; clear hb6)
                    | (go_at_call 17; refine (HS.out _ _ _ _ _ HR4.out.1 HR4.out.2).mono ?_; rintro e V5 ⟨rfl, hb5⟩; have HV5 : Hid _ := thenB HV4.out hb5; clear hb5)
                    | (go_at_call 19; refine (HRI.out _ HV3.out).mono ?_; rintro e V4 ⟨a4, cp4, rfl, hr4, hb4, hbb4⟩; have HR4 : Hid (RdS V4 a3 (im s'.bl) ∧ RdS V4 a4 (im s'.bl)) := ⟨HR3.out.later hbb4, hr4⟩; have HV4 : Hid _ := hb4; clear hr4 hb4 hbb4)
                    | (go_at_call 18; refine (HI.out _ HV2.out).mono ?_; rintro e V3 ⟨a3, cp3, rfl, hr3, hb3, hbb3⟩; have HR3 : Hid (RdS V3 a3 (im s'.bl)) := hr3; have HV3 : Hid _ := hb3; clear hr3 hb3 hbb3)
                    | (go_at_call 17; refine (HS.out _ _ _ _ _ (HBF.out.later HV1.out) HR1.out).mono ?_; rintro e V2 ⟨rfl, hb3⟩; have HV2 : Hid _ := thenB HV1.out hb3; clear hb3)
                    | (go_at_call 19; refine (HRI.out _ HBD.out).mono ?_; rintro e V1 ⟨a2, cp2, rfl, hr2, hb2, hbb2⟩; have HR1 : Hid (RdS V1 a2 (im s'.bl)) := hr2; have HV1 : Hid _ := hb2; clear hr2 hb2 hbb2))
                  all_goals go_wp2
                  all_goals go_ret
                  all_goals exact ⟨rfl, thenB HEND.out HV9.out⟩
    · have hdv : dv = none := by
        rcases HD2.out with ⟨_, h⟩ | ⟨h0, _⟩
        · exact h
        · exact absurd h0 hv
      subst hdv
      go_wp2
      go_ret
      exact ⟨rfl, thenB HBL.out (thenB HB1.out HB14.out)⟩
theorem own : ownKnob Try.prog.godebug = none := by kernel_rfl
theorem laidOut : laidOutB Try.prog = true := by kernel_rfl
set_option maxRecDepth 100000 in
theorem lifted (os : Os) (started : os.Started) (H : Type) (enc : TypeId × Value → H) :
    ReturnsInHanded {} Try.checked os 6 .any (Rows.diskApartSpec.pre6 enc Try.prog Try.f6 Rows.diskApartRow.domain false) (Rows.diskApartSpec.post enc Try.prog Try.f6 false true false false) := by
  refine returnsInHanded_of_change_sized (C := Try.checked) own started (by kernel_rfl) Try.func6
    (ChangeSpec.witness6 (enc := enc) (C := Try.checked) false ⟨#[], #[.slice none 0 0, .agg #[.int .i64 0, .string ⟨#[]⟩]], []⟩ 8 (by kernel_rfl) (by kernel_rfl) (by kernel_rfl) (by kernel_rfl)) ?_
  intro W base args ds gs before hval0 hW hcnd hsz0 _
  have hsz : (DataW.weightsEach Try.prog (Try.f6.params.toList ++ Rows.diskApartSpec.plain.varTypes Try.prog) (ds ++ gs)).all (· ≤ reachBytes) = true := hsz0
  clear hsz0
  have hval : ∀ (j : Nat) t v, Try.f6.params[j]? = some t → args[j]? = some v → Value.okWide Try.prog W .any base t v := hval0
  have hW' := hW
  obtain ⟨p, q, hA0, hV, rfl, hfz, hnd⟩ := hW
  have hA : DataW.TrodAll enc Try.prog W 0 (fun _ => true) true Try.f6.params.toList args.toList ds p := hA0
  rw [Try.params6] at hA hval hsz
  obtain ⟨v0, vs0, d0, ds0, p0, q0, hargs, rfl, rfl, h0, r0⟩ := trodAll_cons hA
  obtain ⟨v1, vs1, d1, ds1, p1, q1, rfl, rfl, rfl, h1, r1⟩ := trodAll_cons r0
  obtain ⟨rfl, rfl, rfl⟩ := trodAll_nil r1
  obtain rfl : args = #[v0, v1] := by cases args; simp_all
  obtain ⟨rfl, rfl⟩ := trodVars_none hV
  have k0 := h0
  have lt0 : ∀ x ∈ p0, x.block < W.heap.size := by obtain ⟨m, hm⟩ := k0; exact DataW.trod_lt m _ _ _ hm
  obtain ⟨a0, c0, l0, rfl, rd0, hl0, hn0, hg0⟩ := strs_of (fun es sp e => by subst e; have h := sized_slice hsz (j := 0) (t := 22) (e := 9) rfl rfl Try.underlying22; rw [bytesS] at h; exact h) (okWide_slice Try.underlying22 (hval 0 22 v0 rfl rfl)) h0
  have k1 := h1
  have lt1 : ∀ x ∈ p1, x.block < W.heap.size := by obtain ⟨m, hm⟩ := k1; exact DataW.trod_lt m _ _ _ hm
  obtain ⟨a1, s1, rfl, w1, hz1⟩ := open_write (hval 1 49 v1 rfl rfl) h1
  clear hA0 hval0
  refine (walk a0 c0 l0 a1 s1 W rd0 hl0 hn0 hg0 w1 hz1).mono fun e W' ⟨he, bel⟩ => ?_
  subst he
  exact ⟨_, rfl, _, _, _, [], _, [], hW', trodAll_mk1 (shut_bool Try.underlying4 _), (trodAll_cons_mk (Below.trod laidOut (by kernel_rfl) (of_decide_eq_true (by kernel_rfl)) k0 bel lt0) (trodAll_cons_mk (Below.trod laidOut (by kernel_rfl) (of_decide_eq_true (by kernel_rfl)) k1 bel lt1) trodAll_mk0)), rfl, bel.frame _, fun h => by cases h⟩
theorem over : Rows.diskApartRow.holds Try.pinned (OpenSpec.ofChange Rows.diskApartSpec) :=
  OpenClaim.holds_of_wide 6 Try.f6 rfl rfl rfl rfl rfl rfl rfl ⟨rfl, rfl, rfl, rfl, rfl⟩ rfl rfl rfl rfl rfl (by kernel_rfl) Try.func6 (by kernel_rfl)
    (of_decide_eq_true (by kernel_rfl)) (by unfold Func.isWrapper; first | (rw [if_pos (by decide +kernel)]; kernel_rfl) | (rw [if_neg (by decide +kernel)]; exact ⟨rfl, rfl⟩))
    (fun os started H enc _ => lifted os started H enc)
end Go.Proofs.Ytifjihdanbbhkaa.diskApart
namespace Go.Proofs.Ytifjihdanbbhkaa
theorem diskApart_holds : Rows.DiskApartSaid := diskApart.over
#print axioms diskApart_holds
end Go.Proofs.Ytifjihdanbbhkaa
