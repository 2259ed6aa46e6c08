/- KnowNothing's walk, by what is asked of the program's know. -/
import Derived.Test.YtompgoaogomoaaaHd
import Derived.Test.YtompgoaogomoaaaKnM
namespace Go.Proofs.Ytompgoaogomoaaa.Kn
open Go.RowKit Go.Maps
open Rt (Gd gd gd_yes gd_no rGood_any)
set_option linter.unusedVariables false
set_option linter.unusedSimpArgs false
set_option linter.unnecessarySimpa false

def Unt (l : List Op9) (b : Int) : Prop := b < 32768 ∧ ∀ o ∈ l, ¬ (o.1 = 1 ∧ o.2.1.1.1 = b) ∧ ¬ (o.1 = 2 ∧ o.2.1.2.1 = b)
theorem Unt.had {l : List Op9} {b : Int} (h : Unt l b) (s : Int) : ¬ HadL l (b, s) := fun hh => by
  have := had_least (P := fun k : K2 => k.1 ≠ b) (fun k _ hk => by have := h.1; omega) (fun k _ hk => by
    obtain ⟨o, ho, h1, h2⟩ := mem_told.1 hk
    intro e
    exact (h.2 o ho).1 ⟨h1, by rw [h2]; exact e⟩) (fun b' s t h _ _ => h) (fun u k hm _ _ hu => by
    obtain ⟨o, ho, h1, h2⟩ := mem_box.1 hm
    intro e
    exact (h.2 o ho).2 ⟨h1, by rw [h2]; exact e⟩) hh
  exact this rfl
theorem Unt.snoc {l : List Op9} {b : Int} {o : Op9} (h : Unt l b) (h1 : ¬ (o.1 = 1 ∧ o.2.1.1.1 = b)) (h2 : ¬ (o.1 = 2 ∧ o.2.1.2.1 = b)) : Unt (l ++ [o]) b :=
  ⟨h.1, fun x hx => by
    rcases List.mem_append.1 hx with hx | hx
    · exact h.2 x hx
    · rw [List.mem_singleton] at hx; subst hx; exact ⟨h1, h2⟩⟩
theorem take_snoc' {l : List Op9} {k : Nat} (hk : k < l.length) : l.take (k + 1) = l.take k ++ [l.getD k zO] := by
  rw [List.take_add_one, List.getD_eq_getElem?_getD, List.getElem?_eq_getElem hk]; rfl
set_option maxRecDepth 100000 in
set_option maxHeartbeats 4000000 in
theorem nothing_walk {PAt : PPred} {Rm : RPred} (A : KApi PAt Rm) (a : Option Addr) (c : Nat) (l : List Op9) (b s : Int) (w : World) (rd : RdO w a l) (hl : l.length * 80 ≤ 140737488351232) (ok : ∀ p ∈ l, OkO p) (wb : wI b) (ws : wI s) :
    Calls Try.prog 7 #[.slice a l.length c, .agg #[.int .i64 b, .int .i64 s] ] w fun e w' => e = .returned (.bool true) ∧ Below w.heap.size w w' := by
  obtain ⟨n, hn⟩ : ∃ n, l.length = n := ⟨_, rfl⟩
  have HL : Hid (l.length = n ∧ (∀ p ∈ l, OkO p) ∧ wI b ∧ wI s) := ⟨hn, ok, wb, ws⟩
  have hn2 : n < 2748779069440 := by omega
  rw [hn]
  obtain ⟨x0, x1⟩ : (w.alloc (.cells #[.int .i64 b, .int .i64 s] 33)).cell? ⟨w.heap.size, 0, none⟩ = some (.int .i64 b) ∧ (w.alloc (.cells #[.int .i64 b, .int .i64 s] 33)).cell? ⟨w.heap.size, 1, none⟩ = some (.int .i64 s) := boxed2 w (.int .i64 b) (.int .i64 s) 33 0
  have hb0 : Below w.heap.size w (w.alloc (.cells #[.int .i64 b, .int .i64 s] 33)) := Rt.below1 _ _
  have hq : w.heap.size < (w.alloc (.cells #[.int .i64 b, .int .i64 s] 33)).heap.size := by rw [World.size_alloc]; omega
  have hlv := fun W => lives_any A W
  have hnw := fun W => A.new W
  clear hn ok wb ws hl
  go_enter Try.func7, Try.ntmps7
  go_upto_region 1 with (fail)
  generalize w.alloc (.cells #[.int .i64 b, .int .i64 s] 33) = w0 at *
  obtain ⟨Q, hQ⟩ : ∃ Q, w.heap.size = Q := ⟨_, rfl⟩
  have HW : Hid (Below w.heap.size w w0 ∧ RdO w a l) := ⟨hb0, rd⟩
  rw [hQ] at x0 x1 hq ⊢
  clear hb0 rd hQ
  go_wp2_with fail
  refine (hlv _).mono ?_
  rintro r w1 ⟨rfl, hb1⟩
  go_wp2_with fail
  refine (hnw _).mono ?_
  rintro r w2 ⟨p, F, rfl, hP, hb2⟩
  obtain ⟨N, hN⟩ : ∃ N, w1.heap.size = N := ⟨_, rfl⟩
  rw [hN] at hP
  have hq1 : Q < N := by rw [← hN]; exact Nat.lt_of_lt_of_le hq hb1.size
  have hN2 : N ≤ w2.heap.size := by rw [← hN]; exact hb2.size
  have x0' := cell_later hb2 (cell_later hb1 x0)
  have x1' := cell_later hb2 (cell_later hb1 x1)
  have HQ : Hid (Q < N ∧ w2.cell? ⟨Q, 0, none⟩ = some (.int .i64 b) ∧ w2.cell? ⟨Q, 1, none⟩ = some (.int .i64 s)) := ⟨hq1, x0', x1'⟩
  have hb3 := Rt.Below.then HW.out.1 (Rt.Below.then hb1 hb2)
  have HB3 : Hid (Below w.heap.size w w2 ∧ N ≤ w2.heap.size ∧ w.heap.size ≤ N) := ⟨hb3, hN2, by rw [← hN]; exact Nat.le_trans HW.out.1.size hb1.size⟩
  have HRD : Hid (RdO w2 a l) := HW.out.2.later hb3
  have HP0 : Hid (POps PAt w2 N p [] F) := hP
  clear x0 x1 hq hlv hnw hb1 hb2 hb3 hP hN hq1 hN2
  obtain ⟨tb, htb⟩ : ∃ tb : Bool, decide (32768 ≤ b) = tb := ⟨_, rfl⟩
  have HTB : Hid (tb = false → b < 32768) := fun h => by rw [h] at htb; have := of_decide_eq_false htb; omega
  go_upto_region 5 with (fail)
  clear htb x0' x1'
  go_wp2_with fail
  go_loopw [6, 18] (fun t i wx => ∃ (k : Nat) (tb : Bool) (F : Nat → Prop), k ≤ n ∧ i = .int .i64 (k : Int) ∧ t = .bool tb ∧ POps PAt wx N p (l.take k) F ∧ Below N w2 wx ∧ (tb = false → Unt (l.take k) b)) (fun _ i _ => n - (intOf i).toNat)
  case atStart => exact ⟨0, tb, F, by omega, rfl, rfl, HP0.out, Below.refl _ _, fun h => ⟨HTB.out h, by simp⟩⟩
  case round =>
    obtain ⟨k, tb, F, hk, rfl, rfl, hP, hb, hU⟩ := hrel
    clear HP0 HTB
    have HP : Hid (POps PAt wr N p (l.take k) F) := hP
    have HB : Hid (N ≤ wr.heap.size ∧ Below N w2 wr) := ⟨Nat.le_trans HB3.out.2.1 hb.size, hb⟩
    have HU : Hid (tb = false → Unt (l.take k) b) := hU
    have hx0 := (World.cell?_of_block (hb.block Q HQ.out.1)).trans HQ.out.2.1
    clear hP hb hU
    by_cases hkn : k < n
    · have hkl : k < l.length := by rw [HL.out.1]; exact hkn
      obtain ⟨o, ho⟩ : ∃ o, l.getD k zO = o := ⟨_, rfl⟩
      have hko := HL.out.2.1 o (ho ▸ getD_of hkl)
      have HTK : Hid (l.take (k + 1) = l.take k ++ [o]) := by rw [← ho]; exact take_snoc' hkl
      have hbw : Below w.heap.size w wr := HB3.out.1.trans (HB.out.2.mono HB3.out.2.2)
      obtain ⟨b', f', ha, c0, c1, c2, c3, c4, c5, c6, c7, c8⟩ := ops_cells (HW.out.2.later hbw) hkl ho
      have hln : (l.take k).length < 2748779069440 := by rw [List.length_take]; omega
      subst ha
      obtain ⟨kd, ⟨⟨ub, us⟩, lb, ls⟩, ep, ⟨s0, s1⟩, tx⟩ := o
      dsimp only at c0 c1 c2 c3 c4 c5 c6 c7 c8
      have hdo := fun W (hW : Below wr.heap.size wr W) => do_any A W N p (l.take k) F kd ub us lb ls ep s0 s1 tx (A.later HP.out hW) (Nat.le_trans HB.out.1 hW.size) hln hko
      have k1 : (0 : Int) ≤ (k : Int) := by omega
      have k2 : (k : Int) < (n : Int) := by omega
      have hx1 := (World.cell?_alloc_some wr ⟨Q, 0, none⟩ (.cells #[.int .i64 kd, .int .i64 ub, .int .i64 us, .int .i64 lb, .int .i64 ls, .int .i64 ep, .int .i64 s0, .int .i64 s1, .string tx] 39) (by rw [hx0]; rfl)).trans hx0
      clear hkl ho hko hbw hln
      have hcase : (tb = true) ∨ (tb = false ∧ kd = 1 ∧ ub = b) ∨ (tb = false ∧ kd = 1 ∧ ub ≠ b) ∨ (tb = false ∧ kd = 2 ∧ lb = b) ∨ (tb = false ∧ kd = 2 ∧ lb ≠ b) ∨ (tb = false ∧ kd ≠ 1 ∧ kd ≠ 2) := by
        cases tb with
        | true => exact .inl rfl
        | false =>
          by_cases h1 : kd = 1
          · by_cases h2 : ub = b
            · exact .inr (.inl ⟨rfl, h1, h2⟩)
            · exact .inr (.inr (.inl ⟨rfl, h1, h2⟩))
          · by_cases h2 : kd = 2
            · by_cases h3 : lb = b
              · exact .inr (.inr (.inr (.inl ⟨rfl, h2, h3⟩)))
              · exact .inr (.inr (.inr (.inr (.inl ⟨rfl, h2, h3⟩))))
            · exact .inr (.inr (.inr (.inr (.inr ⟨rfl, h1, h2⟩))))
      rcases hcase with rfl | ⟨rfl, rfl, rfl⟩ | ⟨rfl, rfl, h2⟩ | ⟨rfl, rfl, rfl⟩ | ⟨rfl, rfl, h2⟩ | ⟨rfl, h1, h2⟩
      · skip
        go_wp2_with (go_at_call 11; refine (hdo _ (Rt.below1 _ _)).mono ?_; rintro r w2 ⟨rfl, hd⟩)
        go_roundw
        case rel =>
          obtain ⟨F', h1, h2, h3⟩ := hd
          have hb := h2.below (B := N) (Nat.le_trans HB.out.1 (Rt.below1 wr _).size) (fun k hk => (A.ge HP.out k hk).1)
          refine ⟨k + 1, _, F', by omega, by go_num, rfl, by rw [HTK.out]; exact h1, ((HB.out.2.trans ((Rt.below1 _ _).mono HB.out.1)).trans hb), ?_⟩
          first
            | (intro h; cases h; done)
            | (intro _; rw [HTK.out]; exact (HU.out (by first | rfl | trivial)).snoc (by simpa using HC1.out) (by simpa using HC2.out))
        case measure => simp [intOf]; omega
      · skip
        go_wp2_with (go_at_call 11; refine (hdo _ (Rt.below1 _ _)).mono ?_; rintro r w2 ⟨rfl, hd⟩)
        go_roundw
        case rel =>
          obtain ⟨F', h1, h2, h3⟩ := hd
          have hb := h2.below (B := N) (Nat.le_trans HB.out.1 (Rt.below1 wr _).size) (fun k hk => (A.ge HP.out k hk).1)
          refine ⟨k + 1, _, F', by omega, by go_num, rfl, by rw [HTK.out]; exact h1, ((HB.out.2.trans ((Rt.below1 _ _).mono HB.out.1)).trans hb), ?_⟩
          first
            | (intro h; cases h; done)
            | (intro _; rw [HTK.out]; exact (HU.out (by first | rfl | trivial)).snoc (by simpa using HC1.out) (by simpa using HC2.out))
        case measure => simp [intOf]; omega
      · have e2 : (ub == b) = false := by simpa using h2
        have HC1 : Hid (¬ ((1 : Int) = 1 ∧ ub = b)) := fun h => h2 h.2
        have HC2 : Hid (¬ ((1 : Int) = 2 ∧ lb = b)) := fun h => by have := h.1; omega
        clear h2
        go_wp2_with (go_at_call 11; refine (hdo _ (Rt.below1 _ _)).mono ?_; rintro r w2 ⟨rfl, hd⟩)
        go_roundw
        case rel =>
          obtain ⟨F', h1, h2, h3⟩ := hd
          have hb := h2.below (B := N) (Nat.le_trans HB.out.1 (Rt.below1 wr _).size) (fun k hk => (A.ge HP.out k hk).1)
          refine ⟨k + 1, _, F', by omega, by go_num, rfl, by rw [HTK.out]; exact h1, ((HB.out.2.trans ((Rt.below1 _ _).mono HB.out.1)).trans hb), ?_⟩
          first
            | (intro h; cases h; done)
            | (intro _; rw [HTK.out]; exact (HU.out (by first | rfl | trivial)).snoc (by simpa using HC1.out) (by simpa using HC2.out))
        case measure => simp [intOf]; omega
      · skip
        go_wp2_with (go_at_call 11; refine (hdo _ (Rt.below1 _ _)).mono ?_; rintro r w2 ⟨rfl, hd⟩)
        go_roundw
        case rel =>
          obtain ⟨F', h1, h2, h3⟩ := hd
          have hb := h2.below (B := N) (Nat.le_trans HB.out.1 (Rt.below1 wr _).size) (fun k hk => (A.ge HP.out k hk).1)
          refine ⟨k + 1, _, F', by omega, by go_num, rfl, by rw [HTK.out]; exact h1, ((HB.out.2.trans ((Rt.below1 _ _).mono HB.out.1)).trans hb), ?_⟩
          first
            | (intro h; cases h; done)
            | (intro _; rw [HTK.out]; exact (HU.out (by first | rfl | trivial)).snoc (by simpa using HC1.out) (by simpa using HC2.out))
        case measure => simp [intOf]; omega
      · have e2 : (lb == b) = false := by simpa using h2
        have HC1 : Hid (¬ ((2 : Int) = 1 ∧ ub = b)) := fun h => by have := h.1; omega
        have HC2 : Hid (¬ ((2 : Int) = 2 ∧ lb = b)) := fun h => h2 h.2
        clear h2
        go_wp2_with (go_at_call 11; refine (hdo _ (Rt.below1 _ _)).mono ?_; rintro r w2 ⟨rfl, hd⟩)
        go_roundw
        case rel =>
          obtain ⟨F', h1, h2, h3⟩ := hd
          have hb := h2.below (B := N) (Nat.le_trans HB.out.1 (Rt.below1 wr _).size) (fun k hk => (A.ge HP.out k hk).1)
          refine ⟨k + 1, _, F', by omega, by go_num, rfl, by rw [HTK.out]; exact h1, ((HB.out.2.trans ((Rt.below1 _ _).mono HB.out.1)).trans hb), ?_⟩
          first
            | (intro h; cases h; done)
            | (intro _; rw [HTK.out]; exact (HU.out (by first | rfl | trivial)).snoc (by simpa using HC1.out) (by simpa using HC2.out))
        case measure => simp [intOf]; omega
      · have e1 : (kd == 1) = false := by simpa using h1
        have e2 : (kd == 2) = false := by simpa using h2
        have HC1 : Hid (¬ (kd = 1 ∧ ub = b)) := fun h => h1 h.1
        have HC2 : Hid (¬ (kd = 2 ∧ lb = b)) := fun h => h2 h.1
        clear h1 h2
        go_wp2_with (go_at_call 11; refine (hdo _ (Rt.below1 _ _)).mono ?_; rintro r w2 ⟨rfl, hd⟩)
        go_roundw
        case rel =>
          obtain ⟨F', h1, h2, h3⟩ := hd
          have hb := h2.below (B := N) (Nat.le_trans HB.out.1 (Rt.below1 wr _).size) (fun k hk => (A.ge HP.out k hk).1)
          refine ⟨k + 1, _, F', by omega, by go_num, rfl, by rw [HTK.out]; exact h1, ((HB.out.2.trans ((Rt.below1 _ _).mono HB.out.1)).trans hb), ?_⟩
          first
            | (intro h; cases h; done)
            | (intro _; rw [HTK.out]; exact (HU.out (by first | rfl | trivial)).snoc (by simpa using HC1.out) (by simpa using HC2.out))
        case measure => simp [intOf]; omega
    · obtain rfl : k = n := by omega
      have dkn : decide ((k : Int) < (k : Int)) = false := by simp
      have hkl : l.take k = l := by rw [List.take_of_length_le]; have := HL.out.1; omega
      have HP2 : Hid (POps PAt wr N p l F) := by have := HP.out; rw [hkl] at this; exact this
      have HU2 : Hid (tb = false → ∀ s, ¬ HadL l (b, s)) := fun h s => by have := HU.out h; rw [hkl] at this; exact this.had s
      have hlb := len_ops l
      have hln : Rm (toldL l) (boxL l) (txtL l) := A.rm l (by have := HL.out.1; omega)
      have HLN : Hid (Rm (toldL l) (boxL l) (txtL l)) := hln
      obtain ⟨v, hv⟩ := bool_of (HadL l (b, s))
      have hha := fun W (hW : Below wr.heap.size wr W) => A.has b s (A.later HP2.out hW) HLN.out HL.out.2.2 hv
      have hhs := fun (W : World) (hW : Below wr.heap.size wr W) (i : Nat) (hi : i < 256) (ht : tb = false) => A.has (v := false) b (i : Int) (A.later HP2.out hW) HLN.out ⟨HL.out.2.2.1, WalkArith.wf_i64 (by omega)⟩ (by simpa using HU2.out ht (i : Int))
      have HV : Hid (v = true → gd b s = true) := fun h => gd_iff.2 (had_good (hv.1 h))
      have HBF : Hid (∀ W, Below wr.heap.size wr W → Below w.heap.size w W) := fun W hW => (HB3.out.1.trans (HB.out.2.mono HB3.out.2.2)).trans (hW.mono (Nat.le_trans HB3.out.1.size (Nat.le_trans HB.out.2.size (Nat.le_refl _))))
      have hx1 := (World.cell?_of_block (HB.out.2.block Q HQ.out.1)).trans HQ.out.2.2
      obtain ⟨wq, hwq⟩ : ∃ W, W = wr := ⟨_, rfl⟩
      rw [← hwq] at hx0 hx1 hha hhs HBF ⊢
      clear hwq hk hkn hln hlb hkl HP HU hv HB
      have HX : Hid (wq.cell? ⟨Q, 0, none⟩ = some (.int .i64 b) ∧ wq.cell? ⟨Q, 1, none⟩ = some (.int .i64 s)) := ⟨hx0, hx1⟩
      clear hx0 hx1
      go_wp2_with fail
      go_loopw [9] (fun i wx => ∃ j : Nat, j ≤ 256 ∧ i = .int .i64 (j : Int) ∧ Below wq.heap.size wq wx) (fun i _ => 256 - (intOf i).toNat)
      case atStart => exact ⟨0, by omega, rfl, Below.refl _ _⟩
      case round =>
        obtain ⟨j, hj, rfl, hb⟩ := hrel
        have HB : Hid (Below wq.heap.size wq wr) := hb
        have x0 := cell_later hb HX.out.1
        have x1 := cell_later hb HX.out.2
        by_cases hjn : j < 256
        · have d0 : decide ((j : Int) ≤ 255) = true := decide_eq_true (by omega)
          cases tb with
          | true =>
            clear hb
            go_wp2_with fail
            go_roundw
            case rel => exact ⟨j + 1, by omega, by go_num, HB.out⟩
            case measure => simp [intOf]; omega
          | false =>
            have hh := hhs wr hb j hjn rfl
            clear hb
            go_wp2_with (go_at_call 14; refine hh.mono ?_; rintro r w3 ⟨rfl, hb3⟩)
            go_roundw
            case rel => exact ⟨j + 1, by omega, by go_num, Rt.Below.then HB.out hb3⟩
            case measure => simp [intOf]; omega
        · have d0 : decide ((j : Int) ≤ 255) = false := decide_eq_false (by omega)
          go_upto_region 16 with (fail)
          have hS0 : Below wq.heap.size wq wr.drew ∧ wr.drew.cell? ⟨Q, 0, none⟩ = some (.int .i64 b) ∧ wr.drew.cell? ⟨Q, 1, none⟩ = some (.int .i64 s) := ⟨HB.out.drew, x0, x1⟩
          have hgd := rGood_any b s
          clear x0 x1 hb hj hjn d0 hhs
          cases v with
          | true =>
            rw [HV.out rfl] at hgd
            refine wp_region_held_drew (S := fun W => Below wq.heap.size wq W ∧ W.cell? ⟨Q, 0, none⟩ = some (.int .i64 b) ∧ W.cell? ⟨Q, 1, none⟩ = some (.int .i64 s)) (by kernel_rfl) hS0 (fun hHeld => ?_)
            refine opT 0 69 (.move (.tmp 5)) (.pointer (some ⟨p, 0, none⟩)) rfl ?_
            go_frame
            refine opR 1 70 (.load 33 (.tmp 3)) (.agg #[.int .i64 b, .int .i64 s]) rfl (fun w hSw => by obtain ⟨_, c0, c1⟩ := hSw; go_simp) ?_
            go_frame
            refine opR 3 72 (.load 33 (.tmp 3)) (.agg #[.int .i64 b, .int .i64 s]) rfl (fun w hSw => by obtain ⟨_, c0, c1⟩ := hSw; go_simp) ?_
            go_frame
            refine wpAnyH_ready (rs := [2]) (by kernel_rfl) (by simp) ?_
            refine AllReadyH.cons rfl (fun K hK => ?_) AllReadyH.nil
            go_simp
            refine (hha _ hHeld.1).mono ?_
            rintro r w3 ⟨rfl, hb3⟩
            go_wp2_with fail
            refine hK.out _ _ ⟨Rt.Below.then hHeld.1 hb3, cell_later hb3 hHeld.2.1, cell_later hb3 hHeld.2.2⟩ (fun hHeld2 => ?_)
            clear hHeld hb3
            clear hK K
            try go_frame
            refine wpAnyH_ready (rs := [4]) (by kernel_rfl) (by simp) ?_
            refine AllReadyH.cons rfl (fun K hK => ?_) AllReadyH.nil
            go_simp
            refine (hgd _).mono ?_
            rintro r w4 ⟨rfl, rfl⟩
            go_wp2_with fail
            refine hK.out _ _ ⟨Rt.Below.then hHeld2.1 (Rt.below1 _ _), cell_later (Rt.below1 _ _) hHeld2.2.1, cell_later (Rt.below1 _ _) hHeld2.2.2⟩ (fun hHeld3 => ?_)
            clear hHeld2
            clear hK K
            try go_frame
            refine opT 5 74 (.move (.tmp 73)) (.bool true) rfl ?_
            go_frame
            refine opTg 6 75 (.move (.tmp 5)) (some (5, true)) (.pointer (some ⟨p, 0, none⟩)) rfl ?_
            go_frame
            refine opRg 7 76 (.load 33 (.tmp 3)) (some (5, true)) (.agg #[.int .i64 b, .int .i64 s]) rfl (fun w hSw => by obtain ⟨_, c0, c1⟩ := hSw; go_simp) ?_
            go_frame
            refine wpAnyH_ready (rs := [8]) (by kernel_rfl) (by simp) ?_
            refine AllReadyH.cons rfl (fun K hK => ?_) AllReadyH.nil
            go_simp
            refine (hha _ hHeld3.1).mono ?_
            rintro r w5 ⟨rfl, hb5⟩
            go_wp2_with fail
            refine hK.out _ _ ⟨Rt.Below.then hHeld3.1 hb5, cell_later hb5 hHeld3.2.1, cell_later hb5 hHeld3.2.2⟩ (fun hHeld4 => ?_)
            clear hHeld3 hb5
            clear hK K
            try go_frame
            refine opT 9 78 (.pick (.tmp 74) (.tmp 77) (.const (.bool false))) (.bool true) rfl ?_
            go_frame
            refine opT 10 79 (.binOp .eql 4 (.tmp 71) (.tmp 78) 4) (.bool true) rfl ?_
            go_frame
            refine opT 11 4 (.assign (.tmp 79)) (.bool true) rfl ?_
            go_frame
            refine wpAnyH_done (by kernel_rfl) ?_ _
            go_wp2_with fail
            go_ret
            exact ⟨rfl, HBF.out _ hHeld4.1⟩
          | false =>
            cases hgs : gd b s with
            | true =>
              rw [hgs] at hgd
              refine wp_region_held_drew (S := fun W => Below wq.heap.size wq W ∧ W.cell? ⟨Q, 0, none⟩ = some (.int .i64 b) ∧ W.cell? ⟨Q, 1, none⟩ = some (.int .i64 s)) (by kernel_rfl) hS0 (fun hHeld => ?_)
              refine opT 0 69 (.move (.tmp 5)) (.pointer (some ⟨p, 0, none⟩)) rfl ?_
              go_frame
              refine opR 1 70 (.load 33 (.tmp 3)) (.agg #[.int .i64 b, .int .i64 s]) rfl (fun w hSw => by obtain ⟨_, c0, c1⟩ := hSw; go_simp) ?_
              go_frame
              refine opR 3 72 (.load 33 (.tmp 3)) (.agg #[.int .i64 b, .int .i64 s]) rfl (fun w hSw => by obtain ⟨_, c0, c1⟩ := hSw; go_simp) ?_
              go_frame
              refine wpAnyH_ready (rs := [2]) (by kernel_rfl) (by simp) ?_
              refine AllReadyH.cons rfl (fun K hK => ?_) AllReadyH.nil
              go_simp
              refine (hha _ hHeld.1).mono ?_
              rintro r w3 ⟨rfl, hb3⟩
              go_wp2_with fail
              refine hK.out _ _ ⟨Rt.Below.then hHeld.1 hb3, cell_later hb3 hHeld.2.1, cell_later hb3 hHeld.2.2⟩ (fun hHeld2 => ?_)
              clear hHeld hb3
              clear hK K
              try go_frame
              refine wpAnyH_ready (rs := [4]) (by kernel_rfl) (by simp) ?_
              refine AllReadyH.cons rfl (fun K hK => ?_) AllReadyH.nil
              go_simp
              refine (hgd _).mono ?_
              rintro r w4 ⟨rfl, rfl⟩
              go_wp2_with fail
              refine hK.out _ _ ⟨Rt.Below.then hHeld2.1 (Rt.below1 _ _), cell_later (Rt.below1 _ _) hHeld2.2.1, cell_later (Rt.below1 _ _) hHeld2.2.2⟩ (fun hHeld3 => ?_)
              clear hHeld2
              clear hK K
              try go_frame
              refine opT 5 74 (.move (.tmp 73)) (.bool true) rfl ?_
              go_frame
              refine opTg 6 75 (.move (.tmp 5)) (some (5, true)) (.pointer (some ⟨p, 0, none⟩)) rfl ?_
              go_frame
              refine opRg 7 76 (.load 33 (.tmp 3)) (some (5, true)) (.agg #[.int .i64 b, .int .i64 s]) rfl (fun w hSw => by obtain ⟨_, c0, c1⟩ := hSw; go_simp) ?_
              go_frame
              refine wpAnyH_ready (rs := [8]) (by kernel_rfl) (by simp) ?_
              refine AllReadyH.cons rfl (fun K hK => ?_) AllReadyH.nil
              go_simp
              refine (hha _ hHeld3.1).mono ?_
              rintro r w5 ⟨rfl, hb5⟩
              go_wp2_with fail
              refine hK.out _ _ ⟨Rt.Below.then hHeld3.1 hb5, cell_later hb5 hHeld3.2.1, cell_later hb5 hHeld3.2.2⟩ (fun hHeld4 => ?_)
              clear hHeld3 hb5
              clear hK K
              try go_frame
              refine opT 9 78 (.pick (.tmp 74) (.tmp 77) (.const (.bool false))) (.bool false) rfl ?_
              go_frame
              refine opT 10 79 (.binOp .eql 4 (.tmp 71) (.tmp 78) 4) (.bool true) rfl ?_
              go_frame
              refine opT 11 4 (.assign (.tmp 79)) (.bool true) rfl ?_
              go_frame
              refine wpAnyH_done (by kernel_rfl) ?_ _
              go_wp2_with fail
              go_ret
              exact ⟨rfl, HBF.out _ hHeld4.1⟩
            | false =>
              rw [hgs] at hgd
              refine wp_region_held_drew (S := fun W => Below wq.heap.size wq W ∧ W.cell? ⟨Q, 0, none⟩ = some (.int .i64 b) ∧ W.cell? ⟨Q, 1, none⟩ = some (.int .i64 s)) (by kernel_rfl) hS0 (fun hHeld => ?_)
              refine opT 0 69 (.move (.tmp 5)) (.pointer (some ⟨p, 0, none⟩)) rfl ?_
              go_frame
              refine opR 1 70 (.load 33 (.tmp 3)) (.agg #[.int .i64 b, .int .i64 s]) rfl (fun w hSw => by obtain ⟨_, c0, c1⟩ := hSw; go_simp) ?_
              go_frame
              refine opR 3 72 (.load 33 (.tmp 3)) (.agg #[.int .i64 b, .int .i64 s]) rfl (fun w hSw => by obtain ⟨_, c0, c1⟩ := hSw; go_simp) ?_
              go_frame
              refine wpAnyH_ready (rs := [2]) (by kernel_rfl) (by simp) ?_
              refine AllReadyH.cons rfl (fun K hK => ?_) AllReadyH.nil
              go_simp
              refine (hha _ hHeld.1).mono ?_
              rintro r w3 ⟨rfl, hb3⟩
              go_wp2_with fail
              refine hK.out _ _ ⟨Rt.Below.then hHeld.1 hb3, cell_later hb3 hHeld.2.1, cell_later hb3 hHeld.2.2⟩ (fun hHeld2 => ?_)
              clear hHeld hb3
              clear hK K
              try go_frame
              refine wpAnyH_ready (rs := [4]) (by kernel_rfl) (by simp) ?_
              refine AllReadyH.cons rfl (fun K hK => ?_) AllReadyH.nil
              go_simp
              refine (hgd _).mono ?_
              rintro r w4 ⟨rfl, rfl⟩
              go_wp2_with fail
              refine hK.out _ _ ⟨Rt.Below.then hHeld2.1 (Rt.below1 _ _), cell_later (Rt.below1 _ _) hHeld2.2.1, cell_later (Rt.below1 _ _) hHeld2.2.2⟩ (fun hHeld3 => ?_)
              clear hHeld2
              clear hK K
              try go_frame
              refine opT 5 74 (.move (.tmp 73)) (.bool false) rfl ?_
              go_frame
              refine opN 6 75 (.move (.tmp 5)) (some (5, true)) rfl ?_
              go_frame
              refine opN 7 76 (.load 33 (.tmp 3)) (some (5, true)) rfl ?_
              go_frame
              refine opN 8 77 (.call { callee := .value (.func 14), args := #[(.tmp 75), (.tmp 76)], argTypes := #[24, 33] }) (some (5, true)) rfl ?_
              go_frame
              refine opT 9 78 (.pick (.tmp 74) (.tmp 77) (.const (.bool false))) (.bool false) rfl ?_
              go_frame
              refine opT 10 79 (.binOp .eql 4 (.tmp 71) (.tmp 78) 4) (.bool true) rfl ?_
              go_frame
              refine opT 11 4 (.assign (.tmp 79)) (.bool true) rfl ?_
              go_frame
              refine wpAnyH_done (by kernel_rfl) ?_ _
              go_wp2_with fail
              go_ret
              exact ⟨rfl, HBF.out _ hHeld3.1⟩
end Go.Proofs.Ytompgoaogomoaaa.Kn
