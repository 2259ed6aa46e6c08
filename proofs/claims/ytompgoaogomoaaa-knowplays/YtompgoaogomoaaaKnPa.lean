/- KnowPlays' walk, by what is asked of the program's know (made by mk_knpl.py). -/
import Derived.Test.YtompgoaogomoaaaHd
import Derived.Test.YtompgoaogomoaaaKnPl
namespace Go.Proofs.Ytompgoaogomoaaa.Kn
open Go.RowKit Go.Maps
open Rt (Gd gd gd_yes gd_no rGood_any)
set_option linter.unusedVariables false
set_option linter.unusedSimpArgs false

set_option maxRecDepth 100000 in
set_option maxHeartbeats 8000000 in
theorem plays_walk {PAt : PPred} {Rm : RPred} (A : KApi PAt Rm) (a : Option Addr) (c : Nat) (l : List Op9) (w : World) (rd : RdO w a l) (hl : l.length * 80 ≤ 140737488351232) (ok : ∀ p ∈ l, OkO p) :
    Calls Try.prog 3 #[.slice a l.length c] w fun e w' => e = .returned (.bool true) ∧ Below w.heap.size w w' := by
  obtain ⟨n, hn⟩ : ∃ n, l.length = n := ⟨_, rfl⟩
  have HL : Hid (l.length = n ∧ (∀ p ∈ l, OkO p) ∧ RdO w a l) := ⟨hn, ok, rd⟩
  have hn2 : n * 80 ≤ 140737488351232 := by omega
  rw [hn]
  have hlv := fun W => lives_any A W
  have hnw := fun W => A.new W
  clear hn ok rd hl
  go_enter Try.func3, Try.ntmps3
  go_wp2_with fail
  refine (hlv _).mono ?_
  rintro r w1 ⟨rfl, hb1⟩
  go_upto_region 4 with (go_at_call 10; refine (hnw _).mono ?_; rintro r w2 ⟨p, F, rfl, hP, hb2⟩)
  obtain ⟨N, hN⟩ : ∃ N, w1.heap.size = N := ⟨_, rfl⟩
  rw [hN] at hP
  have hT := Pl.start (l := []) A hP (by rw [← hN]; exact hb2.size)
  have HB3 : Hid (Below w.heap.size w (w2.alloc (.cells #[.slice none 0 0, .slice none 0 0, .slice none 0 0] 31)) ∧ w.heap.size ≤ N) := ⟨Rt.Below.then hb1 (Rt.Below.then hb2 (Rt.below1 _ _)), by rw [← hN]; exact hb1.size⟩
  obtain ⟨p2, hp2⟩ : ∃ p2, w2.heap.size = p2 := ⟨_, rfl⟩
  rw [hp2] at hT ⊢
  obtain ⟨N2, hN2⟩ : ∃ N2, N2 = p2 := ⟨_, rfl⟩
  have hT : Pl PAt (w2.alloc (.cells #[.slice none 0 0, .slice none 0 0, .slice none 0 0] 31)) (w2.alloc (.cells #[.slice none 0 0, .slice none 0 0, .slice none 0 0] 31)) N N2 p p2 [] [] F (.slice none 0 0) (.slice none 0 0) (.slice none 0 0) := by rw [hN2]; exact hT
  generalize w2.alloc (.cells #[.slice none 0 0, .slice none 0 0, .slice none 0 0] 31) = w3 at *
  have HT0 : Hid (Pl PAt w3 w3 N N2 p p2 [] [] F (.slice none 0 0) (.slice none 0 0) (.slice none 0 0)) := hT
  have HBF : Hid (∀ W, Below N w3 W → Below w.heap.size w W) := fun W h => HB3.out.1.trans (h.mono HB3.out.2)
  clear hlv hnw hb1 hb2 hP hN hp2 hN2 hT
  go_wp2_with fail
  go_loopw [7, 19] (fun v7 i wx => ∃ (k : Nat) (F : Nat → Prop) (vt vb vx : Value), k ≤ n ∧ i = .int .i64 (k : Int) ∧ Pl PAt w3 wx N N2 p p2 (l.take k) (l.take k) F vt vb vx) (fun _ i _ => n - (intOf i).toNat)
  case atStart => exact ⟨0, F, _, _, _, by omega, rfl, HT0.out⟩
  case round =>
    obtain ⟨k, F, vt, vb, vx, hk, rfl, hT⟩ := hrel
    clear HT0
    have HT : Hid (Pl PAt w3 wr N N2 p p2 (l.take k) (l.take k) F vt vb vx) := hT
    clear hT
    by_cases hkn : k < n
    · have hkl : k < l.length := by rw [HL.out.1]; exact hkn
      obtain ⟨o, ho⟩ : ∃ o, l.getD k zO = o := ⟨_, rfl⟩
      have hko := HL.out.2.1 o (ho ▸ getD_of hkl)
      have HTK : Hid (l.take (k + 1) = l.take k ++ [o]) := by rw [← ho]; exact take_snoc' hkl
      obtain ⟨b', f', ha, c0, c1, c2, c3, c4, c5, c6, c7, c8⟩ := ops_cells (HL.out.2.2.later (HBF.out _ HT.out.bel)) hkl ho
      have hln : (l.take k).length < 2199023255552 := by rw [List.length_take]; omega
      have HLN : Hid ((l.take k).length < 2199023255552 ∧ (l.take (k + 1)).length < 2199023255552) := ⟨hln, by rw [List.length_take]; omega⟩
      subst ha
      obtain ⟨kd, ⟨⟨ub, us⟩, lb, ls⟩, ep, ⟨s0, s1⟩, tx⟩ := o
      dsimp only at c0 c1 c2 c3 c4 c5 c6 c7 c8
      have HOK : Hid (OkO (kd, (((ub, us), (lb, ls)), (ep, ((s0, s1), tx))))) := hko
      obtain ⟨y0, y1, y2, y3, y4, y5, y6, y7, y8⟩ := boxed9 wr (.int .i64 kd) (.int .i64 ub) (.int .i64 us) (.int .i64 lb) (.int .i64 ls) (.int .i64 ep) (.int .i64 s0) (.int .i64 s1) (.string tx) 39
      have hyb := _root_.Go.heap_alloc_last wr (.cells #[.int .i64 kd, .int .i64 ub, .int .i64 us, .int .i64 lb, .int .i64 ls, .int .i64 ep, .int .i64 s0, .int .i64 s1, .string tx] 39)
      have hT1 := HT.out.later A (Rt.below1 wr (.cells #[.int .i64 kd, .int .i64 ub, .int .i64 us, .int .i64 lb, .int .i64 ls, .int .i64 ep, .int .i64 s0, .int .i64 s1, .string tx] 39))
      have hdo := do_any A (wr.alloc (.cells #[.int .i64 kd, .int .i64 ub, .int .i64 us, .int .i64 lb, .int .i64 ls, .int .i64 ep, .int .i64 s0, .int .i64 s1, .string tx] 39)) N p (l.take k) F kd ub us lb ls ep s0 s1 tx hT1.a (Nat.le_trans hT1.nn hT1.sz) hln hko
      have hnF : ¬ F wr.heap.size ∧ ¬ Fk p2 vt vb vx wr.heap.size := ⟨fun e => by have := (A.ge HT.out.a _ e).2; omega, fun e => by have := HT.out.b.lt _ e; omega⟩
      have k1 : (0 : Int) ≤ (k : Int) := by omega
      have k2 : (k : Int) < (n : Int) := by omega
      clear hkl ho hko hln HT
      go_upto_region 7 with (fail)
      clear c0 c1 c2 c3 c4 c5 c6 c7 c8 k1 k2
      obtain ⟨P, hP⟩ : ∃ P, wr.heap.size = P := ⟨_, rfl⟩
      rw [hP] at y0 y1 y2 y3 y4 y5 y6 y7 y8 hnF hyb ⊢
      generalize wr.alloc (.cells #[.int .i64 kd, .int .i64 ub, .int .i64 us, .int .i64 lb, .int .i64 ls, .int .i64 ep, .int .i64 s0, .int .i64 s1, .string tx] 39) = wB at *
      have HTB : Hid (Pl PAt w3 wB N N2 p p2 (l.take k) (l.take k) F vt vb vx) := hT1
      have HP : Hid (¬ F P ∧ ¬ Fk p2 vt vb vx P ∧ wB.heap[P]? = some (.cells #[.int .i64 kd, .int .i64 ub, .int .i64 us, .int .i64 lb, .int .i64 ls, .int .i64 ep, .int .i64 s0, .int .i64 s1, .string tx] 39 (0, 0))) := ⟨hnF.1, hnF.2, hyb⟩
      clear hT1 hP hnF hyb
      go_upto_region 8 with (go_at_call 11; refine hdo.mono ?_; rintro r wd ⟨rfl, hd⟩)
      obtain ⟨F', hU⟩ := HTB.out.one A hd
      have hkd : Kept F wB wd := by obtain ⟨_, _, h2, _⟩ := hd; exact h2
      have hyb : wd.heap[P]? = some (.cells #[.int .i64 kd, .int .i64 ub, .int .i64 us, .int .i64 lb, .int .i64 ls, .int .i64 ep, .int .i64 s0, .int .i64 s1, .string tx] 39 (0, 0)) := (hkd.block P (Array.getElem?_eq_some_iff.1 HP.out.2.2).1 HP.out.1).trans HP.out.2.2
      have HU : Hid (Pl PAt w3 wd N N2 p p2 (l.take k ++ [(kd, (((ub, us), (lb, ls)), (ep, ((s0, s1), tx))))]) (l.take k) F' vt vb vx ∧ wd.heap[P]? = some (.cells #[.int .i64 kd, .int .i64 ub, .int .i64 us, .int .i64 lb, .int .i64 ls, .int .i64 ep, .int .i64 s0, .int .i64 s1, .string tx] 39 (0, 0))) := ⟨hU, hyb⟩
      have hmd := model_any wd N2 p2 (l.take k) vt vb vx kd ub us lb ls ep s0 s1 tx hU.b hU.sz HLN.out.1 HOK.out.2.2.2.2.2
      clear hdo hd hU hkd y0 y1 y2 y3 y4 y5 y6 y7 y8 HTB
      have y0 : wd.cell? ⟨P, 0, none⟩ = some (.int .i64 kd) := cell_of_row _ _ 0 _ _ _ hyb
      have y1 : wd.cell? ⟨P, 1, none⟩ = some (.int .i64 ub) := cell_of_row _ _ 1 _ _ _ hyb
      have y2 : wd.cell? ⟨P, 2, none⟩ = some (.int .i64 us) := cell_of_row _ _ 2 _ _ _ hyb
      have y3 : wd.cell? ⟨P, 3, none⟩ = some (.int .i64 lb) := cell_of_row _ _ 3 _ _ _ hyb
      have y4 : wd.cell? ⟨P, 4, none⟩ = some (.int .i64 ls) := cell_of_row _ _ 4 _ _ _ hyb
      have y5 : wd.cell? ⟨P, 5, none⟩ = some (.int .i64 ep) := cell_of_row _ _ 5 _ _ _ hyb
      have y6 : wd.cell? ⟨P, 6, none⟩ = some (.int .i64 s0) := cell_of_row _ _ 6 _ _ _ hyb
      have y7 : wd.cell? ⟨P, 7, none⟩ = some (.int .i64 s1) := cell_of_row _ _ 7 _ _ _ hyb
      have y8 : wd.cell? ⟨P, 8, none⟩ = some (.string tx) := cell_of_row _ _ 8 _ _ _ hyb
      clear hyb
      go_upto_region 9 with (go_at_call 12; refine hmd.mono ?_; rintro r we ⟨rfl, hd⟩)
      obtain ⟨ut, ubb, ux, hV⟩ := HU.out.1.two A hd
      have hke : Kept (Fk p2 vt vb vx) wd we := by obtain ⟨_, _, _, _, h2, _⟩ := hd; exact h2
      have hyb : we.heap[P]? = some (.cells #[.int .i64 kd, .int .i64 ub, .int .i64 us, .int .i64 lb, .int .i64 ls, .int .i64 ep, .int .i64 s0, .int .i64 s1, .string tx] 39 (0, 0)) := (hke.block P (Array.getElem?_eq_some_iff.1 HU.out.2).1 HP.out.2.1).trans HU.out.2
      rw [← HTK.out] at hV
      have HV : Hid (Pl PAt w3 we N N2 p p2 (l.take (k + 1)) (l.take (k + 1)) F' ut ubb ux ∧ we.heap[P]? = some (.cells #[.int .i64 kd, .int .i64 ub, .int .i64 us, .int .i64 lb, .int .i64 ls, .int .i64 ep, .int .i64 s0, .int .i64 s1, .string tx] 39 (0, 0))) := ⟨hV, hyb⟩
      have hcl := hV.b.closed HLN.out.2
      clear hmd hd hV hke hyb y0 y1 y2 y3 y4 y5 y6 y7 y8 HU HP HTK
      go_upto_region 10 with (go_at_call 13; refine hcl.mono ?_; rintro r wB ⟨g7, c7, f7, rfl, hR7, hT7, hbB⟩)
      have hyb := (hbB.block P (Array.getElem?_eq_some_iff.1 HV.out.2).1).trans HV.out.2
      have y1 : wB.cell? ⟨P, 1, none⟩ = some (.int .i64 ub) := cell_of_row _ _ 1 _ _ _ hyb
      have y2 : wB.cell? ⟨P, 2, none⟩ = some (.int .i64 us) := cell_of_row _ _ 2 _ _ _ hyb
      have y3 : wB.cell? ⟨P, 3, none⟩ = some (.int .i64 lb) := cell_of_row _ _ 3 _ _ _ hyb
      have y4 : wB.cell? ⟨P, 4, none⟩ = some (.int .i64 ls) := cell_of_row _ _ 4 _ _ _ hyb
      have y5 : wB.cell? ⟨P, 5, none⟩ = some (.int .i64 ep) := cell_of_row _ _ 5 _ _ _ hyb
      have y6 : wB.cell? ⟨P, 6, none⟩ = some (.int .i64 s0) := cell_of_row _ _ 6 _ _ _ hyb
      have y7 : wB.cell? ⟨P, 7, none⟩ = some (.int .i64 s1) := cell_of_row _ _ 7 _ _ _ hyb
      have y8 : wB.cell? ⟨P, 8, none⟩ = some (.string tx) := cell_of_row _ _ 8 _ _ _ hyb
      have hTB := HV.out.1.later A hbB
      have HTB : Hid (Pl PAt w3 wB N N2 p p2 (l.take (k + 1)) (l.take (k + 1)) F' ut ubb ux) := hTB
      obtain ⟨L, hL⟩ : ∃ L, l.take (k + 1) = L := ⟨_, rfl⟩
      have hLl := HLN.out.2
      rw [hL] at hTB hT7 hLl
      have hrm : Rm (toldL L) (boxL L) (txtL L) := A.rm L hLl
      obtain ⟨v0, hv0⟩ := bool_of (HadL L (ub, us))
      obtain ⟨v1, hv1⟩ := bool_of (HadL L (lb, ls))
      obtain ⟨v2, hv2⟩ := bool_of (gb ((ub, us), (lb, ls)) = true ∧ (((ub, us), (lb, ls)) ∈ boxL L ∨ (HadL L (ub, us) ∧ HadL L (lb, ls))))
      obtain ⟨v3, hv3⟩ := bool_of (gx (ep, ((s0, s1), tx)) = true ∧ ((ep, ((s0, s1), tx)) ∈ txtL L ∨ HadL L (s0, s1)))
      have hu1 := fun W (hW : Below wB.heap.size wB W) => A.has ub us (A.later hTB.a hW) hrm ⟨HOK.out.2.1.1, HOK.out.2.1.2.1⟩ hv0
      have hu2 := fun W (hW : Below wB.heap.size wB W) => in_tab (w0 := w) (c := c7) (hR7.later hW) hT7 ub us hv0
      have hl1 := fun W (hW : Below wB.heap.size wB W) => A.has lb ls (A.later hTB.a hW) hrm HOK.out.2.1.2.2 hv1
      have hl2 := fun W (hW : Below wB.heap.size wB W) => in_tab (w0 := w) (c := c7) (hR7.later hW) hT7 lb ls hv1
      have hm1 := fun W (hW : Below wB.heap.size wB W) => A.makes ub us lb ls (A.later hTB.a hW) hrm HOK.out.2.1 hv2
      have hm2 := fun W (hW : Below wB.heap.size wB W) => (hTB.b.later hW).makes hLl ub us lb ls hv2
      have hx1 := fun W (hW : Below wB.heap.size wB W) => A.makesX ep s0 s1 tx (A.later hTB.a hW) hrm HOK.out.2.2 hv3
      have hx2 := fun W (hW : Below wB.heap.size wB W) => (hTB.b.later hW).makesX hLl ep s0 s1 tx HOK.out.2.2.2.2.2 hv3
      obtain ⟨v7, hv7⟩ : ∃ v, v = Value.slice (some ⟨g7, 0, none⟩) 32768 c7 := ⟨_, rfl⟩
      rw [← hv7] at hu2 hl2 ⊢
      have hS0 : Below wB.heap.size wB wB.drew := (Below.refl _ _).drew
      clear hv7 hyb hTB hL hLl hrm hv0 hv1 hv2 hv3 hR7 hT7 hbB hcl HV
      refine wp_region_held_drew (S := fun W => Below wB.heap.size wB W) (by kernel_rfl) hS0 (fun hHeld => ?_)
      refine opT 0 31 (.move (.tmp 3)) (.pointer (some ⟨p, 0, none⟩)) rfl ?_
      go_frame
      refine opT 1 32 (.fieldAddr 39 (.tmp 6) 1) (.pointer (some ⟨P, 1, none⟩)) rfl ?_
      go_frame
      refine opT 2 33 (.fieldAddr 35 (.tmp 32) 0) (.pointer (some ⟨P, 1, none⟩)) rfl ?_
      go_frame
      refine opR 3 34 (.load 33 (.tmp 33)) (.agg #[.int .i64 ub, .int .i64 us]) rfl (fun w hSw => by have x1 := cell_later hSw y1; have x2 := cell_later hSw y2; go_simp) ?_
      go_frame
      refine opT 5 36 (.move (.tmp 7)) (v7) rfl ?_
      go_frame
      refine opT 6 37 (.fieldAddr 39 (.tmp 6) 1) (.pointer (some ⟨P, 1, none⟩)) rfl ?_
      go_frame
      refine opT 7 38 (.fieldAddr 35 (.tmp 37) 0) (.pointer (some ⟨P, 1, none⟩)) rfl ?_
      go_frame
      refine opR 8 39 (.load 33 (.tmp 38)) (.agg #[.int .i64 ub, .int .i64 us]) rfl (fun w hSw => by have x1 := cell_later hSw y1; have x2 := cell_later hSw y2; go_simp) ?_
      go_frame
      refine wpAnyH_ready (rs := [4]) (by kernel_rfl) (by simp) ?_
      refine AllReadyH.cons rfl (fun K hK => ?_) AllReadyH.nil
      go_simp
      refine (hu1 _ hHeld).mono ?_
      rintro r wc ⟨rfl, hbc⟩
      go_wp2_with fail
      refine hK.out _ _ (Rt.Below.then hHeld hbc) (fun hH1 => ?_)
      clear hbc hHeld
      clear hK K
      try go_frame
      refine wpAnyH_ready (rs := [9]) (by kernel_rfl) (by simp) ?_
      refine AllReadyH.cons rfl (fun K hK => ?_) AllReadyH.nil
      go_simp
      refine (hu2 _ hH1).mono ?_
      rintro r wc ⟨rfl, hbc⟩
      go_wp2_with fail
      refine hK.out _ _ (Rt.Below.then hH1 hbc) (fun hH2 => ?_)
      clear hbc hH1
      clear hK K
      try go_frame
      refine opT 10 41 (.binOp .neq 4 (.tmp 35) (.tmp 40) 4) (.bool false) rfl ?_
      go_frame
      refine opT 11 42 (.move (.tmp 41)) (.bool false) rfl ?_
      go_frame
      refine opTg 12 43 (.move (.tmp 3)) (some (11, false)) (.pointer (some ⟨p, 0, none⟩)) rfl ?_
      go_frame
      refine opTg 13 44 (.fieldAddr 39 (.tmp 6) 1) (some (11, false)) (.pointer (some ⟨P, 1, none⟩)) rfl ?_
      go_frame
      refine opTg 14 45 (.fieldAddr 35 (.tmp 44) 1) (some (11, false)) (.pointer (some ⟨P, 3, none⟩)) rfl ?_
      go_frame
      refine opRg 15 46 (.load 33 (.tmp 45)) (some (11, false)) (.agg #[.int .i64 lb, .int .i64 ls]) rfl (fun w hSw => by have x3 := cell_later hSw y3; have x4 := cell_later hSw y4; go_simp) ?_
      go_frame
      refine opTg 17 48 (.move (.tmp 7)) (some (11, false)) (v7) rfl ?_
      go_frame
      refine opTg 18 49 (.fieldAddr 39 (.tmp 6) 1) (some (11, false)) (.pointer (some ⟨P, 1, none⟩)) rfl ?_
      go_frame
      refine opTg 19 50 (.fieldAddr 35 (.tmp 49) 1) (some (11, false)) (.pointer (some ⟨P, 3, none⟩)) rfl ?_
      go_frame
      refine opRg 20 51 (.load 33 (.tmp 50)) (some (11, false)) (.agg #[.int .i64 lb, .int .i64 ls]) rfl (fun w hSw => by have x3 := cell_later hSw y3; have x4 := cell_later hSw y4; go_simp) ?_
      go_frame
      refine wpAnyH_ready (rs := [16]) (by kernel_rfl) (by simp) ?_
      refine AllReadyH.cons rfl (fun K hK => ?_) AllReadyH.nil
      go_simp
      refine (hl1 _ hH2).mono ?_
      rintro r wc ⟨rfl, hbc⟩
      go_wp2_with fail
      refine hK.out _ _ (Rt.Below.then hH2 hbc) (fun hH3 => ?_)
      clear hbc hH2
      clear hK K
      try go_frame
      refine wpAnyH_ready (rs := [21]) (by kernel_rfl) (by simp) ?_
      refine AllReadyH.cons rfl (fun K hK => ?_) AllReadyH.nil
      go_simp
      refine (hl2 _ hH3).mono ?_
      rintro r wc ⟨rfl, hbc⟩
      go_wp2_with fail
      refine hK.out _ _ (Rt.Below.then hH3 hbc) (fun hH4 => ?_)
      clear hbc hH3
      clear hK K
      try go_frame
      refine opTg 22 53 (.binOp .neq 4 (.tmp 47) (.tmp 52) 4) (some (11, false)) (.bool false) rfl ?_
      go_frame
      refine opT 23 54 (.pick (.tmp 42) (.const (.bool true)) (.tmp 53)) (.bool false) rfl ?_
      go_frame
      refine opT 24 55 (.move (.tmp 54)) (.bool false) rfl ?_
      go_frame
      refine opTg 25 56 (.move (.tmp 3)) (some (24, false)) (.pointer (some ⟨p, 0, none⟩)) rfl ?_
      go_frame
      refine opTg 26 57 (.fieldAddr 39 (.tmp 6) 1) (some (24, false)) (.pointer (some ⟨P, 1, none⟩)) rfl ?_
      go_frame
      refine opRg 27 58 (.load 35 (.tmp 57)) (some (24, false)) (.agg #[.int .i64 ub, .int .i64 us, .int .i64 lb, .int .i64 ls]) rfl (fun w hSw => by have x1 := cell_later hSw y1; have x2 := cell_later hSw y2; have x3 := cell_later hSw y3; have x4 := cell_later hSw y4; go_simp) ?_
      go_frame
      refine opTg 29 60 (.move (.tmp 4)) (some (24, false)) (.pointer (some ⟨p2, 0, none⟩)) rfl ?_
      go_frame
      refine opTg 30 61 (.fieldAddr 39 (.tmp 6) 1) (some (24, false)) (.pointer (some ⟨P, 1, none⟩)) rfl ?_
      go_frame
      refine opRg 31 62 (.load 35 (.tmp 61)) (some (24, false)) (.agg #[.int .i64 ub, .int .i64 us, .int .i64 lb, .int .i64 ls]) rfl (fun w hSw => by have x1 := cell_later hSw y1; have x2 := cell_later hSw y2; have x3 := cell_later hSw y3; have x4 := cell_later hSw y4; go_simp) ?_
      go_frame
      refine wpAnyH_ready (rs := [28]) (by kernel_rfl) (by simp) ?_
      refine AllReadyH.cons rfl (fun K hK => ?_) AllReadyH.nil
      go_simp
      refine (hm1 _ hH4).mono ?_
      rintro r wc ⟨rfl, hbc⟩
      go_wp2_with fail
      refine hK.out _ _ (Rt.Below.then hH4 hbc) (fun hH5 => ?_)
      clear hbc hH4
      clear hK K
      try go_frame
      refine wpAnyH_ready (rs := [32]) (by kernel_rfl) (by simp) ?_
      refine AllReadyH.cons rfl (fun K hK => ?_) AllReadyH.nil
      go_simp
      refine (hm2 _ hH5).mono ?_
      rintro r wc ⟨rfl, hbc⟩
      go_wp2_with fail
      refine hK.out _ _ (Rt.Below.then hH5 hbc) (fun hH6 => ?_)
      clear hbc hH5
      clear hK K
      try go_frame
      refine opTg 33 64 (.binOp .neq 4 (.tmp 59) (.tmp 63) 4) (some (24, false)) (.bool false) rfl ?_
      go_frame
      refine opT 34 65 (.pick (.tmp 55) (.const (.bool true)) (.tmp 64)) (.bool false) rfl ?_
      go_frame
      refine opT 35 66 (.move (.tmp 65)) (.bool false) rfl ?_
      go_frame
      refine opTg 36 67 (.move (.tmp 3)) (some (35, false)) (.pointer (some ⟨p, 0, none⟩)) rfl ?_
      go_frame
      refine opTg 37 68 (.fieldAddr 39 (.tmp 6) 2) (some (35, false)) (.pointer (some ⟨P, 5, none⟩)) rfl ?_
      go_frame
      refine opRg 38 69 (.load 37 (.tmp 68)) (some (35, false)) (.agg #[.int .i64 ep, .int .i64 s0, .int .i64 s1, .string tx]) rfl (fun w hSw => by have x5 := cell_later hSw y5; have x6 := cell_later hSw y6; have x7 := cell_later hSw y7; have x8 := cell_later hSw y8; go_simp) ?_
      go_frame
      refine opTg 40 71 (.move (.tmp 4)) (some (35, false)) (.pointer (some ⟨p2, 0, none⟩)) rfl ?_
      go_frame
      refine opTg 41 72 (.fieldAddr 39 (.tmp 6) 2) (some (35, false)) (.pointer (some ⟨P, 5, none⟩)) rfl ?_
      go_frame
      refine opRg 42 73 (.load 37 (.tmp 72)) (some (35, false)) (.agg #[.int .i64 ep, .int .i64 s0, .int .i64 s1, .string tx]) rfl (fun w hSw => by have x5 := cell_later hSw y5; have x6 := cell_later hSw y6; have x7 := cell_later hSw y7; have x8 := cell_later hSw y8; go_simp) ?_
      go_frame
      refine wpAnyH_ready (rs := [39]) (by kernel_rfl) (by simp) ?_
      refine AllReadyH.cons rfl (fun K hK => ?_) AllReadyH.nil
      go_simp
      refine (hx1 _ hH6).mono ?_
      rintro r wc ⟨rfl, hbc⟩
      go_wp2_with fail
      refine hK.out _ _ (Rt.Below.then hH6 hbc) (fun hH7 => ?_)
      clear hbc hH6
      clear hK K
      try go_frame
      refine wpAnyH_ready (rs := [43]) (by kernel_rfl) (by simp) ?_
      refine AllReadyH.cons rfl (fun K hK => ?_) AllReadyH.nil
      go_simp
      refine (hx2 _ hH7).mono ?_
      rintro r wc ⟨rfl, hbc⟩
      go_wp2_with fail
      refine hK.out _ _ (Rt.Below.then hH7 hbc) (fun hH8 => ?_)
      clear hbc hH7
      clear hK K
      try go_frame
      refine opTg 44 75 (.binOp .neq 4 (.tmp 70) (.tmp 74) 4) (some (35, false)) (.bool false) rfl ?_
      go_frame
      refine opT 45 76 (.pick (.tmp 66) (.const (.bool true)) (.tmp 75)) (.bool false) rfl ?_
      go_frame
      refine wpAnyH_done (by kernel_rfl) ?_ _
      clear hu1 hu2 hl1 hl2 hm1 hm2 hx1 hx2 y1 y2 y3 y4 y5 y6 y7 y8
      go_wp2_with fail
      go_roundw
      case rel => exact ⟨k + 1, F', ut, ubb, ux, by omega, by go_num, HTB.out.later A hH8⟩
      case measure => simp [intOf]; omega
    · obtain rfl : k = n := by omega
      have dkk : decide ((k : Int) < (k : Int)) = false := by simp
      have hT : Pl PAt w3 wr N N2 p p2 l l F vt vb vx := by have h := HT.out; rw [List.take_of_length_le (by have := HL.out.1; omega)] at h; exact h
      have HT2 : Hid (Pl PAt w3 wr N N2 p p2 l l F vt vb vx) := hT
      have HLN : Hid (l.length < 2199023255552) := by show _ < _; have := HL.out.1; omega
      have hcl := hT.b.closed HLN.out
      clear hk hkn HT hT
      go_upto_region 14 with (go_at_call 13; refine hcl.mono ?_; rintro r wq ⟨g8, c8, f8, rfl, hR8, hT8, hbq⟩)
      have HQ : Hid (Pl PAt w3 wq N N2 p p2 l l F vt vb vx) := HT2.out.later A hbq
      have HC : Hid (RdT wq g8 f8 ∧ Tab (toldL l) (boxL l) f8 ∧ Rm (toldL l) (boxL l) (txtL l)) := ⟨hR8, hT8, A.rm l HLN.out⟩
      obtain ⟨v8, hv8⟩ : ∃ v, v = Value.slice (some ⟨g8, 0, none⟩) 32768 c8 := ⟨_, rfl⟩
      have HV8 : Hid (v8 = Value.slice (some ⟨g8, 0, none⟩) 32768 c8) := hv8
      rw [← hv8]
      clear hv8 hcl hR8 hT8 hbq HT2 dkk
      go_wp2_with fail
      go_loopw [82] (fun i wx => ∃ k' : Nat, k' ≤ k ∧ i = .int .i64 (k' : Int) ∧ Below wq.heap.size wq wx) (fun i _ => k - (intOf i).toNat)
      case atStart => exact ⟨0, by omega, rfl, Below.refl _ _⟩
      case round =>
        obtain ⟨j, hj, rfl, hbw⟩ := hrel
        have HBW : Hid (Below wq.heap.size wq wr) := hbw
        clear hbw
        by_cases hjk : j < k
        · have hkl : j < l.length := by rw [HL.out.1]; exact hjk
          obtain ⟨o, ho⟩ : ∃ o, l.getD j zO = o := ⟨_, rfl⟩
          have hko := HL.out.2.1 o (ho ▸ getD_of hkl)
          obtain ⟨b', f', ha, c0, c1, c2, c3, c4, c5, c6, c7, c8⟩ := ops_cells ((HL.out.2.2.later (HBF.out _ HQ.out.bel)).later HBW.out) hkl ho
          subst ha
          obtain ⟨kd, ⟨⟨ub, us⟩, lb, ls⟩, ep, ⟨s0, s1⟩, tx⟩ := o
          dsimp only at c0 c1 c2 c3 c4 c5 c6 c7 c8
          have HOK : Hid (OkO (kd, (((ub, us), (lb, ls)), (ep, ((s0, s1), tx))))) := hko
          obtain ⟨y0, y1, y2, y3, y4, y5, y6, y7, y8⟩ := boxed9 wr (.int .i64 kd) (.int .i64 ub) (.int .i64 us) (.int .i64 lb) (.int .i64 ls) (.int .i64 ep) (.int .i64 s0) (.int .i64 s1) (.string tx) 39
          have hb1 := Rt.Below.then HBW.out (Rt.below1 wr (.cells #[.int .i64 kd, .int .i64 ub, .int .i64 us, .int .i64 lb, .int .i64 ls, .int .i64 ep, .int .i64 s0, .int .i64 s1, .string tx] 39))
          have k1 : (0 : Int) ≤ (j : Int) := by omega
          have k2 : (j : Int) < (k : Int) := by omega
          clear hkl ho hko
          go_upto_region 17 with (fail)
          clear c0 c1 c2 c3 c4 c5 c6 c7 c8 k1 k2
          obtain ⟨P, hP⟩ : ∃ P, wr.heap.size = P := ⟨_, rfl⟩
          rw [hP] at y0 y1 y2 y3 y4 y5 y6 y7 y8 ⊢
          generalize wr.alloc (.cells #[.int .i64 kd, .int .i64 ub, .int .i64 us, .int .i64 lb, .int .i64 ls, .int .i64 ep, .int .i64 s0, .int .i64 s1, .string tx] 39) = wA at *
          clear hP
          go_upto_region 18 with (fail)
          obtain ⟨z0, z1, z2, z3⟩ := boxed4 wA (.int .i64 lb) (.int .i64 ls) (.int .i64 ub) (.int .i64 us) 35
          have hb2 := Rt.Below.then hb1 (Rt.below1 wA (.cells #[.int .i64 lb, .int .i64 ls, .int .i64 ub, .int .i64 us] 35))
          have q3 := cell_later (Rt.below1 wA (.cells #[.int .i64 lb, .int .i64 ls, .int .i64 ub, .int .i64 us] 35)) y3
          have q4 := cell_later (Rt.below1 wA (.cells #[.int .i64 lb, .int .i64 ls, .int .i64 ub, .int .i64 us] 35)) y4
          obtain ⟨Q, hQ⟩ : ∃ Q, wA.heap.size = Q := ⟨_, rfl⟩
          rw [hQ] at z0 z1 z2 z3 ⊢
          generalize wA.alloc (.cells #[.int .i64 lb, .int .i64 ls, .int .i64 ub, .int .i64 us] 35) = wB at *
          clear y0 y1 y2 y3 y4 y5 y6 y7 y8 hb1 hQ
          have y3 := q3
          have y4 := q4
          clear q3 q4
          have HBB : Hid (Below wq.heap.size wq wB) := hb2
          obtain ⟨v1, hv1⟩ := bool_of (HadL l (lb, ls))
          obtain ⟨v2, hv2⟩ := bool_of (gb ((lb, ls), (ub, us)) = true ∧ (((lb, ls), (ub, us)) ∈ boxL l ∨ (HadL l (lb, ls) ∧ HadL l (ub, us))))
          have HW4 := HOK.out.2.1
          have hl1 := fun W (hW : Below wB.heap.size wB W) => A.has lb ls (A.later HQ.out.a (Rt.Below.then HBB.out hW)) HC.out.2.2 HW4.2.2 hv1
          have hl2 := fun W (hW : Below wB.heap.size wB W) => in_tab (w0 := w) (c := c8) (HC.out.1.later (Rt.Below.then HBB.out hW)) HC.out.2.1 lb ls hv1
          have hm1 := fun W (hW : Below wB.heap.size wB W) => A.makes lb ls ub us (A.later HQ.out.a (Rt.Below.then HBB.out hW)) HC.out.2.2 ⟨HW4.2.2.1, HW4.2.2.2, HW4.1, HW4.2.1⟩ hv2
          have hm2 := fun W (hW : Below wB.heap.size wB W) => (HQ.out.b.later (Rt.Below.then HBB.out hW)).makes HLN.out lb ls ub us hv2
          rw [← HV8.out] at hl2
          have hS0 : Below wB.heap.size wB wB.drew := (Below.refl _ _).drew
          clear hv1 hv2 HW4 hb2
          refine wp_region_held_drew (S := fun W => Below wB.heap.size wB W) (by kernel_rfl) hS0 (fun hHeld => ?_)
          refine opT 0 93 (.move (.tmp 3)) (.pointer (some ⟨p, 0, none⟩)) rfl ?_
          go_frame
          refine opT 1 94 (.fieldAddr 39 (.tmp 10) 1) (.pointer (some ⟨P, 1, none⟩)) rfl ?_
          go_frame
          refine opT 2 95 (.fieldAddr 35 (.tmp 94) 1) (.pointer (some ⟨P, 3, none⟩)) rfl ?_
          go_frame
          refine opR 3 96 (.load 33 (.tmp 95)) (.agg #[.int .i64 lb, .int .i64 ls]) rfl (fun w hSw => by have x3 := cell_later hSw y3; have x4 := cell_later hSw y4; go_simp) ?_
          go_frame
          refine opT 5 98 (.move (.tmp 8)) (v8) rfl ?_
          go_frame
          refine opT 6 99 (.fieldAddr 39 (.tmp 10) 1) (.pointer (some ⟨P, 1, none⟩)) rfl ?_
          go_frame
          refine opT 7 100 (.fieldAddr 35 (.tmp 99) 1) (.pointer (some ⟨P, 3, none⟩)) rfl ?_
          go_frame
          refine opR 8 101 (.load 33 (.tmp 100)) (.agg #[.int .i64 lb, .int .i64 ls]) rfl (fun w hSw => by have x3 := cell_later hSw y3; have x4 := cell_later hSw y4; go_simp) ?_
          go_frame
          refine wpAnyH_ready (rs := [4]) (by kernel_rfl) (by simp) ?_
          refine AllReadyH.cons rfl (fun K hK => ?_) AllReadyH.nil
          go_simp
          refine (hl1 _ hHeld).mono ?_
          rintro r wc ⟨rfl, hbc⟩
          go_wp2_with fail
          refine hK.out _ _ (Rt.Below.then hHeld hbc) (fun hH1 => ?_)
          clear hbc hHeld
          clear hK K
          try go_frame
          refine wpAnyH_ready (rs := [9]) (by kernel_rfl) (by simp) ?_
          refine AllReadyH.cons rfl (fun K hK => ?_) AllReadyH.nil
          go_simp
          refine (hl2 _ hH1).mono ?_
          rintro r wc ⟨rfl, hbc⟩
          go_wp2_with fail
          refine hK.out _ _ (Rt.Below.then hH1 hbc) (fun hH2 => ?_)
          clear hbc hH1
          clear hK K
          try go_frame
          refine opT 10 103 (.binOp .neq 4 (.tmp 97) (.tmp 102) 4) (.bool false) rfl ?_
          go_frame
          refine opT 11 104 (.move (.tmp 103)) (.bool false) rfl ?_
          go_frame
          refine opTg 12 105 (.move (.tmp 3)) (some (11, false)) (.pointer (some ⟨p, 0, none⟩)) rfl ?_
          go_frame
          refine opRg 13 106 (.load 35 (.tmp 11)) (some (11, false)) (.agg #[.int .i64 lb, .int .i64 ls, .int .i64 ub, .int .i64 us]) rfl (fun w hSw => by have x0 := cell_later hSw z0; have x1 := cell_later hSw z1; have x2 := cell_later hSw z2; have x3 := cell_later hSw z3; go_simp) ?_
          go_frame
          refine opTg 15 108 (.move (.tmp 4)) (some (11, false)) (.pointer (some ⟨p2, 0, none⟩)) rfl ?_
          go_frame
          refine opRg 16 109 (.load 35 (.tmp 11)) (some (11, false)) (.agg #[.int .i64 lb, .int .i64 ls, .int .i64 ub, .int .i64 us]) rfl (fun w hSw => by have x0 := cell_later hSw z0; have x1 := cell_later hSw z1; have x2 := cell_later hSw z2; have x3 := cell_later hSw z3; go_simp) ?_
          go_frame
          refine wpAnyH_ready (rs := [14]) (by kernel_rfl) (by simp) ?_
          refine AllReadyH.cons rfl (fun K hK => ?_) AllReadyH.nil
          go_simp
          refine (hm1 _ hH2).mono ?_
          rintro r wc ⟨rfl, hbc⟩
          go_wp2_with fail
          refine hK.out _ _ (Rt.Below.then hH2 hbc) (fun hH3 => ?_)
          clear hbc hH2
          clear hK K
          try go_frame
          refine wpAnyH_ready (rs := [17]) (by kernel_rfl) (by simp) ?_
          refine AllReadyH.cons rfl (fun K hK => ?_) AllReadyH.nil
          go_simp
          refine (hm2 _ hH3).mono ?_
          rintro r wc ⟨rfl, hbc⟩
          go_wp2_with fail
          refine hK.out _ _ (Rt.Below.then hH3 hbc) (fun hH4 => ?_)
          clear hbc hH3
          clear hK K
          try go_frame
          refine opTg 18 111 (.binOp .neq 4 (.tmp 107) (.tmp 110) 4) (some (11, false)) (.bool false) rfl ?_
          go_frame
          refine opT 19 112 (.pick (.tmp 104) (.const (.bool true)) (.tmp 111)) (.bool false) rfl ?_
          go_frame
          refine wpAnyH_done (by kernel_rfl) ?_ _
          clear hl1 hl2 hm1 hm2 y3 y4 z0 z1 z2 z3
          go_wp2_with fail
          go_roundw
          case rel => exact ⟨j + 1, by omega, by go_num, Rt.Below.then HBB.out hH4⟩
          case measure => simp [intOf]; omega
        · obtain rfl : j = k := by omega
          have djj : decide ((j : Int) < (j : Int)) = false := by simp
          have hka := fun W (hW : Below wr.heap.size wr W) => keys_same A (A.later HQ.out.a (Rt.Below.then HBW.out hW)) HC.out.2.2 HC.out.2.1 (fun _ => Iff.rfl)
          have hkd := fun W (hW : Below wr.heap.size wr W) => doc_keys (HQ.out.b.later (Rt.Below.then HBW.out hW)) HLN.out HC.out.2.1
          obtain ⟨ks, hks⟩ : ∃ ks, keysT f8 32768 = ks := ⟨_, rfl⟩
          obtain ⟨z, hz⟩ : ∃ z, ks.length = z := ⟨_, rfl⟩
          have hzb : z ≤ 32768 := by rw [← hz, ← hks]; exact keysT_len _
          simp only [hks, hz] at hka hkd
          have hsm := fun W a1 a2 c1 c2 (h1 : Rt.RdAt W a1 ks) (h2 : Rt.RdAt W a2 ks) => Rt.same_any a1 a2 c1 c2 ks W (by omega) h1 h2
          simp only [hz] at hsm
          have hb0 := Below.refl wr.heap.size wr
          clear hks hz hzb hj hjk
          go_wp2_with (first
            | (go_at_call 22; refine (hkd _ hbk).mono ?_; rintro r wl ⟨al, cl, rfl, hrl, hbl⟩)
            | (go_at_call 21; refine (hka _ hb0).mono ?_; rintro r wk ⟨ak, ck, rfl, hrk, hbk⟩)
            | (go_at_call 20; refine (hsm _ _ _ _ _ (hrk.later hbl) hrl).mono ?_; rintro r wm ⟨rfl, hbm⟩))
          go_ret
          exact ⟨rfl, HBF.out _ (HQ.out.later A (Rt.Below.then HBW.out (Rt.Below.then hbk (Rt.Below.then hbl hbm)))).bel⟩
end Go.Proofs.Ytompgoaogomoaaa.Kn
