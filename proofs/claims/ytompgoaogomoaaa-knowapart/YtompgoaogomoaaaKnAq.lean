/- KnowApart's walk, by what is asked of the program's know (made by mk_knaq.py). -/
import Derived.Test.YtompgoaogomoaaaHd
import Derived.Test.YtompgoaogomoaaaKnAp
namespace Go.Proofs.Ytompgoaogomoaaa.Kn
open Go.RowKit Go.Maps
open Rt (Gd gd gd_yes gd_no rGood_any)
set_option linter.unusedVariables false
set_option linter.unusedSimpArgs false

def evn (q : List Op9) : Nat → List Op9
  | 0 => []
  | j + 1 => if j % 2 = 0 then evn q j ++ [q.getD j zO] else evn q j
def odn (q : List Op9) : Nat → List Op9
  | 0 => []
  | j + 1 => if j % 2 = 0 then odn q j else odn q j ++ [q.getD j zO]
theorem evn_len (q : List Op9) : ∀ j, (evn q j).length = (j + 1) / 2
  | 0 => rfl
  | j + 1 => by unfold evn; split <;> simp [evn_len q j] <;> omega
theorem odn_len (q : List Op9) : ∀ j, (odn q j).length = j / 2
  | 0 => rfl
  | j + 1 => by unfold odn; split <;> simp [odn_len q j] <;> omega
theorem rdAt_kept {w w' : World} {a : Option Addr} {ks : List K2} {G : Nat → Prop} (h : Rt.RdAt w a ks) (hk : Kept G w w') (hn : ∀ g o, a = some ⟨g, o, none⟩ → ¬ G g) : Rt.RdAt w' a ks := fun i hi => by
  obtain ⟨b, o, e, c0, c1⟩ := h i hi
  exact ⟨b, o, e, hk.cell c0 (hn b o e), hk.cell c1 (hn b o e)⟩
structure Ea (PAt : PPred) (M : Nat) (w3 : World) (N N2 p p2 : Nat) (l : List Op9) (N3 N4 p3 p4 : Nat) (l3 : List Op9) (ks : List K2) (bk wk : Option Addr) (G : Nat → Prop) (W : World) : Prop where
  out : ∃ F vt vb vx F3 ut ub ux, Fo PAt M w3 W N N2 p p2 l l F vt vb vx N3 N4 p3 p4 l3 l3 F3 ut ub ux ∧ ∀ k, Fo.All F p2 vt vb vx F3 p4 ut ub ux k → ¬ G k
  rb : Rt.RdAt W bk ks
  rw : Rt.RdAt W wk ks
  nb : ∀ g o, bk = some ⟨g, o, none⟩ → ¬ G g
  nw : ∀ g o, wk = some ⟨g, o, none⟩ → ¬ G g
  ge : ∀ k, G k → M ≤ k
section
variable {PAt : PPred} {Rm : RPred} {M : Nat} {w3 W W' : World} {N N2 p p2 N3 N4 p3 p4 : Nat} {l l3 : List Op9} {ks : List K2} {bk wk : Option Addr} {G : Nat → Prop}
theorem Ea.kept (A : KApi PAt Rm) (h : Ea PAt M w3 N N2 p p2 l N3 N4 p3 p4 l3 ks bk wk G W) (hk : Kept G W W') : Ea PAt M w3 N N2 p p2 l N3 N4 p3 p4 l3 ks bk wk G W' := by
  obtain ⟨F, vt, vb, vx, F3, ut, ub, ux, h1, h2⟩ := h.out
  exact ⟨⟨F, vt, vb, vx, F3, ut, ub, ux, h1.kept A hk h2 h.ge, h2⟩, rdAt_kept h.rb hk h.nb, rdAt_kept h.rw hk h.nw, h.nb, h.nw, h.ge⟩
theorem Ea.later (A : KApi PAt Rm) (h : Ea PAt M w3 N N2 p p2 l N3 N4 p3 p4 l3 ks bk wk G W) (hb : Below W.heap.size W W') : Ea PAt M w3 N N2 p p2 l N3 N4 p3 p4 l3 ks bk wk G W' := h.kept A (Kept.ofBelow hb)
end
section
variable {PAt : PPred} {Rm : RPred} {w : World} {N p : Nat} {T : List K2} {B : List B2} {X : List Sd} {F : Nat → Prop} {l2 : List Op9} {vt vb vx : Value} {f : Nat → Int} {ks : List K2} {z : Nat}
theorem keys_own (A : KApi PAt Rm) (h : PAt w N p T B X F) (hr : Rm T B X) :
    Calls Try.prog 21 #[.pointer (some ⟨p, 0, none⟩)] w fun e w' => ∃ f ks z a c, keysT f 32768 = ks ∧ ks.length = z ∧ e = .returned (.slice a z c) ∧ Tab T B f ∧ w'.ownsRow w.heap.size 33 2 (.slice a z c) z (ks.flatMap kC) ∧ Rt.RdAt w' a ks ∧ Below w.heap.size w w' := by
  refine (A.keys h hr).mono ?_
  rintro e w' ⟨v, f, rfl, hT, hrow, hb⟩
  obtain ⟨a, c, rfl, hrd, -⟩ := rdAt_of hrow
  exact ⟨f, _, _, a, c, rfl, rfl, rfl, hT, hrow, hrd, hb⟩
theorem keys_at (A : KApi PAt Rm) (h : PAt w N p T B X F) (hr : Rm T B X) (hT : Tab T B f) (hks : keysT f 32768 = ks) (hz : ks.length = z) :
    Calls Try.prog 21 #[.pointer (some ⟨p, 0, none⟩)] w fun e w' => ∃ a c, e = .returned (.slice a z c) ∧ Rt.RdAt w' a ks ∧ (∀ g o, a = some ⟨g, o, none⟩ → w.heap.size ≤ g ∧ g < w'.heap.size) ∧ Below w.heap.size w w' := by
  subst hks; subst hz
  refine (keys_first A h hr).mono ?_
  rintro e w' ⟨g, a, c, rfl, hTg, hrd, hn, hb⟩
  have e : g = f := hTg.eq hT fun _ => Iff.rfl
  subst e
  exact ⟨a, c, rfl, hrd, hn, hb⟩
theorem doc_at (h : DocAt w N p l2 vt vb vx) (hl : l2.length < 2748779069440) (hT : Tab (toldL l2) (boxL l2) f) (hks : keysT f 32768 = ks) (hz : ks.length = z) :
    Calls Try.prog 22 #[.pointer (some ⟨p, 0, none⟩)] w fun e w' => ∃ a c, e = .returned (.slice a z c) ∧ Rt.RdAt w' a ks ∧ (∀ g o, a = some ⟨g, o, none⟩ → w.heap.size ≤ g ∧ g < w'.heap.size) ∧ Below w.heap.size w w' := by
  subst hks; subst hz
  refine (h.keys hl).mono ?_
  rintro e w' ⟨v, g, rfl, hTg, hrow, hb⟩
  have e : g = f := hTg.eq hT fun _ => Iff.rfl
  subst e
  obtain ⟨a, c, rfl, hrd, hn⟩ := rdAt_of hrow
  exact ⟨a, c, rfl, hrd, hn, hb⟩
theorem same_z (a a' : Option Addr) (c c' : Nat) (w : World) (hks : keysT f 32768 = ks) (hz : ks.length = z) (h1 : Rt.RdAt w a ks) (h2 : Rt.RdAt w a' ks) :
    Calls Try.prog 20 #[.slice a z c, .slice a' z c'] w fun e w' => e = .returned (.bool true) ∧ Below w.heap.size w w' := by
  subst hks; subst hz
  exact Rt.same_any a a' c c' _ w (by have := keysT_len (f := f) 32768; omega) h1 h2
end
set_option maxRecDepth 100000 in
set_option maxHeartbeats 60000000 in
theorem apart_walk {PAt : PPred} {Rm : RPred} (A : KApi PAt Rm) (a : Option Addr) (c : Nat) (l : List Op9) (a2 : Option Addr) (d : Nat) (q : List Op9) (w : World) (rd : RdO w a l) (hl : l.length * 80 ≤ 140737488351232) (ok : ∀ p ∈ l, OkO p) (rq : RdO w a2 q) (hlq : q.length * 80 ≤ 140737488351232) (okq : ∀ p ∈ q, OkO p) :
    Calls Try.prog 8 #[.slice a l.length c, .slice a2 q.length d] w fun e w' => e = .returned (.bool true) ∧ Below w.heap.size w w' := by
  obtain ⟨n, hn⟩ : ∃ n, l.length = n := ⟨_, rfl⟩
  obtain ⟨m, hm⟩ : ∃ m, q.length = m := ⟨_, rfl⟩
  have HL : Hid (l.length = n ∧ (∀ p ∈ l, OkO p) ∧ RdO w a l) := ⟨hn, ok, rd⟩
  have HM : Hid (q.length = m ∧ (∀ p ∈ q, OkO p) ∧ RdO w a2 q) := ⟨hm, okq, rq⟩
  have hn2 : n * 80 ≤ 140737488351232 := by omega
  have hm2 : m * 80 ≤ 140737488351232 := by omega
  rw [hn, hm]
  obtain ⟨i0, hi, hz0, hz1, hz2⟩ := info_parts infoKey
  have hlv := fun W => lives_any A W
  have hnw := fun W => A.new W
  clear hn hm ok rd hl rq hlq okq
  go_enter Try.func8, Try.ntmps8
  go_wp2_with fail
  refine (hlv _).mono ?_
  rintro r w1 ⟨rfl, hb1⟩
  go_upto_region 4 with (go_at_call 10; refine (hnw _).mono ?_; rintro r w2 ⟨p, F, rfl, hP, hb2⟩)
  obtain ⟨N, hN⟩ : ∃ N, w1.heap.size = N := ⟨_, rfl⟩
  rw [hN] at hP
  have hT := Pl.start (l := []) A hP (by rw [← hN]; exact hb2.size)
  have HB3 : Hid (Below w.heap.size w (w2.alloc (.cells #[.slice none 0 0, .slice none 0 0, .slice none 0 0] 31)) ∧ w.heap.size ≤ N) := ⟨Rt.Below.then hb1 (Rt.Below.then hb2 (Rt.below1 _ _)), by rw [← hN]; exact hb1.size⟩
  obtain ⟨p2, hp2⟩ : ∃ p2, w2.heap.size = p2 := ⟨_, rfl⟩
  rw [hp2] at hT ⊢
  obtain ⟨N2, hN2⟩ : ∃ N2, N2 = p2 := ⟨_, rfl⟩
  have hT : Pl PAt (w2.alloc (.cells #[.slice none 0 0, .slice none 0 0, .slice none 0 0] 31)) (w2.alloc (.cells #[.slice none 0 0, .slice none 0 0, .slice none 0 0] 31)) N N2 p p2 [] [] F (.slice none 0 0) (.slice none 0 0) (.slice none 0 0) := by rw [hN2]; exact hT
  generalize w2.alloc (.cells #[.slice none 0 0, .slice none 0 0, .slice none 0 0] 31) = w3 at *
  have HT0 : Hid (Pl PAt w3 w3 N N2 p p2 [] [] F (.slice none 0 0) (.slice none 0 0) (.slice none 0 0)) := hT
  have HBF : Hid (∀ W, Below N w3 W → Below w.heap.size w W) := fun W h => HB3.out.1.trans (h.mono HB3.out.2)
  clear hlv hnw hb1 hb2 hP hN hp2 hN2 hT
  go_wp2_with fail
  go_loopw [26] (fun i wx => ∃ (k : Nat) (F : Nat → Prop) (vt vb vx : Value), k ≤ n ∧ i = .int .i64 (k : Int) ∧ Pl PAt w3 wx N N2 p p2 (l.take k) (l.take k) F vt vb vx) (fun i _ => n - (intOf i).toNat)
  case atStart => exact ⟨0, F, _, _, _, by omega, rfl, HT0.out⟩
  case round =>
    obtain ⟨k, F, vt, vb, vx, hk, rfl, hT⟩ := hrel
    clear HT0
    have HT : Hid (Pl PAt w3 wr N N2 p p2 (l.take k) (l.take k) F vt vb vx) := hT
    clear hT
    by_cases hkn : k < n
    · have hkl : k < l.length := by rw [HL.out.1]; exact hkn
      obtain ⟨o, ho⟩ : ∃ o, l.getD k zO = o := ⟨_, rfl⟩
      have hko := HL.out.2.1 o (ho ▸ getD_of hkl)
      obtain ⟨b', f', ha, c0, c1, c2, c3, c4, c5, c6, c7, c8⟩ := ops_cells (HL.out.2.2.later (HBF.out _ HT.out.bel)) hkl ho
      subst ha
      have HO : Hid (l.getD k zO = o) := ho
      obtain ⟨kd, ⟨⟨ub, us⟩, lb, ls⟩, ep, ⟨s0, s1⟩, tx⟩ := o
      dsimp only at c0 c1 c2 c3 c4 c5 c6 c7 c8
      have HOK : Hid (OkO (kd, (((ub, us), (lb, ls)), (ep, ((s0, s1), tx))))) := hko
      obtain ⟨y0, y1, y2, y3, y4, y5, y6, y7, y8⟩ := boxed9 wr (.int .i64 kd) (.int .i64 ub) (.int .i64 us) (.int .i64 lb) (.int .i64 ls) (.int .i64 ep) (.int .i64 s0) (.int .i64 s1) (.string tx) 39
      have hyb := _root_.Go.heap_alloc_last wr (.cells #[.int .i64 kd, .int .i64 ub, .int .i64 us, .int .i64 lb, .int .i64 ls, .int .i64 ep, .int .i64 s0, .int .i64 s1, .string tx] 39)
      have k1 : (0 : Int) ≤ (k : Int) := by omega
      have k2 : (k : Int) < (n : Int) := by omega
      clear hkl ho hko
      have HTK : Hid (l.take (k + 1) = l.take k ++ [(kd, (((ub, us), (lb, ls)), (ep, ((s0, s1), tx))))]) := by show _ = _; rw [take_snoc' (by rw [HL.out.1]; exact hkn), HO.out]
      have hln : (l.take k).length < 2748779069440 := by rw [List.length_take]; omega
      have hT1 := HT.out.later A (Rt.below1 wr (.cells #[.int .i64 kd, .int .i64 ub, .int .i64 us, .int .i64 lb, .int .i64 ls, .int .i64 ep, .int .i64 s0, .int .i64 s1, .string tx] 39))
      have hdo := do_any A (wr.alloc (.cells #[.int .i64 kd, .int .i64 ub, .int .i64 us, .int .i64 lb, .int .i64 ls, .int .i64 ep, .int .i64 s0, .int .i64 s1, .string tx] 39)) N p (l.take k) F kd ub us lb ls ep s0 s1 tx hT1.a (Nat.le_trans hT1.nn hT1.sz) hln HOK.out
      have hnF : ¬ F wr.heap.size ∧ ¬ Fk p2 vt vb vx wr.heap.size := ⟨fun e => by have := (A.ge HT.out.a _ e).2; omega, fun e => by have := HT.out.b.lt _ e; omega⟩
      have HLN : Hid ((l.take k).length < 2748779069440) := hln
      clear hln HT HO
      go_upto_region 7 with (fail)
      clear c0 c1 c2 c3 c4 c5 c6 c7 c8 k1 k2
      obtain ⟨P, hP⟩ : ∃ P, wr.heap.size = P := ⟨_, rfl⟩
      rw [hP] at y0 y1 y2 y3 y4 y5 y6 y7 y8 hnF hyb ⊢
      generalize wr.alloc (.cells #[.int .i64 kd, .int .i64 ub, .int .i64 us, .int .i64 lb, .int .i64 ls, .int .i64 ep, .int .i64 s0, .int .i64 s1, .string tx] 39) = wB at *
      have HTB : Hid (Pl PAt w3 wB N N2 p p2 (l.take k) (l.take k) F vt vb vx) := hT1
      have HP : Hid (¬ F P ∧ ¬ Fk p2 vt vb vx P ∧ wB.heap[P]? = some (.cells #[.int .i64 kd, .int .i64 ub, .int .i64 us, .int .i64 lb, .int .i64 ls, .int .i64 ep, .int .i64 s0, .int .i64 s1, .string tx] 39 (0, 0))) := ⟨hnF.1, hnF.2, hyb⟩
      clear hT1 hP hnF hyb
      go_upto_region 8 with (go_at_call 11; refine hdo.mono ?_; rintro r wd ⟨rfl, hd⟩)
      obtain ⟨F', hU⟩ := HTB.out.one A hd
      have hkd : Kept F wB wd := by obtain ⟨_, _, h2, _⟩ := hd; exact h2
      have hyb : wd.heap[P]? = some (.cells #[.int .i64 kd, .int .i64 ub, .int .i64 us, .int .i64 lb, .int .i64 ls, .int .i64 ep, .int .i64 s0, .int .i64 s1, .string tx] 39 (0, 0)) := (hkd.block P (Array.getElem?_eq_some_iff.1 HP.out.2.2).1 HP.out.1).trans HP.out.2.2
      have HU : Hid (Pl PAt w3 wd N N2 p p2 (l.take k ++ [(kd, (((ub, us), (lb, ls)), (ep, ((s0, s1), tx))))]) (l.take k) F' vt vb vx) := hU
      have hmd := model_any wd N2 p2 (l.take k) vt vb vx kd ub us lb ls ep s0 s1 tx hU.b hU.sz HLN.out HOK.out.2.2.2.2.2
      clear hdo hd hU hkd y0 y1 y2 y3 y4 y5 y6 y7 y8 HTB HP
      have y0 : wd.cell? ⟨P, 0, none⟩ = some (.int .i64 kd) := cell_of_row _ _ 0 _ _ _ hyb
      have y1 : wd.cell? ⟨P, 1, none⟩ = some (.int .i64 ub) := cell_of_row _ _ 1 _ _ _ hyb
      have y2 : wd.cell? ⟨P, 2, none⟩ = some (.int .i64 us) := cell_of_row _ _ 2 _ _ _ hyb
      have y3 : wd.cell? ⟨P, 3, none⟩ = some (.int .i64 lb) := cell_of_row _ _ 3 _ _ _ hyb
      have y4 : wd.cell? ⟨P, 4, none⟩ = some (.int .i64 ls) := cell_of_row _ _ 4 _ _ _ hyb
      have y5 : wd.cell? ⟨P, 5, none⟩ = some (.int .i64 ep) := cell_of_row _ _ 5 _ _ _ hyb
      have y6 : wd.cell? ⟨P, 6, none⟩ = some (.int .i64 s0) := cell_of_row _ _ 6 _ _ _ hyb
      have y7 : wd.cell? ⟨P, 7, none⟩ = some (.int .i64 s1) := cell_of_row _ _ 7 _ _ _ hyb
      have y8 : wd.cell? ⟨P, 8, none⟩ = some (.string tx) := cell_of_row _ _ 8 _ _ _ hyb
      clear hyb
      go_upto_region 9 with (go_at_call 12; refine hmd.mono ?_; rintro r we ⟨rfl, hd⟩)
      obtain ⟨ut, ubb, ux, hV⟩ := HU.out.two A hd
      rw [← HTK.out] at hV
      have HV : Hid (Pl PAt w3 we N N2 p p2 (l.take (k + 1)) (l.take (k + 1)) F' ut ubb ux) := hV
      clear hmd hd hV y0 y1 y2 y3 y4 y5 y6 y7 y8 HU HTK
      go_wp2_with fail
      go_roundw
      case rel => exact ⟨k + 1, F', ut, ubb, ux, by omega, by go_num, HV.out⟩
      case measure => simp [intOf]; omega
    · obtain rfl : k = n := by omega
      have dkk : decide ((k : Int) < (k : Int)) = false := by simp
      have hT : Pl PAt w3 wr N N2 p p2 l l F vt vb vx := by have h := HT.out; rw [List.take_of_length_le (by have := HL.out.1; omega)] at h; exact h
      have HT2 : Hid (Pl PAt w3 wr N N2 p p2 l l F vt vb vx) := hT
      have HLN : Hid (l.length < 2748779069440) := by show _ < _; have := HL.out.1; omega
      have HRM : Hid (Rm (toldL l) (boxL l) (txtL l)) := A.rm l HLN.out
      have hca := A.copy HT2.out.a HRM.out
      have hcd := fun W (hW : Below wr.heap.size wr W) => (HT2.out.b.later hW).copy HLN.out
      have hb0 := Below.refl wr.heap.size wr
      clear hk hkn HT hT
      go_upto_region 11 with (first
        | (go_at_call 30; refine (hcd _ hb2).mono ?_; rintro r w5 ⟨p4, ut, ub, ux, rfl, hD, hb3⟩)
        | (go_at_call 29; refine hca.mono ?_; rintro r w4 ⟨p3, F3, rfl, hC, hb2⟩))
      have hF := Fo.start (l3 := l) (l4 := l) A HT2.out hb2 hC hb3 hD
      obtain ⟨N3, hN3⟩ : ∃ N3, wr.heap.size = N3 := ⟨_, rfl⟩
      obtain ⟨N4, hN4⟩ : ∃ N4, w4.heap.size = N4 := ⟨_, rfl⟩
      rw [hN3, hN4] at hF
      have HF0 : Hid (Fo PAt N w3 w5 N N2 p p2 l l F vt vb vx N3 N4 p3 p4 l l F3 ut ub ux) := hF
      clear hca hcd hC hD hF hb0 hb2 hb3 hN3 hN4 dkk HT2 HRM
      go_upto_region 14 with (fail)
      go_wp2_with fail
      go_loopw [45] (fun i wx => ∃ (j : Nat) (F : Nat → Prop) (vt vb vx : Value) (F3 : Nat → Prop) (ut ub ux : Value), j ≤ m ∧ i = .int .i64 (j : Int) ∧ Fo PAt N w3 wx N N2 p p2 (l ++ evn q j) (l ++ evn q j) F vt vb vx N3 N4 p3 p4 (l ++ odn q j) (l ++ odn q j) F3 ut ub ux) (fun i _ => m - (intOf i).toNat)
      case atStart => exact ⟨0, F, vt, vb, vx, F3, ut, ub, ux, by omega, rfl, by simpa [evn, odn] using HF0.out⟩
      case round =>
        obtain ⟨j, F, vt, vb, vx, F3, ut, uub, ux, hj, rfl, hT⟩ := hrel
        clear HF0
        have HT : Hid (Fo PAt N w3 wr N N2 p p2 (l ++ evn q j) (l ++ evn q j) F vt vb vx N3 N4 p3 p4 (l ++ odn q j) (l ++ odn q j) F3 ut uub ux) := hT
        clear hT
        by_cases hkn : j < m
        · have hkl : j < q.length := by rw [HM.out.1]; exact hkn
          obtain ⟨o, ho⟩ : ∃ o, q.getD j zO = o := ⟨_, rfl⟩
          have hko := HM.out.2.1 o (ho ▸ getD_of hkl)
          obtain ⟨b', f', ha, c0, c1, c2, c3, c4, c5, c6, c7, c8⟩ := ops_cells (HM.out.2.2.later (HBF.out _ HT.out.bel)) hkl ho
          subst ha
          have HO : Hid (q.getD j zO = o) := ho
          obtain ⟨kd, ⟨⟨ub, us⟩, lb, ls⟩, ep, ⟨s0, s1⟩, tx⟩ := o
          dsimp only at c0 c1 c2 c3 c4 c5 c6 c7 c8
          have HOK : Hid (OkO (kd, (((ub, us), (lb, ls)), (ep, ((s0, s1), tx))))) := hko
          obtain ⟨y0, y1, y2, y3, y4, y5, y6, y7, y8⟩ := boxed9 wr (.int .i64 kd) (.int .i64 ub) (.int .i64 us) (.int .i64 lb) (.int .i64 ls) (.int .i64 ep) (.int .i64 s0) (.int .i64 s1) (.string tx) 39
          have hyb := _root_.Go.heap_alloc_last wr (.cells #[.int .i64 kd, .int .i64 ub, .int .i64 us, .int .i64 lb, .int .i64 ls, .int .i64 ep, .int .i64 s0, .int .i64 s1, .string tx] 39)
          have k1 : (0 : Int) ≤ (j : Int) := by omega
          have k2 : (j : Int) < (m : Int) := by omega
          clear hkl ho hko
          have HLN : Hid ((l ++ evn q j).length < 2748779069440 ∧ (l ++ odn q j).length < 2748779069440) := by
            have h1 := evn_len q j
            have h2 := odn_len q j
            have h3 := HL.out.1
            constructor <;> (rw [List.length_append]; omega)
          have hT1 := HT.out.later A (Rt.below1 wr (.cells #[.int .i64 kd, .int .i64 ub, .int .i64 us, .int .i64 lb, .int .i64 ls, .int .i64 ep, .int .i64 s0, .int .i64 s1, .string tx] 39))
          have hnF : ¬ Fo.All F p2 vt vb vx F3 p4 ut uub ux wr.heap.size := fun e => by have := Fo.lt A HT.out _ e; omega
          clear HT
          go_upto_region 16 with (fail)
          clear c0 c1 c2 c3 c4 c5 c6 c7 c8 k1 k2
          obtain ⟨P, hP⟩ : ∃ P, wr.heap.size = P := ⟨_, rfl⟩
          rw [hP] at y0 y1 y2 y3 y4 y5 y6 y7 y8 hnF hyb ⊢
          generalize wr.alloc (.cells #[.int .i64 kd, .int .i64 ub, .int .i64 us, .int .i64 lb, .int .i64 ls, .int .i64 ep, .int .i64 s0, .int .i64 s1, .string tx] 39) = wB at *
          have HTB : Hid (Fo PAt N w3 wB N N2 p p2 (l ++ evn q j) (l ++ evn q j) F vt vb vx N3 N4 p3 p4 (l ++ odn q j) (l ++ odn q j) F3 ut uub ux) := hT1
          have HP : Hid (¬ Fo.All F p2 vt vb vx F3 p4 ut uub ux P ∧ wB.heap[P]? = some (.cells #[.int .i64 kd, .int .i64 ub, .int .i64 us, .int .i64 lb, .int .i64 ls, .int .i64 ep, .int .i64 s0, .int .i64 s1, .string tx] 39 (0, 0))) := ⟨hnF, hyb⟩
          clear hT1 hP hnF hyb
          by_cases hpar : j % 2 = 0
          · have HE : Hid (evn q (j + 1) = evn q j ++ [(kd, (((ub, us), (lb, ls)), (ep, ((s0, s1), tx))))] ∧ odn q (j + 1) = odn q j) := by
              constructor
              · show (if j % 2 = 0 then evn q j ++ [q.getD j zO] else evn q j) = _
                rw [if_pos hpar, HO.out]
              · show (if j % 2 = 0 then odn q j else odn q j ++ [q.getD j zO]) = _
                rw [if_pos hpar]
            have hp0 : (j : Int).tmod 2 = 0 := by rw [Int.tmod_eq_emod_of_nonneg (by omega)]; omega
            have hdo := do_any A wB N p (l ++ evn q j) F kd ub us lb ls ep s0 s1 tx HTB.out.a HTB.out.sz.1 HLN.out.1 HOK.out
            clear HO hpar
            go_upto_region 18 with (go_at_call 11; refine hdo.mono ?_; rintro r wd ⟨rfl, hd⟩)
            obtain ⟨F', hU⟩ := HTB.out.one A hd
            have hkd : Kept F wB wd := by obtain ⟨_, _, h2, _⟩ := hd; exact h2
            have hyb : wd.heap[P]? = some (.cells #[.int .i64 kd, .int .i64 ub, .int .i64 us, .int .i64 lb, .int .i64 ls, .int .i64 ep, .int .i64 s0, .int .i64 s1, .string tx] 39 (0, 0)) := (hkd.block P (Array.getElem?_eq_some_iff.1 HP.out.2).1 (fun e => HP.out.1 (.inl e))).trans HP.out.2
            have HU : Hid (Fo PAt N w3 wd N N2 p p2 (l ++ evn q j ++ [(kd, (((ub, us), (lb, ls)), (ep, ((s0, s1), tx))))]) (l ++ evn q j) F' vt vb vx N3 N4 p3 p4 (l ++ odn q j) (l ++ odn q j) F3 ut uub ux) := hU
            have hmd := model_any wd N2 p2 (l ++ evn q j) vt vb vx kd ub us lb ls ep s0 s1 tx hU.b hU.sz.2.1 HLN.out.1 HOK.out.2.2.2.2.2
            clear hdo hd hU hkd y0 y1 y2 y3 y4 y5 y6 y7 y8 HTB HP
            have y0 : wd.cell? ⟨P, 0, none⟩ = some (.int .i64 kd) := cell_of_row _ _ 0 _ _ _ hyb
            have y1 : wd.cell? ⟨P, 1, none⟩ = some (.int .i64 ub) := cell_of_row _ _ 1 _ _ _ hyb
            have y2 : wd.cell? ⟨P, 2, none⟩ = some (.int .i64 us) := cell_of_row _ _ 2 _ _ _ hyb
            have y3 : wd.cell? ⟨P, 3, none⟩ = some (.int .i64 lb) := cell_of_row _ _ 3 _ _ _ hyb
            have y4 : wd.cell? ⟨P, 4, none⟩ = some (.int .i64 ls) := cell_of_row _ _ 4 _ _ _ hyb
            have y5 : wd.cell? ⟨P, 5, none⟩ = some (.int .i64 ep) := cell_of_row _ _ 5 _ _ _ hyb
            have y6 : wd.cell? ⟨P, 6, none⟩ = some (.int .i64 s0) := cell_of_row _ _ 6 _ _ _ hyb
            have y7 : wd.cell? ⟨P, 7, none⟩ = some (.int .i64 s1) := cell_of_row _ _ 7 _ _ _ hyb
            have y8 : wd.cell? ⟨P, 8, none⟩ = some (.string tx) := cell_of_row _ _ 8 _ _ _ hyb
            clear hyb
            go_upto_region 21 with (go_at_call 12; refine hmd.mono ?_; rintro r we ⟨rfl, hd⟩)
            obtain ⟨vt', vb', vx', hV⟩ := HU.out.two A hd
            rw [List.append_assoc, ← HE.out.1, ← HE.out.2] at hV
            have HV : Hid (Fo PAt N w3 we N N2 p p2 (l ++ evn q (j + 1)) (l ++ evn q (j + 1)) F' vt' vb' vx' N3 N4 p3 p4 (l ++ odn q (j + 1)) (l ++ odn q (j + 1)) F3 ut uub ux) := hV
            clear hmd hd hV y0 y1 y2 y3 y4 y5 y6 y7 y8 HU HE
            go_wp2_with fail
            go_roundw
            case rel => exact ⟨j + 1, F', vt', vb', vx', F3, ut, uub, ux, by omega, by go_num, HV.out⟩
            case measure => simp [intOf]; omega
          · have HE : Hid (odn q (j + 1) = odn q j ++ [(kd, (((ub, us), (lb, ls)), (ep, ((s0, s1), tx))))] ∧ evn q (j + 1) = evn q j) := by
              constructor
              · show (if j % 2 = 0 then odn q j else odn q j ++ [q.getD j zO]) = _
                rw [if_neg hpar, HO.out]
              · show (if j % 2 = 0 then evn q j ++ [q.getD j zO] else evn q j) = _
                rw [if_neg hpar]
            have hp0 : (j : Int).tmod 2 = 1 := by rw [Int.tmod_eq_emod_of_nonneg (by omega)]; omega
            have hdo := do_any A wB N3 p3 (l ++ odn q j) F3 kd ub us lb ls ep s0 s1 tx HTB.out.c HTB.out.sz.2.2.1 HLN.out.2 HOK.out
            clear HO hpar
            go_upto_region 20 with (go_at_call 11; refine hdo.mono ?_; rintro r wd ⟨rfl, hd⟩)
            obtain ⟨F', hU⟩ := HTB.out.three A hd
            have hkd : Kept F3 wB wd := by obtain ⟨_, _, h2, _⟩ := hd; exact h2
            have hyb : wd.heap[P]? = some (.cells #[.int .i64 kd, .int .i64 ub, .int .i64 us, .int .i64 lb, .int .i64 ls, .int .i64 ep, .int .i64 s0, .int .i64 s1, .string tx] 39 (0, 0)) := (hkd.block P (Array.getElem?_eq_some_iff.1 HP.out.2).1 (fun e => HP.out.1 (.inr (.inr (.inl e))))).trans HP.out.2
            have HU : Hid (Fo PAt N w3 wd N N2 p p2 (l ++ evn q j) (l ++ evn q j) F vt vb vx N3 N4 p3 p4 (l ++ odn q j ++ [(kd, (((ub, us), (lb, ls)), (ep, ((s0, s1), tx))))]) (l ++ odn q j) F' ut uub ux) := hU
            have hmd := model_any wd N4 p4 (l ++ odn q j) ut uub ux kd ub us lb ls ep s0 s1 tx hU.d hU.sz.2.2.2 HLN.out.2 HOK.out.2.2.2.2.2
            clear hdo hd hU hkd y0 y1 y2 y3 y4 y5 y6 y7 y8 HTB HP
            have y0 : wd.cell? ⟨P, 0, none⟩ = some (.int .i64 kd) := cell_of_row _ _ 0 _ _ _ hyb
            have y1 : wd.cell? ⟨P, 1, none⟩ = some (.int .i64 ub) := cell_of_row _ _ 1 _ _ _ hyb
            have y2 : wd.cell? ⟨P, 2, none⟩ = some (.int .i64 us) := cell_of_row _ _ 2 _ _ _ hyb
            have y3 : wd.cell? ⟨P, 3, none⟩ = some (.int .i64 lb) := cell_of_row _ _ 3 _ _ _ hyb
            have y4 : wd.cell? ⟨P, 4, none⟩ = some (.int .i64 ls) := cell_of_row _ _ 4 _ _ _ hyb
            have y5 : wd.cell? ⟨P, 5, none⟩ = some (.int .i64 ep) := cell_of_row _ _ 5 _ _ _ hyb
            have y6 : wd.cell? ⟨P, 6, none⟩ = some (.int .i64 s0) := cell_of_row _ _ 6 _ _ _ hyb
            have y7 : wd.cell? ⟨P, 7, none⟩ = some (.int .i64 s1) := cell_of_row _ _ 7 _ _ _ hyb
            have y8 : wd.cell? ⟨P, 8, none⟩ = some (.string tx) := cell_of_row _ _ 8 _ _ _ hyb
            clear hyb
            go_upto_region 21 with (go_at_call 12; refine hmd.mono ?_; rintro r we ⟨rfl, hd⟩)
            obtain ⟨ut', ub', ux', hV⟩ := HU.out.four A hd
            rw [List.append_assoc, ← HE.out.1, ← HE.out.2] at hV
            have HV : Hid (Fo PAt N w3 we N N2 p p2 (l ++ evn q (j + 1)) (l ++ evn q (j + 1)) F vt vb vx N3 N4 p3 p4 (l ++ odn q (j + 1)) (l ++ odn q (j + 1)) F' ut' ub' ux') := hV
            clear hmd hd hV y0 y1 y2 y3 y4 y5 y6 y7 y8 HU HE
            go_wp2_with fail
            go_roundw
            case rel => exact ⟨j + 1, F, vt, vb, vx, F', ut', ub', ux', by omega, by go_num, HV.out⟩
            case measure => simp [intOf]; omega
        · obtain rfl : j = m := by omega
          have djj : decide ((j : Int) < (j : Int)) = false := by simp
          obtain ⟨le, hle⟩ : ∃ le, l ++ evn q j = le := ⟨_, rfl⟩
          obtain ⟨lo, hlo⟩ : ∃ lo, l ++ odn q j = lo := ⟨_, rfl⟩
          have HLN : Hid (le.length < 2748779069440 ∧ lo.length < 2748779069440) := by
            have h1 := evn_len q j
            have h2 := odn_len q j
            have h3 := HL.out.1
            rw [← hle, ← hlo]
            constructor <;> (rw [List.length_append]; omega)
          have hT := HT.out
          rw [hle, hlo] at hT
          have HF : Hid (Fo PAt N w3 wr N N2 p p2 le le F vt vb vx N3 N4 p3 p4 lo lo F3 ut uub ux) := hT
          have HRM : Hid (Rm (toldL le) (boxL le) (txtL le) ∧ Rm (toldL lo) (boxL lo) (txtL lo)) := ⟨A.rm le HLN.out.1, A.rm lo HLN.out.2⟩
          clear hT HT hle hlo hj hkn
          have hk1 := keys_own A HF.out.a HRM.out.1
          have hk2 := fun W (hW : Below wr.heap.size wr W) f ks z (hT : Tab (toldL le) (boxL le) f) (hks : keysT f 32768 = ks) (hz : ks.length = z) => keys_at A (A.later HF.out.a hW) HRM.out.1 hT hks hz
          have hkd := fun W (hW : Below wr.heap.size wr W) f ks z (hT : Tab (toldL le) (boxL le) f) (hks : keysT f 32768 = ks) (hz : ks.length = z) => doc_at (HF.out.b.later hW) HLN.out.1 hT hks hz
          go_upto_region 23 with (first
            | (go_at_call 21; refine (hk2 _ hb5 f ks z hT5 hks hz).mono ?_; rintro r w6 ⟨bk, cb, rfl, hrb, hnb, hb6⟩)
            | (go_at_call 21; refine hk1.mono ?_; rintro r w5 ⟨f, ks, z, ak, ca, hks, hz, rfl, hT5, hra, hrk, hb5⟩))
          have hb56 := Rt.Below.then hb5 hb6
          clear hk1 hk2
          go_upto_region 24 with (go_at_call 22; refine (hkd _ hb56 f ks z hT5 hks hz).mono ?_; rintro r w7 ⟨wk, cw, rfl, hrw, hnw, hb7⟩)
          have hb67 := Rt.Below.then hb6 hb7
          have hb57 := Rt.Below.then hb56 hb7
          have hlo : ∀ k, (Value.slice ak z ca).ownBlock = some k → wr.heap.size ≤ k ∧ k < w5.heap.size := fun k e => hra.lt k e
          have hen : Ea PAt N w3 N N2 p p2 le N3 N4 p3 p4 lo ks bk wk (fun k => (Value.slice ak z ca).ownBlock = some k) w7 := by
            refine ⟨⟨F, vt, vb, vx, F3, ut, uub, ux, HF.out.later A hb57, fun k e e' => ?_⟩, hrb.later hb7, hrw, fun g o e e' => ?_, fun g o e e' => ?_, fun k e => ?_⟩
            · have h1 := Fo.lt A HF.out k e; have h2 := (hlo k e').1; omega
            · have h1 := (hnb g o e).1; have h2 := (hlo g e').2; omega
            · have h1 := (hnw g o e).1; have h2 := (hlo g e').2; have h3 := hb6.size; omega
            · have h1 := (hlo k e).1; have h2 := HF.out.mn; have h3 := HF.out.sz; omega
          have HEN : Hid (Ea PAt N w3 N N2 p p2 le N3 N4 p3 p4 lo ks bk wk (fun k => (Value.slice ak z ca).ownBlock = some k) w7) := hen
          have HRA : Hid (w7.ownsRow wr.heap.size 33 2 (.slice ak z ca) z (ks.flatMap kC) ∧ wr.heap.size ≤ w7.heap.size) := ⟨own_later hra hb67, hb57.size⟩
          have HKS : Hid (keysT f 32768 = ks ∧ ks.length = z ∧ Tab (toldL le) (boxL le) f) := ⟨hks, hz, hT5⟩
          have hzb : z ≤ 32768 := by rw [← hz, ← hks]; exact keysT_len _
          have hr7 : Rt.RdAt w7 ak ks ∧ Rt.RdAt w7 bk ks ∧ Rt.RdAt w7 wk ks := ⟨hrk.later hb67, hrb.later hb7, hrw⟩
          have hsm := fun W a1 a2 c1 c2 (h1 : Rt.RdAt W a1 ks) (h2 : Rt.RdAt W a2 ks) => same_z a1 a2 c1 c2 W HKS.out.1 HKS.out.2.1 h1 h2
          have hkc := fun W (hW : Below wr.heap.size wr W) => keys_own A (A.later HF.out.c hW) HRM.out.2
          have hkn := fun W (hW : Below wr.heap.size wr W) f ks z (hT : Tab (toldL lo) (boxL lo) f) (hks : keysT f 32768 = ks) (hz : ks.length = z) => doc_at (HF.out.d.later hW) HLN.out.2 hT hks hz
          clear hkd hrb hnb hb5 hb6 hb56 hrw hnw hb7 hb67 hlo hen hra hrk hT5 hks hz djj
          go_upto_region 26 with (first
            | (go_at_call 20; refine (same_z _ _ _ _ _ hks2 hz2' (hr10.later hb11) hr11).mono ?_; rintro r w12 ⟨rfl, hb12⟩)
            | (go_at_call 22; refine (hkn _ (Rt.Below.then hb57 (Rt.Below.then hb8 (Rt.Below.then hb9 hb10))) f2 ks2 z2 hT10 hks2 hz2').mono ?_; rintro r w11 ⟨a11, c11, rfl, hr11, -, hb11⟩)
            | (go_at_call 21; refine (hkc _ (Rt.Below.then hb57 (Rt.Below.then hb8 hb9))).mono ?_; rintro r w10 ⟨f2, ks2, z2, a10, c10, hks2, hz2', rfl, hT10, -, hr10, hb10⟩)
            | (go_at_call 20; refine (hsm _ _ _ _ _ (hr7.2.1.later hb8) (hr7.2.2.later hb8)).mono ?_; rintro r w9 ⟨rfl, hb9⟩)
            | (go_at_call 20; refine (hsm _ _ _ _ _ hr7.1 hr7.2.2).mono ?_; rintro r w8 ⟨rfl, hb8⟩))
          have hbz := Rt.Below.then hb8 (Rt.Below.then hb9 (Rt.Below.then hb10 (Rt.Below.then hb11 hb12)))
          have HE2 : Hid (Ea PAt N w3 N N2 p p2 le N3 N4 p3 p4 lo ks bk wk (fun k => (Value.slice ak z ca).ownBlock = some k) w12) := HEN.out.later A hbz
          have HR2 : Hid (w12.ownsRow wr.heap.size 33 2 (.slice ak z ca) z (ks.flatMap kC) ∧ wr.heap.size ≤ w12.heap.size) := ⟨own_later HRA.out.1 hbz, Nat.le_trans HRA.out.2 hbz.size⟩
          obtain ⟨S0, hS0⟩ : ∃ S0, wr.heap.size = S0 := ⟨_, rfl⟩
          rw [hS0] at HR2
          clear hkc hkn hr7 hsm hb8 hb9 hb10 hb11 hb12 hr10 hr11 hT10 hks2 hz2' hbz hb57 HEN HRA hS0 HF
          go_wp2_with fail
          go_loopw [92] (fun i wx => ∃ (j : Nat) (xs : List Value), j ≤ z ∧ i = .int .i64 (j : Int) ∧ Ea PAt N w3 N N2 p p2 le N3 N4 p3 p4 lo ks bk wk (fun k => (Value.slice ak z ca).ownBlock = some k) wx ∧ wx.ownsRow S0 33 2 (.slice ak z ca) z xs ∧ S0 ≤ wx.heap.size) (fun i _ => z - (intOf i).toNat)
          case atStart => exact ⟨0, _, by omega, rfl, HE2.out, HR2.out.1, HR2.out.2⟩
          case round =>
            obtain ⟨j2, xs, hj2, rfl, he, hrw, hsz⟩ := hrel
            clear HE2 HR2
            have HE : Hid (Ea PAt N w3 N N2 p p2 le N3 N4 p3 p4 lo ks bk wk (fun k => (Value.slice ak z ca).ownBlock = some k) wr) := he
            have HR : Hid (wr.ownsRow S0 33 2 (.slice ak z ca) z xs ∧ S0 ≤ wr.heap.size) := ⟨hrw, hsz⟩
            clear he hsz
            by_cases hjz : j2 < z
            · obtain ⟨ga, rfl⟩ : ∃ ga, ak = some ⟨ga, 0, none⟩ := by
                rcases hrw.2 with ⟨_, h0⟩ | ⟨g', cap', cur, hv, _⟩
                · omega
                · simp at hv; exact ⟨g', hv.1⟩
              have hxl : xs.length = z * 2 := hrw.1
              have q0 : wr.cell? ⟨ga, j2 * 2, none⟩ = some (xs[j2 * 2]'(by omega)) := by rw [hrw.cellAt (j2 * 2) (by omega)]; exact List.getElem?_eq_getElem _
              have q1 : wr.cell? ⟨ga, j2 * 2 + 1, none⟩ = some (xs[j2 * 2 + 1]'(by omega)) := by rw [hrw.cellAt (j2 * 2 + 1) (by omega)]; exact List.getElem?_eq_getElem _
              have f0 := hrw.frozenAt (j2 * 2)
              have f1 := hrw.frozenAt (j2 * 2 + 1)
              have HST : Hid _ := ((hrw.stored (j2 * 2) (.int .i64 (-1))).1.stored (j2 * 2 + 1) (.int .i64 0)).1
              have i1 : (0 : Int) ≤ (j2 : Int) := by omega
              have i2 : (j2 : Int) < (z : Int) := by omega
              clear hrw
              go_wp2_with fail
              go_roundw
              case rel => exact ⟨j2 + 1, _, by omega, by go_num, HE.out.kept A (((Kept.refl (fun k => (Value.slice (some ⟨ga, 0, none⟩) z ca).ownBlock = some k) _).setCell (p := ⟨ga, j2 * 2, none⟩) (fun _ => rfl) _).setCell (p := ⟨ga, j2 * 2 + 1, none⟩) (fun _ => rfl) _), HST.out, by have := HR.out.2; simpa [World.setCell] using this⟩
              case measure => simp [intOf]; omega
            · have hjz' : decide ((j2 : Int) < (z : Int)) = false := by simp; omega
              have hsz := HR.out.2
              clear hrw hj2
              go_upto_region 32 with (at_builtin; refine wpList_append_lies _ rfl _ _ _ rfl S0 33 i0 _ 2 16 Try.underlying27 hi hz0 hz1 hz2 rfl (by omega) _ z xs rfl (own_later HR.out.1 (Rt.below1 _ _)) ⟨wr.heap.size, 0, none⟩ 1 1 [.int .i64 (-2), .int .i64 0] rfl rfl (news_of (_root_.Go.heap_alloc_last _ _)) (by simp [Value.oneCell']) (by omega) (by unfold maxLen; omega) (by omega) (by simp; omega) (wr.heap.size + 1) (by simp) ?_; intro g7 cap7 w13 hown7 hgrow7 hat7 hlt7)
              have HE3 : Hid (Ea PAt N w3 N N2 p p2 le N3 N4 p3 p4 lo ks bk wk (fun k => (Value.slice ak z ca).ownBlock = some k) w13) := (HE.out.later A (Rt.below1 _ _)).kept A ((Kept.refl (fun k => (Value.slice ak z ca).ownBlock = some k) _).grown hgrow7 (fun k e _ => e))
              clear hown7 hgrow7 hat7 hlt7 HE HR hjz' hjz hsz
              go_wp2_with fail
              go_loopw [106] (fun i wx => ∃ k' : Nat, k' ≤ k ∧ i = .int .i64 (k' : Int) ∧ Below w13.heap.size w13 wx) (fun i _ => k - (intOf i).toNat)
              case atStart => exact ⟨0, by omega, rfl, Below.refl _ _⟩
              case round =>
                obtain ⟨u, hu, rfl, hbw⟩ := hrel
                have HE4 : Hid (Ea PAt N w3 N N2 p p2 le N3 N4 p3 p4 lo ks bk wk (fun k => (Value.slice ak z ca).ownBlock = some k) wr) := HE3.out.later A hbw
                have HBW : Hid (Below w13.heap.size w13 wr) := hbw
                obtain ⟨F, vt, vb, vx, F3, ut, uub, ux, hfo, -⟩ := HE4.out.out
                have HFO : Hid (Fo PAt N w3 wr N N2 p p2 le le F vt vb vx N3 N4 p3 p4 lo lo F3 ut uub ux) := hfo
                clear hbw hfo
                by_cases hkn : u < k
                · have hkl : u < l.length := by rw [HL.out.1]; exact hkn
                  obtain ⟨o, ho⟩ : ∃ o, l.getD u zO = o := ⟨_, rfl⟩
                  have hko := HL.out.2.1 o (ho ▸ getD_of hkl)
                  obtain ⟨b', f', ha, c0, c1, c2, c3, c4, c5, c6, c7, c8⟩ := ops_cells (HL.out.2.2.later (HBF.out _ HFO.out.bel)) hkl ho
                  subst ha
                  have HO : Hid (l.getD u zO = o) := ho
                  obtain ⟨kd, ⟨⟨ub, us⟩, lb, ls⟩, ep, ⟨s0, s1⟩, tx⟩ := o
                  dsimp only at c0 c1 c2 c3 c4 c5 c6 c7 c8
                  have HOK : Hid (OkO (kd, (((ub, us), (lb, ls)), (ep, ((s0, s1), tx))))) := hko
                  obtain ⟨y0, y1, y2, y3, y4, y5, y6, y7, y8⟩ := boxed9 wr (.int .i64 kd) (.int .i64 ub) (.int .i64 us) (.int .i64 lb) (.int .i64 ls) (.int .i64 ep) (.int .i64 s0) (.int .i64 s1) (.string tx) 39
                  have hyb := _root_.Go.heap_alloc_last wr (.cells #[.int .i64 kd, .int .i64 ub, .int .i64 us, .int .i64 lb, .int .i64 ls, .int .i64 ep, .int .i64 s0, .int .i64 s1, .string tx] 39)
                  have k1 : (0 : Int) ≤ (u : Int) := by omega
                  have k2 : (u : Int) < (k : Int) := by omega
                  clear hkl ho hko
                  have hT1 := HFO.out.later A (Rt.below1 wr (.cells #[.int .i64 kd, .int .i64 ub, .int .i64 us, .int .i64 lb, .int .i64 ls, .int .i64 ep, .int .i64 s0, .int .i64 s1, .string tx] 39))
                  have hb1 := Rt.Below.then HBW.out (Rt.below1 wr (.cells #[.int .i64 kd, .int .i64 ub, .int .i64 us, .int .i64 lb, .int .i64 ls, .int .i64 ep, .int .i64 s0, .int .i64 s1, .string tx] 39))
                  clear HO hyb
                  go_upto_region 35 with (fail)
                  clear c0 c1 c2 c3 c4 c5 c6 c7 c8 k1 k2
                  obtain ⟨P, hP⟩ : ∃ P, wr.heap.size = P := ⟨_, rfl⟩
                  rw [hP] at y0 y1 y2 y3 y4 y5 y6 y7 y8 ⊢
                  generalize wr.alloc (.cells #[.int .i64 kd, .int .i64 ub, .int .i64 us, .int .i64 lb, .int .i64 ls, .int .i64 ep, .int .i64 s0, .int .i64 s1, .string tx] 39) = wB at *
                  have HTB : Hid (Fo PAt N w3 wB N N2 p p2 le le F vt vb vx N3 N4 p3 p4 lo lo F3 ut uub ux ∧ Below w13.heap.size w13 wB) := ⟨hT1, hb1⟩
                  obtain ⟨v2, hv2⟩ := bool_of (gb ((ub, us), (lb, ls)) = true ∧ (((ub, us), (lb, ls)) ∈ boxL le ∨ (HadL le (ub, us) ∧ HadL le (lb, ls))))
                  obtain ⟨v3, hv3⟩ := bool_of (gx (ep, ((s0, s1), tx)) = true ∧ ((ep, ((s0, s1), tx)) ∈ txtL lo ∨ HadL lo (s0, s1)))
                  have hm1 := fun W (hW : Below wB.heap.size wB W) => A.makes ub us lb ls (A.later HTB.out.1.a hW) HRM.out.1 HOK.out.2.1 hv2
                  have hm2 := fun W (hW : Below wB.heap.size wB W) => (HTB.out.1.b.later hW).makes HLN.out.1 ub us lb ls hv2
                  have hx1 := fun W (hW : Below wB.heap.size wB W) => A.makesX ep s0 s1 tx (A.later HTB.out.1.c hW) HRM.out.2 HOK.out.2.2 hv3
                  have hx2 := fun W (hW : Below wB.heap.size wB W) => (HTB.out.1.d.later hW).makesX HLN.out.2 ep s0 s1 tx HOK.out.2.2.2.2.2 hv3
                  have hS0 : Below wB.heap.size wB wB.drew := (Below.refl _ _).drew
                  clear hT1 hb1 hP hv2 hv3
                  refine wp_region_held_drew (S := fun W => Below wB.heap.size wB W) (by kernel_rfl) hS0 (fun hHeld => ?_)
                  refine opT 0 110 (.move (.tmp 5)) (.pointer (some ⟨p, 0, none⟩)) rfl ?_
                  go_frame
                  refine opT 1 111 (.fieldAddr 39 (.tmp 18) 1) (.pointer (some ⟨P, 1, none⟩)) rfl ?_
                  go_frame
                  refine opR 2 112 (.load 35 (.tmp 111)) (.agg #[.int .i64 ub, .int .i64 us, .int .i64 lb, .int .i64 ls]) rfl (fun w hSw => by have x1 := cell_later hSw y1; have x2 := cell_later hSw y2; have x3 := cell_later hSw y3; have x4 := cell_later hSw y4; go_simp) ?_
                  go_frame
                  refine opT 4 114 (.move (.tmp 6)) (.pointer (some ⟨p2, 0, none⟩)) rfl ?_
                  go_frame
                  refine opT 5 115 (.fieldAddr 39 (.tmp 18) 1) (.pointer (some ⟨P, 1, none⟩)) rfl ?_
                  go_frame
                  refine opR 6 116 (.load 35 (.tmp 115)) (.agg #[.int .i64 ub, .int .i64 us, .int .i64 lb, .int .i64 ls]) rfl (fun w hSw => by have x1 := cell_later hSw y1; have x2 := cell_later hSw y2; have x3 := cell_later hSw y3; have x4 := cell_later hSw y4; go_simp) ?_
                  go_frame
                  refine wpAnyH_ready (rs := [3]) (by kernel_rfl) (by simp) ?_
                  refine AllReadyH.cons rfl (fun K hK => ?_) AllReadyH.nil
                  go_simp
                  refine (hm1 _ hHeld).mono ?_
                  rintro r wc ⟨rfl, hbc⟩
                  go_wp2_with fail
                  refine hK.out _ _ (Rt.Below.then hHeld hbc) (fun hH1 => ?_)
                  clear hbc hHeld
                  clear hK K
                  try go_frame
                  refine wpAnyH_ready (rs := [7]) (by kernel_rfl) (by simp) ?_
                  refine AllReadyH.cons rfl (fun K hK => ?_) AllReadyH.nil
                  go_simp
                  refine (hm2 _ hH1).mono ?_
                  rintro r wc ⟨rfl, hbc⟩
                  go_wp2_with fail
                  refine hK.out _ _ (Rt.Below.then hH1 hbc) (fun hH2 => ?_)
                  clear hbc hH1
                  clear hK K
                  try go_frame
                  refine opT 8 118 (.binOp .neq 4 (.tmp 113) (.tmp 117) 4) (.bool false) rfl ?_
                  go_frame
                  refine opT 9 119 (.move (.tmp 118)) (.bool false) rfl ?_
                  go_frame
                  refine opTg 10 120 (.move (.tmp 9)) (some (9, false)) (.pointer (some ⟨p3, 0, none⟩)) rfl ?_
                  go_frame
                  refine opTg 11 121 (.fieldAddr 39 (.tmp 18) 2) (some (9, false)) (.pointer (some ⟨P, 5, none⟩)) rfl ?_
                  go_frame
                  refine opRg 12 122 (.load 37 (.tmp 121)) (some (9, false)) (.agg #[.int .i64 ep, .int .i64 s0, .int .i64 s1, .string tx]) rfl (fun w hSw => by have x5 := cell_later hSw y5; have x6 := cell_later hSw y6; have x7 := cell_later hSw y7; have x8 := cell_later hSw y8; go_simp) ?_
                  go_frame
                  refine opTg 14 124 (.move (.tmp 10)) (some (9, false)) (.pointer (some ⟨p4, 0, none⟩)) rfl ?_
                  go_frame
                  refine opTg 15 125 (.fieldAddr 39 (.tmp 18) 2) (some (9, false)) (.pointer (some ⟨P, 5, none⟩)) rfl ?_
                  go_frame
                  refine opRg 16 126 (.load 37 (.tmp 125)) (some (9, false)) (.agg #[.int .i64 ep, .int .i64 s0, .int .i64 s1, .string tx]) rfl (fun w hSw => by have x5 := cell_later hSw y5; have x6 := cell_later hSw y6; have x7 := cell_later hSw y7; have x8 := cell_later hSw y8; go_simp) ?_
                  go_frame
                  refine wpAnyH_ready (rs := [13]) (by kernel_rfl) (by simp) ?_
                  refine AllReadyH.cons rfl (fun K hK => ?_) AllReadyH.nil
                  go_simp
                  refine (hx1 _ hH2).mono ?_
                  rintro r wc ⟨rfl, hbc⟩
                  go_wp2_with fail
                  refine hK.out _ _ (Rt.Below.then hH2 hbc) (fun hH3 => ?_)
                  clear hbc hH2
                  clear hK K
                  try go_frame
                  refine wpAnyH_ready (rs := [17]) (by kernel_rfl) (by simp) ?_
                  refine AllReadyH.cons rfl (fun K hK => ?_) AllReadyH.nil
                  go_simp
                  refine (hx2 _ hH3).mono ?_
                  rintro r wc ⟨rfl, hbc⟩
                  go_wp2_with fail
                  refine hK.out _ _ (Rt.Below.then hH3 hbc) (fun hH4 => ?_)
                  clear hbc hH3
                  clear hK K
                  try go_frame
                  refine opTg 18 128 (.binOp .neq 4 (.tmp 123) (.tmp 127) 4) (some (9, false)) (.bool false) rfl ?_
                  go_frame
                  refine opT 19 129 (.pick (.tmp 119) (.const (.bool true)) (.tmp 128)) (.bool false) rfl ?_
                  go_frame
                  refine wpAnyH_done (by kernel_rfl) ?_ _
                  clear hm1 hm2 hx1 hx2 y0 y1 y2 y3 y4 y5 y6 y7 y8
                  go_wp2_with fail
                  go_roundw
                  case rel => exact ⟨u + 1, by omega, by go_num, Rt.Below.then HTB.out.2 hH4⟩
                  case measure => simp [intOf]; omega
                · obtain rfl : u = k := by omega
                  have duu : decide ((u : Int) < (u : Int)) = false := by simp
                  have hsm := fun W a1 a2 c1 c2 (h1 : Rt.RdAt W a1 ks) (h2 : Rt.RdAt W a2 ks) => same_z a1 a2 c1 c2 W HKS.out.1 HKS.out.2.1 h1 h2
                  have hka := fun W (hW : Below wr.heap.size wr W) => keys_at A (A.later HFO.out.a hW) HRM.out.1 HKS.out.2.2 HKS.out.1 HKS.out.2.1
                  have hwz : IntKind.i64.wrap ((z : Int) + 1) = (z : Int) + 1 := i64_fit _ (by omega) (by omega)
                  have hrr : Rt.RdAt wr bk ks ∧ Rt.RdAt wr wk ks := ⟨HE4.out.rb, HE4.out.rw⟩
                  clear hu hkn
                  go_wp2_with (first
                    | (go_at_call 20; refine (hsm _ _ _ _ _ hr15 ((hrr.2.later hb14).later hb15)).mono ?_; rintro r w16 ⟨rfl, hb16⟩)
                    | (go_at_call 21; refine (hka _ hb14).mono ?_; rintro r w15 ⟨a15, c15, rfl, hr15, -, hb15⟩)
                    | (go_at_call 20; refine (hsm _ _ _ _ _ hrr.1 hrr.2).mono ?_; rintro r w14 ⟨rfl, hb14⟩))
                  go_ret
                  exact ⟨by first | rfl | simp, HBF.out _ (HFO.out.later A (Rt.Below.then hb14 (Rt.Below.then hb15 hb16))).bel⟩
end Go.Proofs.Ytompgoaogomoaaa.Kn
