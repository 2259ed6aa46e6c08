/- Contracts: Stand of both, the document's Card. -/
import Derived.Test.YtpkfpckljpffgaaTrK
namespace Go.Proofs.Ytpkfpckljpffgaa
open Go.RowKit
open Rt (Ky zK kcs KyAt pcs PaAt)
open Rs (En zE rcs RoAt EnAt tkn fnd)
set_option linter.unusedVariables false
set_option linter.unusedSimpArgs false

def caQ (t : Tr) (x : Int) (i : Nat) : Ky := if caE t x = 0 then t.ks (pn (fnd t.ro x).toNat i) else zK
def StandA (t : Tr) (x : Int) : Ending := .returned (.tuple #[.agg (mcs (caW t x) (caS t x) (caP t x) (caK t x) (caQ t x 0) (caQ t x 1) (caQ t x 2) (decide (caE t x = 0))), .int .i64 (caE t x)])
theorem StandA.no {t : Tr} {x e : Int} (h : caE t x = e) (he : e ≠ 0) : Ending.returned (.tuple #[.agg (mcs 0 0 0 zK zK zK zK false), .int .i64 e]) = StandA t x := by
  unfold StandA caW caS caP caK caQ
  rw [h, if_neg he, if_neg he, if_neg he, if_neg he, if_neg he, if_neg he, if_neg he, decide_eq_false he]
theorem StandA.yes {t : Tr} {x : Int} {s : Nat} (h : tck t = true) (h2 : fnd t.ro x = (s : Int)) : Ending.returned (.tuple #[.agg (mcs x s t.ep (koK t (21 + (s : Int))) (t.ks (pn s 0)) (t.ks (pn s 1)) (t.ks (pn s 2)) true), .int .i64 0]) = StandA t x := by
  unfold StandA caW caS caP caK caQ
  rw [caE_ok h h2, if_pos rfl, if_pos rfl, if_pos rfl, if_pos rfl, if_pos rfl, if_pos rfl, if_pos rfl, h2, Int.toNat_natCast]
  rfl
theorem pcs6 (f : Nat → Ky) : pcs f = #[.int .i64 (f 0).bas, .int .i64 (f 0).stp, .int .i64 (f 1).bas, .int .i64 (f 1).stp, .int .i64 (f 2).bas, .int .i64 (f 2).stp] := by kernel_rfl
theorem path_lit {t : Tr} {s : Nat} (h : tck t = true) (hs : s < 64) : PathA t s = .returned (.tuple #[.agg #[.int .i64 (t.ks (pn s 0)).bas, .int .i64 (t.ks (pn s 0)).stp, .int .i64 (t.ks (pn s 1)).bas, .int .i64 (t.ks (pn s 1)).stp, .int .i64 (t.ks (pn s 2)).bas, .int .i64 (t.ks (pn s 2)).stp], .int .i64 0]) := by
  rw [← PathA.yes h hs (f := fun i => t.ks (pn s i)) (fun _ _ => rfl), pcs6]
structure SM (w W : World) (B K : Nat) (t : Tr) : Prop where
  tr : TrAt W B t
  mb : MbAt W K 0 0 0 zK zK zK zK false
  bel : Below w.heap.size w W
  ne : B ≠ K
  ge : w.heap.size ≤ K
theorem SM.later {w W W' : World} {B K : Nat} {t : Tr} (h : SM w W B K t) (hb : Below W.heap.size W W') : SM w W' B K t := ⟨h.tr.later hb, row_later h.mb hb, h.bel.trans (hb.mono h.bel.size), h.ne, h.ge⟩
theorem SM.two {w W : World} {B K : Nat} {t : Tr} (h : SM w W B K t) {A : Nat} (h1 : B ≠ A) (h2 : K ≠ A) (h3 : w.heap.size ≤ A) (a b : Int) : SM w ((W.setCell ⟨A, 0, none⟩ (.int .i64 a)).setCell ⟨A, 1, none⟩ (.int .i64 b)) B K t :=
  ⟨(Rt.set2_other h1 _ _ _ _).trans h.tr, (Rt.set2_other h2 _ _ _ _).trans h.mb, Rt.set2_below h.bel h3 _ _ _ _, h.ne, h.ge⟩
def zM : Array Value := #[.int .i64 0, .int .i64 0, .int .i64 0, .int .i64 0, .int .i64 0, .int .i64 0, .int .i64 0, .int .i64 0, .int .i64 0, .int .i64 0, .int .i64 0, .bool false, .bool false, .int .i64 0]
theorem SM.new (w : World) (t : Tr) : SM w ((w.alloc (.cells (tcs t) 31)).alloc (.cells zM 50)) w.heap.size (w.heap.size + 1) t := by
  have h1 := TrAt.new w t
  have hb1 := alloc_tr w t
  have h2 := heap_alloc_last (w.alloc (.cells (tcs t) 31)) (.cells zM 50)
  have hb2 := below_alloc (w.alloc (.cells (tcs t) 31)) (.cells zM 50)
  rw [World.size_alloc] at h2
  exact ⟨h1.later hb2, h2, hb1.trans (hb2.mono hb1.size), by omega, by omega⟩
theorem CdAt.cells {w : World} {B : Nat} {W S P : Int} {k : Ky} (h : CdAt w B W S P k) : w.cell? ⟨B, 0, none⟩ = some (.int .i64 W) ∧ w.cell? ⟨B, 1, none⟩ = some (.int .i64 S) ∧ w.cell? ⟨B, 2, none⟩ = some (.int .i64 P) ∧ w.cell? ⟨B, 3, none⟩ = some (.int .i64 k.bas) ∧ w.cell? ⟨B, 4, none⟩ = some (.int .i64 k.stp) :=
  ⟨cell_of_row w B 0 _ _ _ h, cell_of_row w B 1 _ _ _ h, cell_of_row w B 2 _ _ _ h, cell_of_row w B 3 _ _ _ h, cell_of_row w B 4 _ _ _ h⟩
theorem MbAt.cells {w : World} {B : Nat} {W S P : Int} {k p q r : Ky} {b : Bool} (h : MbAt w B W S P k p q r b) : w.cell? ⟨B, 0, none⟩ = some (.int .i64 W) ∧ w.cell? ⟨B, 1, none⟩ = some (.int .i64 S) ∧ w.cell? ⟨B, 2, none⟩ = some (.int .i64 P) ∧ w.cell? ⟨B, 3, none⟩ = some (.int .i64 k.bas) ∧ w.cell? ⟨B, 4, none⟩ = some (.int .i64 k.stp) :=
  ⟨cell_of_row w B 0 _ _ _ h, cell_of_row w B 1 _ _ _ h, cell_of_row w B 2 _ _ _ h, cell_of_row w B 3 _ _ _ h, cell_of_row w B 4 _ _ _ h⟩
def p6 (p q r : Ky) : Array Value := #[.int .i64 p.bas, .int .i64 p.stp, .int .i64 q.bas, .int .i64 q.stp, .int .i64 r.bas, .int .i64 r.stp]
def P6At (w : World) (B : Nat) (p q r : Ky) : Prop := w.heap[B]? = some (.cells (p6 p q r) 39 (0, 0))
theorem P6At.cells {w : World} {B : Nat} {p q r : Ky} (h : P6At w B p q r) : w.cell? ⟨B, 0, none⟩ = some (.int .i64 p.bas) ∧ w.cell? ⟨B, 1, none⟩ = some (.int .i64 p.stp) ∧ w.cell? ⟨B, 2, none⟩ = some (.int .i64 q.bas) ∧ w.cell? ⟨B, 3, none⟩ = some (.int .i64 q.stp) ∧ w.cell? ⟨B, 4, none⟩ = some (.int .i64 r.bas) ∧ w.cell? ⟨B, 5, none⟩ = some (.int .i64 r.stp) :=
  ⟨cell_of_row w B 0 _ _ _ h, cell_of_row w B 1 _ _ _ h, cell_of_row w B 2 _ _ _ h, cell_of_row w B 3 _ _ _ h, cell_of_row w B 4 _ _ _ h, cell_of_row w B 5 _ _ _ h⟩
set_option maxRecDepth 100000 in
set_option maxHeartbeats 2000000 in
theorem stand_any (t : Tr) (x : Int) (w : World) : Calls Try.prog 21 #[.agg (tcs t), .int .i64 x] w fun e w' => e = StandA t x ∧ Below w.heap.size w w' := by
  have hS := SM.new w t
  have h1 := card_any t x
  have h2 := fun s => pathOf_any t s
  obtain ⟨ct, hct⟩ : ∃ c, tcs t = c := ⟨_, rfl⟩
  simp only [hct] at h1 h2
  have HT : Hid (tcs t = ct) := hct
  clear hct
  unfold zM at hS
  go_enter Try.func21, Try.ntmps21
  go_upto_region 1 with (fail)
  generalize (w.alloc (.cells (tcs t) 31)).alloc (.cells #[.int .i64 0, .int .i64 0, .int .i64 0, .int .i64 0, .int .i64 0, .int .i64 0, .int .i64 0, .int .i64 0, .int .i64 0, .int .i64 0, .int .i64 0, .bool false, .bool false, .int .i64 0] 50) = w1 at *
  rw [HT.out]
  have hT1 := hS.tr
  obtain ⟨K, hK⟩ : ∃ K, w.heap.size + 1 = K := ⟨_, rfl⟩
  rw [hK] at hS ⊢
  obtain ⟨B, hB⟩ : ∃ B, w.heap.size = B := ⟨_, rfl⟩
  rw [hB] at hS hT1 ⊢
  clear hK hB
  cases hck : tck t with
  | false =>
    have HE : Hid (caE t x = 31) := caE_bad hck
    rw [← CardA.no (caE_bad hck) (by decide)] at h1
    unfold ccs at h1
    go_wp2_with (refine rdT hT1 HT.out _ rfl rfl rfl ?_)
    refine (h1 _).mono ?_
    rintro r w2 ⟨rfl, hb2⟩
    have hS2 := (hS.later hb2).later (below_alloc w2 (.cells #[.int .i64 0, .int .i64 0, .int .i64 0, .int .i64 0, .int .i64 0] 46))
    clear h1 h2 hS hT1 hb2
    go_wp2_with (refine stRow infoMb (cs := mcs 0 0 0 zK zK zK zK false) rfl hS2.mb (mcs 0 0 0 zK zK zK zK false) rfl (mcs_one _ _ _ _ _ _ _ _) rfl _ _ rfl rfl rfl ?_)
    refine bodyPost_ret (resRow (p := 4) (t := 5) rfl _ _ K (mcs 0 0 0 zK zK zK zK false) rfl (MbAt.row hS2.mb 0 0 0 zK zK zK zK false).var) rfl ?_
    exact ⟨StandA.no HE.out (by decide), Rt.setRow_below hS2.ge hS2.bel _⟩
  | true =>
    rcases fnd_at t.ro x with hf | ⟨s, hs8, hf, ht, hw⟩
    · have HE : Hid (caE t x = 16) := caE_off hck hf
      rw [← CardA.no (caE_off hck hf) (by decide)] at h1
      unfold ccs at h1
      go_wp2_with (refine rdT hT1 HT.out _ rfl rfl rfl ?_)
      refine (h1 _).mono ?_
      rintro r w2 ⟨rfl, hb2⟩
      have hS2 := (hS.later hb2).later (below_alloc w2 (.cells #[.int .i64 0, .int .i64 0, .int .i64 0, .int .i64 0, .int .i64 0] 46))
      clear h1 h2 hS hT1 hb2
      go_wp2_with (refine stRow infoMb (cs := mcs 0 0 0 zK zK zK zK false) rfl hS2.mb (mcs 0 0 0 zK zK zK zK false) rfl (mcs_one _ _ _ _ _ _ _ _) rfl _ _ rfl rfl rfl ?_)
      refine bodyPost_ret (resRow (p := 4) (t := 5) rfl _ _ K (mcs 0 0 0 zK zK zK zK false) rfl (MbAt.row hS2.mb 0 0 0 zK zK zK zK false).var) rfl ?_
      exact ⟨StandA.no HE.out (by decide), Rt.setRow_below hS2.ge hS2.bel _⟩
    · rw [← CardA.yes hck hf] at h1
      have h3 := h2 (s : Int)
      rw [path_lit hck hs8] at h3
      have HA := StandA.yes (x := x) hck hf
      obtain ⟨e, he⟩ : ∃ e, koK t (21 + (s : Int)) = e := ⟨_, rfl⟩
      obtain ⟨p, hp⟩ : ∃ e, t.ks (pn s 0) = e := ⟨_, rfl⟩
      obtain ⟨q, hq⟩ : ∃ e, t.ks (pn s 1) = e := ⟨_, rfl⟩
      obtain ⟨r, hr⟩ : ∃ e, t.ks (pn s 2) = e := ⟨_, rfl⟩
      rw [he, hp, hq, hr] at HA
      rw [he] at h1
      rw [hp, hq, hr] at h3
      have HA2 : Hid (Ending.returned (.tuple #[.agg (mcs x s t.ep e p q r true), .int .i64 0]) = StandA t x) := HA
      clear HA he hp hq hr hw ht hf h2 hck
      unfold ccs at h1
      go_wp2_with (refine rdT hT1 HT.out _ rfl rfl rfl ?_)
      refine (h1 _).mono ?_
      rintro r2 w2 ⟨rfl, hb2⟩
      have hS2 := (hS.later hb2).later (below_alloc w2 (.cells (ccs x s t.ep e) 46))
      have hC2 : CdAt (w2.alloc (.cells (ccs x s t.ep e) 46)) w2.heap.size x s t.ep e := heap_alloc_last w2 _
      unfold ccs at hS2 hC2
      clear h1 hS hT1 hb2
      go_upto_region 2 with (fail)
      generalize w2.alloc (.cells #[.int .i64 x, .int .i64 (s : Int), .int .i64 t.ep, .int .i64 e.bas, .int .i64 e.stp] 46) = w3 at *
      generalize w2.heap.size = C at *
      obtain ⟨c0, c1, c2, c3, c4⟩ := hC2.cells
      have hT3 := hS2.tr
      go_wp2_with (refine rdT hT3 HT.out _ rfl rfl rfl ?_)
      refine (h3 _).mono ?_
      rintro r2 w4 ⟨rfl, hb4⟩
      have hb5 := hb4.trans ((below_alloc w4 (.cells (p6 p q r) 39)).mono hb4.size)
      have hS5 := hS2.later hb5
      have hC5 : CdAt (w4.alloc (.cells (p6 p q r) 39)) C x s t.ep e := row_later hC2 hb5
      have hP5 : P6At (w4.alloc (.cells (p6 p q r) 39)) w4.heap.size p q r := heap_alloc_last w4 _
      unfold p6 at hS5 hC5 hP5
      clear h3 hS2 hC2 hT3 hb4 hb5 c0 c1 c2 c3 c4
      go_upto_region 5 with (fail)
      generalize w4.alloc (.cells #[.int .i64 p.bas, .int .i64 p.stp, .int .i64 q.bas, .int .i64 q.stp, .int .i64 r.bas, .int .i64 r.stp] 39) = w6 at *
      generalize w4.heap.size = P at *
      obtain ⟨c0, c1, c2, c3, c4⟩ := hC5.cells
      obtain ⟨p0, p1, p2, p3, p4, p5⟩ := hP5.cells
      go_wp2_with (refine stRow infoMb (cs := mcs 0 0 0 zK zK zK zK false) rfl hS5.mb (mcs x s t.ep e p q r true) rfl (mcs_one _ _ _ _ _ _ _ _) rfl _ _ rfl rfl rfl ?_)
      refine bodyPost_ret (resRow (p := 4) (t := 5) rfl _ _ K (mcs x s t.ep e p q r true) rfl (MbAt.row hS5.mb x s t.ep e p q r true).var) rfl ?_
      exact ⟨HA2.out, Rt.setRow_below hS5.ge hS5.bel _⟩
end Go.Proofs.Ytpkfpckljpffgaa
