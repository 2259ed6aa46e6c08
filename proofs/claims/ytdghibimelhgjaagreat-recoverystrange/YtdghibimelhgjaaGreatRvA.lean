/- Contracts: holdsSeat, Needs, Ask, of the program and of the document. -/
import Derived.Test.YtdghibimelhgjaaGreatRvMath
import Derived.Test.YtdghibimelhgjaaGreatMbJ1
import Derived.Test.YtdghibimelhgjaaGreatMbJ6
namespace Go.Proofs.YtdghibimelhgjaaGreat.Rv
open Go.RowKit Go.Maps Mb
open Rt (Ky zK gd gv Gd pcs KyAt)
open Wi (gR gE gW gS gI gB gK ldM stM rd_guard ra_of th_of ra_later RdV itl stl)
set_option linter.unusedVariables false
set_option linter.unusedSimpArgs false

set_option maxRecDepth 100000 in
set_option maxHeartbeats 1000000 in
theorem holds_any (m : Mb) (w : World) : Calls Tryz.prog 23 #[.agg (mba m)] w fun r w' => r = .returned (.int .i64 (hsE m)) ∧ Below w.heap.size w w' := by
  have hS := MA.new w m
  have hB := below_alloc w (.cells (mba m) 27)
  have h1 := kind_any m
  obtain ⟨cm, hcm⟩ : ∃ c, mba m = c := ⟨_, rfl⟩
  have HC : Hid (mba m = cm) := hcm
  rw [hcm] at hS hB
  simp only [hcm] at h1
  rw [hcm]
  clear hcm
  have hk := hs_cases m
  go_enter Tryz.func23, Tryz.ntmps23
  go_upto_region 1 with (fail)
  generalize w.alloc (.cells cm 27) = w1 at *
  have HB : Hid (Below w.heap.size w w1) := hB
  clear hB
  obtain ⟨B, hBe⟩ : ∃ B, w.heap.size = B := ⟨_, rfl⟩
  rw [hBe] at hS ⊢
  clear hBe
  go_wp2_with (refine ldMb hS HC.out _ rfl rfl rfl ?_)
  refine (h1 _).mono ?_
  rintro r w2 ⟨rfl, hb2⟩
  have HB2 : Hid (Below w.heap.size w w2) := Wi.Below.join HB.out hb2
  clear hS h1 hb2 HB
  rcases hk with ⟨a, b⟩ | ⟨a, b⟩ | ⟨a, b⟩ | ⟨a | a, b⟩ <;> (rw [a]; have HE : Hid _ := b; clear a b; go_wp2_with fail; go_ret; exact ⟨ret_int HE.out.symm, HB2.out⟩)
set_option maxRecDepth 100000 in
set_option maxHeartbeats 1000000 in
theorem needs_any (m : Mb) (w : World) : Calls Tryz.prog 9 #[.agg (mba m)] w fun r w' => r = .returned (.bool (nds m)) ∧ Below w.heap.size w w' := by
  have HN : Hid (nds m = (decide (hsE m = 0) && (!m.has || !decide (m.bh = 0)))) := nds_eq m
  have hS := MA.new w m
  have hB := below_alloc w (.cells (mba m) 27)
  have h1 := holds_any m
  obtain ⟨e, he⟩ : ∃ e, hsE m = e := ⟨_, rfl⟩
  simp only [he] at h1
  rw [he] at HN
  clear he
  obtain ⟨cm, hcm⟩ : ∃ c, mba m = c := ⟨_, rfl⟩
  have HC : Hid (mba m = cm) := hcm
  rw [hcm] at hS hB
  simp only [hcm] at h1
  rw [hcm]
  clear hcm
  go_enter Tryz.func9, Tryz.ntmps9
  go_upto_region 1 with (fail)
  generalize w.alloc (.cells cm 27) = w1 at *
  have HB : Hid (Below w.heap.size w w1) := hB
  clear hB
  obtain ⟨B, hBe⟩ : ∃ B, w.heap.size = B := ⟨_, rfl⟩
  rw [hBe] at hS ⊢
  clear hBe
  go_wp2_with (refine ldMb hS HC.out _ rfl rfl rfl ?_)
  refine (h1 _).mono ?_
  rintro r w2 ⟨rfl, hb2⟩
  have HB2 : Hid (Below w.heap.size w w2) := Wi.Below.join HB.out hb2
  have hS2 := hS.later hb2
  have c1 := hS2.has
  have c2 := hS2.bh
  clear hS h1 hb2 HB hS2 HC
  generalize m.has = hh at *
  generalize m.bh = bb at *
  by_cases he : e = 0
  · subst he
    have d0 : ((0 : Int) == 0) = true := rfl
    cases hh with
    | false =>
      go_wp2_with fail
      go_ret
      exact ⟨by rw [HN.out]; rfl, HB2.out⟩
    | true =>
      by_cases hb : bb = 0
      · subst hb
        go_wp2_with fail
        go_ret
        exact ⟨by rw [HN.out]; rfl, HB2.out⟩
      · have d1 : (bb != 0) = true := by simpa using hb
        go_wp2_with fail
        go_ret
        exact ⟨by rw [HN.out]; simp [hb], HB2.out⟩
  · have d0 : (e == 0) = false := by simpa using he
    go_wp2_with fail
    go_ret
    exact ⟨by rw [HN.out]; simp [he], HB2.out⟩
set_option maxRecDepth 100000 in
set_option maxHeartbeats 1000000 in
theorem rNeeds_any (m : Mb) (w : World) : Calls Tryz.prog 10 #[.agg (mba m)] w fun r w' => r = .returned (.bool (nds m)) ∧ Below w.heap.size w w' := by
  have HN : Hid (nds m = (decide (knd m = 2) || (decide (knd m = 3) && !decide (m.bh = 0)))) := rfl
  have hS := MA.new w m
  have hB := below_alloc w (.cells (mba m) 27)
  have h1 := rKind_any m
  obtain ⟨e, he⟩ : ∃ e, knd m = e := ⟨_, rfl⟩
  simp only [he] at h1
  rw [he] at HN
  clear he
  obtain ⟨cm, hcm⟩ : ∃ c, mba m = c := ⟨_, rfl⟩
  have HC : Hid (mba m = cm) := hcm
  rw [hcm] at hS hB
  simp only [hcm] at h1
  rw [hcm]
  clear hcm
  go_enter Tryz.func10, Tryz.ntmps10
  go_upto_region 1 with (fail)
  generalize w.alloc (.cells cm 27) = w1 at *
  have HB : Hid (Below w.heap.size w w1) := hB
  clear hB
  obtain ⟨B, hBe⟩ : ∃ B, w.heap.size = B := ⟨_, rfl⟩
  rw [hBe] at hS ⊢
  clear hBe
  go_wp2_with (refine ldMb hS HC.out _ rfl rfl rfl ?_)
  refine (h1 _).mono ?_
  rintro r w2 ⟨rfl, hb2⟩
  have HB2 : Hid (Below w.heap.size w w2) := Wi.Below.join HB.out hb2
  have hS2 := hS.later hb2
  have c2 := hS2.bh
  clear hS h1 hb2 HB hS2 HC
  generalize m.bh = bb at *
  by_cases he : e = 2
  · subst he
    have d0 : ((2 : Int) == 2) = true := rfl
    go_wp2_with fail
    go_ret
    exact ⟨by rw [HN.out]; rfl, HB2.out⟩
  · have d0 : (e == 2) = false := by simpa using he
    by_cases he3 : e = 3
    · subst he3
      by_cases hb : bb = 0
      · subst hb
        go_wp2_with fail
        go_ret
        exact ⟨by rw [HN.out]; rfl, HB2.out⟩
      · have d1 : (bb != 0) = true := by simpa using hb
        go_wp2_with fail
        go_ret
        exact ⟨by rw [HN.out]; simp [hb], HB2.out⟩
    · have d3 : (e == 3) = false := by simpa using he3
      go_wp2_with fail
      go_ret
      exact ⟨by rw [HN.out]; simp [he, he3], HB2.out⟩
/- A request in a block. -/
def rqa (a b : Int) : Array Value := #[.int .i64 a, .int .i64 b]
theorem infoRq : (Tryz.prog.info? 31).map (·.size) = some 2 := by kernel_rfl
def QAt (w : World) (B : Nat) (a b : Int) : Prop := w.heap[B]? = some (.cells (rqa a b) 31 (0, 0))
theorem rqa_one (a b : Int) : (rqa a b).all (·.oneCell') = true := by simp [rqa, Value.oneCell']
theorem QAt.later {w w' : World} {B : Nat} {a b : Int} (h : QAt w B a b) (hb : Below w.heap.size w w') : QAt w' B a b := row_later h hb
theorem QAt.new (w : World) (a b : Int) : QAt (w.alloc (.cells #[.int .i64 a, .int .i64 b] 31)) w.heap.size a b := heap_alloc_last w _
theorem QAt.cells {w : World} {B : Nat} {a b : Int} (h : QAt w B a b) : w.cell? ⟨B, 0, none⟩ = some (.int .i64 a) ∧ w.cell? ⟨B, 1, none⟩ = some (.int .i64 b) := ⟨cell_of_row w B 0 _ _ _ h, cell_of_row w B 1 _ _ _ h⟩
theorem QAt.var {w : World} {B : Nat} {a b : Int} (h : QAt w B a b) : (loadVar 31 ⟨B, 0, none⟩).run Tryz.prog w = .ok (.agg (rqa a b)) w := run_loadVar_row w B _ 31 _ _ _ h Tryz.underlying31 rfl infoRq
theorem QAt.row {w : World} {B : Nat} {a b : Int} (h : QAt w B a b) (a' b' : Int) : QAt (w.setRow B (rqa a' b')) B a' b' := Rt.heap_setRow_same h _
def AskA (m : Mb) : Ending := .returned (.tuple #[.agg (rqa (akW m) (akP m)), .int .i64 (hsE m)])
theorem AskA.yes {m : Mb} (h : hsE m = 0) : Ending.returned (.tuple #[.agg (rqa m.who m.ep), .int .i64 0]) = AskA m := by unfold AskA akW akP; rw [h, if_pos rfl, if_pos rfl]
theorem AskA.no {m : Mb} {e : Int} (h : hsE m = e) (he : e ≠ 0) : Ending.returned (.tuple #[.agg (rqa 0 0), .int .i64 e]) = AskA m := by unfold AskA akW akP; rw [h, if_neg he, if_neg he]
structure SA (w W : World) (B K : Nat) (m : Mb) : Prop where
  mb : MA W B m
  re : QAt W K 0 0
  bel : Below w.heap.size w W
  ge : w.heap.size ≤ K
theorem SA.later {w W W' : World} {B K : Nat} {m : Mb} (h : SA w W B K m) (hb : Below W.heap.size W W') : SA w W' B K m := ⟨h.mb.later hb, h.re.later hb, h.bel.trans (hb.mono h.bel.size), h.ge⟩
theorem SA.new (w : World) (m : Mb) : SA w ((w.alloc (.cells (mba m) 27)).alloc (.cells #[.int .i64 0, .int .i64 0] 31)) w.heap.size (w.heap.size + 1) m := by
  have h2 := QAt.new (w.alloc (.cells (mba m) 27)) 0 0
  rw [World.size_alloc] at h2
  exact ⟨(MA.new w m).later (below_alloc _ _), h2, Wi.Below.plus (below_alloc _ _) _, by omega⟩
set_option maxRecDepth 100000 in
set_option maxHeartbeats 1000000 in
theorem ask_any (m : Mb) (w : World) : Calls Tryz.prog 11 #[.agg (mba m)] w fun r w' => r = AskA m ∧ Below w.heap.size w w' := by
  have HA0 : Hid (hsE m = 0 → Ending.returned (.tuple #[.agg (rqa m.who m.ep), .int .i64 0]) = AskA m) := AskA.yes
  have HA1 : Hid (∀ e, hsE m = e → e ≠ 0 → Ending.returned (.tuple #[.agg (rqa 0 0), .int .i64 e]) = AskA m) := fun e => AskA.no
  have hS := SA.new w m
  have h1 := holds_any m
  obtain ⟨e, he⟩ : ∃ e, hsE m = e := ⟨_, rfl⟩
  have HE : Hid (hsE m = e) := he
  simp only [he] at h1
  clear he
  obtain ⟨cm, hcm⟩ : ∃ c, mba m = c := ⟨_, rfl⟩
  have HC : Hid (mba m = cm) := hcm
  rw [hcm] at hS
  simp only [hcm] at h1
  rw [hcm]
  clear hcm
  go_enter Tryz.func11, Tryz.ntmps11
  go_upto_region 1 with (fail)
  generalize (w.alloc (.cells cm 27)).alloc (.cells #[.int .i64 0, .int .i64 0] 31) = w1 at *
  obtain ⟨K, hK⟩ : ∃ K, w.heap.size + 1 = K := ⟨_, rfl⟩
  obtain ⟨B, hB⟩ : ∃ B, w.heap.size = B := ⟨_, rfl⟩
  rw [hK, hB] at hS ⊢
  clear hK hB
  go_wp2_with (refine ldMb hS.mb HC.out _ rfl rfl rfl ?_)
  refine (h1 _).mono ?_
  rintro r w2 ⟨rfl, hb2⟩
  have hS2 := hS.later hb2
  have HBL : Hid (Below w.heap.size w w2) := hS2.bel
  have HGE : Hid (w.heap.size ≤ K) := hS2.ge
  have HK : Hid (QAt w2 K 0 0) := hS2.re
  have c0 := hS2.mb.who
  have c2 := hS2.mb.ep
  clear hS hb2 h1 hS2
  by_cases he : e = 0
  · subst he
    have HA : Hid _ := HA0.out HE.out
    clear HA1 HA0 HE HC
    generalize m.who = x at *
    generalize m.ep = y at *
    go_wp2_with (refine stRow infoRq (cs := rqa 0 0) rfl HK.out (rqa x y) rfl (rqa_one _ _) rfl _ _ rfl rfl rfl ?_)
    refine bodyPost_ret (resRow (p := 2) (t := 3) rfl _ _ K (rqa x y) rfl (HK.out.row x y).var) rfl ?_
    exact ⟨HA.out, Rt.setRow_below HGE.out HBL.out _⟩
  · have d0 : (e != 0) = true := by simpa using he
    have HA : Hid _ := HA1.out e HE.out he
    clear HA1 HA0 HE HC he
    go_wp2_with (refine stRow infoRq (cs := rqa 0 0) rfl HK.out (rqa 0 0) rfl (rqa_one _ _) rfl _ _ rfl rfl rfl ?_)
    refine bodyPost_ret (resRow (p := 2) (t := 3) rfl _ _ K (rqa 0 0) rfl (HK.out.row 0 0).var) rfl ?_
    exact ⟨HA.out, Rt.setRow_below HGE.out HBL.out _⟩
set_option maxRecDepth 100000 in
set_option maxHeartbeats 1000000 in
theorem rAsk_any (m : Mb) (w : World) : Calls Tryz.prog 12 #[.agg (mba m)] w fun r w' => r = AskA m ∧ Below w.heap.size w w' := by
  have HA0 : Hid (hsE m = 0 → Ending.returned (.tuple #[.agg (rqa m.who m.ep), .int .i64 0]) = AskA m) := AskA.yes
  have HA1 : Hid (∀ e, hsE m = e → e ≠ 0 → Ending.returned (.tuple #[.agg (rqa 0 0), .int .i64 e]) = AskA m) := fun e => AskA.no
  have hk := hs_cases m
  have hS := SA.new w m
  have h1 := rKind_any m
  obtain ⟨cm, hcm⟩ : ∃ c, mba m = c := ⟨_, rfl⟩
  have HC : Hid (mba m = cm) := hcm
  rw [hcm] at hS
  simp only [hcm] at h1
  rw [hcm]
  clear hcm
  go_enter Tryz.func12, Tryz.ntmps12
  go_upto_region 1 with (fail)
  generalize (w.alloc (.cells cm 27)).alloc (.cells #[.int .i64 0, .int .i64 0] 31) = w1 at *
  obtain ⟨K, hK⟩ : ∃ K, w.heap.size + 1 = K := ⟨_, rfl⟩
  obtain ⟨B, hB⟩ : ∃ B, w.heap.size = B := ⟨_, rfl⟩
  rw [hK, hB] at hS ⊢
  clear hK hB
  go_wp2_with (refine ldMb hS.mb HC.out _ rfl rfl rfl ?_)
  refine (h1 _).mono ?_
  rintro r w2 ⟨rfl, hb2⟩
  have hS2 := hS.later hb2
  have HBL : Hid (Below w.heap.size w w2) := hS2.bel
  have HGE : Hid (w.heap.size ≤ K) := hS2.ge
  have HK : Hid (QAt w2 K 0 0) := hS2.re
  have c0 := hS2.mb.who
  have c2 := hS2.mb.ep
  clear hS hb2 h1 hS2
  rcases hk with ⟨a, b⟩ | ⟨a, b⟩ | ⟨a, b⟩ | ⟨a | a, b⟩
  · rw [a]
    have HA : Hid _ := HA1.out 20 b (by decide)
    clear HA1 HA0 a b HC
    go_wp2_with (refine stRow infoRq (cs := rqa 0 0) rfl HK.out (rqa 0 0) rfl (rqa_one _ _) rfl _ _ rfl rfl rfl ?_)
    refine bodyPost_ret (resRow (p := 2) (t := 3) rfl _ _ K (rqa 0 0) rfl (HK.out.row 0 0).var) rfl ?_
    exact ⟨HA.out, Rt.setRow_below HGE.out HBL.out _⟩
  · rw [a]
    have HA : Hid _ := HA0.out b
    clear HA1 HA0 a b HC
    generalize m.who = x at *
    generalize m.ep = y at *
    go_wp2_with (refine stRow infoRq (cs := rqa 0 0) rfl HK.out (rqa x y) rfl (rqa_one _ _) rfl _ _ rfl rfl rfl ?_)
    refine bodyPost_ret (resRow (p := 2) (t := 3) rfl _ _ K (rqa x y) rfl (HK.out.row x y).var) rfl ?_
    exact ⟨HA.out, Rt.setRow_below HGE.out HBL.out _⟩
  · rw [a]
    have HA : Hid _ := HA0.out b
    clear HA1 HA0 a b HC
    generalize m.who = x at *
    generalize m.ep = y at *
    go_wp2_with (refine stRow infoRq (cs := rqa 0 0) rfl HK.out (rqa x y) rfl (rqa_one _ _) rfl _ _ rfl rfl rfl ?_)
    refine bodyPost_ret (resRow (p := 2) (t := 3) rfl _ _ K (rqa x y) rfl (HK.out.row x y).var) rfl ?_
    exact ⟨HA.out, Rt.setRow_below HGE.out HBL.out _⟩
  · rw [a]
    have HA : Hid _ := HA1.out 30 b (by decide)
    clear HA1 HA0 a b HC
    go_wp2_with (refine stRow infoRq (cs := rqa 0 0) rfl HK.out (rqa 0 0) rfl (rqa_one _ _) rfl _ _ rfl rfl rfl ?_)
    refine bodyPost_ret (resRow (p := 2) (t := 3) rfl _ _ K (rqa 0 0) rfl (HK.out.row 0 0).var) rfl ?_
    exact ⟨HA.out, Rt.setRow_below HGE.out HBL.out _⟩
  · rw [a]
    have HA : Hid _ := HA1.out 30 b (by decide)
    clear HA1 HA0 a b HC
    go_wp2_with (refine stRow infoRq (cs := rqa 0 0) rfl HK.out (rqa 0 0) rfl (rqa_one _ _) rfl _ _ rfl rfl rfl ?_)
    refine bodyPost_ret (resRow (p := 2) (t := 3) rfl _ _ K (rqa 0 0) rfl (HK.out.row 0 0).var) rfl ?_
    exact ⟨HA.out, Rt.setRow_below HGE.out HBL.out _⟩
end Go.Proofs.YtdghibimelhgjaaGreat.Rv
