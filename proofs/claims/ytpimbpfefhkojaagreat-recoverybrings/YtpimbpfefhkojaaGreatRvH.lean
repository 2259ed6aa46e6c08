/- Contracts: three, lives. MADE by wip/mk_rvh.py. -/
import Derived.Test.YtpimbpfefhkojaaGreatRvG
import Derived.Test.YtpimbpfefhkojaaGreatMbJ5
namespace Go.Proofs.YtpimbpfefhkojaaGreat.Rv
open Go.RowKit Go.Maps Mb
open Rt (Ky zK gd gv Gd gd_iff pcs KyAt)
open Rs (RdI ps evl)
open Wi (gR gE gW gS gI gB gK gP zP zR zQ zD ldM rd_guard ra_of th_of ra_later RdV itl stl bxl Msg gM MR mgv)
set_option linter.unusedVariables false
set_option linter.unusedSimpArgs false

def t4 : Tr := nx t3 [] []
def t5 : Tr := nx t4 [] []
theorem four_E : plE t3 [] [] = 0 := by decide +kernel
theorem five_E : plE t4 [] [] = 0 := by decide +kernel
theorem pn_four : pnT t3 [] [] = t4 := by unfold pnT; rw [if_pos four_E]; rfl
theorem pn_five : pnT t4 [] [] = t5 := by unfold pnT; rw [if_pos five_E]; rfl
structure S3 (w W : World) (K N : Nat) (t : Tr) : Prop where
  tr : TrAt W N t
  re : TrAt W K (tz 0)
  bel : Below w.heap.size w W
  gk : w.heap.size ≤ K
  gn : w.heap.size ≤ N
  ne : K ≠ N
theorem S3.later {w W W' : World} {K N : Nat} {t : Tr} (h : S3 w W K N t) (hb : Below W.heap.size W W') : S3 w W' K N t := ⟨h.tr.later hb, h.re.later hb, h.bel.trans (hb.mono h.bel.size), h.gk, h.gn, h.ne⟩
theorem S3.row {w W : World} {K N : Nat} {t : Tr} (h : S3 w W K N t) (u : Tr) : S3 w (W.setRow N (tcs u)) K N u := ⟨h.tr.row u, (Rt.row_other h.ne _).trans h.re, Rt.setRow_below h.gn h.bel _, h.gk, h.gn, h.ne⟩
theorem next0 (t : Tr) (w : World) : Calls Tryz.prog 7 #[.agg (tcs t), .agg #[.slice none 0 0, .slice none 0 0] ] w fun e w' => NxA t [] [] w' e ∧ Below w.heap.size w w' := next_r t none none 0 0 [] [] w (by simp) (by simp) (RdI.nil _ _) (RdI.nil _ _)
set_option maxRecDepth 100000 in
set_option maxHeartbeats 1000000 in
theorem three0 (w : World) : Calls Tryz.prog 14 #[.int .i64 0] w fun e w' => e = .returned (.agg (tcs t3)) ∧ Below w.heap.size w w' := by
  have hz0 : TrAt (w.alloc (.cells Tryz.zeroCells31 31)) w.heap.size (tz 0) := TrAt.zero w
  have hB0 : Below w.heap.size w (w.alloc (.cells Tryz.zeroCells31 31)) := below_alloc _ _
  go_enter Tryz.func14, Tryz.ntmps14
  go_upto_region 1 with (fail)
  generalize w.alloc (.cells Tryz.zeroCells31 31) = w1 at *
  obtain ⟨K, hK⟩ : ∃ K, w.heap.size = K := ⟨_, rfl⟩
  have HK : Hid (w.heap.size ≤ K) := by unfold Hid; omega
  rw [hK] at hz0 ⊢
  clear hK
  have h1 := rStart_any w1
  obtain ⟨c0, hc0⟩ : ∃ c, tcs stT = c := ⟨_, rfl⟩
  rw [hc0] at h1
  go_wp2_with fail
  refine h1.mono ?_
  rintro r w2 ⟨rfl, hb2⟩
  have h2 := rNext_any stT none (some ⟨w2.heap.size, 0, none⟩) 0 3 [] [1, 2, 3] (w2.alloc (.cells #[.int .i64 1, .int .i64 2, .int .i64 3] 3)) (by simp) (by simp) (Rs.RdI.nil _ _) (rd_three w2)
  rw [hc0] at h2
  simp only [List.length_nil, List.length_cons, Nat.zero_add, Nat.reduceAdd] at h2
  have hB2 := hB0.trans (hb2.mono hB0.size)
  have hB3 := hB2.alloc hB2.size (.cells #[.int .i64 1, .int .i64 2, .int .i64 3] 3)
  have hz3 := (hz0.later hb2).later (below_alloc w2 (.cells #[.int .i64 1, .int .i64 2, .int .i64 3] 3))
  clear h1 hc0 hb2 hz0 hB0 hB2
  go_wp2_with fail
  refine h2.mono ?_
  rintro r w4 ⟨⟨vl, vj, vi, rfl, hNP⟩, hb4⟩
  have hB4 := hB3.trans (hb4.mono hB3.size)
  have hz4 := hz3.later hb4
  obtain ⟨a1, k1, rfl⟩ := Rs.owns_slice hNP.left
  obtain ⟨a2, k2, rfl⟩ := Rs.owns_slice hNP.join
  obtain ⟨a3, k3, rfl⟩ := Rs.owns_slice hNP.item
  rw [pn_three]
  obtain ⟨c3, hc3⟩ : ∃ c, tcs t3 = c := ⟨_, rfl⟩
  have HC : Hid (tcs t3 = c3) := hc3
  rw [hc3]
  obtain ⟨l1, hl1⟩ : ∃ l, (pnL stT [] [1, 2, 3]).length = l := ⟨_, rfl⟩
  obtain ⟨l2, hl2⟩ : ∃ l, (pnJ stT [] [1, 2, 3]).length = l := ⟨_, rfl⟩
  obtain ⟨l3, hl3⟩ : ∃ l, (pnI stT [] [1, 2, 3]).length = l := ⟨_, rfl⟩
  obtain ⟨e, he⟩ : ∃ e, plE stT [] [1, 2, 3] = e := ⟨_, rfl⟩
  obtain ⟨p, hp⟩ : ∃ e, pnP stT [] [1, 2, 3] = e := ⟨_, rfl⟩
  rw [hl1, hl2, hl3, he, hp]
  obtain ⟨t1, t2, W, hW, tT, tR, tB⟩ := two_boxes w4 t3 c3 #[.int .i64 p, .slice a1 l1 k1, .slice a2 l2 k2, .slice a3 l3 k3] hc3
  clear h2 hNP hb4 hB3 hz3 hl1 hl2 hl3 he hp hc3
  go_upto_region 2 with (first | (refine stTc t1 HC.out rfl _ _ rfl rfl rfl ?_) | (refine stRw infoRk (cs := rkz) rkz_size t2 _ rfl (rk_one _ _ _ _ _ _ _ _ _ _) rfl _ _ rfl rfl rfl ?_))
  have hz5 := hz4.later tB
  have hB5 := hB4.trans (tB.mono hB4.size)
  obtain ⟨N, hN⟩ : ∃ N, w4.heap.size = N := ⟨_, rfl⟩
  have hS : S3 w W K N t3 := ⟨by rw [← hN]; exact tT, hz5, hB5, HK.out, by rw [← hN]; exact hB4.size, Nat.ne_of_lt (by rw [← hN]; exact hz4.lt)⟩
  rw [hN]
  clear t1 t2 hW hz4 hB4 tB tR tT hz5 hB5 hN HC HK
  generalize W = wv at *
  go_wp2_with fail
  refine wp_loop_rounds 1 ?_
  rw [rounds_succ]
  have hre := hS.re
  obtain ⟨ce, hce⟩ : ∃ c, tcs t3 = c := ⟨_, rfl⟩
  have HE : Hid (tcs t3 = ce) := hce
  clear hce
  go_wp2_with (first | (refine rdT hS.tr HE.out _ rfl rfl rfl ?_) | (refine stTc hre HE.out rfl _ _ rfl rfl rfl ?_))
  refine bodyPost_ret (results_tr (p := 2) rfl _ _ K t3 rfl (by rw [← HE.out]; exact hre.row _)) rfl ?_
  exact ⟨rfl, Rt.setRow_below hS.gk hS.bel _⟩
set_option maxRecDepth 100000 in
set_option maxHeartbeats 1000000 in
theorem three2 (w : World) : Calls Tryz.prog 14 #[.int .i64 2] w fun e w' => e = .returned (.agg (tcs t5)) ∧ Below w.heap.size w w' := by
  have hz0 : TrAt (w.alloc (.cells Tryz.zeroCells31 31)) w.heap.size (tz 0) := TrAt.zero w
  have hB0 : Below w.heap.size w (w.alloc (.cells Tryz.zeroCells31 31)) := below_alloc _ _
  go_enter Tryz.func14, Tryz.ntmps14
  go_upto_region 1 with (fail)
  generalize w.alloc (.cells Tryz.zeroCells31 31) = w1 at *
  obtain ⟨K, hK⟩ : ∃ K, w.heap.size = K := ⟨_, rfl⟩
  have HK : Hid (w.heap.size ≤ K) := by unfold Hid; omega
  rw [hK] at hz0 ⊢
  clear hK
  have h1 := rStart_any w1
  obtain ⟨c0, hc0⟩ : ∃ c, tcs stT = c := ⟨_, rfl⟩
  rw [hc0] at h1
  go_wp2_with fail
  refine h1.mono ?_
  rintro r w2 ⟨rfl, hb2⟩
  have h2 := rNext_any stT none (some ⟨w2.heap.size, 0, none⟩) 0 3 [] [1, 2, 3] (w2.alloc (.cells #[.int .i64 1, .int .i64 2, .int .i64 3] 3)) (by simp) (by simp) (Rs.RdI.nil _ _) (rd_three w2)
  rw [hc0] at h2
  simp only [List.length_nil, List.length_cons, Nat.zero_add, Nat.reduceAdd] at h2
  have hB2 := hB0.trans (hb2.mono hB0.size)
  have hB3 := hB2.alloc hB2.size (.cells #[.int .i64 1, .int .i64 2, .int .i64 3] 3)
  have hz3 := (hz0.later hb2).later (below_alloc w2 (.cells #[.int .i64 1, .int .i64 2, .int .i64 3] 3))
  clear h1 hc0 hb2 hz0 hB0 hB2
  go_wp2_with fail
  refine h2.mono ?_
  rintro r w4 ⟨⟨vl, vj, vi, rfl, hNP⟩, hb4⟩
  have hB4 := hB3.trans (hb4.mono hB3.size)
  have hz4 := hz3.later hb4
  obtain ⟨a1, k1, rfl⟩ := Rs.owns_slice hNP.left
  obtain ⟨a2, k2, rfl⟩ := Rs.owns_slice hNP.join
  obtain ⟨a3, k3, rfl⟩ := Rs.owns_slice hNP.item
  rw [pn_three]
  obtain ⟨c3, hc3⟩ : ∃ c, tcs t3 = c := ⟨_, rfl⟩
  have HC : Hid (tcs t3 = c3) := hc3
  rw [hc3]
  obtain ⟨l1, hl1⟩ : ∃ l, (pnL stT [] [1, 2, 3]).length = l := ⟨_, rfl⟩
  obtain ⟨l2, hl2⟩ : ∃ l, (pnJ stT [] [1, 2, 3]).length = l := ⟨_, rfl⟩
  obtain ⟨l3, hl3⟩ : ∃ l, (pnI stT [] [1, 2, 3]).length = l := ⟨_, rfl⟩
  obtain ⟨e, he⟩ : ∃ e, plE stT [] [1, 2, 3] = e := ⟨_, rfl⟩
  obtain ⟨p, hp⟩ : ∃ e, pnP stT [] [1, 2, 3] = e := ⟨_, rfl⟩
  rw [hl1, hl2, hl3, he, hp]
  obtain ⟨t1, t2, W, hW, tT, tR, tB⟩ := two_boxes w4 t3 c3 #[.int .i64 p, .slice a1 l1 k1, .slice a2 l2 k2, .slice a3 l3 k3] hc3
  clear h2 hNP hb4 hB3 hz3 hl1 hl2 hl3 he hp hc3
  go_upto_region 2 with (first | (refine stTc t1 HC.out rfl _ _ rfl rfl rfl ?_) | (refine stRw infoRk (cs := rkz) rkz_size t2 _ rfl (rk_one _ _ _ _ _ _ _ _ _ _) rfl _ _ rfl rfl rfl ?_))
  have hz5 := hz4.later tB
  have hB5 := hB4.trans (tB.mono hB4.size)
  obtain ⟨N, hN⟩ : ∃ N, w4.heap.size = N := ⟨_, rfl⟩
  have hS : S3 w W K N t3 := ⟨by rw [← hN]; exact tT, hz5, hB5, HK.out, by rw [← hN]; exact hB4.size, Nat.ne_of_lt (by rw [← hN]; exact hz4.lt)⟩
  rw [hN]
  clear t1 t2 hW hz4 hB4 tB tR tT hz5 hB5 hN HC HK
  generalize W = wv at *
  go_wp2_with fail
  refine wp_loop_rounds 3 ?_
  rw [rounds_succ]
  have hn := next0 t3
  obtain ⟨ca, hca⟩ : ∃ c, tcs t3 = c := ⟨_, rfl⟩
  have HA : Hid (tcs t3 = ca) := hca
  simp only [hca] at hn
  clear hca
  go_wp2_with (refine rdT hS.tr HA.out _ rfl rfl rfl ?_)
  refine (hn _).mono ?_
  rintro r wb ⟨⟨a1, a2, a3, k1, k2, k3, rfl, hr⟩, hb⟩
  rw [pn_four]
  have hSb := hS.later hb
  have hS2 := hSb.row t4
  obtain ⟨cb, hcb⟩ : ∃ c, tcs t4 = c := ⟨_, rfl⟩
  have HB : Hid (tcs t4 = cb) := hcb
  rw [hcb] at hS2
  rw [hcb]
  clear hcb hn hS hb hr
  generalize pR t3 [] [] = pq
  unfold rka
  go_upto_region 4 with (refine stTc hSb.tr HB.out rfl _ _ rfl rfl rfl ?_)
  clear hSb HA
  generalize wb.setRow N cb = wv at *
  have hS := hS2
  clear hS2 HB
  go_wp2_with fail
  rw [rounds_succ]
  have hn := next0 t4
  obtain ⟨ca, hca⟩ : ∃ c, tcs t4 = c := ⟨_, rfl⟩
  have HA : Hid (tcs t4 = ca) := hca
  simp only [hca] at hn
  clear hca
  go_wp2_with (refine rdT hS.tr HA.out _ rfl rfl rfl ?_)
  refine (hn _).mono ?_
  rintro r wb ⟨⟨a1, a2, a3, k1, k2, k3, rfl, hr⟩, hb⟩
  rw [pn_five]
  have hSb := hS.later hb
  have hS2 := hSb.row t5
  obtain ⟨cb, hcb⟩ : ∃ c, tcs t5 = c := ⟨_, rfl⟩
  have HB : Hid (tcs t5 = cb) := hcb
  rw [hcb] at hS2
  rw [hcb]
  clear hcb hn hS hb hr
  generalize pR t4 [] [] = pq
  unfold rka
  go_upto_region 4 with (refine stTc hSb.tr HB.out rfl _ _ rfl rfl rfl ?_)
  clear hSb HA
  generalize wb.setRow N cb = wv at *
  have hS := hS2
  clear hS2 HB
  go_wp2_with fail
  rw [rounds_succ]
  have hre := hS.re
  obtain ⟨ce, hce⟩ : ∃ c, tcs t5 = c := ⟨_, rfl⟩
  have HE : Hid (tcs t5 = ce) := hce
  clear hce
  go_wp2_with (first | (refine rdT hS.tr HE.out _ rfl rfl rfl ?_) | (refine stTc hre HE.out rfl _ _ rfl rfl rfl ?_))
  refine bodyPost_ret (results_tr (p := 2) rfl _ _ K t5 rfl (by rw [← HE.out]; exact hre.row _)) rfl ?_
  exact ⟨rfl, Rt.setRow_below hS.gk hS.bel _⟩
end Go.Proofs.YtpimbpfefhkojaaGreat.Rv
