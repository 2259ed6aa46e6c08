/- Contract: lives. -/
import Derived.Test.YtpimbpfefhkojaaDaA
import Derived.Test.YtpimbpfefhkojaaMbJ5
import Derived.Test.YtpimbpfefhkojaaMbMath3
namespace Go.Proofs.Ytpimbpfefhkojaa.Rv
open Go.RowKit Go.Maps Mb
open Rt (Ky zK gd gv Gd gd_iff pcs KyAt)
open Rs (RdI ps evl)
open Wi (gE gK gD zD sdl stl ldM rd_guard ra_of th_of ra_later RdV)
set_option linter.unusedVariables false
set_option linter.unusedSimpArgs false

theorem sl_yes {m : Mb} {s : ByteArray} (h : grE m = 0) (hn : s.size ≤ 64) : slE m s.size = 0 ∧ slD m s = (m.ep, (kpr2 (grK m), s)) := by
  have h1 : slE m s.size = 0 := by unfold slE; rw [if_pos h, if_pos hn]
  exact ⟨h1, by unfold slD; rw [if_pos h1]⟩
theorem op_yes {m : Mb} {d : Sd} (h : grE m = 0) (hg : gD d = true) (h1 : d.1 = m.ep) (h2 : d.2.1 = kpr2 (grK m)) : opE m d = 0 ∧ opS m d = d.2.2 := by
  have h3 : opE m d = 0 := by unfold opE; rw [if_pos h, if_pos hg, if_neg (by omega), if_neg (by omega), if_pos h2]
  exact ⟨h3, by unfold opS; rw [if_pos h3]⟩
theorem hel_1 : caE t3 1 = 0 ∧ caE t3 2 = 0 := by decide +kernel
theorem hel_2 : grE (Mb.stM t3 1) = 0 ∧ (Mb.stM t3 1).ep = 1 ∧ (grK (Mb.stM t3 1)).bas = 1 ∧ (grK (Mb.stM t3 1)).stp = 1 := by decide +kernel
theorem hel_3 : grE (Mb.stM t3 2) = 0 ∧ (Mb.stM t3 2).ep = 1 ∧ (grK (Mb.stM t3 2)).bas = 1 ∧ (grK (Mb.stM t3 2)).stp = 1 := by decide +kernel
def hel : ByteArray := ⟨#[104, 101, 108, 108, 111]⟩
theorem hel_sz : hel.size = 5 := rfl
theorem hel_lt : hel.size < 4611686018427387904 := by rw [hel_sz]; decide
theorem hel_g : gD (1, ((1, 1), hel)) = true := by
  show (gE 1 && (gK (1, 1) && decide (hel.size ≤ 64))) = true
  rw [hel_sz]
  decide
theorem hel_4 : slE (Mb.stM t3 1) hel.size = 0 ∧ slD (Mb.stM t3 1) hel = (1, ((1, 1), hel)) := by
  obtain ⟨a, b, c, d⟩ := hel_2
  have h := sl_yes (m := Mb.stM t3 1) (s := hel) a (by rw [hel_sz]; decide)
  refine ⟨h.1, h.2.trans ?_⟩
  unfold kpr2
  rw [b, c, d]
theorem hel_5 : opE (Mb.stM t3 2) (1, ((1, 1), hel)) = 0 ∧ opS (Mb.stM t3 2) (1, ((1, 1), hel)) = hel := by
  obtain ⟨a, b, c, d⟩ := hel_3
  exact op_yes (m := Mb.stM t3 2) (d := (1, ((1, 1), hel))) a hel_g b.symm (by unfold kpr2; rw [c, d])
set_option maxRecDepth 100000 in
set_option maxHeartbeats 2000000 in
theorem lives17_any (w : World) : Calls Try.prog 7 #[] w fun e w' => e = .returned (.bool true) ∧ Below w.heap.size w w' := by
  have hs1 := stand_r t3 1
  have hs2 := stand_r t3 2
  have hsl := fun W => seal_any (Mb.stM t3 1) hel W hel_lt
  have hop := fun W => open_any (Mb.stM t3 2) (1, ((1, 1), hel)) W hel_lt
  unfold SlA at hsl
  unfold OpA at hop
  rw [hel_4.1, hel_4.2] at hsl
  rw [hel_5.1, hel_5.2] at hop
  rw [hel_1.1] at hs1
  rw [hel_1.2] at hs2
  obtain ⟨ca, hca⟩ : ∃ c, mba (Mb.stM t3 1) = c := ⟨_, rfl⟩
  obtain ⟨cb, hcb⟩ : ∃ c, mba (Mb.stM t3 2) = c := ⟨_, rfl⟩
  have HA : Hid (mba (Mb.stM t3 1) = ca) := hca
  have HB : Hid (mba (Mb.stM t3 2) = cb) := hcb
  simp only [hca, hcb] at hs1 hs2 hsl hop
  clear hca hcb
  have heq := fun W => Wi.run_eqSd (w := W) 9997 (1, ((1, 1), hel)) (1, ((1, 1), hel))
  rw [decide_eq_true rfl] at heq
  unfold sdl hel at hsl hop heq
  dsimp only at hsl hop heq
  have h1 := fun W => rStart_any W
  go_enter Try.func7, Try.ntmps7
  obtain ⟨c0, hc0⟩ : ∃ c, tcs stT = c := ⟨_, rfl⟩
  rw [hc0] at h1
  have h1 := h1 w
  go_wp2_with fail
  refine h1.mono ?_
  rintro r w2 ⟨rfl, hb2⟩
  have h2 := rNext_any stT none (some ⟨w2.heap.size, 0, none⟩) 0 3 [] [1, 2, 3] (w2.alloc (.cells #[.int .i64 1, .int .i64 2, .int .i64 3] 3)) (by simp) (by simp) (Rs.RdI.nil _ _) (rd_three w2)
  rw [hc0] at h2
  simp only [List.length_nil, List.length_cons, Nat.zero_add, Nat.reduceAdd] at h2
  have hB3 := Wi.Below.plus hb2 (.cells #[.int .i64 1, .int .i64 2, .int .i64 3] 3)
  clear h1 hc0 hb2
  go_wp2_with fail
  refine h2.mono ?_
  rintro r w4 ⟨⟨vl, vj, vi, rfl, hNP⟩, hb4⟩
  have hB4 := Wi.Below.join hB3 hb4
  obtain ⟨a1, k1, rfl⟩ := Rs.owns_slice hNP.left
  obtain ⟨a2, k2, rfl⟩ := Rs.owns_slice hNP.join
  obtain ⟨a3, k3, rfl⟩ := Rs.owns_slice hNP.item
  rw [pn_three]
  obtain ⟨c3, hc3⟩ : ∃ c, tcs t3 = c := ⟨_, rfl⟩
  have HC : Hid (tcs t3 = c3) := hc3
  rw [hc3]
  simp only [hc3] at hs1 hs2
  obtain ⟨l1, hl1⟩ : ∃ l, (pnL stT [] [1, 2, 3]).length = l := ⟨_, rfl⟩
  obtain ⟨l2, hl2⟩ : ∃ l, (pnJ stT [] [1, 2, 3]).length = l := ⟨_, rfl⟩
  obtain ⟨l3, hl3⟩ : ∃ l, (pnI stT [] [1, 2, 3]).length = l := ⟨_, rfl⟩
  obtain ⟨e, he⟩ : ∃ e, plE stT [] [1, 2, 3] = e := ⟨_, rfl⟩
  obtain ⟨p, hp⟩ : ∃ e, pnP stT [] [1, 2, 3] = e := ⟨_, rfl⟩
  rw [hl1, hl2, hl3, he, hp]
  obtain ⟨t1, t2, W, hW, tT, tR, tB⟩ := two_boxes w4 t3 c3 #[.int .i64 p, .slice a1 l1 k1, .slice a2 l2 k2, .slice a3 l3 k3] hc3
  clear h2 hNP hb4 hB3 hl1 hl2 hl3 he hp hc3
  go_upto_region 2 with (first | (refine stTc t1 HC.out rfl _ _ rfl rfl rfl ?_) | (refine stRw infoRk (cs := rkz) rkz_size t2 _ rfl (rk_one _ _ _ _ _ _ _ _ _ _) rfl _ _ rfl rfl rfl ?_))
  have HB5 : Hid (Below w.heap.size w W) := hB4.trans (tB.mono hB4.size)
  clear t1 t2 hW hB4 tB tR
  generalize w4.heap.size = N at *
  go_wp2_with (refine rdT tT HC.out _ rfl rfl rfl ?_)
  refine (hs1 _).mono ?_
  rintro r w6 ⟨rfl, hb6⟩
  have hb7 := Wi.Below.join hb6 (below_alloc w6 (.cells (mba (Mb.stM t3 1)) 27))
  have hA7 := MA.new w6 (Mb.stM t3 1)
  have hT7 := tT.later hb7
  have HB7 : Hid (Below w.heap.size w (w6.alloc (.cells (mba (Mb.stM t3 1)) 27))) := Wi.Below.join HB5.out hb7
  rw [HA.out] at hA7 hT7 HB7
  clear hs1 hb6 hb7 tT HB5
  go_upto_region 3 with (refine stMn (w := w6) HA.out rfl _ _ rfl rfl rfl ?_)
  generalize w6.alloc (.cells ca 27) = w7 at *
  generalize w6.heap.size = A at *
  go_wp2_with (refine rdT hT7 HC.out _ rfl rfl rfl ?_)
  refine (hs2 _).mono ?_
  rintro r w8 ⟨rfl, hb8⟩
  have hb9 := Wi.Below.join hb8 (below_alloc w8 (.cells (mba (Mb.stM t3 2)) 27))
  have hC9 := MA.new w8 (Mb.stM t3 2)
  have hA9 := hA7.later hb9
  have HB9 : Hid (Below w.heap.size w (w8.alloc (.cells (mba (Mb.stM t3 2)) 27))) := Wi.Below.join HB7.out hb9
  rw [HB.out] at hC9 hA9 HB9
  clear hs2 hb8 hb9 hT7 HB7 hA7
  go_upto_region 4 with (refine stMn (w := w8) HB.out rfl _ _ rfl rfl rfl ?_)
  generalize w8.alloc (.cells cb 27) = w9 at *
  generalize w8.heap.size = C at *
  go_wp2_with (refine ldMb hA9 HA.out _ rfl rfl rfl ?_)
  refine (hsl _).mono ?_
  rintro r w10 ⟨rfl, hb10⟩
  have hb11 := Wi.Below.join hb10 (below_alloc w10 (.cells #[.int .i64 1, .int .i64 1, .int .i64 1, .string ⟨#[104, 101, 108, 108, 111]⟩] 30))
  have hC11 := hC9.later hb11
  have HB11 : Hid (Below w.heap.size w (w10.alloc (.cells #[.int .i64 1, .int .i64 1, .int .i64 1, .string ⟨#[104, 101, 108, 108, 111]⟩] 30))) := Wi.Below.join HB9.out hb11
  have hD11 : DAt (w10.alloc (.cells #[.int .i64 1, .int .i64 1, .int .i64 1, .string ⟨#[104, 101, 108, 108, 111]⟩] 30)) w10.heap.size (1, ((1, 1), (⟨#[104, 101, 108, 108, 111]⟩ : ByteArray))) := heap_alloc_last w10 _
  clear hsl hb10 hb11 hA9 hC9 HB9
  go_upto_region 5 with (fail)
  generalize w10.alloc (.cells #[.int .i64 1, .int .i64 1, .int .i64 1, .string ⟨#[104, 101, 108, 108, 111]⟩] 30) = w11 at *
  generalize w10.heap.size = D at *
  have HD11 : Hid (w11.rangeAt D 0 (sdl (1, ((1, 1), (⟨#[104, 101, 108, 108, 111]⟩ : ByteArray))))) := hD11.all
  go_wp2_with (first | (refine ldMb hC11 HB.out _ rfl rfl rfl ?_) | (refine ldM HD11.out Try.underlying30 rfl Wi.szSd _ rfl rfl rfl ?_))
  refine (hop _).mono ?_
  rintro r w12 ⟨rfl, hb12⟩
  have HB12 : Hid (Below w.heap.size w w12) := Wi.Below.join HB11.out hb12
  have HD12 : Hid (w12.rangeAt D 0 (sdl (1, ((1, 1), (⟨#[104, 101, 108, 108, 111]⟩ : ByteArray))))) := (hD11.later hb12).all
  have e1 := heq w12
  clear hop hb12 hC11 hD11 HD11 HB11 heq
  go_wp2_with (first | (refine ldM HD12.out Try.underlying30 rfl Wi.szSd _ rfl rfl rfl ?_) | (refine Wi.eqX e1 Try.eqGuardType30 _ _ rfl rfl rfl rfl ?_))
  go_ret
  exact ⟨rfl, HB12.out⟩
end Go.Proofs.Ytpimbpfefhkojaa.Rv
