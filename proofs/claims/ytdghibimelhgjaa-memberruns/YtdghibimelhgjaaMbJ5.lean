/- MbR, MbS, MbT, joined. -/
import Derived.Test.YtdghibimelhgjaaMbJ4
import Derived.Test.YtdghibimelhgjaaPwJ
import Derived.Test.YtdghibimelhgjaaPlJ7
import Derived.Test.YtdghibimelhgjaaPlJ4
import Derived.Test.YtdghibimelhgjaaPlJ1
import Derived.Test.YtdghibimelhgjaaTrN
import Derived.Test.YtdghibimelhgjaaWiJ2
/- The document's Next, Stand and Card, with messages and states as the member's; lives. -/
namespace Go.Proofs.Ytdghibimelhgjaa.Mb
open Go.RowKit Go.Maps
open Rt (Ky zK gd gv Gd pcs KyAt)
open Rs (RdI ps evl)
open Wi (gR gE gW gS gI gB gK ldM stM rd_guard ra_of th_of ra_later RdV itl stl)
set_option linter.unusedVariables false
set_option linter.unusedSimpArgs false

def pR (t : Tr) (L J : List Int) : Rk := (pnP t L J, (pnL t L J, (pnJ t L J, (pnI t L J).map itP)))
theorem isl_map (li : List It) : isl li = (li.map itP).flatMap Wi.itl := by
  unfold isl
  rw [List.flatMap_map]
  rfl
def NxA (t : Tr) (L J : List Int) (w' : World) (e : Ending) : Prop := ∃ a1 a2 a3 k1 k2 k3, e = .returned (.tuple #[.agg (tcs (pnT t L J)), .agg (rka (pR t L J) a1 a2 a3 k1 k2 k3), .int .i64 (plE t L J)]) ∧ RL w' (pR t L J) a1 a2 a3
theorem NxA.of {w w' : World} {t : Tr} {L J : List Int} {e : Ending} (h : NextA w w' t L J e) : NxA t L J w' e := by
  obtain ⟨vl, vj, vi, he, hp⟩ := h
  obtain ⟨a1, k1, rfl⟩ := Rs.owns_slice hp.left
  obtain ⟨a2, k2, rfl⟩ := Rs.owns_slice hp.join
  obtain ⟨a3, k3, rfl⟩ := Rs.owns_slice hp.item
  have e3 : (pR t L J).2.2.2.length = (pnI t L J).length := List.length_map ..
  refine ⟨a1, a2, a3, k1, k2, k3, ?_, Wi.rd_owns (f := Wi.stl) (fun _ => rfl) hp.left, Wi.rd_owns (f := Wi.stl) (fun _ => rfl) hp.join, ?_⟩
  · rw [he]
    unfold rka
    rw [e3]
    rfl
  · refine Wi.rd_owns (f := Wi.itl) (l := (pR t L J).2.2.2) (b := w.heap.size) (T := 97) (cap := k3) (fun _ => rfl) ?_
    rw [e3]
    show w'.ownsRow w.heap.size 97 6 (.slice a3 (pnI t L J).length k3) (pnI t L J).length (((pnI t L J).map itP).flatMap Wi.itl)
    rw [← isl_map]
    exact hp.item
theorem next_r (t : Tr) (aL aJ : Option Addr) (cL cJ : Nat) (L J : List Int) (w : World) (lL : L.length < 1152921504606846976) (lJ : J.length < 1152921504606846976) (hL : RdI w aL L) (hJ : RdI w aJ J) :
    Calls Try.prog 5 #[.agg (tcs t), .agg #[.slice aL L.length cL, .slice aJ J.length cJ] ] w fun e w' => NxA t L J w' e ∧ Below w.heap.size w w' :=
  (rNext_any t aL aJ cL cJ L J w lL lJ hL hJ).mono fun e w' h => ⟨NxA.of h.1, h.2⟩
def stM (t : Tr) (x : Int) : Mb := ⟨caW t x, caS t x, caP t x, caK t x, caQ t x 0, caQ t x 1, caQ t x 2, decide (caE t x = 0), false, 0⟩
theorem stand_r (t : Tr) (x : Int) (w : World) : Calls Try.prog 6 #[.agg (tcs t), .int .i64 x] w fun e w' => e = .returned (.tuple #[.agg (mba (stM t x)), .int .i64 (caE t x)]) ∧ Below w.heap.size w w' := rStand_any t x w
theorem pR_len (t : Tr) (L J : List Int) : RN (pR t L J) := by
  have h1 := pnL_len t L J
  have h2 := pnJ_len t L J
  have h3 := pnI_short t L J
  have e3 : (pR t L J).2.2.2.length = (pnI t L J).length := List.length_map ..
  exact ⟨by show (pnL t L J).length < _; omega, by show (pnJ t L J).length < _; omega, by rw [e3]; omega⟩
/- Example 1. -/
def liv : Mb := ⟨2, 1, 2, ⟨23, 1⟩, ⟨25, 0⟩, ⟨26, 0⟩, ⟨27, 0⟩, true, false, 0⟩
theorem live_0 : caE t3 2 = 0 := by decide +kernel
theorem live_1 : (apl (stM t3 2) (pR t3 [1] [])).1 = 0 ∧ mE (apl (stM t3 2) (pR t3 [1] [])).2 liv = true := by decide +kernel
theorem live_2 : apl (stM t3 2) (pR t3 [1] []) = (0, liv) := Prod.ext live_1.1 (mE_iff.1 live_1.2)
theorem live_3 : knd liv = 3 := by decide +kernel
/- A state stored into a block just made. -/
theorem stMn {ops : Array Oper} {rest : List Oper} {o : Oper} {a : Act} {w : World} {Q : Exit → Act → World → Prop} {n : Mb} {cn : Array Value} (h1 : mba n = cn) (hgd : o.guard = none) (x y : Operand) (ho : o.op = .store 49 x y) (hx : a.eval x = .pointer (some ⟨w.heap.size, 0, none⟩)) (hy : a.eval y = .agg cn)
    (k : wpList Try.prog ops Q rest (a.put o.dst undef) (w.alloc (.cells cn 49))) : wpList Try.prog ops Q (o :: rest) a (w.alloc (.cells (mba zMb) 49)) := by
  subst h1
  refine stMb (MA.new w zMb) rfl hgd x y ho hx hy ?_
  rw [World.setRow_alloc_new]
  exact k
end Go.Proofs.Ytdghibimelhgjaa.Mb
/- Contract: lives. -/
namespace Go.Proofs.Ytdghibimelhgjaa.Mb
open Go.RowKit Go.Maps
open Rt (Ky zK gd gv Gd pcs KyAt)
open Rs (RdI ps evl)
open Wi (gR gE gW gS gI gB gK ldM stM rd_guard ra_of th_of ra_later RdV itl stl)
set_option linter.unusedVariables false
set_option linter.unusedSimpArgs false

theorem pE_liv : pE liv.p0 liv.p1 liv.p2 ⟨25, 0⟩ ⟨26, 0⟩ ⟨27, 0⟩ = true := by decide
set_option maxRecDepth 100000 in
set_option maxHeartbeats 2000000 in
theorem lives_any (w : World) : Calls Try.prog 4 #[] w fun e w' => e = .returned (.bool true) ∧ Below w.heap.size w w' := by
  have h3 := three15_any
  have hst := stand_r t3 2
  rw [live_0] at hst
  have hap := fun W a1 a2 a3 k1 k2 k3 (hr : RL W (pR t3 [1] []) a1 a2 a3) => apply_any (stM t3 2) (pR t3 [1] []) a1 a2 a3 k1 k2 k3 W hr (pR_len t3 [1] [])
  rw [live_2] at hap
  unfold ApR at hap
  have hkd := kind_any liv
  rw [live_3] at hkd
  obtain ⟨cm, hcm⟩ : ∃ c, mba (stM t3 2) = c := ⟨_, rfl⟩
  have HM : Hid (mba (stM t3 2) = cm) := hcm
  simp only [hcm] at hst hap
  obtain ⟨cl, hcl⟩ : ∃ c, mba liv = c := ⟨_, rfl⟩
  have HL : Hid (mba liv = cl) := hcl
  simp only [hcl] at hap hkd
  obtain ⟨c3, hc3⟩ : ∃ c, tcs t3 = c := ⟨_, rfl⟩
  have HT : Hid (tcs t3 = c3) := hc3
  simp only [hc3] at h3 hst
  clear hcm hcl hc3
  go_enter Try.func4, Try.ntmps4
  go_wp2_with fail
  refine (h3 _).mono ?_
  rintro r w1 ⟨rfl, hb1⟩
  go_wp2_with fail
  refine (hst _).mono ?_
  rintro r w2 ⟨rfl, hb2⟩
  have hB3 := Wi.Below.join (Wi.Below.join hb1 hb2) (below_alloc w2 (.cells (mba (stM t3 2)) 49))
  have hA3 := MA.new w2 (stM t3 2)
  rw [HM.out] at hB3 hA3
  clear hb1 hb2 hst
  go_upto_region 2 with (refine stMn (w := w2) HM.out rfl _ _ rfl rfl rfl ?_)
  generalize w2.alloc (.cells cm 49) = w3 at *
  generalize w2.heap.size = A at *
  go_wp2_with fail
  refine (h3 _).mono ?_
  rintro r w4 ⟨rfl, hb4⟩
  have hb5 := Wi.Below.join hb4 (below_alloc w4 (.cells #[.int .i64 1] 3))
  have hB5 := Wi.Below.join hB3 hb5
  have hA5 := hA3.later hb5
  have hn := next_r t3 (some ⟨w4.heap.size, 0, none⟩) none 1 0 [1] [] (w4.alloc (.cells #[.int .i64 1] 3)) (by simp) (by simp) (rd_one w4) (Rs.RdI.nil _ _)
  rw [HT.out] at hn
  simp only [List.length_nil, List.length_cons, Nat.zero_add, Nat.reduceAdd] at hn
  clear hb4 hb5 hA3 hB3 h3
  go_wp2_with fail
  refine hn.mono ?_
  rintro r w6 ⟨⟨a1, a2, a3, k1, k2, k3, rfl, hr6⟩, hb6⟩
  have hap6 := fun W => hap W a1 a2 a3 k1 k2 k3
  unfold rka at hap6 ⊢
  rw [live_E]
  obtain ⟨n, hnn⟩ : ∃ n, pnT t3 [1] [] = n := ⟨_, rfl⟩
  rw [hnn]
  obtain ⟨cn, hcn⟩ : ∃ c, tcs n = c := ⟨_, rfl⟩
  have HC : Hid (tcs n = cn) := hcn
  rw [hcn]
  have hr6' : RL w6 (pR t3 [1] []) a1 a2 a3 := hr6
  obtain ⟨p, hp⟩ : ∃ p, pR t3 [1] [] = p := ⟨_, rfl⟩
  rw [hp] at hr6' ⊢
  simp only [hp] at hap6
  obtain ⟨t1, t2, W, hW, tT, tR, tB⟩ := two_boxes w6 n cn #[.int .i64 p.1, .slice a1 p.2.1.length k1, .slice a2 p.2.2.1.length k2, .slice a3 p.2.2.2.length k3] hcn
  have hb7 := Wi.Below.join hb6 tB
  have hB7 := Wi.Below.join hB5 hb7
  have hA7 := hA5.later hb7
  have hr7 := hr6'.later tB
  clear hap hn hr6 hr6' hb6 hb7 tB hB5 hA5 hcn hnn hp
  go_upto_region 3 with (first | (refine stTc t1 HC.out rfl _ _ rfl rfl rfl ?_) | (refine stRw infoRk (cs := rkz) rkz_size t2 _ rfl (rk_one _ _ _ _ _ _ _ _ _ _) rfl _ _ rfl rfl rfl ?_))
  clear t1 t2 hW tT
  generalize w6.heap.size = N at *
  have hrk : W.rangeAt (N + 1) 0 [.int .i64 p.1, .slice a1 p.2.1.length k1, .slice a2 p.2.2.1.length k2, .slice a3 p.2.2.2.length k3] := ra_of tR 0 _ rfl
  have ha := hap6 W hr7
  clear hap6 hr7 tR
  go_wp2_with (first | (refine ldMb hA7 HM.out _ rfl rfl rfl ?_) | (refine ldM hrk Try.underlying42 rfl Wi.szRk _ rfl rfl rfl ?_))
  refine ha.mono ?_
  rintro r w8 ⟨rfl, hb8⟩
  have hB9 := Wi.Below.join (Wi.Below.join hB7 hb8) (below_alloc w8 (.cells (mba liv) 49))
  have hA9 := MA.new w8 liv
  rw [HL.out] at hB9 hA9
  clear ha hb8 hB7 hA7 hrk
  go_upto_region 4 with (refine stMn (w := w8) HL.out rfl _ _ rfl rfl rfl ?_)
  generalize w8.alloc (.cells cl 49) = w9 at *
  generalize w8.heap.size = M at *
  have c0 : w9.cell? ⟨M, 2, none⟩ = some (.int .i64 2) := hA9.ep
  have c1 : w9.cell? ⟨M, 3, none⟩ = some (.int .i64 23) := hA9.leaf.1
  have c2 : w9.cell? ⟨M, 4, none⟩ = some (.int .i64 1) := hA9.leaf.2
  go_wp2_with (first | (refine ldPa hA9 _ rfl rfl rfl ?_) | (refine eq3 pE_liv _ _ rfl rfl rfl rfl ?_) | (refine ldMb hA9 HL.out _ rfl rfl rfl ?_))
  refine (hkd _).mono ?_
  rintro r w10 ⟨rfl, hb10⟩
  have HB : Hid (Below w.heap.size w w10) := Wi.Below.join hB9 hb10
  clear hb10 hB9 hA9 c0 c1 c2
  go_wp2_with fail
  go_ret
  exact ⟨rfl, HB.out⟩
end Go.Proofs.Ytdghibimelhgjaa.Mb
/- The beginnings of the laws over a state and a message: both boxed. -/
namespace Go.Proofs.Ytdghibimelhgjaa.Mb
open Go.RowKit Go.Maps
open Rt (Ky zK gd gv Gd pcs KyAt)
open Wi (gR gE gW gS gI gB gK ldM stM rd_guard ra_of th_of ra_later RdV itl stl)
set_option linter.unusedVariables false
set_option linter.unusedSimpArgs false

structure LW (w W : World) (B D : Nat) (m : Mb) (r : Rk) (aL aJ aI : Option Addr) (cL cJ cI : Nat) : Prop where
  v : CV W D B r aL aJ aI cL cJ cI m
  bel : Below w.heap.size w W
section
variable {w W W' : World} {B D : Nat} {m : Mb} {r : Rk} {aL aJ aI : Option Addr} {cL cJ cI : Nat}
theorem LW.later (h : LW w W B D m r aL aJ aI cL cJ cI) (hb : Below W.heap.size W W') : LW w W' B D m r aL aJ aI cL cJ cI := ⟨h.v.later hb, h.bel.trans (hb.mono h.bel.size)⟩
theorem LW.new (w : World) (m : Mb) (hr : RL w r aL aJ aI) : LW w ((w.alloc (.cells (mba m) 49)).alloc (.cells (rka r aL aJ aI cL cJ cI) 42)) w.heap.size (w.heap.size + 1) m r aL aJ aI cL cJ cI := by
  have h1 := MA.new w m
  have hb1 := below_alloc w (.cells (mba m) 49)
  have e1 : (w.alloc (.cells (mba m) 49)).heap.size = w.heap.size + 1 := by rw [World.size_alloc]
  generalize w.alloc (.cells (mba m) 49) = w1 at *
  have h2 : RK (w1.alloc (.cells (rka r aL aJ aI cL cJ cI) 42)) w1.heap.size r aL aJ aI cL cJ cI := heap_alloc_last w1 _
  have hb2 := below_alloc w1 (.cells (rka r aL aJ aI cL cJ cI) 42)
  rw [e1] at h2
  have b12 := Wi.Below.join hb1 hb2
  exact ⟨⟨h2, h1.later hb2, hr.later b12⟩, b12⟩
theorem LW.rng (h : LW w W B D m r aL aJ aI cL cJ cI) : W.rangeAt D 0 [.int .i64 r.1, .slice aL r.2.1.length cL, .slice aJ r.2.2.1.length cJ, .slice aI r.2.2.2.length cI] := ra_of h.v.rk 0 _ rfl
end
theorem ap_ep {m : Mb} {r : Rk} (h : (apl m r).1 = 0) : 1 ≤ m.ep ∧ m.ep ≤ 200 := by
  have hk : knd m = 2 ∨ knd m = 3 := by
    have h0 := knd_cases m
    have h1 : ¬ knd m < 1 := fun c => by unfold apl at h; rw [if_pos c] at h; cases h
    have h2 : ¬ knd m = 1 := fun c => by unfold apl at h; rw [if_neg h1, if_pos c] at h; cases h
    omega
  exact (knd_sat hk).1.ep
theorem mE_no {a b : Mb} (h : a ≠ b) : mE a b = false := by
  cases e : mE a b with
  | false => rfl
  | true => exact absurd (mE_iff.1 e) h
end Go.Proofs.Ytdghibimelhgjaa.Mb
