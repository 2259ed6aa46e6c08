/- Contracts: openAll, mayTake. MADE by wip/mk_rvd.py. -/
import Derived.Test.YtpimbpfefhkojaaGreatRvJ3
import Derived.Test.YtpimbpfefhkojaaGreatKeyJ
import Derived.Test.YtpimbpfefhkojaaGreatWiJ2
import Derived.BigRegion
namespace Go.Proofs.YtpimbpfefhkojaaGreat.Rv
open Go.RowKit Go.Maps Mb
open Rt (Ky zK gd gv Gd gd_iff pcs KyAt)
open Wi (gR gE gW gS gI gB gK gP zP zR zQ zD ldM rd_guard ra_of th_of ra_later RdV itl stl bxl Msg gM MR mgv)
set_option linter.unusedVariables false
set_option linter.unusedSimpArgs false

abbrev Bx := (Int × Int) × (Int × Int)
def bx3 (x y z : Bx) : List Value := [.int .i64 x.1.1, .int .i64 x.1.2, .int .i64 x.2.1, .int .i64 x.2.2, .int .i64 y.1.1, .int .i64 y.1.2, .int .i64 y.2.1, .int .i64 y.2.2, .int .i64 z.1.1, .int .i64 z.1.2, .int .i64 z.2.1, .int .i64 z.2.2]
theorem szB3 : (Tryz.prog.info? 58).map (·.size) = some 12 := by kernel_rfl
theorem RA.b3 {w : World} {B : Nat} {p : Rp} (h : RA w B p) : w.rangeAt B 3 (bx3 p.2.2.1 p.2.2.2.1 p.2.2.2.2) := ra_of h 3 _ rfl
theorem bi0 (x y z : Bx) (w : World) : (Instr.index 58 (.agg (bx3 x y z).toArray) (.int .i64 0)).run Tryz.prog w = .ok (.agg #[.int .i64 x.1.1, .int .i64 x.1.2, .int .i64 x.2.1, .int .i64 x.2.2]) w := by kernel_rfl
theorem bi1 (x y z : Bx) (w : World) : (Instr.index 58 (.agg (bx3 x y z).toArray) (.int .i64 1)).run Tryz.prog w = .ok (.agg #[.int .i64 y.1.1, .int .i64 y.1.2, .int .i64 y.2.1, .int .i64 y.2.2]) w := by kernel_rfl
theorem bi2 (x y z : Bx) (w : World) : (Instr.index 58 (.agg (bx3 x y z).toArray) (.int .i64 2)).run Tryz.prog w = .ok (.agg #[.int .i64 z.1.1, .int .i64 z.1.2, .int .i64 z.2.1, .int .i64 z.2.2]) w := by kernel_rfl
theorem open_y {b : Bx} {k : Ky} (hb : gB b = true) (hk : gk k = true) (h : opn b k = true) (w : World) : Calls Tryz.prog 53 #[.agg #[.int .i64 b.1.1, .int .i64 b.1.2, .int .i64 b.2.1, .int .i64 b.2.2], .agg #[.int .i64 k.bas, .int .i64 k.stp]] w fun r w' => r = .returned (.tuple #[.agg #[.int .i64 b.2.1, .int .i64 b.2.2], .int .i64 0]) ∧ Below w.heap.size w w' :=
  Rt.open_yes _ _ _ _ _ _ (gd_iff.1 (Wi.gB_iff.1 hb).1) (gd_iff.1 (Wi.gB_iff.1 hb).2) (gd_iff.1 hk) h w
theorem open_n {b : Bx} {k : Ky} (hb : gB b = true) (hk : gk k = true) (h : opn b k = false) (w : World) : Calls Tryz.prog 53 #[.agg #[.int .i64 b.1.1, .int .i64 b.1.2, .int .i64 b.2.1, .int .i64 b.2.2], .agg #[.int .i64 k.bas, .int .i64 k.stp]] w fun r w' => r = .returned (.tuple #[.agg #[.int .i64 0, .int .i64 0], .int .i64 5]) ∧ Below w.heap.size w w' :=
  Rt.open_off _ _ _ _ _ _ (gd_iff.1 (Wi.gB_iff.1 hb).1) (gd_iff.1 (Wi.gB_iff.1 hb).2) (gd_iff.1 hk) h w
def OaA (x y z : Bx) (k : Ky) : Ending := if opn x k && (opn y k && opn z k) then .returned (.tuple #[.agg (pal (ldK x) (ldK y) (ldK z)).toArray, .int .i64 0]) else .returned (.tuple #[.agg (pal zK zK zK).toArray, .int .i64 5])
structure SO (w W : World) (Y K P : Nat) (k a b c : Ky) : Prop where
  ky : KyAt W Y k
  re : PAt W K zK zK zK
  pa : PAt W P a b c
  bel : Below w.heap.size w W
  gk : w.heap.size ≤ K
  gp : w.heap.size ≤ P
  n1 : Y ≠ P
  n2 : K ≠ P
theorem SO.later {w W W' : World} {Y K P : Nat} {k a b c : Ky} (h : SO w W Y K P k a b c) (hb : Below W.heap.size W W') : SO w W' Y K P k a b c := ⟨h.ky.later hb, row_later h.re hb, row_later h.pa hb, h.bel.trans (hb.mono h.bel.size), h.gk, h.gp, h.n1, h.n2⟩
theorem SO.upd {w W : World} {Y K P : Nat} {k a b c : Ky} (h : SO w W Y K P k a b c) {i j : Nat} {u v : Value} {a' b' c' : Ky} (hq : PAt ((W.setCell ⟨P, i, none⟩ u).setCell ⟨P, j, none⟩ v) P a' b' c') : SO w ((W.setCell ⟨P, i, none⟩ u).setCell ⟨P, j, none⟩ v) Y K P k a' b' c' :=
  ⟨two_other h.ky h.n1 _ _ _ _, two_other h.re h.n2 _ _ _ _, hq, two_bel h.bel h.gp _ _ _ _, h.gk, h.gp, h.n1, h.n2⟩
theorem PAt.fr {w : World} {B : Nat} {a b c : Ky} (h : PAt w B a b c) (k : Nat) : w.frozen? ⟨B, k, none⟩ = false := Rt.row_frozen h k
theorem SO.new (w : World) (v : Array Value) (k : Ky) : SO w ((((w.alloc (.cells v 58)).alloc (.cells #[.int .i64 k.bas, .int .i64 k.stp] 23)).alloc (.cells (pal zK zK zK).toArray 37)).alloc (.cells (pal zK zK zK).toArray 37)) (w.heap.size + 1) (w.heap.size + 2) (w.heap.size + 3) k zK zK zK := by
  have h1 := KyAt.new (w.alloc (.cells v 58)) k
  have h2 : PAt (((w.alloc (.cells v 58)).alloc (.cells #[.int .i64 k.bas, .int .i64 k.stp] 23)).alloc (.cells (pal zK zK zK).toArray 37)) _ zK zK zK := heap_alloc_last _ _
  have h3 : PAt ((((w.alloc (.cells v 58)).alloc (.cells #[.int .i64 k.bas, .int .i64 k.stp] 23)).alloc (.cells (pal zK zK zK).toArray 37)).alloc (.cells (pal zK zK zK).toArray 37)) _ zK zK zK := heap_alloc_last _ _
  simp only [World.size_alloc] at h1 h2 h3
  exact ⟨(h1.later (below_alloc _ _)).later (below_alloc _ _), row_later h2 (below_alloc _ _), h3, Wi.Below.plus (Wi.Below.plus (Wi.Below.plus (below_alloc _ _) _) _) _, by omega, by omega, by omega, by omega⟩
theorem pz_eq : (#[.int .i64 0, .int .i64 0, .int .i64 0, .int .i64 0, .int .i64 0, .int .i64 0] : Array Value) = (pal zK zK zK).toArray := rfl
set_option maxRecDepth 100000 in
set_option maxHeartbeats 2000000 in
theorem openAll_any (x y z : Bx) (k : Ky) (hx : gB x = true) (hy : gB y = true) (hz : gB z = true) (hk : gk k = true) (w : World) :
    Calls Tryz.prog 27 #[.agg (bx3 x y z).toArray, .agg #[.int .i64 k.bas, .int .i64 k.stp]] w fun r w' => r = OaA x y z k ∧ Below w.heap.size w w' := by
  have bi0 := bi0 x y z
  have bi1 := bi1 x y z
  have bi2 := bi2 x y z
  have hS := SO.new w (bx3 x y z).toArray k
  have hbb := ra_later (ra_later (ra_later (ra_of (heap_alloc_last w (.cells (bx3 x y z).toArray 58)) 0 (bx3 x y z) rfl) (below_alloc _ (.cells #[.int .i64 k.bas, .int .i64 k.stp] 23))) (below_alloc _ (.cells (pal zK zK zK).toArray 37))) (below_alloc _ (.cells (pal zK zK zK).toArray 37))
  obtain ⟨cb, hcb⟩ : ∃ c, (bx3 x y z).toArray = c := ⟨_, rfl⟩
  have HC : Hid ((bx3 x y z).toArray = cb) := hcb
  rw [hcb] at hS hbb
  rw [hcb]
  clear hcb
  go_enter Tryz.func27, Tryz.ntmps27
  go_upto_region 2 with (fail)
  rw [pz_eq]
  generalize (((w.alloc (.cells cb 58)).alloc (.cells #[.int .i64 k.bas, .int .i64 k.stp] 23)).alloc (.cells (pal zK zK zK).toArray 37)).alloc (.cells (pal zK zK zK).toArray 37) = wc at *
  obtain ⟨P, hP⟩ : ∃ K, w.heap.size + 3 = K := ⟨_, rfl⟩
  obtain ⟨K, hK⟩ : ∃ K, w.heap.size + 2 = K := ⟨_, rfl⟩
  obtain ⟨Y, hY⟩ : ∃ K, w.heap.size + 1 = K := ⟨_, rfl⟩
  obtain ⟨B, hB⟩ : ∃ K, w.heap.size = K := ⟨_, rfl⟩
  rw [hP, hK, hY] at hS
  rw [hB] at hbb
  rw [hP, hK, hY, hB]
  clear hP hK hY hB HC
  go_wp2_with (refine ldM hbb Tryz.underlying58 rfl szB3 _ rfl rfl rfl ?_)
  clear hbb
  refine wp_loop_rounds 4 ?_
  have hSa := hS.later (below_alloc wc (.cells #[.int .i64 x.1.1, .int .i64 x.1.2, .int .i64 x.2.1, .int .i64 x.2.2] 57))
  have hbx := heap_alloc_last wc (.cells #[.int .i64 x.1.1, .int .i64 x.1.2, .int .i64 x.2.1, .int .i64 x.2.2] 57)
  rw [rounds_succ]
  go_upto_region 5 with (fail)
  generalize wc.alloc (.cells #[.int .i64 x.1.1, .int .i64 x.1.2, .int .i64 x.2.1, .int .i64 x.2.2] 57) = wa at *
  generalize wc.heap.size = X at *
  clear hS
  obtain ⟨z0, z1, z2, z3⟩ := Wi.c4 hbx
  obtain ⟨y0, y1⟩ := hSa.ky.cells
  clear hbx
  cases ho : opn x k with
  | false =>
    have hop := open_n hx hk ho
    have HA : Hid (Ending.returned (.tuple #[.agg (pal zK zK zK).toArray, .int .i64 5]) = OaA x y z k) := by unfold Hid OaA; rw [if_neg (by rw [ho]; simp)]
    clear ho
    go_wp2_with fail
    refine (hop _).mono ?_
    rintro r wb ⟨rfl, hb⟩
    have hSb := hSa.later hb
    have hre := row_later hSb.re (below_alloc wb (.cells #[.int .i64 0, .int .i64 0] 23))
    have HBL : Hid (Below w.heap.size w (wb.alloc (.cells #[.int .i64 0, .int .i64 0] 23))) := Wi.Below.plus hSb.bel _
    have HGK : Hid (w.heap.size ≤ K) := hSb.gk
    clear hSa hSb hb z0 z1 z2 z3 y0 y1 hop
    go_upto_region 6 with (fail)
    generalize wb.alloc (.cells #[.int .i64 0, .int .i64 0] 23) = wn at *
    generalize wb.heap.size = N at *
    go_wp2_with (refine stPa hre zK zK zK rfl _ _ rfl rfl rfl ?_)
    refine bodyPost_ret (resRow (p := 4) (t := 5) rfl _ _ K (pal zK zK zK).toArray rfl (PAt.row hre zK zK zK).var) rfl ?_
    exact ⟨HA.out, Rt.setRow_below HGK.out HBL.out _⟩
  | true =>
    have hop := open_y hx hk ho
    have HO0 : Hid (opn x k = true) := ho
    clear ho
    go_wp2_with fail
    refine (hop _).mono ?_
    rintro r wb ⟨rfl, hb⟩
    have hSb := (hSa.later hb).later (below_alloc wb (.cells #[.int .i64 x.2.1, .int .i64 x.2.2] 23))
    have hky := KyAt.new wb (ldK x)
    clear hSa hb z0 z1 z2 z3 y0 y1 hop
    go_upto_region 6 with (fail)
    have hky : KyAt (wb.alloc (.cells #[.int .i64 x.2.1, .int .i64 x.2.2] 23)) wb.heap.size (ldK x) := hky
    generalize wb.alloc (.cells #[.int .i64 x.2.1, .int .i64 x.2.2] 23) = wn at *
    generalize wb.heap.size = N at *
    have y0 : wn.cell? ⟨N, 0, none⟩ = some (.int .i64 x.2.1) := hky.cells.1
    have y1 : wn.cell? ⟨N, 1, none⟩ = some (.int .i64 x.2.2) := hky.cells.2
    obtain ⟨⟨a0, a1⟩, ⟨a2, a3⟩, a4, a5⟩ := hSb.pa.cells
    have f0 := PAt.fr hSb.pa 0
    have f1 := PAt.fr hSb.pa 1
    have hS : SO w ((wn.setCell ⟨P, 0, none⟩ (.int .i64 x.2.1)).setCell ⟨P, 1, none⟩ (.int .i64 x.2.2)) Y K P k (ldK x) zK zK := hSb.upd (PAt.set0 hSb.pa (ldK x))
    clear hky hSb
    go_upto_region 9 with (fail)
    clear y0 y1 a0 a1 a2 a3 a4 a5 f0 f1
    generalize (wn.setCell ⟨P, 0, none⟩ (.int .i64 x.2.1)).setCell ⟨P, 1, none⟩ (.int .i64 x.2.2) = wc at *
    go_wp2_with fail
    have hSa := hS.later (below_alloc wc (.cells #[.int .i64 y.1.1, .int .i64 y.1.2, .int .i64 y.2.1, .int .i64 y.2.2] 57))
    have hbx := heap_alloc_last wc (.cells #[.int .i64 y.1.1, .int .i64 y.1.2, .int .i64 y.2.1, .int .i64 y.2.2] 57)
    rw [rounds_succ]
    go_upto_region 5 with (fail)
    generalize wc.alloc (.cells #[.int .i64 y.1.1, .int .i64 y.1.2, .int .i64 y.2.1, .int .i64 y.2.2] 57) = wa at *
    generalize wc.heap.size = X at *
    clear hS
    obtain ⟨z0, z1, z2, z3⟩ := Wi.c4 hbx
    obtain ⟨y0, y1⟩ := hSa.ky.cells
    clear hbx
    cases ho : opn y k with
    | false =>
      have hop := open_n hy hk ho
      have HA : Hid (Ending.returned (.tuple #[.agg (pal zK zK zK).toArray, .int .i64 5]) = OaA x y z k) := by unfold Hid OaA; rw [if_neg (by rw [ho]; simp)]
      clear ho
      go_wp2_with fail
      refine (hop _).mono ?_
      rintro r wb ⟨rfl, hb⟩
      have hSb := hSa.later hb
      have hre := row_later hSb.re (below_alloc wb (.cells #[.int .i64 0, .int .i64 0] 23))
      have HBL : Hid (Below w.heap.size w (wb.alloc (.cells #[.int .i64 0, .int .i64 0] 23))) := Wi.Below.plus hSb.bel _
      have HGK : Hid (w.heap.size ≤ K) := hSb.gk
      clear hSa hSb hb z0 z1 z2 z3 y0 y1 hop
      go_upto_region 6 with (fail)
      generalize wb.alloc (.cells #[.int .i64 0, .int .i64 0] 23) = wn at *
      generalize wb.heap.size = N at *
      go_wp2_with (refine stPa hre zK zK zK rfl _ _ rfl rfl rfl ?_)
      refine bodyPost_ret (resRow (p := 4) (t := 5) rfl _ _ K (pal zK zK zK).toArray rfl (PAt.row hre zK zK zK).var) rfl ?_
      exact ⟨HA.out, Rt.setRow_below HGK.out HBL.out _⟩
    | true =>
      have hop := open_y hy hk ho
      have HO1 : Hid (opn y k = true) := ho
      clear ho
      go_wp2_with fail
      refine (hop _).mono ?_
      rintro r wb ⟨rfl, hb⟩
      have hSb := (hSa.later hb).later (below_alloc wb (.cells #[.int .i64 y.2.1, .int .i64 y.2.2] 23))
      have hky := KyAt.new wb (ldK y)
      clear hSa hb z0 z1 z2 z3 y0 y1 hop
      go_upto_region 6 with (fail)
      have hky : KyAt (wb.alloc (.cells #[.int .i64 y.2.1, .int .i64 y.2.2] 23)) wb.heap.size (ldK y) := hky
      generalize wb.alloc (.cells #[.int .i64 y.2.1, .int .i64 y.2.2] 23) = wn at *
      generalize wb.heap.size = N at *
      have y0 : wn.cell? ⟨N, 0, none⟩ = some (.int .i64 y.2.1) := hky.cells.1
      have y1 : wn.cell? ⟨N, 1, none⟩ = some (.int .i64 y.2.2) := hky.cells.2
      obtain ⟨⟨a0, a1⟩, ⟨a2, a3⟩, a4, a5⟩ := hSb.pa.cells
      have f0 := PAt.fr hSb.pa 2
      have f1 := PAt.fr hSb.pa 3
      have hS : SO w ((wn.setCell ⟨P, 2, none⟩ (.int .i64 y.2.1)).setCell ⟨P, 3, none⟩ (.int .i64 y.2.2)) Y K P k (ldK x) (ldK y) zK := hSb.upd (PAt.set1 hSb.pa (ldK y))
      clear hky hSb
      go_upto_region 9 with (fail)
      clear y0 y1 a0 a1 a2 a3 a4 a5 f0 f1
      generalize (wn.setCell ⟨P, 2, none⟩ (.int .i64 y.2.1)).setCell ⟨P, 3, none⟩ (.int .i64 y.2.2) = wc at *
      go_wp2_with fail
      have hSa := hS.later (below_alloc wc (.cells #[.int .i64 z.1.1, .int .i64 z.1.2, .int .i64 z.2.1, .int .i64 z.2.2] 57))
      have hbx := heap_alloc_last wc (.cells #[.int .i64 z.1.1, .int .i64 z.1.2, .int .i64 z.2.1, .int .i64 z.2.2] 57)
      rw [rounds_succ]
      go_upto_region 5 with (fail)
      generalize wc.alloc (.cells #[.int .i64 z.1.1, .int .i64 z.1.2, .int .i64 z.2.1, .int .i64 z.2.2] 57) = wa at *
      generalize wc.heap.size = X at *
      clear hS
      obtain ⟨z0, z1, z2, z3⟩ := Wi.c4 hbx
      obtain ⟨y0, y1⟩ := hSa.ky.cells
      clear hbx
      cases ho : opn z k with
      | false =>
        have hop := open_n hz hk ho
        have HA : Hid (Ending.returned (.tuple #[.agg (pal zK zK zK).toArray, .int .i64 5]) = OaA x y z k) := by unfold Hid OaA; rw [if_neg (by rw [ho]; simp)]
        clear ho
        go_wp2_with fail
        refine (hop _).mono ?_
        rintro r wb ⟨rfl, hb⟩
        have hSb := hSa.later hb
        have hre := row_later hSb.re (below_alloc wb (.cells #[.int .i64 0, .int .i64 0] 23))
        have HBL : Hid (Below w.heap.size w (wb.alloc (.cells #[.int .i64 0, .int .i64 0] 23))) := Wi.Below.plus hSb.bel _
        have HGK : Hid (w.heap.size ≤ K) := hSb.gk
        clear hSa hSb hb z0 z1 z2 z3 y0 y1 hop
        go_upto_region 6 with (fail)
        generalize wb.alloc (.cells #[.int .i64 0, .int .i64 0] 23) = wn at *
        generalize wb.heap.size = N at *
        go_wp2_with (refine stPa hre zK zK zK rfl _ _ rfl rfl rfl ?_)
        refine bodyPost_ret (resRow (p := 4) (t := 5) rfl _ _ K (pal zK zK zK).toArray rfl (PAt.row hre zK zK zK).var) rfl ?_
        exact ⟨HA.out, Rt.setRow_below HGK.out HBL.out _⟩
      | true =>
        have hop := open_y hz hk ho
        have HO2 : Hid (opn z k = true) := ho
        clear ho
        go_wp2_with fail
        refine (hop _).mono ?_
        rintro r wb ⟨rfl, hb⟩
        have hSb := (hSa.later hb).later (below_alloc wb (.cells #[.int .i64 z.2.1, .int .i64 z.2.2] 23))
        have hky := KyAt.new wb (ldK z)
        clear hSa hb z0 z1 z2 z3 y0 y1 hop
        go_upto_region 6 with (fail)
        have hky : KyAt (wb.alloc (.cells #[.int .i64 z.2.1, .int .i64 z.2.2] 23)) wb.heap.size (ldK z) := hky
        generalize wb.alloc (.cells #[.int .i64 z.2.1, .int .i64 z.2.2] 23) = wn at *
        generalize wb.heap.size = N at *
        have y0 : wn.cell? ⟨N, 0, none⟩ = some (.int .i64 z.2.1) := hky.cells.1
        have y1 : wn.cell? ⟨N, 1, none⟩ = some (.int .i64 z.2.2) := hky.cells.2
        obtain ⟨⟨a0, a1⟩, ⟨a2, a3⟩, a4, a5⟩ := hSb.pa.cells
        have f0 := PAt.fr hSb.pa 4
        have f1 := PAt.fr hSb.pa 5
        have hS : SO w ((wn.setCell ⟨P, 4, none⟩ (.int .i64 z.2.1)).setCell ⟨P, 5, none⟩ (.int .i64 z.2.2)) Y K P k (ldK x) (ldK y) (ldK z) := hSb.upd (PAt.set2 hSb.pa (ldK z))
        clear hky hSb
        go_upto_region 9 with (fail)
        clear y0 y1 a0 a1 a2 a3 a4 a5 f0 f1
        generalize (wn.setCell ⟨P, 4, none⟩ (.int .i64 z.2.1)).setCell ⟨P, 5, none⟩ (.int .i64 z.2.2) = wc at *
        go_wp2_with fail
        rw [rounds_succ]
        have hre := hS.re
        have HA : Hid (Ending.returned (.tuple #[.agg (pal (ldK x) (ldK y) (ldK z)).toArray, .int .i64 0]) = OaA x y z k) := by unfold Hid OaA; rw [HO0.out, HO1.out, HO2.out]; rfl
        go_wp2_with (first | (refine ldPt hS.pa _ rfl rfl rfl ?_) | (refine stPa hre (ldK x) (ldK y) (ldK z) rfl _ _ rfl rfl rfl ?_))
        refine bodyPost_ret (resRow (p := 4) (t := 5) rfl _ _ K (pal (ldK x) (ldK y) (ldK z)).toArray rfl (PAt.row hre (ldK x) (ldK y) (ldK z)).var) rfl ?_
        exact ⟨HA.out, Rt.setRow_below hS.gk hS.bel _⟩
end Go.Proofs.YtpimbpfefhkojaaGreat.Rv
