/- MbL, MbM, MbN, MbO, MbP, joined. -/
import Derived.Test.YtdghibimelhgjaaMbJ3
import Derived.LoopTactic
import Derived.Test.YtdghibimelhgjaaWiJ2
/- Contracts: slices.Index and slices.Contains at seats; enter, follow, goOn. -/
namespace Go.Proofs.Ytdghibimelhgjaa.Mb
open Go.RowKit Go.Maps
open Rt (Ky zK gd gv Gd pcs KyAt)
open Wi (gR gE gW gS gI gB gK ldM stM rd_guard ra_of th_of ra_later RdV itl stl)
set_option linter.unusedVariables false
set_option linter.unusedSimpArgs false

theorem eqS_exec {o : Oper} {a : Act} {w : World} {p q : Int × Int} {b : Bool} (hb : decide (p = q) = b) {x y : Operand} (ho : o.op = .binOp .eql 86 x y 86) (hx : a.eval x = .agg (stl p).toArray) (hy : a.eval y = .agg (stl q).toArray) : (execOp a.eval o).run Try.prog w = .ok (.value (.bool b)) w := by
  subst hb
  have h3 := run_eqGuard_agg (P := Try.prog) w .eql 86 x y (stl p).toArray (stl q).toArray Try.eqGuardType86
  have h4 := run_eql_struct (P := Try.prog) w 86 (stl p).toArray (stl q).toArray
  rw [Wi.run_eqPr 86 9998 p q (.inr (.inl rfl))] at h4
  simp [execOp, ho, hx, hy, h3, h4, Sem.run_bind, Result.andThen]
theorem stds_no {J : List (Int × Int)} {p : Int × Int} (h : ∀ (j : Nat) (hj : j < J.length), p ≠ J[j]) : stds J p = false := by
  unfold stds
  rw [List.any_eq_false]
  intro x hx
  obtain ⟨j, hj, e⟩ := List.mem_iff_getElem.1 hx
  have := h j hj
  rw [e] at this
  simp only [Bool.and_eq_true, decide_eq_true_eq]
  rintro ⟨h1, h2⟩
  exact this (Prod.ext h1.symm h2.symm)
theorem stds_yes {J : List (Int × Int)} {p : Int × Int} {j : Nat} (hj : j < J.length) (h : p = J[j]) : stds J p = true := by
  unfold stds
  rw [List.any_eq_true]
  exact ⟨J[j], List.getElem_mem hj, by rw [← h]; simp⟩
set_option maxRecDepth 100000 in
set_option maxHeartbeats 1000000 in
theorem index_any (a : Option Addr) (c : Nat) (J : List (Int × Int)) (p : Int × Int) (w : World) (rd : RdV stl 2 w a J) (hl : J.length < 4611686018427387904) :
    Calls Try.prog 71 #[.slice a J.length c, .agg (stl p).toArray] w fun e w' => (∃ x : Int, e = .returned (.int .i64 x) ∧ decide (0 ≤ x) = stds J p) ∧ Below w.heap.size w w' := by
  obtain ⟨n, hn⟩ : ∃ n, J.length = n := ⟨_, rfl⟩
  have HN : Hid (J.length = n) := hn
  rw [hn] at hl
  rw [hn]
  clear hn
  have hb0 := below_alloc w (.cells (stl p).toArray 86)
  have hp0 : (w.alloc (.cells (stl p).toArray 86)).heap[w.heap.size]? = some (.cells (stl p).toArray 86 (0, 0)) := heap_alloc_last w _
  obtain ⟨cp, hcp⟩ : ∃ c, (stl p).toArray = c := ⟨_, rfl⟩
  rw [hcp] at hb0 hp0
  rw [hcp]
  have HP : Hid ((stl p).toArray = cp) := hcp
  clear hcp
  go_enter Try.func71, Try.ntmps71
  go_upto_region 1 with (fail)
  generalize w.alloc (.cells cp 86) = w1 at *
  obtain ⟨X, hX⟩ : ∃ X, w.heap.size = X := ⟨_, rfl⟩
  have HBX : Hid (Below w.heap.size w w1) := hb0
  rw [hX] at hp0 ⊢
  clear hX hb0
  go_wp2_with fail
  go_loopw [8] (fun i wx => ∃ j : Nat, j ≤ n ∧ i = .int .i64 (j : Int) ∧ (∀ (q : Nat) (hq : q < J.length), q < j → p ≠ J[q]) ∧ Below w1.heap.size w1 wx) (fun i _ => n - (intOf i).toNat)
  case atStart => exact ⟨0, by omega, rfl, fun q _ hq => by omega, Below.refl _ _⟩
  case round =>
    obtain ⟨j, hj, rfl, hno, hb⟩ := hrel
    have HNO : Hid (∀ (q : Nat) (hq : q < J.length), q < j → p ≠ J[q]) := hno
    have HB : Hid (Below w1.heap.size w1 wr) := hb
    clear hno hb
    by_cases hjn : j < n
    · have hjl : j < J.length := by rw [HN.out]; exact hjn
      obtain ⟨b, o, rfl, hr⟩ := rd j hjl
      have i1 : (0 : Int) ≤ (j : Int) := by omega
      have i2 : (j : Int) < (n : Int) := by omega
      have hr := ra_later hr (Wi.Below.join HBX.out HB.out)
      have hS0 : wr.drew.heap[X]? = some (.cells cp 86 (0, 0)) ∧ wr.drew.rangeAt b (o + j * 2) (stl J[j]) ∧ Below w1.heap.size w1 wr.drew := ⟨row_later hp0 (Wi.Below.join HB.out (drew_below wr)), hr, Wi.Below.join HB.out (drew_below wr)⟩
      have HY : Hid (p = J[j] → stds J p = true) := stds_yes hjl
      have HX2 : Hid (p ≠ J[j] → ∀ (q : Nat) (hq : q < J.length), q < j + 1 → p ≠ J[q]) := fun h q hq hq2 => by
        rcases Nat.lt_or_ge q j with h1 | h1
        · exact HNO.out q hq h1
        · obtain rfl : q = j := by omega
          exact h
      obtain ⟨t, ht⟩ : ∃ t, decide (p = J[j]) = t := ⟨_, rfl⟩
      have HT : Hid (decide (p = J[j]) = t) := ht
      clear ht hr
      generalize J[j] = y at *
      go_upto_region 4 with (fail)
      refine wp_region_held_drew (S := fun W => W.heap[X]? = some (.cells cp 86 (0, 0)) ∧ W.rangeAt b (o + j * 2) (stl y) ∧ Below w1.heap.size w1 W) (by kernel_rfl) hS0 (fun hHeld => ?_)
      clear hS0
      refine wpAnyH_take (i := 0) (oi := { dst := some 11, op := Op.load 86 (Operand.tmp 3), type := _, pos := _, after := _, guard := none }) (v := .agg (stl p).toArray) rfl (by kernel_rfl) (by kernel_rfl) (by kernel_rfl) (fun _ _ _ h => h) (Or.inl ⟨by rfl, fun w hSw => Wi.ld_ex (ra_of (HP.out ▸ hSw.1) 0 (stl p) rfl) Try.underlying86 rfl Wi.szSeat rfl rfl⟩) (by assumption) ?_
      simp only [Act.put, List.setIfInBounds_toArray, List.set_cons_zero, List.set_cons_succ]
      refine wpAnyH_take (i := 1) (oi := { dst := some 12, op := Op.move (Operand.tmp 0), type := _, pos := _, after := _, guard := none }) (v := .slice (some ⟨b, o, none⟩) n c) rfl (by kernel_rfl) (by kernel_rfl) (by kernel_rfl) (fun _ _ _ h => h) (Or.inl ⟨by rfl, fun w hSw => by (try dsimp only at hSw); go_simp⟩) (by assumption) ?_
      simp only [Act.put, List.setIfInBounds_toArray, List.set_cons_zero, List.set_cons_succ]
      refine wpAnyH_take (i := 2) (oi := { dst := some 13, op := Op.move (Operand.tmp 5), type := _, pos := _, after := _, guard := none }) (v := .int .i64 (j : Int)) rfl (by kernel_rfl) (by kernel_rfl) (by kernel_rfl) (fun _ _ _ h => h) (Or.inl ⟨by rfl, fun w hSw => by (try dsimp only at hSw); go_simp⟩) (by assumption) ?_
      simp only [Act.put, List.setIfInBounds_toArray, List.set_cons_zero, List.set_cons_succ]
      refine wpAnyH_take (i := 3) (oi := { dst := some 14, op := Op.indexAddr 39 (Operand.tmp 12) (Operand.tmp 13), type := _, pos := _, after := _, guard := none }) (v := .pointer (some ⟨b, o + j * 2, none⟩)) rfl (by kernel_rfl) (by kernel_rfl) (by kernel_rfl) (fun _ _ _ h => h) (Or.inl ⟨by rfl, fun w hSw => by (try dsimp only at hSw); go_simp⟩) (by assumption) ?_
      simp only [Act.put, List.setIfInBounds_toArray, List.set_cons_zero, List.set_cons_succ]
      refine wpAnyH_take (i := 4) (oi := { dst := some 15, op := Op.load 86 (Operand.tmp 14), type := _, pos := _, after := _, guard := none }) (v := .agg (stl y).toArray) rfl (by kernel_rfl) (by kernel_rfl) (by kernel_rfl) (fun _ _ _ h => h) (Or.inl ⟨by rfl, fun w hSw => Wi.ld_ex hSw.2.1 Try.underlying86 rfl Wi.szSeat rfl rfl⟩) (by assumption) ?_
      simp only [Act.put, List.setIfInBounds_toArray, List.set_cons_zero, List.set_cons_succ]
      refine wpAnyH_take (i := 5) (oi := { dst := some 16, op := Op.binOp BinOp.eql 86 (Operand.tmp 11) (Operand.tmp 15) 86, type := _, pos := _, after := _, guard := none }) (v := .bool t) rfl (by kernel_rfl) (by kernel_rfl) (by kernel_rfl) (fun _ _ _ h => h) (Or.inl ⟨by rfl, fun w hSw => eqS_exec HT.out rfl rfl rfl⟩) (by assumption) ?_
      simp only [Act.put, List.setIfInBounds_toArray, List.set_cons_zero, List.set_cons_succ]
      refine wpAnyH_done (by kernel_rfl) ?_ _
      have HBD : Hid (Below w1.heap.size w1 wr.drew) := hHeld.2.2
      clear hHeld
      cases t with
      | true =>
        have HS : Hid (stds J p = true) := HY.out (of_decide_eq_true HT.out)
        have HJ : Hid (decide ((0 : Int) ≤ (j : Int)) = true) := decide_eq_true i1
        go_wp2_with fail
        go_ret
        exact ⟨⟨_, rfl, by rw [HS.out]; exact HJ.out⟩, Wi.Below.join HBX.out HBD.out⟩
      | false =>
        have HS : Hid (∀ (q : Nat) (hq : q < J.length), q < j + 1 → p ≠ J[q]) := HX2.out (of_decide_eq_false HT.out)
        clear HY HX2 HT
        go_wp2_with fail
        go_roundw
        case rel => exact ⟨j + 1, by omega, by go_num, HS.out, HBD.out⟩
        case measure => simp [intOf]; omega
    · have hjn' : decide ((j : Int) < (n : Int)) = false := by simp; omega
      have HS : Hid (stds J p = false) := stds_no fun q hq => HNO.out q hq (by have := HN.out; omega)
      go_wp2_with fail
      go_ret
      exact ⟨⟨-1, rfl, by rw [HS.out]; rfl⟩, Wi.Below.join HBX.out HB.out⟩
set_option maxRecDepth 100000 in
theorem contains_any (a : Option Addr) (c : Nat) (J : List (Int × Int)) (x y : Int) (w : World) (rd : RdV stl 2 w a J) (hl : J.length < 4611686018427387904) :
    Calls Try.prog 42 #[.slice a J.length c, .agg #[.int .i64 x, .int .i64 y] ] w fun e w' => e = .returned (.bool (stds J (x, y))) ∧ Below w.heap.size w w' := by
  have hb0 := below_alloc w (.cells #[.int .i64 x, .int .i64 y] 86)
  have h1 := index_any a c J (x, y) (w.alloc (.cells #[.int .i64 x, .int .i64 y] 86)) (rd.later hb0) hl
  unfold Wi.stl at h1
  dsimp only at h1
  go_enter Try.func42, Try.ntmps42
  go_wp2_with fail
  refine h1.mono ?_
  rintro r w2 ⟨⟨z, rfl, hz⟩, hb2⟩
  have HZ : Hid (decide (0 ≤ z) = stds J (x, y)) := hz
  have HB : Hid (Below w.heap.size w w2) := Wi.Below.join hb0 hb2
  clear hz hb2 hb0 h1
  go_wp2_with fail
  go_ret
  exact ⟨ret_bool HZ.out, HB.out⟩
end Go.Proofs.Ytdghibimelhgjaa.Mb
/- Contract: enter. -/
namespace Go.Proofs.Ytdghibimelhgjaa.Mb
open Go.RowKit Go.Maps
open Rt (Ky zK gd gv Gd pcs KyAt)
open Wi (gR gE gW gS gI gB gK ldM stM rd_guard ra_of th_of ra_later RdV itl stl)
set_option linter.unusedVariables false
set_option linter.unusedSimpArgs false

def ApR (x : Int × Mb) : Ending := .returned (.tuple #[.agg (mba x.2), .int .i64 x.1])
theorem ApR.of {x : Int × Mb} {e : Int} {n : Mb} (h : x = (e, n)) : Ending.returned (.tuple #[.agg (mba n), .int .i64 e]) = ApR x := by rw [h]; rfl
def rka (r : Rk) (aL aJ aI : Option Addr) (cL cJ cI : Nat) : Array Value := #[.int .i64 r.1, .slice aL r.2.1.length cL, .slice aJ r.2.2.1.length cJ, .slice aI r.2.2.2.length cI]
structure MP (w W : World) (B D K : Nat) (m : Mb) (r : Rk) (aL aJ aI : Option Addr) (cL cJ cI : Nat) : Prop where
  v : CV W D B r aL aJ aI cL cJ cI m
  re : MA W K zMb
  bel : Below w.heap.size w W
  ge : w.heap.size ≤ K
  gB : w.heap.size ≤ B
  ne : B ≠ K
section
variable {w W W' : World} {B D K : Nat} {m : Mb} {r : Rk} {aL aJ aI : Option Addr} {cL cJ cI : Nat}
theorem MP.later (h : MP w W B D K m r aL aJ aI cL cJ cI) (hb : Below W.heap.size W W') : MP w W' B D K m r aL aJ aI cL cJ cI := ⟨h.v.later hb, h.re.later hb, h.bel.trans (hb.mono h.bel.size), h.ge, h.gB, h.ne⟩
theorem MP.new (w : World) (m : Mb) (hr : RL w r aL aJ aI) : MP w (((w.alloc (.cells (mba m) 49)).alloc (.cells (rka r aL aJ aI cL cJ cI) 42)).alloc (.cells (mba zMb) 49)) w.heap.size (w.heap.size + 1) (w.heap.size + 2) m r aL aJ aI cL cJ cI := by
  have h1 := MA.new w m
  have hb1 := below_alloc w (.cells (mba m) 49)
  have e1 : (w.alloc (.cells (mba m) 49)).heap.size = w.heap.size + 1 := by rw [World.size_alloc]
  generalize w.alloc (.cells (mba m) 49) = w1 at *
  have h2 : RK (w1.alloc (.cells (rka r aL aJ aI cL cJ cI) 42)) w1.heap.size r aL aJ aI cL cJ cI := heap_alloc_last w1 _
  have hb2 := below_alloc w1 (.cells (rka r aL aJ aI cL cJ cI) 42)
  have e2 : (w1.alloc (.cells (rka r aL aJ aI cL cJ cI) 42)).heap.size = w.heap.size + 2 := by rw [World.size_alloc, e1]
  rw [e1] at h2
  generalize w1.alloc (.cells (rka r aL aJ aI cL cJ cI) 42) = w2 at *
  have h3 := MA.new w2 zMb
  have hb3 := below_alloc w2 (.cells (mba zMb) 49)
  rw [e2] at h3
  have b23 := Wi.Below.join hb2 hb3
  have b13 := Wi.Below.join hb1 b23
  exact ⟨⟨h2.later hb3, h1.later b23, hr.later b13⟩, h3, b13, by omega, by omega, by omega⟩
end
theorem entr_E (m : Mb) (I : List Im) : enEr m I = clE (en0 m I) (en1 m I) (en2 m I) := rfl
theorem entr_no {m : Mb} {r : Rk} (h : clE (en0 m r.2.2.2) (en1 m r.2.2.2) (en2 m r.2.2.2) ≠ 0) : entr m r = (clE (en0 m r.2.2.2) (en1 m r.2.2.2) (en2 m r.2.2.2), m) := by unfold entr; rw [entr_E, if_neg h]
theorem entr_yes {m : Mb} {r : Rk} (h : clE (en0 m r.2.2.2) (en1 m r.2.2.2) (en2 m r.2.2.2) = 0) : entr m r = (0, arr m r.1 m.lf (clK (en0 m r.2.2.2) (en1 m r.2.2.2) (en2 m r.2.2.2) (en0 m r.2.2.2).2) (clK (en0 m r.2.2.2) (en1 m r.2.2.2) (en2 m r.2.2.2) (en1 m r.2.2.2).2) (clK (en0 m r.2.2.2) (en1 m r.2.2.2) (en2 m r.2.2.2) (en2 m r.2.2.2).2)) := by
  unfold entr clK; rw [entr_E, if_pos h, if_pos h, if_pos h, if_pos h]
set_option maxRecDepth 100000 in
set_option maxHeartbeats 2000000 in
theorem enter_any (m : Mb) (r : Rk) (aL aJ aI : Option Addr) (cL cJ cI : Nat) (w : World) (hr : RL w r aL aJ aI) (hg : gR r = true) (hlf : gk m.lf = true) (hs0 : 0 ≤ m.slt) (hs1 : m.slt < 64) :
    Calls Try.prog 18 #[.agg (mba m), .agg (rka r aL aJ aI cL cJ cI)] w fun e w' => e = ApR (if stds r.2.2.1 (m.who, m.slt) then entr m r else (22, m)) ∧ Below w.heap.size w w' := by
  have hS := MP.new (cL := cL) (cJ := cJ) (cI := cI) w m hr
  have HL := gR_len hg
  have HI := gR_items hg
  have hct := fun W (hW : RL W r aL aJ aI) => contains_any aJ cJ r.2.2.1 m.who m.slt W hW.j (by omega)
  have hcl := fun W D B (hW : CV W D B r aL aJ aI cL cJ cI m) => climb_enter m.slt hs0 hs1 m.lf (en0 m r.2.2.2) (en1 m r.2.2.2) (en2 m r.2.2.2) W D B
    (fun V hV => enter1_any 0 (nd m.slt 0) (21 + m.slt) m.lf hlf V D B (hW.later hV) hg hlf hs0 hs1)
    (fun z0 V hV => enter1_any 1 (nd m.slt 1) (nd m.slt 0) (en0 m r.2.2.2).2 (en_good HI z0) V D B (hW.later hV) hg hlf hs0 hs1)
    (fun z0 z1 V hV => enter1_any 2 (nd m.slt 2) (nd m.slt 1) (en1 m r.2.2.2).2 (en_good HI z1) V D B (hW.later hV) hg hlf hs0 hs1)
  unfold CliA at hcl
  have HNO : Hid (clE (en0 m r.2.2.2) (en1 m r.2.2.2) (en2 m r.2.2.2) ≠ 0 → entr m r = (clE (en0 m r.2.2.2) (en1 m r.2.2.2) (en2 m r.2.2.2), m)) := entr_no
  have HYES : Hid (clE (en0 m r.2.2.2) (en1 m r.2.2.2) (en2 m r.2.2.2) = 0 → entr m r = (0, arr m r.1 m.lf (clK (en0 m r.2.2.2) (en1 m r.2.2.2) (en2 m r.2.2.2) (en0 m r.2.2.2).2) (clK (en0 m r.2.2.2) (en1 m r.2.2.2) (en2 m r.2.2.2) (en1 m r.2.2.2).2) (clK (en0 m r.2.2.2) (en1 m r.2.2.2) (en2 m r.2.2.2) (en2 m r.2.2.2).2))) := entr_yes
  generalize clK (en0 m r.2.2.2) (en1 m r.2.2.2) (en2 m r.2.2.2) (en0 m r.2.2.2).2 = a at *
  generalize clK (en0 m r.2.2.2) (en1 m r.2.2.2) (en2 m r.2.2.2) (en1 m r.2.2.2).2 = b at *
  generalize clK (en0 m r.2.2.2) (en1 m r.2.2.2) (en2 m r.2.2.2) (en2 m r.2.2.2).2 = c at *
  generalize clE (en0 m r.2.2.2) (en1 m r.2.2.2) (en2 m r.2.2.2) = E at *
  unfold pal at hcl
  have har := arrive_any m r.1 m.lf a b c
  obtain ⟨cm, hcm⟩ : ∃ c, mba m = c := ⟨_, rfl⟩
  have HC : Hid (mba m = cm) := hcm
  rw [hcm] at hS
  simp only [hcm] at har
  rw [hcm]
  obtain ⟨u, hu⟩ : ∃ u, stds r.2.2.1 (m.who, m.slt) = u := ⟨_, rfl⟩
  simp only [hu] at hct
  rw [hu]
  clear hcm HL HI hg hlf hs0 hs1 hu
  unfold rka at hS
  go_enter Try.func18, Try.ntmps18
  unfold rka
  go_upto_region 1 with (fail)
  rw [zMb_eq]
  generalize ((w.alloc (.cells cm 49)).alloc (.cells #[.int .i64 r.1, .slice aL r.2.1.length cL, .slice aJ r.2.2.1.length cJ, .slice aI r.2.2.2.length cI] 42)).alloc (.cells (mba zMb) 49) = w1 at *
  obtain ⟨K, hK⟩ : ∃ K, w.heap.size + 2 = K := ⟨_, rfl⟩
  obtain ⟨D, hD⟩ : ∃ K, w.heap.size + 1 = K := ⟨_, rfl⟩
  obtain ⟨B, hB⟩ : ∃ K, w.heap.size = K := ⟨_, rfl⟩
  rw [hK, hD, hB] at hS ⊢
  clear hK hD hB
  obtain ⟨d0, d1, d2, d3⟩ := hS.v.rk.cells
  have c0 := hS.v.mb.who
  have c1 := hS.v.mb.slt
  go_wp2_with fail
  refine (hct _ hS.v.rd).mono ?_
  rintro e w2 ⟨rfl, hb2⟩
  have hS2 := hS.later hb2
  clear hS hb2 hct d0 d1 d2 d3 c0 c1
  cases u with
  | false =>
    have hre := hS2.re
    go_wp2_with (first | (refine ldMb hS2.v.mb HC.out _ rfl rfl rfl ?_) | (refine stMb hre HC.out rfl _ _ rfl rfl rfl ?_))
    refine bodyPost_ret (resRow (p := 4) (t := 5) rfl _ _ K (mba m) rfl (hre.row m).var) rfl ?_
    exact ⟨rfl, Rt.setRow_below hS2.ge hS2.bel _⟩
  | true =>
    have c1 := hS2.v.mb.slt
    obtain ⟨k0, k1⟩ := hS2.v.mb.leaf
    have hc := hcl w2 D B hS2.v
    clear hcl
    go_wp2_with fail
    refine hc.mono ?_
    rintro e w3 ⟨rfl, hb3⟩
    have hS3 := (hS2.later hb3).later (below_alloc w3 (.cells (pal a b c).toArray 47))
    have hP3 : PAt (w3.alloc (.cells (pal a b c).toArray 47)) w3.heap.size a b c := heap_alloc_last w3 _
    unfold pal at hS3 hP3
    clear hS2 hb3 hc c1 k0 k1
    go_upto_region 4 with (fail)
    generalize w3.alloc (.cells #[.int .i64 a.bas, .int .i64 a.stp, .int .i64 b.bas, .int .i64 b.stp, .int .i64 c.bas, .int .i64 c.stp] 47) = w4 at *
    generalize w3.heap.size = P at *
    have hre := hS3.re
    by_cases hE : E = 0
    · have HF : Hid (entr m r = (0, arr m r.1 m.lf a b c)) := HYES.out hE
      subst hE
      obtain ⟨d0, d1, d2, d3⟩ := hS3.v.rk.cells
      obtain ⟨k0, k1⟩ := hS3.v.mb.leaf
      go_wp2_with (first | (refine ldMb hS3.v.mb HC.out _ rfl rfl rfl ?_) | (refine ldPt hP3 _ rfl rfl rfl ?_))
      refine (har _).mono ?_
      rintro e w5 ⟨rfl, hb5⟩
      have hS5 := hS3.later hb5
      have hre5 := hS5.re
      clear hS3 hb5 hre hP3 d0 d1 d2 d3 k0 k1 har
      go_wp2_with (refine stMb (n := arr m r.1 m.lf a b c) hre5 rfl rfl _ _ rfl rfl rfl ?_)
      refine bodyPost_ret (resRow (p := 4) (t := 5) rfl _ _ K (mba (arr m r.1 m.lf a b c)) rfl (hre5.row (arr m r.1 m.lf a b c)).var) rfl ?_
      exact ⟨ApR.of HF.out, Rt.setRow_below hS5.ge hS5.bel _⟩
    · have HF : Hid (entr m r = (E, m)) := HNO.out hE
      have dE : (E != 0) = true := by simpa using hE
      clear hE har
      go_wp2_with (first | (refine ldMb hS3.v.mb HC.out _ rfl rfl rfl ?_) | (refine stMb hre HC.out rfl _ _ rfl rfl rfl ?_))
      refine bodyPost_ret (resRow (p := 4) (t := 5) rfl _ _ K (mba m) rfl (hre.row m).var) rfl ?_
      exact ⟨ApR.of HF.out, Rt.setRow_below hS3.ge hS3.bel _⟩
end Go.Proofs.Ytdghibimelhgjaa.Mb
/- Contract: follow. -/
namespace Go.Proofs.Ytdghibimelhgjaa.Mb
open Go.RowKit Go.Maps
open Rt (Ky zK gd gv Gd pcs KyAt)
open Wi (gR gE gW gS gI gB gK ldM stM rd_guard ra_of th_of ra_later RdV itl stl)
set_option linter.unusedVariables false
set_option linter.unusedSimpArgs false

theorem foll_E {m : Mb} {r : Rk} (h : advB m.lf = true) : foEr m r = clE (fo0 m r) (fo1 m r) (fo2 m r) := by unfold foEr; rw [if_pos h]; rfl
theorem foll_far {m : Mb} {r : Rk} (h : advB m.lf = false) : foll m r = (4, m) := by
  have e : foEr m r = 4 := by unfold foEr; rw [h]; rfl
  unfold foll; rw [e, if_neg (by decide)]
theorem foll_no {m : Mb} {r : Rk} (h : advB m.lf = true) (h0 : clE (fo0 m r) (fo1 m r) (fo2 m r) ≠ 0) : foll m r = (clE (fo0 m r) (fo1 m r) (fo2 m r), m) := by unfold foll; rw [foll_E h, if_neg h0]
theorem foll_yes {m : Mb} {r : Rk} (h : advB m.lf = true) (h0 : clE (fo0 m r) (fo1 m r) (fo2 m r) = 0) : foll m r = (0, arr m r.1 (adv m.lf) (clK (fo0 m r) (fo1 m r) (fo2 m r) (fo0 m r).2) (clK (fo0 m r) (fo1 m r) (fo2 m r) (fo1 m r).2) (clK (fo0 m r) (fo1 m r) (fo2 m r) (fo2 m r).2)) := by
  unfold foll clK; rw [foll_E h, if_pos h0, if_pos h0, if_pos h0, if_pos h0]
theorem slt_nat {s : Int} (h0 : 0 ≤ s) (h1 : s < 64) : s.toNat < 64 := by omega
set_option maxRecDepth 100000 in
set_option maxHeartbeats 4000000 in
theorem follow_any (m : Mb) (r : Rk) (aL aJ aI : Option Addr) (cL cJ cI : Nat) (w : World) (hr : RL w r aL aJ aI) (hg : gR r = true) (hlf : gk m.lf = true) (hs0 : 0 ≤ m.slt) (hs1 : m.slt < 64) (hp0 : gk m.p0 = true) (hp1 : gk m.p1 = true) (hp2 : gk m.p2 = true) :
    Calls Try.prog 49 #[.agg (mba m), .agg (rka r aL aJ aI cL cJ cI)] w fun e w' => e = ApR (foll m r) ∧ Below w.heap.size w w' := by
  have hS := MP.new (cL := cL) (cJ := cJ) (cI := cI) w m hr
  obtain ⟨cm, hcm⟩ : ∃ c, mba m = c := ⟨_, rfl⟩
  have HC : Hid (mba m = cm) := hcm
  rw [hcm] at hS
  rw [hcm]
  clear hcm
  unfold rka at hS
  go_enter Try.func49, Try.ntmps49
  unfold rka
  go_upto_region 1 with (fail)
  rw [zMb_eq]
  generalize ((w.alloc (.cells cm 49)).alloc (.cells #[.int .i64 r.1, .slice aL r.2.1.length cL, .slice aJ r.2.2.1.length cJ, .slice aI r.2.2.2.length cI] 42)).alloc (.cells (mba zMb) 49) = w1 at *
  obtain ⟨K, hK⟩ : ∃ K, w.heap.size + 2 = K := ⟨_, rfl⟩
  obtain ⟨D, hD⟩ : ∃ K, w.heap.size + 1 = K := ⟨_, rfl⟩
  obtain ⟨B, hB⟩ : ∃ K, w.heap.size = K := ⟨_, rfl⟩
  rw [hK, hD, hB] at hS ⊢
  clear hK hD hB
  obtain ⟨k0, k1⟩ := hS.v.mb.leaf
  have HS : Hid (MP w w1 B D K m r aL aJ aI cL cJ cI) := hS
  clear hS
  by_cases hst : m.lf.stp < 255
  · have hadv : advB m.lf = true := by unfold advB; rw [hlf, decide_eq_true hst]; rfl
    have hla : gk (adv m.lf) = true := adv_good hadv
    have hah := Rt.ahead_yes m.lf.bas m.lf.stp 1 (gk_Gd hlf) (by omega) (by omega)
    have HL := gR_len hg
    have HI := gR_items hg
    have hrp := fun W (hW : RL W r aL aJ aI) => replacedBy_any aL cL r.2.1 W hW.l (by omega)
    have hsn := slt_nat hs0 hs1
    have hcl := fun W X D B (hX : W.cell? ⟨X, 0, none⟩ = some (.int .u32 ((rp r.2.1 : Nat) : Int))) (hW : CV W D B r aL aJ aI cL cJ cI m) => climb_follow m.slt hs0 hs1 (adv m.lf) (fo0 m r) (fo1 m r) (fo2 m r) W X D B
      (fun V hV => follow1_any 0 (by omega) (pn m.slt.toNat 0) (pn_lt hsn 0) (21 + m.slt) (adv m.lf) hla V X D B (hW.later hV) hg hp0 (Rs.cell_later hV hX))
      (fun z0 V hV => follow1_any 1 (by omega) (pn m.slt.toNat 1) (pn_lt hsn 1) (nd m.slt 0) (fo0 m r).2 (fo_good HI z0) V X D B (hW.later hV) hg hp1 (Rs.cell_later hV hX))
      (fun z0 z1 V hV => follow1_any 2 (by omega) (pn m.slt.toNat 2) (pn_lt hsn 2) (nd m.slt 1) (fo1 m r).2 (fo_good HI z1) V X D B (hW.later hV) hg hp2 (Rs.cell_later hV hX))
    unfold CliA at hcl
    have HNO : Hid (clE (fo0 m r) (fo1 m r) (fo2 m r) ≠ 0 → foll m r = (clE (fo0 m r) (fo1 m r) (fo2 m r), m)) := foll_no hadv
    have HYES : Hid (clE (fo0 m r) (fo1 m r) (fo2 m r) = 0 → foll m r = (0, arr m r.1 (adv m.lf) (clK (fo0 m r) (fo1 m r) (fo2 m r) (fo0 m r).2) (clK (fo0 m r) (fo1 m r) (fo2 m r) (fo1 m r).2) (clK (fo0 m r) (fo1 m r) (fo2 m r) (fo2 m r).2))) := foll_yes hadv
    generalize clK (fo0 m r) (fo1 m r) (fo2 m r) (fo0 m r).2 = a at *
    generalize clK (fo0 m r) (fo1 m r) (fo2 m r) (fo1 m r).2 = b at *
    generalize clK (fo0 m r) (fo1 m r) (fo2 m r) (fo2 m r).2 = c at *
    generalize clE (fo0 m r) (fo1 m r) (fo2 m r) = E at *
    unfold pal at hcl
    obtain ⟨l, hl⟩ : ∃ l, adv m.lf = l := ⟨_, rfl⟩
    have hah : ∀ W : World, Calls Try.prog 76 #[.agg #[.int .i64 m.lf.bas, .int .i64 m.lf.stp], .int .i64 1] W fun e w' => e = .returned (.tuple #[.agg #[.int .i64 l.bas, .int .i64 l.stp], .int .i64 0]) ∧ Below W.heap.size W w' := fun W => by rw [← hl]; exact hah W
    rw [hl] at HYES
    simp only [hl] at hcl
    have har := arrive_any m r.1 l a b c
    simp only [HC.out] at har
    clear hl hst hadv hla HL HI hsn hs0 hs1 hlf hp0 hp1 hp2 hg
    have hS1 := HS.out
    go_wp2_with fail
    refine (hah _).mono ?_
    rintro e w2 ⟨rfl, hb2⟩
    have hS2 := (hS1.later hb2).later (below_alloc w2 (.cells #[.int .i64 l.bas, .int .i64 l.stp] 23))
    have hY2 : KyAt (w2.alloc (.cells #[.int .i64 l.bas, .int .i64 l.stp] 23)) w2.heap.size l := KyAt.new w2 l
    clear hb2 hS1 hah k0 k1 HS
    go_upto_region 4 with (fail)
    generalize w2.alloc (.cells #[.int .i64 l.bas, .int .i64 l.stp] 23) = w3 at *
    generalize w2.heap.size = Y at *
    obtain ⟨d0, d1, d2, d3⟩ := hS2.v.rk.cells
    go_wp2_with fail
    refine (hrp _ hS2.v.rd).mono ?_
    rintro e w4 ⟨rfl, hb4⟩
    obtain ⟨R, hR⟩ : ∃ R : Int, ((rp r.2.1 : Nat) : Int) = R := ⟨_, rfl⟩
    simp only [hR] at hcl
    rw [hR]
    have hb5 := Wi.Below.join hb4 (below_alloc w4 (.cells #[.int .u32 R] 89))
    have hS5 := hS2.later hb5
    have hY5 := hY2.later hb5
    have hX5 : (w4.alloc (.cells #[.int .u32 R] 89)).cell? ⟨w4.heap.size, 0, none⟩ = some (.int .u32 R) := cell_of_row _ _ 0 _ _ _ (heap_alloc_last w4 _)
    clear hb4 hb5 hS2 hY2 hrp d0 d1 d2 d3 hR
    go_upto_region 5 with (fail)
    generalize w4.alloc (.cells #[.int .u32 R] 89) = w5 at *
    generalize w4.heap.size = X at *
    have hc := hcl w5 X D B hX5 hS5.v
    have c1 := hS5.v.mb.slt
    obtain ⟨y0, y1⟩ := hY5.cells
    clear hcl
    go_wp2_with fail
    refine hc.mono ?_
    rintro e w6 ⟨rfl, hb6⟩
    have hb7 := Wi.Below.join hb6 (below_alloc w6 (.cells (pal a b c).toArray 47))
    have hS7 := hS5.later hb7
    have hY7 := hY5.later hb7
    have hP7 : PAt (w6.alloc (.cells (pal a b c).toArray 47)) w6.heap.size a b c := heap_alloc_last w6 _
    unfold pal at hS7 hP7 hY7
    clear hb6 hb7 hS5 hY5 hX5 hc c1 y0 y1
    go_upto_region 6 with (fail)
    generalize w6.alloc (.cells #[.int .i64 a.bas, .int .i64 a.stp, .int .i64 b.bas, .int .i64 b.stp, .int .i64 c.bas, .int .i64 c.stp] 47) = w7 at *
    generalize w6.heap.size = P at *
    have hre := hS7.re
    by_cases hE : E = 0
    · have HF : Hid (foll m r = (0, arr m r.1 l a b c)) := HYES.out hE
      subst hE
      obtain ⟨d0, d1, d2, d3⟩ := hS7.v.rk.cells
      obtain ⟨y0, y1⟩ := hY7.cells
      go_wp2_with (first | (refine ldMb hS7.v.mb HC.out _ rfl rfl rfl ?_) | (refine ldPt hP7 _ rfl rfl rfl ?_))
      refine (har _).mono ?_
      rintro e w8 ⟨rfl, hb8⟩
      have hS8 := hS7.later hb8
      have hre8 := hS8.re
      clear hS7 hb8 hre hP7 d0 d1 d2 d3 y0 y1 har hY7
      go_wp2_with (refine stMb (n := arr m r.1 l a b c) hre8 rfl rfl _ _ rfl rfl rfl ?_)
      refine bodyPost_ret (resRow (p := 4) (t := 5) rfl _ _ K (mba (arr m r.1 l a b c)) rfl (hre8.row (arr m r.1 l a b c)).var) rfl ?_
      exact ⟨ApR.of HF.out, Rt.setRow_below hS8.ge hS8.bel _⟩
    · have HF : Hid (foll m r = (E, m)) := HNO.out hE
      have dE : (E != 0) = true := by simpa using hE
      clear hE har hY7
      go_wp2_with (first | (refine ldMb hS7.v.mb HC.out _ rfl rfl rfl ?_) | (refine stMb hre HC.out rfl _ _ rfl rfl rfl ?_))
      refine bodyPost_ret (resRow (p := 4) (t := 5) rfl _ _ K (mba m) rfl (hre.row m).var) rfl ?_
      exact ⟨ApR.of HF.out, Rt.setRow_below hS7.ge hS7.bel _⟩
  · have hadv : advB m.lf = false := by unfold advB; rw [decide_eq_false hst, Bool.and_false]
    have hah := Rt.ahead_far m.lf.bas m.lf.stp 1 (gk_Gd hlf) (.inr (by omega))
    have HF : Hid (foll m r = (4, m)) := foll_far hadv
    clear hst hadv
    have hS1 := HS.out
    go_wp2_with fail
    refine (hah _).mono ?_
    rintro e w2 ⟨rfl, hb2⟩
    have hS2 := (hS1.later hb2).later (below_alloc w2 (.cells #[.int .i64 0, .int .i64 0] 23))
    clear hb2 hS1 hah k0 k1 HS
    go_upto_region 2 with (fail)
    generalize w2.alloc (.cells #[.int .i64 0, .int .i64 0] 23) = w3 at *
    have hre := hS2.re
    go_wp2_with (first | (refine ldMb hS2.v.mb HC.out _ rfl rfl rfl ?_) | (refine stMb hre HC.out rfl _ _ rfl rfl rfl ?_))
    refine bodyPost_ret (resRow (p := 4) (t := 5) rfl _ _ K (mba m) rfl (hre.row m).var) rfl ?_
    exact ⟨ApR.of HF.out, Rt.setRow_below hS2.ge hS2.bel _⟩
end Go.Proofs.Ytdghibimelhgjaa.Mb
/- Contract: goOn, Apply. -/
namespace Go.Proofs.Ytdghibimelhgjaa.Mb
open Go.RowKit Go.Maps
open Rt (Ky zK gd gv Gd pcs KyAt)
open Wi (gR gE gW gS gI gB gK ldM stM rd_guard ra_of th_of ra_later RdV itl stl)
set_option linter.unusedVariables false
set_option linter.unusedSimpArgs false

theorem lvs_no {L : List (Int × Int)} {x : Int} (h : ∀ (j : Nat) (hj : j < L.length), L[j].1 ≠ x) : lvs L x = false := by
  unfold lvs
  rw [List.any_eq_false]
  intro y hy
  obtain ⟨j, hj, e⟩ := List.mem_iff_getElem.1 hy
  have := h j hj
  rw [e] at this
  simpa using this
theorem lvs_yes {L : List (Int × Int)} {x : Int} {j : Nat} (hj : j < L.length) (h : L[j].1 = x) : lvs L x = true := by
  unfold lvs
  rw [List.any_eq_true]
  exact ⟨L[j], List.getElem_mem hj, by simpa using h⟩
set_option maxRecDepth 100000 in
set_option maxHeartbeats 2000000 in
theorem goOn_any (m : Mb) (r : Rk) (aL aJ aI : Option Addr) (cL cJ cI : Nat) (w : World) (hr : RL w r aL aJ aI) (hg : gR r = true) (hlf : gk m.lf = true) (hs0 : 0 ≤ m.slt) (hs1 : m.slt < 64) (hp0 : gk m.p0 = true) (hp1 : gk m.p1 = true) (hp2 : gk m.p2 = true) :
    Calls Try.prog 19 #[.agg (mba m), .agg (rka r aL aJ aI cL cJ cI)] w fun e w' => e = ApR (if lvs r.2.1 m.who then (0, outM m.who r.1) else foll m r) ∧ Below w.heap.size w w' := by
  have hS := MP.new (cL := cL) (cJ := cJ) (cI := cI) w m hr
  have hfo := fun W (hW : RL W r aL aJ aI) => follow_any m r aL aJ aI cL cJ cI W hW hg hlf hs0 hs1 hp0 hp1 hp2
  have hpo := putOut_any m r.1
  have HL := (gR_len hg).1
  unfold ApR at hfo
  obtain ⟨cm, hcm⟩ : ∃ c, mba m = c := ⟨_, rfl⟩
  have HC : Hid (mba m = cm) := hcm
  rw [hcm] at hS
  simp only [hcm] at hfo hpo
  rw [hcm]
  obtain ⟨x, hx⟩ : ∃ x, foll m r = x := ⟨_, rfl⟩
  rw [hx]
  simp only [hx] at hfo
  clear hcm hg hlf hs0 hs1 hp0 hp1 hp2 hx
  unfold rka at hS hfo
  obtain ⟨y, hy⟩ : ∃ y, (if lvs r.2.1 m.who then (0, outM m.who r.1) else x) = y := ⟨_, rfl⟩
  have HYY : Hid ((if lvs r.2.1 m.who then (0, outM m.who r.1) else x) = y) := hy
  rw [hy]
  clear hy
  go_enter Try.func19, Try.ntmps19
  unfold rka
  go_upto_region 1 with (fail)
  rw [zMb_eq]
  generalize ((w.alloc (.cells cm 49)).alloc (.cells #[.int .i64 r.1, .slice aL r.2.1.length cL, .slice aJ r.2.2.1.length cJ, .slice aI r.2.2.2.length cI] 42)).alloc (.cells (mba zMb) 49) = w1 at *
  obtain ⟨K, hK⟩ : ∃ K, w.heap.size + 2 = K := ⟨_, rfl⟩
  obtain ⟨D, hD⟩ : ∃ K, w.heap.size + 1 = K := ⟨_, rfl⟩
  obtain ⟨B, hB⟩ : ∃ K, w.heap.size = K := ⟨_, rfl⟩
  rw [hK, hD, hB] at hS ⊢
  clear hK hD hB
  obtain ⟨d0, d1, d2, d3⟩ := hS.v.rk.cells
  obtain ⟨n, hn⟩ : ∃ n, r.2.1.length = n := ⟨_, rfl⟩
  have HN : Hid (r.2.1.length = n) := hn
  rw [hn] at d1 HL ⊢
  have HHL : Hid (n ≤ 64) := HL
  clear hn
  go_wp2_with fail
  clear d0 d1 d2 d3
  have HS : Hid (MP w w1 B D K m r aL aJ aI cL cJ cI) := hS
  clear hS
  go_loopw [11] (fun i wx => ∃ j : Nat, j ≤ n ∧ i = .int .i64 (j : Int) ∧ (∀ (q : Nat) (hq : q < r.2.1.length), q < j → r.2.1[q].1 ≠ m.who) ∧ Below w1.heap.size w1 wx) (fun i _ => n - (intOf i).toNat)
  case atStart => exact ⟨0, by omega, rfl, fun q _ hq => by omega, Below.refl _ _⟩
  case round =>
    obtain ⟨j, hj, rfl, hno, hb⟩ := hrel
    have HNO : Hid (∀ (q : Nat) (hq : q < r.2.1.length), q < j → r.2.1[q].1 ≠ m.who) := hno
    have hS1 := HS.out.later hb
    have HB : Hid (Below w1.heap.size w1 wr) := hb
    clear hno hb
    by_cases hjn : j < n
    · have hjl : j < r.2.1.length := by rw [HN.out]; exact hjn
      obtain ⟨b, o, ha, hr1⟩ := hS1.v.rd.l j hjl
      have i1 : (0 : Int) ≤ (j : Int) := by omega
      have i2 : (j : Int) < (n : Int) := by omega
      have HY : Hid (r.2.1[j].1 = m.who → lvs r.2.1 m.who = true) := lvs_yes hjl
      have HX2 : Hid (r.2.1[j].1 ≠ m.who → ∀ (q : Nat) (hq : q < r.2.1.length), q < j + 1 → r.2.1[q].1 ≠ m.who) := fun h q hq hq2 => by
        rcases Nat.lt_or_ge q j with h1 | h1
        · exact HNO.out q hq h1
        · obtain rfl : q = j := by omega
          exact h
      generalize r.2.1[j] = p at *
      obtain ⟨p1, p2⟩ := p
      unfold Wi.stl at hr1
      dsimp only at hr1 HY HX2
      subst ha
      have hS2 := hS1.later (below_alloc wr (.cells #[.int .i64 p1, .int .i64 p2] 86))
      have hb2 := Wi.Below.join HB.out (below_alloc wr (.cells #[.int .i64 p1, .int .i64 p2] 86))
      have HB2 : Hid (Below w1.heap.size w1 (wr.alloc (.cells #[.int .i64 p1, .int .i64 p2] 86))) := hb2
      clear hb2
      have c0 := hS2.v.mb.who
      by_cases hp : p1 = m.who
      · have dp : (p1 == m.who) = true := by simpa using hp
        have HV : Hid (lvs r.2.1 m.who = true) := HY.out hp
        obtain ⟨d0, d1, d2, d3⟩ := hS2.v.rk.cells
        clear hp HX2 HY
        go_wp2_with (first | (refine ldM hr1 Try.underlying86 rfl Wi.szSeat _ rfl rfl rfl ?_) | (refine ldMb hS2.v.mb HC.out _ rfl rfl rfl ?_))
        refine (hpo _).mono ?_
        rintro e w3 ⟨rfl, hb3⟩
        have hS3 := hS2.later hb3
        have hre := hS3.re
        clear hS2 hS1 hb3 c0 d0 d1 d2 d3 hr1
        go_wp2_with (refine stMb (n := outM m.who r.1) hre rfl rfl _ _ rfl rfl rfl ?_)
        refine bodyPost_ret (resRow (p := 4) (t := 5) rfl _ _ K (mba (outM m.who r.1)) rfl (hre.row (outM m.who r.1)).var) rfl ?_
        exact ⟨ApR.of (by rw [← HYY.out, HV.out, if_pos rfl]), Rt.setRow_below hS3.ge hS3.bel _⟩
      · have dp : (p1 == m.who) = false := by simpa using hp
        have HXX : Hid (∀ (q : Nat) (hq : q < r.2.1.length), q < j + 1 → r.2.1[q].1 ≠ m.who) := HX2.out hp
        clear hp HX2 HY
        go_wp2_with (first | (refine ldM hr1 Try.underlying86 rfl Wi.szSeat _ rfl rfl rfl ?_))
        go_roundw
        case rel => exact ⟨j + 1, by omega, by go_num, HXX.out, HB2.out⟩
        case measure => simp [intOf]; omega
    · have hjn' : decide ((j : Int) < (n : Int)) = false := by simp; omega
      have HV : Hid (lvs r.2.1 m.who = false) := lvs_no fun q hq => HNO.out q hq (by have := HN.out; omega)
      have hf := hfo wr hS1.v.rd
      have hrk : wr.rangeAt D 0 [.int .i64 r.1, .slice aL r.2.1.length cL, .slice aJ r.2.2.1.length cJ, .slice aI r.2.2.2.length cI] := ra_of hS1.v.rk 0 _ rfl
      clear hfo hpo
      go_wp2_with (first | (refine ldMb hS1.v.mb HC.out _ rfl rfl rfl ?_) | (refine ldM hrk Try.underlying42 rfl Wi.szRk _ rfl rfl rfl ?_))
      refine hf.mono ?_
      rintro e w3 ⟨rfl, hb3⟩
      have hS3 := hS1.later hb3
      have hre := hS3.re
      clear hf hS1 hb3 hrk
      go_wp2_with (refine stMb (n := x.2) hre rfl rfl _ _ rfl rfl rfl ?_)
      refine bodyPost_ret (resRow (p := 4) (t := 5) rfl _ _ K (mba x.2) rfl (hre.row x.2).var) rfl ?_
      exact ⟨ApR.of (by rw [← HYY.out, HV.out]; rfl), Rt.setRow_below hS3.ge hS3.bel _⟩
end Go.Proofs.Ytdghibimelhgjaa.Mb
/- Contract: Apply. -/
namespace Go.Proofs.Ytdghibimelhgjaa.Mb
open Go.RowKit Go.Maps
open Rt (Ky zK gd gv Gd pcs KyAt)
open Wi (gR gE gW gS gI gB gK ldM stM rd_guard ra_of th_of ra_later RdV itl stl)
set_option linter.unusedVariables false
set_option linter.unusedSimpArgs false

theorem gM_mR (r : Rk) : Wi.gM (Wi.mR r) = gR r := by
  unfold Wi.gM Wi.mR
  rw [if_pos rfl]
  simp
theorem hs_2 {m : Mb} (h : knd m = 2 ∨ knd m = 3) : hsE m = 0 := by unfold hsE; rw [if_neg (by omega), if_neg (by omega)]
theorem hs_0 {m : Mb} (h : knd m < 1) : hsE m = 30 := by unfold hsE; rw [if_pos h]
theorem hs_1 {m : Mb} (h : knd m = 1) : hsE m = 20 := by unfold hsE; rw [if_neg (by omega), if_pos h]
structure RN (r : Rk) : Prop where
  l : r.2.1.length < 4611686018427387904
  j : r.2.2.1.length < 4611686018427387904
  i : r.2.2.2.length < 4611686018427387904
theorem good_R (r : Rk) (aL aJ aI : Option Addr) (cL cJ cI : Nat) (w : World) (hr : RL w r aL aJ aI) (hn : RN r) : Calls Try.prog 17 #[.agg #[.int .i64 1, .int .i64 r.1, .slice aL r.2.1.length cL, .slice aJ r.2.2.1.length cJ, .slice aI r.2.2.2.length cI, .int .i64 0, .int .i64 0, .int .i64 0, .int .i64 0, .int .i64 0, .int .i64 0, .int .i64 0, .int .i64 0, .int .i64 0, .int .i64 0, .int .i64 0, .int .i64 0, .int .i64 0, .int .i64 0, .int .i64 0, .int .i64 0, .int .i64 0, .int .i64 0, .int .i64 0, .int .i64 0, .string ByteArray.empty] ] w fun e w' => e = .returned (.bool (gR r)) ∧ Below w.heap.size w w' := by
  have h := Wi.good_any (Wi.mR r) aL aJ aI cL cJ cI w ⟨hr.l, hr.j, hr.i, hn.l, hn.j, hn.i, by show (Bt.tx []).size < _; decide⟩
  rw [gM_mR] at h
  exact h
theorem max_if (a b : Int) : max a b = if a < b then b else a := by split <;> omega
set_option maxRecDepth 100000 in
set_option maxHeartbeats 4000000 in
theorem apply_any (m : Mb) (r : Rk) (aL aJ aI : Option Addr) (cL cJ cI : Nat) (w : World) (hr : RL w r aL aJ aI) (hn : RN r) :
    Calls Try.prog 7 #[.agg (mba m), .agg (rka r aL aJ aI cL cJ cI)] w fun e w' => e = ApR (apl m r) ∧ Below w.heap.size w w' := by
  have hS := MP.new (cL := cL) (cJ := cJ) (cI := cI) w m hr
  have hhs := holdsSeat_any m
  have hgd := fun W (hW : RL W r aL aJ aI) => good_R r aL aJ aI cL cJ cI W hW hn
  have hway := way m r
  have hen := fun W (hW : RL W r aL aJ aI) (hg : gR r = true) (h : Sat m) => enter_any m r aL aJ aI cL cJ cI W hW hg h.lf h.slot.1 h.slot.2
  have hgo := fun W (hW : RL W r aL aJ aI) (hg : gR r = true) (h : Sat m) hp0 hp1 hp2 => goOn_any m r aL aJ aI cL cJ cI W hW hg h.lf h.slot.1 h.slot.2 hp0 hp1 hp2
  obtain ⟨x, hx⟩ : ∃ x, apl m r = x := ⟨_, rfl⟩
  have HX : Hid (apl m r = x) := hx
  rw [hx]
  obtain ⟨cm, hcm⟩ : ∃ c, mba m = c := ⟨_, rfl⟩
  have HC : Hid (mba m = cm) := hcm
  rw [hcm] at hS
  simp only [hcm] at hhs hen hgo
  rw [hcm]
  clear hcm hn hx
  have HEN : Hid _ := hen
  have HGO : Hid _ := hgo
  clear hen hgo
  unfold rka at hS HEN HGO
  go_enter Try.func7, Try.ntmps7
  unfold rka
  go_upto_region 1 with (fail)
  rw [zMb_eq]
  generalize ((w.alloc (.cells cm 49)).alloc (.cells #[.int .i64 r.1, .slice aL r.2.1.length cL, .slice aJ r.2.2.1.length cJ, .slice aI r.2.2.2.length cI] 42)).alloc (.cells (mba zMb) 49) = w1 at *
  obtain ⟨K, hK⟩ : ∃ K, w.heap.size + 2 = K := ⟨_, rfl⟩
  obtain ⟨D, hD⟩ : ∃ K, w.heap.size + 1 = K := ⟨_, rfl⟩
  obtain ⟨B, hB⟩ : ∃ K, w.heap.size = K := ⟨_, rfl⟩
  rw [hK, hD, hB] at hS ⊢
  clear hK hD hB
  go_wp2_with (refine ldMb hS.v.mb HC.out _ rfl rfl rfl ?_)
  refine (hhs _).mono ?_
  rintro e w2 ⟨rfl, hb2⟩
  have HS : Hid (MP w w2 B D K m r aL aJ aI cL cJ cI) := hS.later hb2
  clear hS hb2 hhs
  cases hway with
  | card h e =>
    have HE : Hid (x = (30, m)) := by unfold Hid; rw [← HX.out]; exact e
    rw [hs_0 h]
    clear h e hgd
    go_wp2_with (first | (refine ldMb HS.out.v.mb HC.out _ rfl rfl rfl ?_) | (refine stMb HS.out.re HC.out rfl _ _ rfl rfl rfl ?_))
    refine bodyPost_ret (resRow (p := 4) (t := 5) rfl _ _ K (mba m) rfl (HS.out.re.row m).var) rfl ?_
    exact ⟨ApR.of HE.out, Rt.setRow_below HS.out.ge HS.out.bel _⟩
  | out h e =>
    have HE : Hid (x = (20, m)) := by unfold Hid; rw [← HX.out]; exact e
    rw [hs_1 h]
    clear h e hgd
    go_wp2_with (first | (refine ldMb HS.out.v.mb HC.out _ rfl rfl rfl ?_) | (refine stMb HS.out.re HC.out rfl _ _ rfl rfl rfl ?_))
    refine bodyPost_ret (resRow (p := 4) (t := 5) rfl _ _ K (mba m) rfl (HS.out.re.row m).var) rfl ?_
    exact ⟨ApR.of HE.out, Rt.setRow_below HS.out.ge HS.out.bel _⟩
  | wire h g e =>
    have HE : Hid (x = (13, m)) := by unfold Hid; rw [← HX.out]; exact e
    clear e
    have hS1 := HS.out
    rw [hs_2 h]
    have hw := hgd w2 hS1.v.rd
    rw [g] at hw
    have hrk : w2.rangeAt D 0 [.int .i64 r.1, .slice aL r.2.1.length cL, .slice aJ r.2.2.1.length cJ, .slice aI r.2.2.2.length cI] := ra_of hS1.v.rk 0 _ rfl
    have HRK : Hid (w2.rangeAt D 0 [.int .i64 r.1, .slice aL r.2.1.length cL, .slice aJ r.2.2.1.length cJ, .slice aI r.2.2.2.length cI]) := hrk
    clear hS1 hrk hgd
    go_wp2_with (refine ldM HRK.out Try.underlying42 rfl Wi.szRk _ rfl rfl rfl ?_)
    refine hw.mono ?_
    rintro e w3 ⟨rfl, hb3⟩
    have HS3 : Hid (MP w w3 B D K m r aL aJ aI cL cJ cI) := HS.out.later hb3
    clear HS HRK hw hb3
    have HS := HS3
    clear HS3
    clear h g
    go_wp2_with (first | (refine ldMb HS.out.v.mb HC.out _ rfl rfl rfl ?_) | (refine stMb HS.out.re HC.out rfl _ _ rfl rfl rfl ?_))
    refine bodyPost_ret (resRow (p := 4) (t := 5) rfl _ _ K (mba m) rfl (HS.out.re.row m).var) rfl ?_
    exact ⟨ApR.of HE.out, Rt.setRow_below HS.out.ge HS.out.bel _⟩
  | old h g l e =>
    have HE : Hid (x = (21, m)) := by unfold Hid; rw [← HX.out]; exact e
    clear e
    have hS1 := HS.out
    rw [hs_2 h]
    have hw := hgd w2 hS1.v.rd
    rw [g] at hw
    have hrk : w2.rangeAt D 0 [.int .i64 r.1, .slice aL r.2.1.length cL, .slice aJ r.2.2.1.length cJ, .slice aI r.2.2.2.length cI] := ra_of hS1.v.rk 0 _ rfl
    have HRK : Hid (w2.rangeAt D 0 [.int .i64 r.1, .slice aL r.2.1.length cL, .slice aJ r.2.2.1.length cJ, .slice aI r.2.2.2.length cI]) := hrk
    clear hS1 hrk hgd
    go_wp2_with (refine ldM HRK.out Try.underlying42 rfl Wi.szRk _ rfl rfl rfl ?_)
    refine hw.mono ?_
    rintro e w3 ⟨rfl, hb3⟩
    have HS3 : Hid (MP w w3 B D K m r aL aJ aI cL cJ cI) := HS.out.later hb3
    clear HS HRK hw hb3
    have HS := HS3
    clear HS3
    obtain ⟨d0, d1, d2, d3⟩ := HS.out.v.rk.cells
    have c0 := HS.out.v.mb.ep
    have c1 := HS.out.v.mb.has
    clear h g d1 d2 d3 HX
    by_cases l1 : r.1 < m.ep
    · have dl : decide (r.1 < m.ep) = true := decide_eq_true l1
      clear l l1
      go_upto_region 7 with (fail)
      go_wp2_with (first | (refine ldMb HS.out.v.mb HC.out _ rfl rfl rfl ?_) | (refine stMb HS.out.re HC.out rfl _ _ rfl rfl rfl ?_))
      refine bodyPost_ret (resRow (p := 4) (t := 5) rfl _ _ K (mba m) rfl (HS.out.re.row m).var) rfl ?_
      exact ⟨ApR.of HE.out, Rt.setRow_below HS.out.ge HS.out.bel _⟩
    · rcases l with l | ⟨l, lh⟩
      · exact absurd l l1
      · have dl : decide (r.1 < m.ep) = false := decide_eq_false l1
        have de : (r.1 == m.ep) = true := by simpa using l
        rw [lh] at c1
        clear l lh l1
        go_upto_region 7 with (fail)
        go_wp2_with (first | (refine ldMb HS.out.v.mb HC.out _ rfl rfl rfl ?_) | (refine stMb HS.out.re HC.out rfl _ _ rfl rfl rfl ?_))
        refine bodyPost_ret (resRow (p := 4) (t := 5) rfl _ _ K (mba m) rfl (HS.out.re.row m).var) rfl ?_
        exact ⟨ApR.of HE.out, Rt.setRow_below HS.out.ge HS.out.bel _⟩
  | strange h g l hh s e =>
    have HE : Hid ((if stds r.2.2.1 (m.who, m.slt) then entr m r else (22, m)) = x) := by unfold Hid; rw [← HX.out, e, s]; rfl
    clear e
    have HSA := (knd_sat h).1
    have HG : Hid (gR r = true) := g
    have HSA2 : Hid (Sat m) := HSA
    clear HSA s
    have HLL : Hid (r.1 = m.ep) := l
    have HHH : Hid (m.has = false) := hh
    clear l hh
    have hS1 := HS.out
    rw [hs_2 h]
    have hw := hgd w2 hS1.v.rd
    rw [g] at hw
    have hrk : w2.rangeAt D 0 [.int .i64 r.1, .slice aL r.2.1.length cL, .slice aJ r.2.2.1.length cJ, .slice aI r.2.2.2.length cI] := ra_of hS1.v.rk 0 _ rfl
    have HRK : Hid (w2.rangeAt D 0 [.int .i64 r.1, .slice aL r.2.1.length cL, .slice aJ r.2.2.1.length cJ, .slice aI r.2.2.2.length cI]) := hrk
    clear hS1 hrk hgd
    go_wp2_with (refine ldM HRK.out Try.underlying42 rfl Wi.szRk _ rfl rfl rfl ?_)
    refine hw.mono ?_
    rintro e w3 ⟨rfl, hb3⟩
    have HS3 : Hid (MP w w3 B D K m r aL aJ aI cL cJ cI) := HS.out.later hb3
    clear HS HRK hw hb3
    have HS := HS3
    clear HS3
    obtain ⟨d0, d1, d2, d3⟩ := HS.out.v.rk.cells
    have c0 := HS.out.v.mb.ep
    have c1 := HS.out.v.mb.has
    rw [HHH.out] at c1
    have dl : decide (r.1 < m.ep) = false := decide_eq_false (by have := HLL.out; omega)
    have de : (r.1 == m.ep) = true := by simpa using HLL.out
    have he := HEN.out w3 HS.out.v.rd HG.out HSA2.out
    rw [HE.out] at he
    unfold ApR at he
    have hrk : w3.rangeAt D 0 [.int .i64 r.1, .slice aL r.2.1.length cL, .slice aJ r.2.2.1.length cJ, .slice aI r.2.2.2.length cI] := ra_of HS.out.v.rk 0 _ rfl
    have HRK : Hid (w3.rangeAt D 0 [.int .i64 r.1, .slice aL r.2.1.length cL, .slice aJ r.2.2.1.length cJ, .slice aI r.2.2.2.length cI]) := hrk
    clear h g hrk HEN HGO HX d1 d2 d3
    go_upto_region 9 with (fail)
    go_wp2_with (first | (refine ldMb HS.out.v.mb HC.out _ rfl rfl rfl ?_) | (refine ldM HRK.out Try.underlying42 rfl Wi.szRk _ rfl rfl rfl ?_))
    refine he.mono ?_
    rintro e w4 ⟨rfl, hb4⟩
    have hS4 := HS.out.later hb4
    have hre := hS4.re
    clear he hb4 HS HRK c0 c1 d0 dl de
    go_wp2_with (refine stMb (n := x.2) hre rfl rfl _ _ rfl rfl rfl ?_)
    refine bodyPost_ret (resRow (p := 4) (t := 5) rfl _ _ K (mba x.2) rfl (hre.row x.2).var) rfl ?_
    exact ⟨rfl, Rt.setRow_below hS4.ge hS4.bel _⟩
  | enter h g l hh s e =>
    have HE : Hid ((if stds r.2.2.1 (m.who, m.slt) then entr m r else (22, m)) = x) := by unfold Hid; rw [← HX.out, e, s]; rfl
    clear e
    have HSA := (knd_sat h).1
    have HG : Hid (gR r = true) := g
    have HSA2 : Hid (Sat m) := HSA
    clear HSA s
    have HLL : Hid (r.1 = m.ep) := l
    have HHH : Hid (m.has = false) := hh
    clear l hh
    have hS1 := HS.out
    rw [hs_2 h]
    have hw := hgd w2 hS1.v.rd
    rw [g] at hw
    have hrk : w2.rangeAt D 0 [.int .i64 r.1, .slice aL r.2.1.length cL, .slice aJ r.2.2.1.length cJ, .slice aI r.2.2.2.length cI] := ra_of hS1.v.rk 0 _ rfl
    have HRK : Hid (w2.rangeAt D 0 [.int .i64 r.1, .slice aL r.2.1.length cL, .slice aJ r.2.2.1.length cJ, .slice aI r.2.2.2.length cI]) := hrk
    clear hS1 hrk hgd
    go_wp2_with (refine ldM HRK.out Try.underlying42 rfl Wi.szRk _ rfl rfl rfl ?_)
    refine hw.mono ?_
    rintro e w3 ⟨rfl, hb3⟩
    have HS3 : Hid (MP w w3 B D K m r aL aJ aI cL cJ cI) := HS.out.later hb3
    clear HS HRK hw hb3
    have HS := HS3
    clear HS3
    obtain ⟨d0, d1, d2, d3⟩ := HS.out.v.rk.cells
    have c0 := HS.out.v.mb.ep
    have c1 := HS.out.v.mb.has
    rw [HHH.out] at c1
    have dl : decide (r.1 < m.ep) = false := decide_eq_false (by have := HLL.out; omega)
    have de : (r.1 == m.ep) = true := by simpa using HLL.out
    have he := HEN.out w3 HS.out.v.rd HG.out HSA2.out
    rw [HE.out] at he
    unfold ApR at he
    have hrk : w3.rangeAt D 0 [.int .i64 r.1, .slice aL r.2.1.length cL, .slice aJ r.2.2.1.length cJ, .slice aI r.2.2.2.length cI] := ra_of HS.out.v.rk 0 _ rfl
    have HRK : Hid (w3.rangeAt D 0 [.int .i64 r.1, .slice aL r.2.1.length cL, .slice aJ r.2.2.1.length cJ, .slice aI r.2.2.2.length cI]) := hrk
    clear h g hrk HEN HGO HX d1 d2 d3
    go_upto_region 9 with (fail)
    go_wp2_with (first | (refine ldMb HS.out.v.mb HC.out _ rfl rfl rfl ?_) | (refine ldM HRK.out Try.underlying42 rfl Wi.szRk _ rfl rfl rfl ?_))
    refine he.mono ?_
    rintro e w4 ⟨rfl, hb4⟩
    have hS4 := HS.out.later hb4
    have hre := hS4.re
    clear he hb4 HS HRK c0 c1 d0 dl de
    go_wp2_with (refine stMb (n := x.2) hre rfl rfl _ _ rfl rfl rfl ?_)
    refine bodyPost_ret (resRow (p := 4) (t := 5) rfl _ _ K (mba x.2) rfl (hre.row x.2).var) rfl ?_
    exact ⟨rfl, Rt.setRow_below hS4.ge hS4.bel _⟩
  | put h g l hh s e =>
    have HE : Hid ((if lvs r.2.1 m.who then (0, outM m.who r.1) else foll m r) = x) := by unfold Hid; rw [← HX.out, e, s]; rfl
    clear e
    obtain ⟨HSA, hpp⟩ := knd_sat h
    have HG : Hid (gR r = true) := g
    have HSA2 : Hid (Sat m) := HSA
    have hpp2 : gk m.p0 = true ∧ gk m.p1 = true ∧ gk m.p2 = true := by
      rcases hpp with ⟨a, _⟩ | ⟨_, _, b⟩
      · rw [hh] at a; cases a
      · exact b
    have HPP : Hid (gk m.p0 = true ∧ gk m.p1 = true ∧ gk m.p2 = true) := hpp2
    have hep := HSA.ep
    clear HSA s hpp hpp2
    have HLL : Hid (r.1 = m.ep + 1) := l
    have HHH : Hid (m.has = true) := hh
    clear l hh
    have hS1 := HS.out
    rw [hs_2 h]
    have hw := hgd w2 hS1.v.rd
    rw [g] at hw
    have hrk : w2.rangeAt D 0 [.int .i64 r.1, .slice aL r.2.1.length cL, .slice aJ r.2.2.1.length cJ, .slice aI r.2.2.2.length cI] := ra_of hS1.v.rk 0 _ rfl
    have HRK : Hid (w2.rangeAt D 0 [.int .i64 r.1, .slice aL r.2.1.length cL, .slice aJ r.2.2.1.length cJ, .slice aI r.2.2.2.length cI]) := hrk
    clear hS1 hrk hgd
    go_wp2_with (refine ldM HRK.out Try.underlying42 rfl Wi.szRk _ rfl rfl rfl ?_)
    refine hw.mono ?_
    rintro e w3 ⟨rfl, hb3⟩
    have HS3 : Hid (MP w w3 B D K m r aL aJ aI cL cJ cI) := HS.out.later hb3
    clear HS HRK hw hb3
    have HS := HS3
    clear HS3
    obtain ⟨d0, d1, d2, d3⟩ := HS.out.v.rk.cells
    have c0 := HS.out.v.mb.ep
    have c1 := HS.out.v.mb.has
    rw [HHH.out] at c1
    have dl : decide (r.1 < m.ep) = false := decide_eq_false (by have := HLL.out; omega)
    have de : (r.1 == m.ep) = false := by have := HLL.out; simp; omega
    have de1 : (r.1 == m.ep + 1) = true := by simpa using HLL.out
    have hwr : IntKind.i64.wrap (m.ep + 1) = m.ep + 1 := Rt.i64_fit _ (by omega) (by omega)
    have he := HGO.out w3 HS.out.v.rd HG.out HSA2.out HPP.out.1 HPP.out.2.1 HPP.out.2.2
    rw [HE.out] at he
    unfold ApR at he
    have hrk : w3.rangeAt D 0 [.int .i64 r.1, .slice aL r.2.1.length cL, .slice aJ r.2.2.1.length cJ, .slice aI r.2.2.2.length cI] := ra_of HS.out.v.rk 0 _ rfl
    have HRK : Hid (w3.rangeAt D 0 [.int .i64 r.1, .slice aL r.2.1.length cL, .slice aJ r.2.2.1.length cJ, .slice aI r.2.2.2.length cI]) := hrk
    clear h g hrk HEN HGO HX d1 d2 d3 hep
    go_upto_region 11 with (fail)
    go_wp2_with (first | (refine ldMb HS.out.v.mb HC.out _ rfl rfl rfl ?_) | (refine ldM HRK.out Try.underlying42 rfl Wi.szRk _ rfl rfl rfl ?_))
    refine he.mono ?_
    rintro e w4 ⟨rfl, hb4⟩
    have hS4 := HS.out.later hb4
    have hre := hS4.re
    clear he hb4 HS HRK c0 c1 d0 dl de de1
    go_wp2_with (refine stMb (n := x.2) hre rfl rfl _ _ rfl rfl rfl ?_)
    refine bodyPost_ret (resRow (p := 4) (t := 5) rfl _ _ K (mba x.2) rfl (hre.row x.2).var) rfl ?_
    exact ⟨rfl, Rt.setRow_below hS4.ge hS4.bel _⟩
  | follow h g l hh s e =>
    have HE : Hid ((if lvs r.2.1 m.who then (0, outM m.who r.1) else foll m r) = x) := by unfold Hid; rw [← HX.out, e, s]; rfl
    clear e
    obtain ⟨HSA, hpp⟩ := knd_sat h
    have HG : Hid (gR r = true) := g
    have HSA2 : Hid (Sat m) := HSA
    have hpp2 : gk m.p0 = true ∧ gk m.p1 = true ∧ gk m.p2 = true := by
      rcases hpp with ⟨a, _⟩ | ⟨_, _, b⟩
      · rw [hh] at a; cases a
      · exact b
    have HPP : Hid (gk m.p0 = true ∧ gk m.p1 = true ∧ gk m.p2 = true) := hpp2
    have hep := HSA.ep
    clear HSA s hpp hpp2
    have HLL : Hid (r.1 = m.ep + 1) := l
    have HHH : Hid (m.has = true) := hh
    clear l hh
    have hS1 := HS.out
    rw [hs_2 h]
    have hw := hgd w2 hS1.v.rd
    rw [g] at hw
    have hrk : w2.rangeAt D 0 [.int .i64 r.1, .slice aL r.2.1.length cL, .slice aJ r.2.2.1.length cJ, .slice aI r.2.2.2.length cI] := ra_of hS1.v.rk 0 _ rfl
    have HRK : Hid (w2.rangeAt D 0 [.int .i64 r.1, .slice aL r.2.1.length cL, .slice aJ r.2.2.1.length cJ, .slice aI r.2.2.2.length cI]) := hrk
    clear hS1 hrk hgd
    go_wp2_with (refine ldM HRK.out Try.underlying42 rfl Wi.szRk _ rfl rfl rfl ?_)
    refine hw.mono ?_
    rintro e w3 ⟨rfl, hb3⟩
    have HS3 : Hid (MP w w3 B D K m r aL aJ aI cL cJ cI) := HS.out.later hb3
    clear HS HRK hw hb3
    have HS := HS3
    clear HS3
    obtain ⟨d0, d1, d2, d3⟩ := HS.out.v.rk.cells
    have c0 := HS.out.v.mb.ep
    have c1 := HS.out.v.mb.has
    rw [HHH.out] at c1
    have dl : decide (r.1 < m.ep) = false := decide_eq_false (by have := HLL.out; omega)
    have de : (r.1 == m.ep) = false := by have := HLL.out; simp; omega
    have de1 : (r.1 == m.ep + 1) = true := by simpa using HLL.out
    have hwr : IntKind.i64.wrap (m.ep + 1) = m.ep + 1 := Rt.i64_fit _ (by omega) (by omega)
    have he := HGO.out w3 HS.out.v.rd HG.out HSA2.out HPP.out.1 HPP.out.2.1 HPP.out.2.2
    rw [HE.out] at he
    unfold ApR at he
    have hrk : w3.rangeAt D 0 [.int .i64 r.1, .slice aL r.2.1.length cL, .slice aJ r.2.2.1.length cJ, .slice aI r.2.2.2.length cI] := ra_of HS.out.v.rk 0 _ rfl
    have HRK : Hid (w3.rangeAt D 0 [.int .i64 r.1, .slice aL r.2.1.length cL, .slice aJ r.2.2.1.length cJ, .slice aI r.2.2.2.length cI]) := hrk
    clear h g hrk HEN HGO HX d1 d2 d3 hep
    go_upto_region 11 with (fail)
    go_wp2_with (first | (refine ldMb HS.out.v.mb HC.out _ rfl rfl rfl ?_) | (refine ldM HRK.out Try.underlying42 rfl Wi.szRk _ rfl rfl rfl ?_))
    refine he.mono ?_
    rintro e w4 ⟨rfl, hb4⟩
    have hS4 := HS.out.later hb4
    have hre := hS4.re
    clear he hb4 HS HRK c0 c1 d0 dl de de1
    go_wp2_with (refine stMb (n := x.2) hre rfl rfl _ _ rfl rfl rfl ?_)
    refine bodyPost_ret (resRow (p := 4) (t := 5) rfl _ _ K (mba x.2) rfl (hre.row x.2).var) rfl ?_
    exact ⟨rfl, Rt.setRow_below hS4.ge hS4.bel _⟩
  | gap h g l n e =>
    have HE : Hid (x = (22, gapM m r.1)) := by unfold Hid; rw [← HX.out]; exact e
    clear e
    have HSA := (knd_sat h).1
    have hep := HSA.ep
    clear HSA
    have hS1 := HS.out
    rw [hs_2 h]
    have hw := hgd w2 hS1.v.rd
    rw [g] at hw
    have hrk : w2.rangeAt D 0 [.int .i64 r.1, .slice aL r.2.1.length cL, .slice aJ r.2.2.1.length cJ, .slice aI r.2.2.2.length cI] := ra_of hS1.v.rk 0 _ rfl
    have HRK : Hid (w2.rangeAt D 0 [.int .i64 r.1, .slice aL r.2.1.length cL, .slice aJ r.2.2.1.length cJ, .slice aI r.2.2.2.length cI]) := hrk
    clear hS1 hrk hgd
    go_wp2_with (refine ldM HRK.out Try.underlying42 rfl Wi.szRk _ rfl rfl rfl ?_)
    refine hw.mono ?_
    rintro e w3 ⟨rfl, hb3⟩
    have HS3 : Hid (MP w w3 B D K m r aL aJ aI cL cJ cI) := HS.out.later hb3
    clear HS HRK hw hb3
    have HS := HS3
    clear HS3
    obtain ⟨d0, d1, d2, d3⟩ := HS.out.v.rk.cells
    have c0 := HS.out.v.mb.ep
    have c1 := HS.out.v.mb.has
    have c2 := HS.out.v.mb.bh
    have f2 := HS.out.v.mb.fr 13
    have dl : decide (r.1 < m.ep) = false := decide_eq_false (by omega)
    have de : (r.1 == m.ep) = false := by simp; omega
    have hwr : IntKind.i64.wrap (m.ep + 1) = m.ep + 1 := Rt.i64_fit _ (by omega) (by omega)
    clear h g d1 d2 d3 HX
    have HL : Hid (m.ep < r.1) := l
    by_cases hn1 : r.1 = m.ep + 1
    · have d1 : (r.1 == m.ep + 1) = true := by simpa using hn1
      have hh : m.has = false := by
        cases hh : m.has with
        | false => rfl
        | true => exact absurd ⟨hn1, hh⟩ n
      rw [hh] at c1
      clear n hn1 hh l hep
      go_upto_region 13 with (fail)
      have hM : MA (w3.setCell ⟨B, 13, none⟩ (.int .i64 (max m.bh r.1))) B (gapM m r.1) := by
        have h3 := Rt.row_setCell HS.out.v.mb 13 (.int .i64 (max m.bh r.1))
        rw [max_if] at h3
        rw [max_if]
        exact h3
      have hre : MA (w3.setCell ⟨B, 13, none⟩ (.int .i64 (max m.bh r.1))) K zMb := (Rt.other_setCell (Ne.symm HS.out.ne) _ _).trans HS.out.re
      have HBL : Hid (Below w.heap.size w (w3.setCell ⟨B, 13, none⟩ (.int .i64 (max m.bh r.1)))) := HS.out.bel.setCell (p := ⟨B, 13, none⟩) HS.out.gB _
      have HGE : Hid (w.heap.size ≤ K) := HS.out.ge
      generalize w3.setCell ⟨B, 13, none⟩ (.int .i64 (max m.bh r.1)) = w4 at *
      clear HS c0 c1 c2 f2 d0
      go_wp2_with (first | (refine ldMb hM rfl _ rfl rfl rfl ?_) | (refine stMb (n := gapM m r.1) hre rfl rfl _ _ rfl rfl rfl ?_))
      refine bodyPost_ret (resRow (p := 4) (t := 5) rfl _ _ K (mba (gapM m r.1)) rfl (hre.row (gapM m r.1)).var) rfl ?_
      exact ⟨ApR.of HE.out, Rt.setRow_below HGE.out HBL.out _⟩
    · have d1 : (r.1 == m.ep + 1) = false := by simpa using hn1
      clear n hn1 l hep
      go_upto_region 13 with (fail)
      have hM : MA (w3.setCell ⟨B, 13, none⟩ (.int .i64 (max m.bh r.1))) B (gapM m r.1) := by
        have h3 := Rt.row_setCell HS.out.v.mb 13 (.int .i64 (max m.bh r.1))
        rw [max_if] at h3
        rw [max_if]
        exact h3
      have hre : MA (w3.setCell ⟨B, 13, none⟩ (.int .i64 (max m.bh r.1))) K zMb := (Rt.other_setCell (Ne.symm HS.out.ne) _ _).trans HS.out.re
      have HBL : Hid (Below w.heap.size w (w3.setCell ⟨B, 13, none⟩ (.int .i64 (max m.bh r.1)))) := HS.out.bel.setCell (p := ⟨B, 13, none⟩) HS.out.gB _
      have HGE : Hid (w.heap.size ≤ K) := HS.out.ge
      generalize w3.setCell ⟨B, 13, none⟩ (.int .i64 (max m.bh r.1)) = w4 at *
      clear HS c0 c1 c2 f2 d0
      go_wp2_with (first | (refine ldMb hM rfl _ rfl rfl rfl ?_) | (refine stMb (n := gapM m r.1) hre rfl rfl _ _ rfl rfl rfl ?_))
      refine bodyPost_ret (resRow (p := 4) (t := 5) rfl _ _ K (mba (gapM m r.1)) rfl (hre.row (gapM m r.1)).var) rfl ?_
      exact ⟨ApR.of HE.out, Rt.setRow_below HGE.out HBL.out _⟩
end Go.Proofs.Ytdghibimelhgjaa.Mb
