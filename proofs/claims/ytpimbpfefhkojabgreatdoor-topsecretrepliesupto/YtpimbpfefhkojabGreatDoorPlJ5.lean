/- PlW, PlV, PlP0, PlY, PlX, joined. -/
import Derived.Test.YtpimbpfefhkojabGreatDoorPlJ3
import Derived.Test.YtpimbpfefhkojabGreatDoorPlW0
import Derived.Test.YtpimbpfefhkojabGreatDoorShK
import Derived.Great.BuildSlice
import Derived.Great.FillDense
import Derived.Test.YtpimbpfefhkojabGreatDoorRsMm
import Derived.Test.YtpimbpfefhkojabGreatDoorPlV1
import Derived.Maps.AppendAt
import Derived.Test.YtpimbpfefhkojabGreatDoorRsJ5
import Derived.Laws.AppendOwnNone
import Derived.Test.YtpimbpfefhkojabGreatDoorTrN
namespace Go.Proofs.YtpimbpfefhkojabGreatDoor
open Go.RowKit Go.Maps
open Rt (Ky zK KyAt)
open Rs (En zE rcs tkn fnd RdS RdI ps)
open Sh (belB lef)
set_option linter.unusedVariables false
set_option linter.unusedSimpArgs false

/- Somebody is on in each tree of a part of a row. -/
def onT (ts : List Tr) (x : Int) (f k : Nat) : Bool := (List.range k).all fun i => decide (0 ≤ fnd (ts.getD (f + i) (tz 0)).ro x)
def onB (ts : List Tr) (x f t : Int) : Bool := !decide (f < 0) && (!decide ((ts.length : Int) ≤ t) && (!decide (t < f) && onT ts x f.toNat (t - f + 1).toNat))
theorem onT_no {ts : List Tr} {x : Int} {f k i : Nat} (hi : i < k) (h : fnd (ts.getD (f + i) (tz 0)).ro x < 0) : onT ts x f k = false := all_no hi (decide_eq_false (by omega))
theorem onT_yes {ts : List Tr} {x : Int} {f k : Nat} (h : ∀ i, i < k → 0 ≤ fnd (ts.getD (f + i) (tz 0)).ro x) : onT ts x f k = true := all_yes fun i hi => decide_eq_true (h i hi)
set_option maxRecDepth 100000 in
set_option maxHeartbeats 2000000 in
theorem rOn_any (a : Option Addr) (c : Nat) (ts : List Tr) (x f t : Int) (w : World) (hl : ts.length ≤ 4096) (hr : RdR w a ts) :
    Calls Tryz.prog 45 #[.slice a ts.length c, .int .i64 x, .int .i64 f, .int .i64 t] w fun e w' => e = .returned (.bool (onB ts x f t)) ∧ Below w.heap.size w w' := by
  go_enter Tryz.func45, Tryz.ntmps45
  by_cases h1 : f < 0
  · have d1 : decide (f < 0) = true := decide_eq_true h1
    have HQ : Hid (onB ts x f t = false) := by unfold Hid onB; rw [d1]; rfl
    clear h1
    go_wp2_with fail
    go_ret
    exact ⟨ret_bool HQ.out.symm, Below.refl _ _⟩
  · have d1 : decide (f < 0) = false := decide_eq_false h1
    by_cases h2 : (ts.length : Int) ≤ t
    · have d2 : decide ((ts.length : Int) ≤ t) = true := decide_eq_true h2
      have HQ : Hid (onB ts x f t = false) := by unfold Hid onB; rw [d2]; simp
      clear h1 h2
      go_wp2_with fail
      go_ret
      exact ⟨ret_bool HQ.out.symm, Below.refl _ _⟩
    · have d2 : decide ((ts.length : Int) ≤ t) = false := decide_eq_false h2
      by_cases h3 : t < f
      · have d3 : decide (t < f) = true := decide_eq_true h3
        have HQ : Hid (onB ts x f t = false) := by unfold Hid onB; rw [d3]; simp
        clear h1 h2 h3
        go_wp2_with fail
        go_ret
        exact ⟨ret_bool HQ.out.symm, Below.refl _ _⟩
      · have d3 : decide (t < f) = false := decide_eq_false h3
        obtain ⟨n, rfl⟩ : ∃ n : Nat, f = (n : Int) := ⟨f.toNat, by omega⟩
        obtain ⟨m, hm⟩ : ∃ m : Nat, t = (n : Int) + (m : Int) := ⟨(t - n).toNat, by omega⟩
        have HQ : Hid (onB ts x (n : Int) t = onT ts x n (m + 1)) := by
          unfold Hid onB
          rw [d1, d2, d3, show (t - (n : Int) + 1).toNat = m + 1 by omega, Int.toNat_natCast]
          rfl
        have HLM : Hid (n + m < ts.length) := by unfold Hid; omega
        have HTM : Hid (t = (n : Int) + (m : Int)) := hm
        clear h1 h2 h3 hm
        go_wp2_with fail
        go_loopw [9] (fun i wx => ∃ k : Nat, k ≤ m + 1 ∧ i = .int .i64 ((n + k : Nat) : Int) ∧ Below w.heap.size w wx ∧ ∀ j, j < k → 0 ≤ fnd (ts.getD (n + j) (tz 0)).ro x) (fun i _ => n + m + 1 - (intOf i).toNat)
        case atStart => exact ⟨0, by omega, rfl, Below.refl _ _, fun j hj => by omega⟩
        case round =>
          obtain ⟨k, hk, rfl, hbx, hall⟩ := hrel
          have HB : Hid (Below w.heap.size w wr) := hbx
          have HA : Hid (∀ j, j < k → 0 ≤ fnd (ts.getD (n + j) (tz 0)).ro x) := hall
          clear hbx hall
          have hlm := HLM.out
          by_cases hkm : k < m + 1
          · have d4 : decide (((n + k : Nat) : Int) ≤ t) = true := decide_eq_true (by rw [HTM.out]; omega)
            obtain ⟨u, hu⟩ : ∃ u, ts.getD (n + k) (tz 0) = u := ⟨_, rfl⟩
            obtain ⟨b, e, _, hro⟩ := (hr.later HB.out).tree (i := n + k) (by omega) hu
            have HU : Hid (ts.getD (n + k) (tz 0) = u) := hu
            have hfi := Rs.rFind_any u.ro x wr
            obtain ⟨cf, hcf⟩ : ∃ cf, rcs u.ro = cf := ⟨_, rfl⟩
            rw [hcf] at hro hfi
            obtain ⟨i, hi⟩ : ∃ i, n + k = i := ⟨_, rfl⟩
            rw [hi] at hro d4
            rw [hi]
            have HI : Hid (n + k = i) := hi
            have i1 : (0 : Int) ≤ (i : Int) := by omega
            have i2 : (i : Int) < (ts.length : Int) := by omega
            have i3 : i < 5000 := by omega
            obtain ⟨q, hq⟩ : ∃ q, fnd u.ro x = q := ⟨_, rfl⟩
            have HFQ : Hid (fnd u.ro x = q) := hq
            rw [hq] at hfi
            subst e
            clear hcf hu hi hq hlm
            go_wp2_with (refine rd_guard (v := .agg cf) (by rfl) (ld_exec hro rfl rfl) ?_)
            refine hfi.mono ?_
            rintro r w2 ⟨rfl, hb2⟩
            have HB2 : Hid (Below w.heap.size w w2) := HB.out.trans (hb2.mono HB.out.size)
            clear hfi hro hb2 HB
            by_cases hq0 : q < 0
            · have d5 : decide (q < 0) = true := decide_eq_true hq0
              have HR : Hid (onT ts x n (m + 1) = false) := onT_no hkm (by rw [HU.out, HFQ.out]; exact hq0)
              clear hq0
              go_wp2_with fail
              go_ret
              exact ⟨ret_bool (by rw [HQ.out, HR.out]), HB2.out⟩
            · have d5 : decide (q < 0) = false := decide_eq_false hq0
              have HR : Hid (∀ j, j < k + 1 → 0 ≤ fnd (ts.getD (n + j) (tz 0)).ro x) := fun j hj => by
                rcases Nat.lt_or_ge j k with c | c
                · exact HA.out j c
                · obtain rfl : j = k := by omega
                  rw [HU.out, HFQ.out]; omega
              clear hq0
              go_wp2_with fail
              go_roundw
              case rel => exact ⟨k + 1, by omega, by rw [← Nat.add_assoc, HI.out]; go_num, HB2.out, HR.out⟩
              case measure => have := HI.out; simp [intOf]; omega
          · obtain rfl : k = m + 1 := by omega
            obtain ⟨i, hi⟩ : ∃ i, n + (m + 1) = i := ⟨_, rfl⟩
            have d4 : decide ((i : Int) ≤ t) = false := decide_eq_false (by rw [HTM.out]; omega)
            rw [hi]
            clear hi
            go_wp2_with fail
            go_ret
            exact ⟨ret_bool (by rw [HQ.out, onT_yes HA.out]), HB.out⟩
/- A node's key at an epoch is excused. -/
def exc1 (ts : List Tr) (e v : Int) (x : Int × Int) : Bool := onB ts x.1 x.2 e && belB v (lef (fnd (ts.getD e.toNat (tz 0)).ro x.1))
def excB (ts : List Tr) (met : List (Int × Int)) (e v : Int) : Bool := met.any (exc1 ts e v)
set_option maxRecDepth 100000 in
set_option maxHeartbeats 2000000 in
theorem rExc_any (a : Option Addr) (c : Nat) (ts : List Tr) (a' : Option Addr) (c' : Nat) (met : List (Int × Int)) (e v : Nat) (w : World) (hl : ts.length ≤ 4096) (hl' : met.length ≤ 4194304) (he : e < ts.length) (hv : v < 21) (hr : RdR w a ts) (hm : RdS w a' met) :
    Calls Tryz.prog 22 #[.slice a ts.length c, .slice a' met.length c', .int .i64 (e : Int), .int .i64 (v : Int)] w fun r w' => r = .returned (.bool (excB ts met (e : Int) (v : Int))) ∧ Below w.heap.size w w' := by
  obtain ⟨u, hu⟩ : ∃ u, ts.getD e (tz 0) = u := ⟨_, rfl⟩
  have HU : Hid (ts.getD e (tz 0) = u) := hu
  have HON : Hid (∀ (x : Int × Int) (W : World), Below w.heap.size w W → Calls Tryz.prog 45 #[.slice a ts.length c, .int .i64 x.1, .int .i64 x.2, .int .i64 (e : Int)] W fun r w' => r = .returned (.bool (onB ts x.1 x.2 (e : Int))) ∧ Below W.heap.size W w') := fun x W hW => rOn_any a c ts x.1 x.2 e W hl (hr.later hW)
  obtain ⟨b, eb, -, -⟩ := hr.tree he hu
  have HRO : Hid (∀ W, Below w.heap.size w W → (Instr.loadAt 45 (.pointer (some ⟨b, e * 236 + 44, none⟩))).run Tryz.prog W = .ok (.agg (rcs u.ro)) W) := fun W hW => by
    obtain ⟨b', e', -, h2⟩ := (hr.later hW).tree he hu
    rw [eb] at e'
    simp at e'
    subst e'
    exact h2
  have d1 : decide ((e : Int) < 0) = false := decide_eq_false (by omega)
  have d2 : decide ((ts.length : Int) ≤ (e : Int)) = false := decide_eq_false (by omega)
  have d3 : decide ((v : Int) < 0) = false := decide_eq_false (by omega)
  have d4 : decide ((21 : Int) ≤ (v : Int)) = false := decide_eq_false (by omega)
  obtain ⟨cf, hcf⟩ : ∃ cf, rcs u.ro = cf := ⟨_, rfl⟩
  rw [hcf] at HRO
  have hfi := fun x => Rs.rFind_any u.ro x
  rw [hcf] at hfi
  have e1 : (0 : Int) ≤ (e : Int) := by omega
  have e2 : (e : Int) < (ts.length : Int) := by omega
  subst eb
  clear hcf hu hr
  obtain ⟨NT, hNT⟩ : ∃ n, ts.length = n := ⟨_, rfl⟩
  rw [hNT] at HON d2 e2 ⊢
  have HNT : Hid (ts.length = NT ∧ NT ≤ 4096 ∧ e < NT) := ⟨hNT, by omega, by omega⟩
  have d5 : decide (NT ≤ e) = false := decide_eq_false (by omega)
  clear hNT hl he
  go_enter Tryz.func22, Tryz.ntmps22
  go_wp2_with fail
  go_loopw [30] (fun i wx => ∃ k : Nat, k ≤ met.length ∧ i = .int .i64 (k : Int) ∧ Below w.heap.size w wx ∧ excB ts (met.take k) (e : Int) (v : Int) = false) (fun i _ => met.length - (intOf i).toNat)
  case atStart => exact ⟨0, by omega, rfl, Below.refl _ _, rfl⟩
  case round =>
    obtain ⟨k, hk, rfl, hbx, hno⟩ := hrel
    have HB : Hid (Below w.heap.size w wr) := hbx
    have HNO : Hid (excB ts (met.take k) (e : Int) (v : Int) = false) := hno
    clear hbx hno
    by_cases hkN : k < met.length
    · have i1 : (0 : Int) ≤ (k : Int) := by omega
      have i2 : (k : Int) < (met.length : Int) := by omega
      obtain ⟨g, hal, hc0, hc1⟩ := (hm.later HB.out) k hkN
      have HTK : Hid (excB ts (met.take (k + 1)) (e : Int) (v : Int) = exc1 ts (e : Int) (v : Int) (met.getD k (0, 0))) := by
        have h := HNO.out
        unfold excB at h
        unfold Hid excB
        rw [take_snoc2 hkN, List.any_append, h]
        simp
      have HIN : Hid (met.getD k (0, 0) ∈ met) := getD_in hkN
      have hon := fun W hW => HON.out (met.getD k (0, 0)) W hW
      obtain ⟨q, hq⟩ : ∃ q, met.getD k (0, 0) = q := ⟨_, rfl⟩
      rw [hq] at hc0 hc1 HTK HIN hon
      obtain ⟨px, py⟩ := q
      dsimp only at hc0 hc1 hon
      have HTK2 : Hid (exc1 ts (e : Int) (v : Int) (px, py) = (onB ts px py (e : Int) && belB (v : Int) (lef (fnd u.ro px)))) := by
        unfold Hid exc1
        rw [Int.toNat_natCast, HU.out]
      obtain ⟨o1, ho1⟩ : ∃ o, onB ts px py (e : Int) = o := ⟨_, rfl⟩
      rw [ho1] at hon HTK2
      clear hq ho1
      subst hal
      have HB1 : Hid (Below w.heap.size w (wr.alloc (.cells #[.int .i64 px, .int .i64 py] 80))) := HB.out.trans ((below_alloc _ _).mono HB.out.size)
      have hSE : (wr.alloc (.cells #[.int .i64 px, .int .i64 py] 80)).heap[wr.heap.size]? = some (.cells #[.int .i64 px, .int .i64 py] 80 (0, 0)) := heap_alloc_last wr _
      clear HB
      go_upto_region 6 with (fail)
      clear hc0 hc1
      generalize wr.alloc (.cells #[.int .i64 px, .int .i64 py] 80) = w5 at *
      generalize wr.heap.size = C at *
      have HSE : Hid (w5.heap[C]? = some (.cells #[.int .i64 px, .int .i64 py] 80 (0, 0))) := hSE
      have x0 := cell_of_row w5 C 0 _ _ _ hSE
      have x1 := cell_of_row w5 C 1 _ _ _ hSE
      simp only [List.size_toArray, List.length_cons, List.length_nil, Nat.zero_add, Nat.reduceAdd, List.getElem?_toArray, List.getElem?_cons_zero, List.getElem?_cons_succ] at x0 x1
      clear hSE
      go_wp2_with fail
      refine (hon _ HB1.out).mono ?_
      rintro r w6 ⟨rfl, hb6⟩
      have HB6 : Hid (Below w.heap.size w w6) := HB1.out.trans (hb6.mono HB1.out.size)
      have HS6 : Hid (w6.heap[C]? = some (.cells #[.int .i64 px, .int .i64 py] 80 (0, 0))) := (hb6.block C (Array.getElem?_eq_some_iff.1 HSE.out).1).trans HSE.out
      clear hon hb6 HB1 HSE x0 x1
      cases o1 with
      | false =>
        have HR : Hid (excB ts (met.take (k + 1)) (e : Int) (v : Int) = false) := by unfold Hid; rw [HTK.out, HTK2.out]; rfl
        go_wp2_with fail
        go_roundw
        case rel => exact ⟨k + 1, by omega, by go_num, HB6.out, HR.out⟩
        case measure => simp [intOf]; omega
      | true =>
        go_upto_region 7 with (fail)
        have hfx := hfi px
        obtain ⟨q, hq⟩ : ∃ q, fnd u.ro px = q := ⟨_, rfl⟩
        rw [hq] at hfx HTK2
        clear hq
        have hS0 : Below w6.heap.size w6 w6.drew := drew_below _
        refine wp_region_held_drew (S := fun X => Below w6.heap.size w6 X) (by kernel_rfl) hS0 (fun hHeld => ?_)
        refine wpAnyH_take (i := 0) (oi := { dst := some 42, op := Op.move (Operand.tmp 0), type := _, pos := _, after := _, guard := none }) (v := .slice (some ⟨b, 0, none⟩) NT c) rfl (by kernel_rfl) (by kernel_rfl) (by kernel_rfl) (fun _ _ _ h => h) (Or.inl ⟨by rfl, fun w hSw => by (try dsimp only at hSw); go_simp⟩) (by assumption) ?_
        simp only [Act.put, List.setIfInBounds_toArray, List.set_cons_zero, List.set_cons_succ]
        refine wpAnyH_take (i := 1) (oi := { dst := some 43, op := Op.move (Operand.tmp 2), type := _, pos := _, after := _, guard := none }) (v := .int .i64 (e : Int)) rfl (by kernel_rfl) (by kernel_rfl) (by kernel_rfl) (fun _ _ _ h => h) (Or.inl ⟨by rfl, fun w hSw => by (try dsimp only at hSw); go_simp⟩) (by assumption) ?_
        simp only [Act.put, List.setIfInBounds_toArray, List.set_cons_zero, List.set_cons_succ]
        refine wpAnyH_take (i := 2) (oi := { dst := some 44, op := Op.indexAddr 26 (Operand.tmp 42) (Operand.tmp 43), type := _, pos := _, after := _, guard := none }) (v := .pointer (some ⟨b, e * 236, none⟩)) rfl (by kernel_rfl) (by kernel_rfl) (by kernel_rfl) (fun _ _ _ h => h) (Or.inl ⟨by rfl, fun w hSw => by (try dsimp only at hSw); go_simp⟩) (by assumption) ?_
        simp only [Act.put, List.setIfInBounds_toArray, List.set_cons_zero, List.set_cons_succ]
        refine wpAnyH_take (i := 3) (oi := { dst := some 45, op := Op.fieldAddr 47 (Operand.tmp 44) 3, type := _, pos := _, after := _, guard := none }) (v := .pointer (some ⟨b, e * 236 + 44, none⟩)) rfl (by kernel_rfl) (by kernel_rfl) (by kernel_rfl) (fun _ _ _ h => h) (Or.inl ⟨by rfl, fun w hSw => by (try dsimp only at hSw); go_simp⟩) (by assumption) ?_
        simp only [Act.put, List.setIfInBounds_toArray, List.set_cons_zero, List.set_cons_succ]
        refine wpAnyH_take (i := 4) (oi := { dst := some 46, op := Op.load 45 (Operand.tmp 45), type := _, pos := _, after := _, guard := none }) (v := .agg cf) rfl (by kernel_rfl) (by kernel_rfl) (by kernel_rfl) (fun _ _ _ h => h) (Or.inl ⟨by rfl, fun w hSw => ld_exec (HRO.out _ (HB6.out.trans (hSw.mono HB6.out.size))) rfl rfl⟩) (by assumption) ?_
        simp only [Act.put, List.setIfInBounds_toArray, List.set_cons_zero, List.set_cons_succ]
        refine wpAnyH_take (i := 5) (oi := { dst := some 47, op := Op.fieldAddr 80 (Operand.tmp 10) 0, type := _, pos := _, after := _, guard := none }) (v := .pointer (some ⟨C, 0, none⟩)) rfl (by kernel_rfl) (by kernel_rfl) (by kernel_rfl) (fun _ _ _ h => h) (Or.inl ⟨by rfl, fun w hSw => by (try dsimp only at hSw); go_simp⟩) (by assumption) ?_
        simp only [Act.put, List.setIfInBounds_toArray, List.set_cons_zero, List.set_cons_succ]
        refine wpAnyH_take (i := 6) (oi := { dst := some 48, op := Op.load 3 (Operand.tmp 47), type := _, pos := _, after := _, guard := none }) (v := .int .i64 px) rfl (by kernel_rfl) (by kernel_rfl) (by kernel_rfl) (fun _ _ _ h => h) (Or.inl ⟨by rfl, fun w hSw => by have x0 := cell_of_row w C 0 _ _ _ ((hSw.block C (Array.getElem?_eq_some_iff.1 HS6.out).1).trans HS6.out); clear hSw; go_simp⟩) (by assumption) ?_
        simp only [Act.put, List.setIfInBounds_toArray, List.set_cons_zero, List.set_cons_succ]
        refine wpAnyH_ready (rs := [7]) (by kernel_rfl) (by simp) ?_
        refine AllReadyH.cons rfl (fun K hK => ?_) AllReadyH.nil
        go_simp
        refine (hfx _).mono ?_
        rintro r w7 ⟨rfl, hb7⟩
        go_wp2_with fail
        refine hK.out _ _ (hHeld.trans (hb7.mono hHeld.size)) (fun hHeld2 => ?_)
        clear hHeld hb7
        clear hK K
        try simp only [Act.put, List.setIfInBounds_toArray, List.set_cons_zero, List.set_cons_succ]
        refine wpAnyH_take (i := 8) (oi := { dst := some 11, op := Op.assign (Operand.tmp 49), type := _, pos := _, after := _, guard := none }) (v := .int .i64 q) rfl (by kernel_rfl) (by kernel_rfl) (by kernel_rfl) (fun _ _ _ h => h) (Or.inl ⟨by rfl, fun w hSw => by (try dsimp only at hSw); go_simp⟩) (by assumption) ?_
        simp only [Act.put, List.setIfInBounds_toArray, List.set_cons_zero, List.set_cons_succ]
        refine wpAnyH_done (by kernel_rfl) ?_ _
        have HB7 : Hid (Below w.heap.size w w7) := HB6.out.trans (hHeld2.mono HB6.out.size)
        have hlf := Sh.rLeaf_any q
        have hbe := fun W => Sh.rBelow_any (v : Int) (lef q) W
        obtain ⟨z, hz⟩ : ∃ z, lef q = z := ⟨_, rfl⟩
        rw [hz] at hlf hbe HTK2
        obtain ⟨bb, hbb⟩ : ∃ z', belB (v : Int) z = z' := ⟨_, rfl⟩
        rw [hbb] at hbe HTK2
        clear hz hbb hHeld2 hS0 hfx HB6 HS6
        go_wp2_with fail
        refine (hlf _).mono ?_
        rintro r w7 ⟨rfl, rfl⟩
        go_wp2_with fail
        refine (hbe _).mono ?_
        rintro r w7 ⟨rfl, rfl⟩
        clear hlf hbe
        cases bb with
        | true =>
          have HR : Hid (excB ts met (e : Int) (v : Int) = true) := by
            unfold Hid excB
            rw [List.any_eq_true]
            exact ⟨_, HIN.out, by rw [HTK2.out]; rfl⟩
          go_wp2_with fail
          go_ret
          exact ⟨ret_bool HR.out.symm, HB7.out⟩
        | false =>
          have HR : Hid (excB ts (met.take (k + 1)) (e : Int) (v : Int) = false) := by unfold Hid; rw [HTK.out, HTK2.out]; rfl
          go_wp2_with fail
          go_roundw
          case rel => exact ⟨k + 1, by omega, by go_num, HB7.out, HR.out⟩
          case measure => simp [intOf]; omega
    · obtain rfl : k = met.length := by omega
      have hdk : decide ((met.length : Int) < (met.length : Int)) = false := by simp
      rw [List.take_length] at HNO
      go_wp2_with fail
      go_ret
      exact ⟨ret_bool HNO.out.symm, HB.out⟩
open Rs (Ke Slot own_set own_ge own_ne own_other ps RdS RdI row_setCell other_setCell row_frozen grown_bel)

theorem RdT.ke {P : Nat → Prop} {V W : World} {a : Option Addr} {l : List It} (h : RdT V a l) (hk : Ke P V W) (hne : ∀ b, a = some ⟨b, 0, none⟩ → ¬ P b) : RdT W a l := fun i hi => by
  obtain ⟨b, e, hc⟩ := h i hi
  refine ⟨b, e, fun k v hv => ?_⟩
  have c0 := hc k v hv
  have hlt := World.block_lt_of_cell? V _ c0
  exact (World.cell?_of_block (hk.block b hlt (hne b e))).trans c0
def Wb (s7 s9 ga gb : Nat) (k : Nat) : Prop := (s7 ≤ k ∧ k < s9) ∨ k = ga ∨ k = gb
structure PM (w V W : World) (s7 s9 BM ga gb nA nB : Nat) (p : Int) (vl vj vi : Value) (nl nj ni : Nat) : Prop where
  ke : Ke (Wb s7 s9 ga gb) V W
  bel : Below w.heap.size w W
  sa : Slot W ga 3 nA
  sb : Slot W gb 3 nB
  bm : W.heap[BM]? = some (.cells #[.int .i64 p, vl, vj, vi] 55 (0, 0))
  ol : ∃ xs, W.ownsRow s7 107 2 vl nl xs
  oj : ∃ xs, W.ownsRow s7 107 2 vj nj xs
  oi : ∃ xs, W.ownsRow s7 57 6 vi ni xs
  ap : vl.ownBlock = none ∨ vl.ownBlock ≠ vj.ownBlock
section
variable {w V W W' : World} {s7 s9 BM ga gb nA nB : Nat} {p : Int} {vl vj vi : Value} {nl nj ni : Nat}
theorem PM.set (h : PM w V W s7 s9 BM ga gb nA nB p vl vj vi nl nj ni) {g : Nat} (hP : Wb s7 s9 ga gb g) (hw : w.heap.size ≤ g) (hne : BM ≠ g) (j : Nat) (u : Value) : PM w V (W.setCell ⟨g, j, none⟩ u) s7 s9 BM ga gb nA nB p vl vj vi nl nj ni := by
  obtain ⟨xl, hl⟩ := h.ol
  obtain ⟨xj, hj⟩ := h.oj
  obtain ⟨xi, hi⟩ := h.oi
  exact ⟨h.ke.set hP j u, h.bel.setCell (p := ⟨g, j, none⟩) hw u, h.sa.set g j u, h.sb.set g j u, (other_setCell hne j u).trans h.bm, own_set hl g j u, own_set hj g j u, own_set hi g j u, h.ap⟩
theorem PM.set2 (h : PM w V W s7 s9 BM ga gb nA nB p vl vj vi nl nj ni) {g : Nat} (hP : Wb s7 s9 ga gb g) (hw : w.heap.size ≤ g) (hne : BM ≠ g) (j0 j1 : Nat) (u0 u1 : Value) : PM w V ((W.setCell ⟨g, j0, none⟩ u0).setCell ⟨g, j1, none⟩ u1) s7 s9 BM ga gb nA nB p vl vj vi nl nj ni := (h.set hP hw hne j0 u0).set hP hw hne j1 u1
theorem PM.lt (h : PM w V W s7 s9 BM ga gb nA nB p vl vj vi nl nj ni) : BM < W.heap.size := (Array.getElem?_eq_some_iff.1 h.bm).1
theorem PM.cells (h : PM w V W s7 s9 BM ga gb nA nB p vl vj vi nl nj ni) : W.cell? ⟨BM, 1, none⟩ = some vl ∧ W.cell? ⟨BM, 2, none⟩ = some vj ∧ W.cell? ⟨BM, 3, none⟩ = some vi := ⟨cell_of_row W BM 1 _ _ _ h.bm, cell_of_row W BM 2 _ _ _ h.bm, cell_of_row W BM 3 _ _ _ h.bm⟩
end
section
variable {w V W : World} {s7 s9 BM ga gb nA nB : Nat} {cs : Array Value} {gj n : Nat} {x : Value}
end
open Rs (RdS RdI ps evl cell_later)

def RdP (w : World) (a : Option Addr) (l : List (Int × Int)) : Prop := ∀ i, i < l.length → ∃ b o, a = some ⟨b, o, none⟩ ∧ w.cell? ⟨b, o + i * 2, none⟩ = some (.int .i64 (l.getD i (0, 0)).1) ∧ w.cell? ⟨b, o + i * 2 + 1, none⟩ = some (.int .i64 (l.getD i (0, 0)).2)
theorem RdP.later {w w' : World} {a : Option Addr} {l : List (Int × Int)} (h : RdP w a l) (hb : Below w.heap.size w w') : RdP w' a l := fun i hi => by
  obtain ⟨b, o, e, c0, c1⟩ := h i hi
  exact ⟨b, o, e, cell_later hb c0, cell_later hb c1⟩
theorem ps_one (l : List (Int × Int)) : ∀ u ∈ ps l, u.oneCell' = true := by
  intro u hu
  unfold Rs.ps at hu
  rw [List.mem_flatMap] at hu
  obtain ⟨p, _, h⟩ := hu
  simp at h
  rcases h with rfl | rfl <;> rfl
open Rs (En zE rcs tkn fnd RdS RdI ps own_other own_ge)

def inE (ts : List Tr) (x : Int × Int) : Bool := !decide (x.2 < 0) && (!decide ((ts.length : Int) ≤ x.2) && decide (caE (ts.getD x.2.toNat (tz 0)) x.1 = 0))
def opK (ts : List Tr) (x : Int × Int) : List (Int × Int) := if inE ts x then [kpr (caK (ts.getD x.2.toNat (tz 0)) x.1), kpr (caQ (ts.getD x.2.toNat (tz 0)) x.1 0), kpr (caQ (ts.getD x.2.toNat (tz 0)) x.1 1), kpr (caQ (ts.getD x.2.toNat (tz 0)) x.1 2)] else []
def opM (ts : List Tr) (x : Int × Int) : List (Int × Int) := if inE ts x then [x] else []
theorem opK_len (ts : List Tr) (l : List (Int × Int)) : (l.flatMap (opK ts)).length ≤ 4 * l.length := by
  induction l with
  | nil => simp
  | cons x l ih =>
    rw [List.flatMap_cons, List.length_append, List.length_cons]
    have : (opK ts x).length ≤ 4 := by unfold opK; split <;> simp
    omega
theorem opM_len (ts : List Tr) (l : List (Int × Int)) : (l.flatMap (opM ts)).length ≤ l.length := by
  induction l with
  | nil => simp
  | cons x l ih =>
    rw [List.flatMap_cons, List.length_append, List.length_cons]
    have : (opM ts x).length ≤ 1 := by unfold opM; split <;> simp
    omega
structure OP (w W : World) (vk : Value) (ks : List (Int × Int)) (vm : Value) (ms : List (Int × Int)) : Prop where
  bel : Below w.heap.size w W
  rk : W.ownsRow w.heap.size 31 2 vk ks.length (ps ks)
  rm : W.ownsRow w.heap.size 80 2 vm ms.length (ps ms)
section
variable {w W W' : World} {vk vm v' : Value} {ks ms news : List (Int × Int)}
theorem OP.later (h : OP w W vk ks vm ms) (hb : Below W.heap.size W W') : OP w W' vk ks vm ms := ⟨h.bel.trans (hb.mono h.bel.size), Rs.owns_later h.rk hb, Rs.owns_later h.rm hb⟩
theorem ps_app (l m : List (Int × Int)) : ps (l ++ m) = ps l ++ ps m := by unfold Rs.ps; rw [List.flatMap_append]
theorem grown_type {e : TypeId} {b sz n : Nat} {v : Value} {xs : List Value} (row : W.ownsRow b e sz v n xs) (hg : W.grownBy W' v.ownBlock) {k : Nat} {cs : Array Value} {T : TypeId} (hk : W.heap[k]? = some (.cells cs T (0, 0))) (hT : T ≠ e) : W'.heap[k]? = some (.cells cs T (0, 0)) := by
  rw [hg.block k (Array.getElem?_eq_some_iff.1 hk).1 (own_type row hk hT)]
  exact hk
theorem OP.appK (h : OP w W vk ks vm ms) (hown : W'.ownsRow w.heap.size 31 2 v' (ks.length + news.length) (ps ks ++ ps news)) (hg : W.grownBy W' vk.ownBlock) : OP w W' v' (ks ++ news) vm ms := by
  refine ⟨Rs.below_grown h.bel hg h.bel.size (fun j hj => (own_ge h.rk hj).1), ?_, own_other h.rm fun g hgj => hg.block g (own_ge h.rm hgj).2 (fun e => own_ne2 h.rk h.rm (by decide) hgj e.symm)⟩
  rw [ps_app, List.length_append]
  exact hown
theorem OP.appM (h : OP w W vk ks vm ms) (hown : W'.ownsRow w.heap.size 80 2 v' (ms.length + news.length) (ps ms ++ ps news)) (hg : W.grownBy W' vm.ownBlock) : OP w W' vk ks v' (ms ++ news) := by
  refine ⟨Rs.below_grown h.bel hg h.bel.size (fun j hj => (own_ge h.rm hj).1), own_other h.rk fun g hgj => hg.block g (own_ge h.rk hgj).2 (fun e => own_ne2 h.rm h.rk (by decide) hgj e.symm), ?_⟩
  rw [ps_app, List.length_append]
  exact hown
end
theorem infoRv : (Tryz.prog.info? 80).map (fun i => (i.zero, i.size, i.bytes)) = some (some (.agg #[.int .i64 0, .int .i64 0]), 2, 16) := by kernel_rfl
theorem infoRv_parts : ∃ i, Tryz.prog.info? 80 = some i ∧ i.zero = some (.agg #[.int .i64 0, .int .i64 0]) ∧ i.size = 2 ∧ i.bytes = 16 := by
  have h := infoRv
  cases hq : Tryz.prog.info? 80 with
  | none => rw [hq] at h; cases h
  | some i =>
    rw [hq] at h
    simp at h
    exact ⟨i, rfl, h.1, h.2.1, h.2.2⟩
theorem path_six {w : World} {B : Nat} {W S P : Int} {k p q r : Ky} {b : Bool} (h : MbAt w B W S P k p q r b) : ∀ j u, (ps [kpr p, kpr q, kpr r])[j]? = some u → w.cell? ((⟨B, 5, none⟩ : Addr).add j) = some u := fun j u hu => by
  have hj : j < 6 := by
    rcases Nat.lt_or_ge j 6 with c | c
    · exact c
    · rw [List.getElem?_eq_none (by show 6 ≤ j; exact c)] at hu; cases hu
  rw [Rs.add_plain, cell_of_row w B (5 + j) _ _ _ h, ← hu]
  have : j = 0 ∨ j = 1 ∨ j = 2 ∨ j = 3 ∨ j = 4 ∨ j = 5 := by omega
  rcases this with rfl | rfl | rfl | rfl | rfl | rfl <;> rfl
theorem results_tt {fn : Func} {p q : Tmp} (hf : fn.results = #[.tmp p, .tmp q]) (tmps : Array Value) (W : World) : (results fn tmps).run Tryz.prog W = .ok (.tuple #[tmps.getD p undef, tmps.getD q undef]) W := by
  simp [results, hf]
def OpP (w w' : World) (ts : List Tr) (seen : List (Int × Int)) (e : Ending) : Prop := ∃ vk vm, e = .returned (.tuple #[vk, vm]) ∧ OP w w' vk (seen.flatMap (opK ts)) vm (seen.flatMap (opM ts))
set_option maxRecDepth 100000 in
set_option maxHeartbeats 4000000 in
theorem openedT_any (a : Option Addr) (c : Nat) (ts : List Tr) (a' : Option Addr) (c' : Nat) (seen : List (Int × Int)) (w : World) (hl : ts.length ≤ 4096) (hl' : seen.length ≤ 4194304) (hr : RdR w a ts) (hs : RdP w a' seen) :
    Calls Tryz.prog 9 #[.slice a ts.length c, .slice a' seen.length c'] w fun e w' => OpP w w' ts seen e := by
  obtain ⟨i0, hi, hz0, hz1, hz2⟩ := infoKey_parts
  obtain ⟨j0, hj, hy0, hy1, hy2⟩ := infoRv_parts
  have HOP0 : Hid (OP w w (.slice none 0 0) (([] : List (Int × Int)).flatMap (opK ts)) (.slice none 0 0) (([] : List (Int × Int)).flatMap (opM ts))) := ⟨Below.refl _ _, World.ownsRow_nil _ _ _ _, World.ownsRow_nil _ _ _ _⟩
  go_enter Tryz.func9, Tryz.ntmps9
  go_wp2_with fail
  go_loopw [6, 7, 14] (fun x y i wx => ∃ (k : Nat) (vk vm : Value), k ≤ seen.length ∧ i = .int .i64 (k : Int) ∧ vk = x ∧ vm = y ∧ OP w wx vk ((seen.take k).flatMap (opK ts)) vm ((seen.take k).flatMap (opM ts))) (fun _ _ i _ => seen.length - (intOf i).toNat)
  case atStart => exact ⟨0, _, _, by omega, rfl, rfl, rfl, HOP0.out⟩
  case round =>
    obtain ⟨k, vk, vm, hk, rfl, rfl, rfl, hop⟩ := hrel
    have HO : Hid (OP w wr vk ((seen.take k).flatMap (opK ts)) vm ((seen.take k).flatMap (opM ts))) := hop
    clear hop HOP0
    by_cases hkN : k < seen.length
    · have i1 : (0 : Int) ≤ (k : Int) := by omega
      have i2 : (k : Int) < (seen.length : Int) := by omega
      obtain ⟨b0, o0, hal, hc0, hc1⟩ := (hs.later HO.out.bel) k hkN
      have HTK : Hid ((seen.take (k + 1)).flatMap (opK ts) = (seen.take k).flatMap (opK ts) ++ opK ts (seen.getD k (0, 0)) ∧ (seen.take (k + 1)).flatMap (opM ts) = (seen.take k).flatMap (opM ts) ++ opM ts (seen.getD k (0, 0))) := by
        refine ⟨?_, ?_⟩
        · rw [take_snoc2 hkN, List.flatMap_append]; simp
        · rw [take_snoc2 hkN, List.flatMap_append]; simp
      have HLK : Hid (((seen.take k).flatMap (opK ts)).length ≤ 4 * k ∧ ((seen.take k).flatMap (opM ts)).length ≤ k) := by
        have h1 := opK_len ts (seen.take k)
        have h2 := opM_len ts (seen.take k)
        rw [List.length_take] at h1 h2
        exact ⟨by omega, by omega⟩
      obtain ⟨q, hq⟩ : ∃ q, seen.getD k (0, 0) = q := ⟨_, rfl⟩
      rw [hq] at hc0 hc1 HTK
      obtain ⟨px, py⟩ := q
      dsimp only at hc0 hc1
      clear hq
      subst hal
      obtain ⟨ks, hks⟩ : ∃ l, (seen.take k).flatMap (opK ts) = l := ⟨_, rfl⟩
      obtain ⟨ms, hms⟩ : ∃ l, (seen.take k).flatMap (opM ts) = l := ⟨_, rfl⟩
      rw [hks, hms] at HTK HLK HO
      clear hks hms
      have HO1 : Hid (OP w (wr.alloc (.cells #[.int .i64 px, .int .i64 py] 80)) vk ks vm ms) := HO.out.later (below_alloc _ _)
      have hSE : (wr.alloc (.cells #[.int .i64 px, .int .i64 py] 80)).heap[wr.heap.size]? = some (.cells #[.int .i64 px, .int .i64 py] 80 (0, 0)) := heap_alloc_last wr _
      clear HO
      go_upto_region 6 with (fail)
      clear hc0 hc1
      generalize wr.alloc (.cells #[.int .i64 px, .int .i64 py] 80) = w5 at *
      generalize wr.heap.size = C at *
      have HSE : Hid (w5.heap[C]? = some (.cells #[.int .i64 px, .int .i64 py] 80 (0, 0))) := hSE
      have x0 : w5.cell? ⟨C, 0, none⟩ = some (.int .i64 px) := cell_of_row w5 C 0 _ _ _ hSE
      have x1 : w5.cell? ⟨C, 1, none⟩ = some (.int .i64 py) := cell_of_row w5 C 1 _ _ _ hSE
      clear hSE
      by_cases h1 : py < 0
      · have d1 : decide (py < 0) = true := decide_eq_true h1
        have HN : Hid (inE ts (px, py) = false) := by unfold Hid inE; rw [d1]; rfl
        clear h1
        go_wp2_with fail
        go_roundw
        case rel => exact ⟨k + 1, _, _, by omega, by go_num, rfl, rfl, by rw [HTK.out.1, HTK.out.2]; unfold opK opM; rw [HN.out]; simpa using HO1.out⟩
        case measure => simp [intOf]; omega
      · have d1 : decide (py < 0) = false := decide_eq_false h1
        by_cases h2 : (ts.length : Int) ≤ py
        · have d2 : decide ((ts.length : Int) ≤ py) = true := decide_eq_true h2
          have HN : Hid (inE ts (px, py) = false) := by unfold Hid inE; rw [d2]; simp
          clear h1 h2
          go_wp2_with fail
          go_roundw
          case rel => exact ⟨k + 1, _, _, by omega, by go_num, rfl, rfl, by rw [HTK.out.1, HTK.out.2]; unfold opK opM; rw [HN.out]; simpa using HO1.out⟩
          case measure => simp [intOf]; omega
        · have d2 : decide ((ts.length : Int) ≤ py) = false := decide_eq_false h2
          have HPY : Hid (¬ py < 0 ∧ ¬ (ts.length : Int) ≤ py) := ⟨h1, h2⟩
          clear h1 h2
          go_upto_region 7 with (fail)
          clear x0 x1
          obtain ⟨h1, h2⟩ := HPY.out
          obtain ⟨g, rfl⟩ : ∃ g : Nat, py = (g : Int) := ⟨py.toNat, by omega⟩
          have hg : g < ts.length := by omega
          clear h1 h2 HPY
          obtain ⟨t, ht⟩ : ∃ t, ts.getD g (tz 0) = t := ⟨_, rfl⟩
          obtain ⟨b, eb, -, -⟩ := hr.tree hg ht
          have HTR : Hid (∀ W, Below w.heap.size w W → (Instr.loadAt 47 (.pointer (some ⟨b, g * 236, none⟩))).run Tryz.prog W = .ok (.agg (tcs t)) W) := fun W hW => by
            obtain ⟨b', e', h2, -⟩ := (hr.later hW).tree hg ht
            rw [eb] at e'
            simp at e'
            subst e'
            exact h2
          have HIN : Hid (inE ts (px, (g : Int)) = decide (caE t px = 0) ∧ opK ts (px, (g : Int)) = (if decide (caE t px = 0) then [kpr (caK t px), kpr (caQ t px 0), kpr (caQ t px 1), kpr (caQ t px 2)] else []) ∧ opM ts (px, (g : Int)) = if decide (caE t px = 0) then [(px, (g : Int))] else []) := by
            have e0 : inE ts (px, (g : Int)) = decide (caE t px = 0) := by
              unfold inE
              rw [d1, d2]
              dsimp only
              rw [Int.toNat_natCast, ht]
              rfl
            refine ⟨e0, ?_, ?_⟩
            · unfold opK
              rw [e0]
              dsimp only
              rw [Int.toNat_natCast, ht]
            · unfold opM
              rw [e0]
          have hst := rStand_any t px
          unfold StandA at hst
          obtain ⟨E, hE⟩ : ∃ E, caE t px = E := ⟨_, rfl⟩
          obtain ⟨kk, hkk⟩ : ∃ E, caK t px = E := ⟨_, rfl⟩
          obtain ⟨q0, hq0⟩ : ∃ E, caQ t px 0 = E := ⟨_, rfl⟩
          obtain ⟨q1, hq1⟩ : ∃ E, caQ t px 1 = E := ⟨_, rfl⟩
          obtain ⟨q2, hq2⟩ : ∃ E, caQ t px 2 = E := ⟨_, rfl⟩
          obtain ⟨mw, hmw⟩ : ∃ E, caW t px = E := ⟨_, rfl⟩
          obtain ⟨mse, hmse⟩ : ∃ E, caS t px = E := ⟨_, rfl⟩
          obtain ⟨mp, hmp⟩ : ∃ E, caP t px = E := ⟨_, rfl⟩
          rw [hE, hkk, hq0, hq1, hq2, hmw, hmse, hmp] at hst
          rw [hE, hkk, hq0, hq1, hq2] at HIN
          obtain ⟨mb, hmb⟩ : ∃ c, mcs mw mse mp kk q0 q1 q2 (decide (E = 0)) = c := ⟨_, rfl⟩
          have HMC : Hid (mcs mw mse mp kk q0 q1 q2 (decide (E = 0)) = mb) := hmb
          obtain ⟨ct, hct⟩ : ∃ c, tcs t = c := ⟨_, rfl⟩
          have HCT : Hid (tcs t = ct) := hct
          rw [hct] at HTR
          rw [hct, hmb] at hst
          have HM14 : Hid (mb.size = 14 ∧ mb.all (·.oneCell') = true) := by
            rw [← hmb]
            exact ⟨rfl, mcs_one _ _ _ _ _ _ _ _⟩
          have e1 : (0 : Int) ≤ (g : Int) := by omega
          have e2 : (g : Int) < (ts.length : Int) := by omega
          subst eb
          clear hE hkk hq0 hq1 hq2 hmw hmse hmp hct ht hmb d1 d2
          go_cut [10, 11] (fun s10 s11 wx => ∃ MB, s10 = .pointer (some ⟨MB, 0, none⟩) ∧ s11 = .int .i64 E ∧ Below w5.heap.size w5 wx ∧ wx.heap[MB]? = some (.cells mb 74 (0, 0)))
          case first =>
            have hS0 : Below w5.heap.size w5 w5.drew := drew_below _
            refine wp_region_held_drew (S := fun X => Below w5.heap.size w5 X) (by kernel_rfl) hS0 (fun hHeld => ?_)
            refine wpAnyH_take (i := 0) (oi := { dst := some 29, op := Op.move (Operand.tmp 0), type := _, pos := _, after := _, guard := none }) (v := .slice (some ⟨b, 0, none⟩) ts.length c) rfl (by kernel_rfl) (by kernel_rfl) (by kernel_rfl) (fun _ _ _ h => h) (Or.inl ⟨by rfl, fun w hSw => by (try dsimp only at hSw); go_simp⟩) (by assumption) ?_
            simp only [Act.put, List.setIfInBounds_toArray, List.set_cons_zero, List.set_cons_succ]
            refine wpAnyH_take (i := 1) (oi := { dst := some 30, op := Op.fieldAddr 80 (Operand.tmp 9) 1, type := _, pos := _, after := _, guard := none }) (v := .pointer (some ⟨C, 1, none⟩)) rfl (by kernel_rfl) (by kernel_rfl) (by kernel_rfl) (fun _ _ _ h => h) (Or.inl ⟨by rfl, fun w hSw => by (try dsimp only at hSw); go_simp⟩) (by assumption) ?_
            simp only [Act.put, List.setIfInBounds_toArray, List.set_cons_zero, List.set_cons_succ]
            refine wpAnyH_take (i := 2) (oi := { dst := some 31, op := Op.load 3 (Operand.tmp 30), type := _, pos := _, after := _, guard := none }) (v := .int .i64 (g : Int)) rfl (by kernel_rfl) (by kernel_rfl) (by kernel_rfl) (fun _ _ _ h => h) (Or.inl ⟨by rfl, fun w hSw => by have x1 : w.cell? ⟨C, 1, none⟩ = some (.int .i64 (g : Int)) := cell_of_row w C 1 _ _ _ ((hSw.block C (Array.getElem?_eq_some_iff.1 HSE.out).1).trans HSE.out); clear hSw; go_simp⟩) (by assumption) ?_
            simp only [Act.put, List.setIfInBounds_toArray, List.set_cons_zero, List.set_cons_succ]
            refine wpAnyH_take (i := 3) (oi := { dst := some 32, op := Op.indexAddr 26 (Operand.tmp 29) (Operand.tmp 31), type := _, pos := _, after := _, guard := none }) (v := .pointer (some ⟨b, g * 236, none⟩)) rfl (by kernel_rfl) (by kernel_rfl) (by kernel_rfl) (fun _ _ _ h => h) (Or.inl ⟨by rfl, fun w hSw => by (try dsimp only at hSw); go_simp⟩) (by assumption) ?_
            simp only [Act.put, List.setIfInBounds_toArray, List.set_cons_zero, List.set_cons_succ]
            refine wpAnyH_take (i := 4) (oi := { dst := some 33, op := Op.load 47 (Operand.tmp 32), type := _, pos := _, after := _, guard := none }) (v := .agg ct) rfl (by kernel_rfl) (by kernel_rfl) (by kernel_rfl) (fun _ _ _ h => h) (Or.inl ⟨by rfl, fun w hSw => ld_exec (HTR.out _ (HO1.out.bel.trans (hSw.mono HO1.out.bel.size))) rfl rfl⟩) (by assumption) ?_
            simp only [Act.put, List.setIfInBounds_toArray, List.set_cons_zero, List.set_cons_succ]
            refine wpAnyH_take (i := 5) (oi := { dst := some 34, op := Op.fieldAddr 80 (Operand.tmp 9) 0, type := _, pos := _, after := _, guard := none }) (v := .pointer (some ⟨C, 0, none⟩)) rfl (by kernel_rfl) (by kernel_rfl) (by kernel_rfl) (fun _ _ _ h => h) (Or.inl ⟨by rfl, fun w hSw => by (try dsimp only at hSw); go_simp⟩) (by assumption) ?_
            simp only [Act.put, List.setIfInBounds_toArray, List.set_cons_zero, List.set_cons_succ]
            refine wpAnyH_take (i := 6) (oi := { dst := some 35, op := Op.load 3 (Operand.tmp 34), type := _, pos := _, after := _, guard := none }) (v := .int .i64 px) rfl (by kernel_rfl) (by kernel_rfl) (by kernel_rfl) (fun _ _ _ h => h) (Or.inl ⟨by rfl, fun w hSw => by have x1 : w.cell? ⟨C, 0, none⟩ = some (.int .i64 px) := cell_of_row w C 0 _ _ _ ((hSw.block C (Array.getElem?_eq_some_iff.1 HSE.out).1).trans HSE.out); clear hSw; go_simp⟩) (by assumption) ?_
            simp only [Act.put, List.setIfInBounds_toArray, List.set_cons_zero, List.set_cons_succ]
            refine wpAnyH_ready (rs := [7, 11]) (by kernel_rfl) (by simp) ?_
            refine (AllReadyH.cons rfl (fun K hK => ?_) (AllReadyH.cons rfl (fun K hK => ?_) AllReadyH.nil))
            · go_simp
              refine (hst _).mono ?_
              rintro r w7 ⟨rfl, hb7⟩
              go_wp2_with fail
              have hge7 : w5.heap.size ≤ w7.heap.size := Nat.le_trans hHeld.size hb7.size
              refine hK.out _ _ (hHeld.trans (hb7.mono hHeld.size)) (fun hHd1 => ?_)
              clear hHeld hb7
              clear hK K
              try simp only [Act.put, List.setIfInBounds_toArray, List.set_cons_zero, List.set_cons_succ]
              refine wpAnyH_take (i := 8) (oi := { dst := some 28, op := Op.move (Operand.tmp 36), type := _, pos := _, after := _, guard := none }) (v := .tuple #[.agg mb, .int .i64 E]) rfl (by kernel_rfl) (by kernel_rfl) (by kernel_rfl) (fun _ _ _ h => h) (Or.inl ⟨by rfl, fun w hSw => by (try dsimp only at hSw); go_simp⟩) (by assumption) ?_
              simp only [Act.put, List.setIfInBounds_toArray, List.set_cons_zero, List.set_cons_succ]
              refine wpAnyH_take (i := 9) (oi := { dst := some 37, op := Op.extract (Operand.tmp 28) 0, type := _, pos := _, after := _, guard := none }) (v := .agg mb) rfl (by kernel_rfl) (by kernel_rfl) (by kernel_rfl) (fun _ _ _ h => h) (Or.inl ⟨by rfl, fun w hSw => by (try dsimp only at hSw); go_simp⟩) (by assumption) ?_
              simp only [Act.put, List.setIfInBounds_toArray, List.set_cons_zero, List.set_cons_succ]
              refine wpAnyH_take (i := 10) (oi := { dst := some 38, op := Op.extract (Operand.tmp 28) 1, type := _, pos := _, after := _, guard := none }) (v := .int .i64 E) rfl (by kernel_rfl) (by kernel_rfl) (by kernel_rfl) (fun _ _ _ h => h) (Or.inl ⟨by rfl, fun w hSw => by (try dsimp only at hSw); go_simp⟩) (by assumption) ?_
              simp only [Act.put, List.setIfInBounds_toArray, List.set_cons_zero, List.set_cons_succ]
              refine wpAnyH_ready (rs := [11]) (by kernel_rfl) (by simp) ?_
              refine AllReadyH.cons rfl (fun K hK => ?_) AllReadyH.nil
              go_simp
              have hmb2 := heap_alloc_last w7 (.cells #[.int .i64 0, .int .i64 0, .int .i64 0, .int .i64 0, .int .i64 0, .int .i64 0, .int .i64 0, .int .i64 0, .int .i64 0, .int .i64 0, .int .i64 0, .bool false, .bool false, .int .i64 0] 74)
              refine hK.out _ _ (hHd1.trans ((below_alloc _ _).mono hHd1.size)) (fun hHd2 => ?_)
              clear hK K
              try simp only [Act.put, List.setIfInBounds_toArray, List.set_cons_zero, List.set_cons_succ]
              refine wpAnyH_ready (rs := [12]) (by kernel_rfl) (by simp) ?_
              refine AllReadyH.cons rfl (fun Kc hK => ?_) AllReadyH.nil
              refine if_wp rfl (wp_stRow0 74 _ _ rfl _ mb rfl rfl 74 _ hmb2 (by rw [HM14.out.1]; exact infoMb) (by rw [HM14.out.1]; rfl) HM14.out.2 rfl ?_)
              have hmbZ := Rt.heap_setRow_same hmb2 mb
              refine hK.out _ _ (Rt.setRow_below hge7 hHd2 _) (fun hHd3 => ?_)
              clear hK Kc
              try simp only [Act.put, List.setIfInBounds_toArray, List.set_cons_zero, List.set_cons_succ]
              refine wpAnyH_take (i := 13) (oi := { dst := some 11, op := Op.assign (Operand.tmp 38), type := _, pos := _, after := _, guard := none }) (v := .int .i64 E) rfl (by kernel_rfl) (by kernel_rfl) (by kernel_rfl) (fun _ _ _ h => h) (Or.inl ⟨by rfl, fun w hSw => by (try dsimp only at hSw); go_simp⟩) (by assumption) ?_
              simp only [Act.put, List.setIfInBounds_toArray, List.set_cons_zero, List.set_cons_succ]
              refine wpAnyH_done (by kernel_rfl) ?_ _
              go_wp2_with fail
              go_meet
              case rel => exact ⟨_, rfl, rfl, hHd3, hmbZ⟩
            · go_simp
              have hmb0 := heap_alloc_last w5.drew (.cells #[.int .i64 0, .int .i64 0, .int .i64 0, .int .i64 0, .int .i64 0, .int .i64 0, .int .i64 0, .int .i64 0, .int .i64 0, .int .i64 0, .int .i64 0, .bool false, .bool false, .int .i64 0] 74)
              have hge7 : w5.heap.size ≤ w5.heap.size := Nat.le_refl _
              refine hK.out _ _ (hHeld.trans ((below_alloc _ _).mono hHeld.size)) (fun hHd1 => ?_)
              clear hHeld
              clear hK K
              try simp only [Act.put, List.setIfInBounds_toArray, List.set_cons_zero, List.set_cons_succ]
              refine wpAnyH_ready (rs := [7]) (by kernel_rfl) (by simp) ?_
              refine AllReadyH.cons rfl (fun K hK => ?_) AllReadyH.nil
              go_simp
              refine (hst _).mono ?_
              rintro r w7 ⟨rfl, hb7⟩
              go_wp2_with fail
              have hmb2 := row_later hmb0 hb7
              refine hK.out _ _ (hHd1.trans (hb7.mono hHd1.size)) (fun hHd2 => ?_)
              clear hHd1 hb7 hmb0
              clear hK K
              try simp only [Act.put, List.setIfInBounds_toArray, List.set_cons_zero, List.set_cons_succ]
              refine wpAnyH_take (i := 8) (oi := { dst := some 28, op := Op.move (Operand.tmp 36), type := _, pos := _, after := _, guard := none }) (v := .tuple #[.agg mb, .int .i64 E]) rfl (by kernel_rfl) (by kernel_rfl) (by kernel_rfl) (fun _ _ _ h => h) (Or.inl ⟨by rfl, fun w hSw => by (try dsimp only at hSw); go_simp⟩) (by assumption) ?_
              simp only [Act.put, List.setIfInBounds_toArray, List.set_cons_zero, List.set_cons_succ]
              refine wpAnyH_take (i := 9) (oi := { dst := some 37, op := Op.extract (Operand.tmp 28) 0, type := _, pos := _, after := _, guard := none }) (v := .agg mb) rfl (by kernel_rfl) (by kernel_rfl) (by kernel_rfl) (fun _ _ _ h => h) (Or.inl ⟨by rfl, fun w hSw => by (try dsimp only at hSw); go_simp⟩) (by assumption) ?_
              simp only [Act.put, List.setIfInBounds_toArray, List.set_cons_zero, List.set_cons_succ]
              refine wpAnyH_take (i := 10) (oi := { dst := some 38, op := Op.extract (Operand.tmp 28) 1, type := _, pos := _, after := _, guard := none }) (v := .int .i64 E) rfl (by kernel_rfl) (by kernel_rfl) (by kernel_rfl) (fun _ _ _ h => h) (Or.inl ⟨by rfl, fun w hSw => by (try dsimp only at hSw); go_simp⟩) (by assumption) ?_
              simp only [Act.put, List.setIfInBounds_toArray, List.set_cons_zero, List.set_cons_succ]
              refine wpAnyH_ready (rs := [12]) (by kernel_rfl) (by simp) ?_
              refine AllReadyH.cons rfl (fun Kc hK => ?_) AllReadyH.nil
              refine if_wp rfl (wp_stRow0 74 _ _ rfl _ mb rfl rfl 74 _ hmb2 (by rw [HM14.out.1]; exact infoMb) (by rw [HM14.out.1]; rfl) HM14.out.2 rfl ?_)
              have hmbZ := Rt.heap_setRow_same hmb2 mb
              refine hK.out _ _ (Rt.setRow_below hge7 hHd2 _) (fun hHd3 => ?_)
              clear hK Kc
              try simp only [Act.put, List.setIfInBounds_toArray, List.set_cons_zero, List.set_cons_succ]
              refine wpAnyH_take (i := 13) (oi := { dst := some 11, op := Op.assign (Operand.tmp 38), type := _, pos := _, after := _, guard := none }) (v := .int .i64 E) rfl (by kernel_rfl) (by kernel_rfl) (by kernel_rfl) (fun _ _ _ h => h) (Or.inl ⟨by rfl, fun w hSw => by (try dsimp only at hSw); go_simp⟩) (by assumption) ?_
              simp only [Act.put, List.setIfInBounds_toArray, List.set_cons_zero, List.set_cons_succ]
              refine wpAnyH_done (by kernel_rfl) ?_ _
              go_wp2_with fail
              go_meet
              case rel => exact ⟨_, rfl, rfl, hHd3, hmbZ⟩
          case rest =>
            obtain ⟨MB, rfl, rfl, hbc, hmb⟩ := hcut
            have HOC : Hid (OP w wc vk ks vm ms) := HO1.out.later hbc
            have HSC : Hid (wc.heap[C]? = some (.cells #[.int .i64 px, .int .i64 (g : Int)] 80 (0, 0))) := row_later HSE.out hbc
            have HMB : Hid (MbAt wc MB mw mse mp kk q0 q1 q2 (decide (E = 0))) := by unfold Hid MbAt; rw [HMC.out]; exact hmb
            clear hbc hmb HO1 HSE hst
            by_cases hE0 : E = 0
            · have hd : (E != 0) = false := by simp [hE0]
              have HK1 : Hid (opK ts (px, (g : Int)) = [kpr kk] ++ [kpr q0, kpr q1, kpr q2] ∧ opM ts (px, (g : Int)) = [(px, (g : Int))]) := by
                refine ⟨?_, ?_⟩
                · rw [HIN.out.2.1, decide_eq_true hE0]; rfl
                · rw [HIN.out.2.2, decide_eq_true hE0]; rfl
              clear hE0
              obtain ⟨ak, ck, rfl⟩ := Rs.owns_slice HOC.out.rk
              obtain ⟨am, cm, rfl⟩ := Rs.owns_slice HOC.out.rm
              have hrow := HOC.out.rk
              have hbs := HOC.out.bel.size
              have hlk := HLK.out.1
              have m3 : wc.cell? ⟨MB, 3, none⟩ = some (.int .i64 kk.bas) := cell_of_row wc MB 3 _ _ _ HMB.out
              have m4 : wc.cell? ⟨MB, 4, none⟩ = some (.int .i64 kk.stp) := cell_of_row wc MB 4 _ _ _ HMB.out
              go_upto_region 10 with (at_builtin; (refine wpList_append_own _ rfl _ _ 58 rfl w.heap.size 31 i0 (.agg #[.int .i64 0, .int .i64 0]) 2 16 Tryz.underlying58 hi hz0 hz1 hz2 rfl (by decide) (.slice ak ks.length ck) ks.length (ps ks) rfl (hrow.alloc _) ⟨wc.heap.size, 0, none⟩ 1 1 (ps [kpr kk]) rfl rfl (Rs.cell_two_new _ _ _ _) (by simp [Rs.ps, kpr, Value.oneCell']) (by unfold maxLen; omega) (by omega) (by simp; omega) ?_); intro v' w8 hown' hg8 _; have HB8 : Hid (OP w w8 v' (ks ++ [kpr kk]) (.slice am ms.length cm) ms) := (HOC.out.later (below_alloc _ _)).appK (news := [kpr kk]) hown' hg8; have HM8 : Hid (MbAt w8 MB mw mse mp kk q0 q1 q2 (decide (E = 0))) := grown_type (hrow.alloc _) hg8 (row_later HMB.out (below_alloc _ _)) (by decide); have HS8 : Hid (w8.heap[C]? = some (.cells #[.int .i64 px, .int .i64 (g : Int)] 80 (0, 0))) := grown_type (hrow.alloc _) hg8 (row_later HSC.out (below_alloc _ _)) (by decide); clear hown' hg8)
              clear HOC HSC HMB hrow hbs m3 m4
              obtain ⟨k5, hk5⟩ : ∃ l5, ks ++ [kpr kk] = l5 := ⟨_, rfl⟩
              have hl5 : k5.length ≤ 4 * k + 1 := by rw [← hk5]; simp; omega
              have HK5 : Hid (ks ++ [kpr kk] = k5) := hk5
              rw [hk5] at HB8
              clear hk5
              obtain ⟨ak5, ck5, rfl⟩ := Rs.owns_slice HB8.out.rk
              have hrow := HB8.out.rk
              have hbs := HB8.out.bel.size
              have hsix := path_six HM8.out
              go_upto_region 11 with (at_builtin; (refine wpList_append_own _ rfl _ _ 58 rfl w.heap.size 31 i0 (.agg #[.int .i64 0, .int .i64 0]) 2 16 Tryz.underlying58 hi hz0 hz1 hz2 rfl (by decide) (.slice ak5 k5.length ck5) k5.length (ps k5) rfl hrow ⟨MB, 5, none⟩ 3 3 (ps [kpr q0, kpr q1, kpr q2]) rfl rfl hsix (ps_one _) (by unfold maxLen; omega) (by omega) (by omega) ?_); intro v' w9 hown' hg9 _; have HB9 : Hid (OP w w9 v' (k5 ++ [kpr q0, kpr q1, kpr q2]) (.slice am ms.length cm) ms) := HB8.out.appK (news := [kpr q0, kpr q1, kpr q2]) hown' hg9; have HS9 : Hid (w9.heap[C]? = some (.cells #[.int .i64 px, .int .i64 (g : Int)] 80 (0, 0))) := grown_type hrow hg9 HS8.out (by decide); clear hown' hg9)
              clear HB8 HM8 HS8 hrow hbs hsix
              obtain ⟨k6, hk6⟩ : ∃ l5, k5 ++ [kpr q0, kpr q1, kpr q2] = l5 := ⟨_, rfl⟩
              have HK6 : Hid (ks ++ opK ts (px, (g : Int)) = k6) := by unfold Hid; rw [HK1.out.1, ← List.append_assoc, HK5.out, hk6]
              rw [hk6] at HB9
              clear hk6 HK5
              obtain ⟨ak6, ck6, rfl⟩ := Rs.owns_slice HB9.out.rk
              have hrow := HB9.out.rm
              have hbs := HB9.out.bel.size
              have hlm := HLK.out.2
              have x0 : w9.cell? ⟨C, 0, none⟩ = some (.int .i64 px) := cell_of_row w9 C 0 _ _ _ HS9.out
              have x1 : w9.cell? ⟨C, 1, none⟩ = some (.int .i64 (g : Int)) := cell_of_row w9 C 1 _ _ _ HS9.out
              go_wp2_with (at_builtin; (refine wpList_append_own _ rfl _ _ 23 rfl w.heap.size 80 j0 (.agg #[.int .i64 0, .int .i64 0]) 2 16 Tryz.underlying23 hj hy0 hy1 hy2 rfl (by decide) (.slice am ms.length cm) ms.length (ps ms) rfl (hrow.alloc _) ⟨w9.heap.size, 0, none⟩ 1 1 (ps [(px, (g : Int))]) rfl rfl (Rs.cell_two_new _ _ _ _) (by simp [Rs.ps, Value.oneCell']) (by unfold maxLen; omega) (by omega) (by simp; omega) ?_); intro v' w10 hown' hg10 _; have HB10 : Hid (OP w w10 (.slice ak6 k6.length ck6) k6 v' (ms ++ [(px, (g : Int))])) := (HB9.out.later (below_alloc _ _)).appM (news := [(px, (g : Int))]) hown' hg10; clear hown' hg10)
              go_roundw
              case rel => exact ⟨k + 1, _, _, by omega, by go_num, rfl, rfl, by rw [HTK.out.1, HTK.out.2, HK6.out, HK1.out.2]; exact HB10.out⟩
              case measure => simp [intOf]; omega
            · have hd : (E != 0) = true := by simpa using hE0
              have HK1 : Hid (opK ts (px, (g : Int)) = [] ∧ opM ts (px, (g : Int)) = []) := by
                refine ⟨?_, ?_⟩
                · rw [HIN.out.2.1, decide_eq_false hE0]; rfl
                · rw [HIN.out.2.2, decide_eq_false hE0]; rfl
              clear hE0
              go_wp2_with fail
              go_roundw
              case rel => exact ⟨k + 1, _, _, by omega, by go_num, rfl, rfl, by rw [HTK.out.1, HTK.out.2, HK1.out.1, HK1.out.2, List.append_nil, List.append_nil]; exact HOC.out⟩
              case measure => simp [intOf]; omega
    · obtain rfl : k = seen.length := by omega
      have hdk : decide ((seen.length : Int) < (seen.length : Int)) = false := by simp
      rw [List.take_length] at HO
      go_wp2_with fail
      refine bodyPost_ret (results_tt (p := 4) (q := 5) rfl _ _) rfl ?_
      exact ⟨_, _, rfl, HO.out⟩
open Rt (Ky zK)
open Rs (RdS ps cell_later)

def bcs (x : It) : List Value := [.int .i64 x.un.bas, .int .i64 x.un.stp, .int .i64 x.ld.bas, .int .i64 x.ld.stp]
def bsl (l : List It) : List Value := l.flatMap bcs
theorem bsl_snoc (l : List It) (x : It) : bsl (l ++ [x]) = bsl l ++ bcs x := by simp [bsl]
theorem bsl_get : ∀ (l : List It) (i k : Nat), i < l.length → k < 4 → (bsl l)[i * 4 + k]? = (bcs (l.getD i ⟨0, 0, zK, zK⟩))[k]?
  | [], i, k, hi, _ => by cases hi
  | x :: l, 0, k, _, hk => by
    have e : bsl (x :: l) = bcs x ++ bsl l := rfl
    rw [e, Nat.zero_mul, Nat.zero_add, List.getElem?_append_left (by show k < 4; exact hk)]
    rfl
  | x :: l, i + 1, k, hi, hk => by
    have e : bsl (x :: l) = bcs x ++ bsl l := rfl
    rw [e, List.getElem?_append_right (by show 4 ≤ _; omega), show (i + 1) * 4 + k - (bcs x).length = i * 4 + k by show _ - 4 = _; omega, bsl_get l i k (by simpa using hi) hk]
    rfl
def RdX (w : World) (a : Option Addr) (l : List It) : Prop := ∀ i, i < l.length → ∃ b, a = some ⟨b, 0, none⟩ ∧ ∀ k v, (bcs (l.getD i ⟨0, 0, zK, zK⟩))[k]? = some v → w.cell? ⟨b, i * 4 + k, none⟩ = some v
theorem RdX.later {w w' : World} {a : Option Addr} {l : List It} (h : RdX w a l) (hb : Below w.heap.size w w') : RdX w' a l := fun i hi => by
  obtain ⟨b, e, hc⟩ := h i hi
  exact ⟨b, e, fun k v hv => cell_later hb (hc k v hv)⟩
theorem RdX.cells {w : World} {a : Option Addr} {l : List It} (h : RdX w a l) {i : Nat} (hi : i < l.length) {y : It} (hy : l.getD i ⟨0, 0, zK, zK⟩ = y) : ∃ b, a = some ⟨b, 0, none⟩ ∧ w.cell? ⟨b, i * 4, none⟩ = some (.int .i64 y.un.bas) ∧ w.cell? ⟨b, i * 4 + 1, none⟩ = some (.int .i64 y.un.stp) ∧ w.cell? ⟨b, i * 4 + 2, none⟩ = some (.int .i64 y.ld.bas) ∧ w.cell? ⟨b, i * 4 + 3, none⟩ = some (.int .i64 y.ld.stp) := by
  obtain ⟨b, e, hc⟩ := h i hi
  rw [hy] at hc
  exact ⟨b, e, hc 0 _ rfl, hc 1 _ rfl, hc 2 _ rfl, hc 3 _ rfl⟩
theorem owns_rdX {W : World} {b : Nat} {a : Option Addr} {cap : Nat} {l : List It} (h : W.ownsRow b 33 4 (.slice a l.length cap) l.length (bsl l)) : RdX W a l := fun i hi => by
  rcases h.2 with ⟨h0, h1⟩ | ⟨g, cap', cur, e, h3, h4, h5, h6, h7, h8⟩
  · omega
  · simp at e
    obtain ⟨rfl, rfl⟩ := e
    refine ⟨g, rfl, fun k v hv => ?_⟩
    have hk : k < 4 := by
      rcases Nat.lt_or_ge k 4 with c | c
      · exact c
      · rw [List.getElem?_eq_none (by show 4 ≤ k; exact c)] at hv; cases hv
    rw [h.cellAt (i * 4 + k) (by omega), bsl_get l i k hi hk]
    exact hv
set_option maxRecDepth 100000 in
set_option maxHeartbeats 4000000 in
theorem closed_any (a : Option Addr) (c : Nat) (ks : List (Int × Int)) (a' : Option Addr) (c' : Nat) (bx : List It) (w : World) (hl : ks.length ≤ 1000000000) (hl' : bx.length ≤ 1000000000) (hr : RdS w a ks) (hr' : RdX w a' bx) (hwk : ∀ k ∈ ks, Wi k.1 ∧ Wi k.2) (hwb : ∀ x ∈ bx, Wi x.un.bas ∧ Wi x.ld.bas ∧ Wi x.ld.stp) :
    Calls Tryz.prog 11 #[.slice a ks.length c, .slice a' bx.length c'] w fun e w' => DerP w w' ks bx e := by
  have hM0 : DM w (w.alloc (.map #[] 0)) w.heap.size 0 (fun _ => none) := ⟨Mh.new w, below_alloc _ _, Nat.le_refl _⟩
  have hS0 : Snd ks bx (fun _ => none) := ⟨fun I _ _ b s h => by cases h⟩
  have hmm := @run_makeMap Tryz.prog
  go_enter Tryz.func11, Tryz.ntmps11
  go_upto_region 2 with (fail)
  clear hmm
  generalize w.alloc (.map #[] 0) = w1 at *
  obtain ⟨b, hb⟩ : ∃ b, w.heap.size = b := ⟨_, rfl⟩
  rw [hb] at hM0
  rw [hb]
  clear hb
  have HM0 : Hid (DM w w1 b 0 (fun _ => none)) := hM0
  have HS0 : Hid (Snd ks bx (fun _ => none)) := hS0
  clear hM0 hS0
  go_wp2_with fail
  go_loopw [19] (fun i wx => ∃ (k n : Nat) (H : Int → Option Int), k ≤ ks.length ∧ i = .int .i64 (k : Int) ∧ n ≤ k ∧ DM w wx b n H ∧ Snd ks bx H ∧ HasTo ks k H) (fun i _ => ks.length - (intOf i).toNat)
  case atStart => exact ⟨0, 0, _, by omega, rfl, by omega, HM0.out, HS0.out, ⟨fun j hj => by omega⟩⟩
  case round =>
    obtain ⟨k, n, H, hk, rfl, hn, hM, hS, hH⟩ := hrel
    have HM : Hid (DM w wr b n H) := hM
    have HS : Hid (Snd ks bx H) := hS
    have HH : Hid (HasTo ks k H) := hH
    clear hM hS hH HM0 HS0
    by_cases hkN : k < ks.length
    · have i1 : (0 : Int) ≤ (k : Int) := by omega
      have i2 : (k : Int) < (ks.length : Int) := by omega
      obtain ⟨g, hal, hc0, hc1⟩ := (hr.later HM.out.bel) k hkN
      have HIN : Hid (ks.getD k (0, 0) ∈ ks) := getD_in hkN
      obtain ⟨p, hp⟩ : ∃ p, ks.getD k (0, 0) = p := ⟨_, rfl⟩
      have HP : Hid (ks.getD k (0, 0) = p) := hp
      rw [hp] at hc0 hc1 HIN
      obtain ⟨kb, kt⟩ := p
      obtain ⟨wb, wt⟩ := hwk _ HIN.out
      dsimp only at hc0 hc1 wb wt
      clear hp
      subst hal
      have HM1 : Hid (DM w (wr.alloc (.cells #[.int .i64 kb, .int .i64 kt] 31)) b n H) := HM.out.later (below_alloc _ _)
      have hmh := HM1.out.mh
      have hn62 : n < 4611686018427387904 := by omega
      rcases hH : H kb with _ | u
      · have hlk := look_no hmh wb hH
        have HLE : Hid (le1 H kb kt = false) := le1_none hH
        clear hH hmh
        go_wp2_with (refine HM1.out.mh.upd hn62 wb wt rfl _ _ _ rfl rfl rfl rfl ?_; intro w' hm' hg')
        go_roundw
        case rel => exact ⟨k + 1, n + 1, _, by omega, by go_num, by omega, HM1.out.upd hm' hg', HS.out.key (k := (kb, kt)) HIN.out, (HH.out.up HLE.out).one (by rw [HP.out]; exact le1_new _ _ _)⟩
        case measure => simp [intOf]; omega
      · have hlk := look_yes hmh wb hH
        by_cases hlt : kt < u
        · have hd : decide (kt < u) = true := decide_eq_true hlt
          have HLE : Hid (le1 H kb kt = false) := le1_no hH hlt
          clear hH hmh hlt
          go_wp2_with (refine HM1.out.mh.upd hn62 wb wt rfl _ _ _ rfl rfl rfl rfl ?_; intro w' hm' hg')
          go_roundw
          case rel => exact ⟨k + 1, n + 1, _, by omega, by go_num, by omega, HM1.out.upd hm' hg', HS.out.key (k := (kb, kt)) HIN.out, (HH.out.up HLE.out).one (by rw [HP.out]; exact le1_new _ _ _)⟩
          case measure => simp [intOf]; omega
        · have hd : decide (kt < u) = false := decide_eq_false hlt
          have HLE : Hid (le1 H kb kt = true) := le1_yes hH (by omega)
          clear hH hmh hlt
          go_wp2_with fail
          go_roundw
          case rel => exact ⟨k + 1, n, _, by omega, by go_num, by omega, HM1.out, HS.out, HH.out.one (by rw [HP.out]; exact HLE.out)⟩
          case measure => simp [intOf]; omega
    · obtain rfl : k = ks.length := by omega
      have hdk : decide ((ks.length : Int) < (ks.length : Int)) = false := by simp
      obtain ⟨K0, hK0⟩ : ∃ K0, n + ust bx H = K0 := ⟨_, rfl⟩
      have HK0 : Hid (K0 ≤ 2000000000) := by have := ust_le (bx := bx) (H := H); unfold Hid; omega
      have HR : Hid (n + ust bx H ≤ K0) := by unfold Hid; omega
      clear hK0
      go_wp2_with fail
      go_loopg [10] (2 * ust bx H + 1) (fun gk m wx => ∃ (n : Nat) (H : Int → Option Int) (mb : Bool), m = .bool mb ∧ DM w wx b n H ∧ n + ust bx H ≤ K0 ∧ Snd ks bx H ∧ HasTo ks ks.length H ∧ (mb = false → ShutTo bx bx.length H) ∧ gk = 2 * ust bx H + (if mb then 1 else 0))
      case atStart => exact ⟨n, H, true, rfl, HM.out, HR.out, HS.out, HH.out, fun e => (by cases e), rfl⟩
      case round =>
        obtain ⟨n, H, mb, rfl, hM, hR, hS, hH, hSh, rfl⟩ := hrel
        have HM2 : Hid (DM w wr b n H) := hM
        have HSH : Hid (mb = false → ShutTo bx bx.length H) := hSh
        have HP0 : Hid (Pass ks bx K0 n H 0 n H false) := ⟨hS, hH, hR, fun _ => ⟨rfl, rfl, ⟨fun j hj => by omega⟩⟩, fun e => (by cases e), Nat.le_refl _⟩
        clear hM hR hS hH hSh HM HR HS HH
        cases mb with
        | false =>
          have HSH2 : Hid (ShutTo bx bx.length H) := HSH.out rfl
          clear HSH
          go_wp2_with fail
          go_ret
          exact DerP.of HM2.out HP0.out.snd HP0.out.has HSH2.out
        | true =>
          go_wp2_with fail
          go_loopw [10, 47] (fun m i wx => ∃ (k n' : Nat) (G : Int → Option Int) (m' : Bool), k ≤ bx.length ∧ i = .int .i64 (k : Int) ∧ m = .bool m' ∧ DM w wx b n' G ∧ Pass ks bx K0 n H k n' G m') (fun _ i _ => bx.length - (intOf i).toNat)
          case atStart => exact ⟨0, n, H, false, by omega, rfl, rfl, HM2.out, HP0.out⟩
          case round =>
            obtain ⟨k, n', G, m', hk, rfl, rfl, hM, hP⟩ := hrel
            have HM : Hid (DM w wr b n' G) := hM
            have HP : Hid (Pass ks bx K0 n H k n' G m') := hP
            clear hM hP HM2 HP0
            by_cases hkN : k < bx.length
            · have i1 : (0 : Int) ≤ (k : Int) := by omega
              have i2 : (k : Int) < (bx.length : Int) := by omega
              obtain ⟨y, hy⟩ : ∃ y, bx.getD k ⟨0, 0, zK, zK⟩ = y := ⟨_, rfl⟩
              have HY : Hid (bx.getD k ⟨0, 0, zK, zK⟩ = y) := hy
              have hin : y ∈ bx := hy ▸ getD_in hkN
              obtain ⟨g, hal, x0, x1, x2, x3⟩ := (hr'.later HM.out.bel).cells hkN hy
              obtain ⟨wu, wb, wt⟩ := hwb y hin
              subst hal
              have HM1 : Hid (DM w (wr.alloc (.cells #[.int .i64 y.un.bas, .int .i64 y.un.stp, .int .i64 y.ld.bas, .int .i64 y.ld.stp] 33)) b n' G) := HM.out.later (below_alloc _ _)
              have hmh := HM1.out.mh
              have hn62 : n' < 4611686018427387904 := by have := HP.out.room; have := HK0.out; omega
              clear hy hin HM
              rcases hU : G y.un.bas with _ | u
              · have hlk := look_no hmh wu hU
                have HN : Hid (Pass ks bx K0 n H (k + 1) n' G m') := HP.out.skip HY.out (fun h => by rw [le1_none hU] at h; cases h)
                clear hU hmh
                go_wp2_with fail
                go_roundw
                case rel => exact ⟨k + 1, n', G, m', by omega, by go_num, rfl, HM1.out, HN.out⟩
                case measure => simp [intOf]; omega
              · have hlk := look_yes hmh wu hU
                by_cases hgt : y.un.stp < u
                · have hd : decide (y.un.stp < u) = true := decide_eq_true hgt
                  have HN : Hid (Pass ks bx K0 n H (k + 1) n' G m') := HP.out.skip HY.out (fun h => by rw [le1_no hU hgt] at h; cases h)
                  clear hU hmh hgt
                  go_wp2_with fail
                  go_roundw
                  case rel => exact ⟨k + 1, n', G, m', by omega, by go_num, rfl, HM1.out, HN.out⟩
                  case measure => simp [intOf]; omega
                · have hd : decide (y.un.stp < u) = false := decide_eq_false hgt
                  have HU : Hid (le1 G y.un.bas y.un.stp = true) := le1_yes hU (by omega)
                  clear hU hgt
                  rcases hL : G y.ld.bas with _ | s
                  · have hlk2 := look_no hmh wb hL
                    have HN : Hid (Pass ks bx K0 n H (k + 1) (n' + 1) (hup G y.ld.bas y.ld.stp) true) := HP.out.take hkN HY.out HU.out (le1_none hL)
                    clear hL hmh
                    go_wp2_with (refine HM1.out.mh.upd hn62 wb wt rfl _ _ _ rfl rfl rfl rfl ?_; intro w' hm' hg')
                    go_roundw
                    case rel => exact ⟨k + 1, n' + 1, _, true, by omega, by go_num, rfl, HM1.out.upd hm' hg', HN.out⟩
                    case measure => simp [intOf]; omega
                  · have hlk2 := look_yes hmh wb hL
                    by_cases hlt : y.ld.stp < s
                    · have hd2 : decide (y.ld.stp < s) = true := decide_eq_true hlt
                      have HN : Hid (Pass ks bx K0 n H (k + 1) (n' + 1) (hup G y.ld.bas y.ld.stp) true) := HP.out.take hkN HY.out HU.out (le1_no hL hlt)
                      clear hL hmh hlt
                      go_wp2_with (refine HM1.out.mh.upd hn62 wb wt rfl _ _ _ rfl rfl rfl rfl ?_; intro w' hm' hg')
                      go_roundw
                      case rel => exact ⟨k + 1, n' + 1, _, true, by omega, by go_num, rfl, HM1.out.upd hm' hg', HN.out⟩
                      case measure => simp [intOf]; omega
                    · have hd2 : decide (y.ld.stp < s) = false := decide_eq_false hlt
                      have HN : Hid (Pass ks bx K0 n H (k + 1) n' G m') := HP.out.skip HY.out (fun _ => le1_yes hL (by omega))
                      clear hL hmh hlt
                      go_wp2_with fail
                      go_roundw
                      case rel => exact ⟨k + 1, n', G, m', by omega, by go_num, rfl, HM1.out, HN.out⟩
                      case measure => simp [intOf]; omega
            · obtain rfl : k = bx.length := by omega
              have hdk : decide ((bx.length : Int) < (bx.length : Int)) = false := by simp
              have HLT : Hid (2 * ust bx G + (if m' then 1 else 0) < 2 * ust bx H + (if true then 1 else 0)) := by
                have h1 := HP.out.on
                have h2 := HP.out.off
                unfold Hid
                cases m' with
                | true => have := h1 rfl; simp; omega
                | false => rw [(h2 rfl).1]; simp
              go_wp2_with fail
              go_roundg (2 * ust bx G + (if m' then 1 else 0))
              case measure => exact HLT.out
              case rel => exact ⟨n', G, m', rfl, HM.out, HP.out.room, HP.out.snd, HP.out.has, fun e => (HP.out.off e).2.2, rfl⟩
set_option maxRecDepth 100000 in
theorem followT_any (w : World) (b n : Nat) (H : Int → Option Int) (hm : Mh w b n H) (kb kt : Int) (hw : Wi kb) : Calls Tryz.prog 21 #[.map (some b), .agg #[.int .i64 kb, .int .i64 kt] ] w fun e w' => e = .returned (.bool (le1 H kb kt)) ∧ Below w.heap.size w w' := by
  have hm1 := hm.later (below_alloc w (.cells #[.int .i64 kb, .int .i64 kt] 31))
  have hB : Below w.heap.size w (w.alloc (.cells #[.int .i64 kb, .int .i64 kt] 31)) := below_alloc _ _
  rcases hH : H kb with _ | u
  · have hlk := look_no hm1 hw hH
    rw [le1_none hH]
    clear hH hm1 hm
    go_enter Tryz.func21, Tryz.ntmps21
    go_wp2_with fail
    go_ret
    exact ⟨rfl, hB⟩
  · have hlk := look_yes hm1 hw hH
    by_cases hle : u ≤ kt
    · have hd : decide (u ≤ kt) = true := decide_eq_true hle
      rw [le1_yes hH hle]
      clear hH hm1 hm hle
      go_enter Tryz.func21, Tryz.ntmps21
      go_wp2_with fail
      go_ret
      exact ⟨rfl, hB⟩
    · have hd : decide (u ≤ kt) = false := decide_eq_false hle
      rw [le1_no hH (by omega)]
      clear hH hm1 hm hle
      go_enter Tryz.func21, Tryz.ntmps21
      go_wp2_with fail
      go_ret
      exact ⟨rfl, hB⟩
end Go.Proofs.YtpimbpfefhkojabGreatDoor
