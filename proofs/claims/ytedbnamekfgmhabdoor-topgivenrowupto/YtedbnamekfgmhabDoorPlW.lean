/- Rows of trees in memory; contracts: is somebody on in each tree of a part of a row, is a node's key excused. -/
import Derived.Test.YtedbnamekfgmhabDoorPlJ3
import Derived.Test.YtedbnamekfgmhabDoorShK
import Derived.Great.BuildSlice
import Derived.Great.FillDense
namespace Go.Proofs.YtedbnamekfgmhabDoor
open Go.RowKit Go.Maps
open Rt (Ky zK KyAt)
open Rs (En zE rcs tkn fnd RdS RdI ps)
open Sh (belB lef)
set_option linter.unusedVariables false
set_option linter.unusedSimpArgs false

def trl (ts : List Tr) : List Value := ts.flatMap fun t => (tcs t).toList
theorem trl_snoc (ts : List Tr) (t : Tr) : trl (ts ++ [t]) = trl ts ++ (tcs t).toList := by simp [trl]
theorem trl_len (ts : List Tr) : (trl ts).length = ts.length * 236 := by
  induction ts with
  | nil => rfl
  | cons t ts ih =>
    have e : trl (t :: ts) = (tcs t).toList ++ trl ts := rfl
    rw [e, List.length_append, ih, Array.length_toList, tcs_size, List.length_cons]
    omega
theorem trl_get : ∀ (ts : List Tr) (i j : Nat), i < ts.length → j < 236 → (trl ts)[i * 236 + j]? = (tcs (ts.getD i (tz 0)))[j]?
  | [], i, j, hi, _ => by cases hi
  | t :: ts, 0, j, _, hj => by
    have e : trl (t :: ts) = (tcs t).toList ++ trl ts := rfl
    rw [e, Nat.zero_mul, Nat.zero_add, List.getElem?_append_left (by rw [Array.length_toList, tcs_size]; exact hj), Array.getElem?_toList]
    rfl
  | t :: ts, i + 1, j, hi, hj => by
    have e : trl (t :: ts) = (tcs t).toList ++ trl ts := rfl
    rw [e, List.getElem?_append_right (by rw [Array.length_toList, tcs_size]; omega), Array.length_toList, tcs_size, show (i + 1) * 236 + j - 236 = i * 236 + j by omega, trl_get ts i j (by simpa using hi) hj]
    rfl
theorem trl_one (ts : List Tr) : ∀ u ∈ trl ts, u.oneCell' = true := fun u hu => by
  unfold trl at hu
  obtain ⟨t, _, h⟩ := List.mem_flatMap.1 hu
  have := tcs_one t
  rw [Array.all_eq_true'] at this
  exact this u (Array.mem_toList_iff.1 h)
/- A row that may be read. -/
def RdR (w : World) (a : Option Addr) (ts : List Tr) : Prop := ∀ i, i < ts.length → ∃ b cs, a = some ⟨b, 0, none⟩ ∧ w.heap[b]? = some (.cells cs 31 (0, 0)) ∧ ∀ j, j < 236 → cs[i * 236 + j]? = (tcs (ts.getD i (tz 0)))[j]?
theorem RdR.later {w w' : World} {a : Option Addr} {ts : List Tr} (h : RdR w a ts) (hb : Below w.heap.size w w') : RdR w' a ts := fun i hi => by
  obtain ⟨b, cs, e, h1, h2⟩ := h i hi
  exact ⟨b, cs, e, (hb.block b (Array.getElem?_eq_some_iff.1 h1).1).trans h1, h2⟩
theorem owns_rdR {W : World} {b : Nat} {a : Option Addr} {cap : Nat} {ts : List Tr} (h : W.ownsRow b 31 236 (.slice a ts.length cap) ts.length (trl ts)) : RdR W a ts := fun i hi => by
  rcases h.2 with ⟨h0, h1⟩ | ⟨g, cap', cur, e, h3, h4, h5, h6, h7, h8⟩
  · omega
  · simp at e
    obtain ⟨rfl, rfl⟩ := e
    refine ⟨g, cur, rfl, h4, fun j hj => ?_⟩
    rw [← trl_get ts i j hi hj, ← h8, List.getElem?_take_of_lt (by omega)]
    simp
theorem RdR.tree {w : World} {a : Option Addr} {ts : List Tr} (h : RdR w a ts) {i : Nat} (hi : i < ts.length) {t : Tr} (ht : ts.getD i (tz 0) = t) : ∃ b, a = some ⟨b, 0, none⟩ ∧ (Instr.loadAt 31 (.pointer (some ⟨b, i * 236, none⟩))).run Tryd.prog w = .ok (.agg (tcs t)) w ∧ (Instr.loadAt 29 (.pointer (some ⟨b, i * 236 + 44, none⟩))).run Tryd.prog w = .ok (.agg (rcs t.ro)) w := by
  obtain ⟨b, cs, e, h1, h2⟩ := h i hi
  rw [ht] at h2
  refine ⟨b, e, part_run h1 Tryd.underlying31 rfl infoT (i * 236) (tcs_size t) h2, part_run h1 Tryd.underlying29 rfl (n := 192) ?_ (i * 236 + 44) (by simp) fun j hj => ?_⟩
  · kernel_rfl
  · rw [Nat.add_assoc, h2 (44 + j) (by omega), tcs_ro]
/- A slice literal of one tree. -/
theorem bsT {ops : Array Oper} {rest : List Oper} {o : Oper} {a : Act} {w : World} {Q : Exit → Act → World → Prop} {t : Tr} {c : Array Value} (hc : tcs t = c) (hg : o.guard = none) (x : Operand) (ho : o.op = .buildSlice 65 1 #[(0, x)]) (hx : a.eval x = .agg c)
    (h : wpList Tryd.prog ops Q rest (a.put o.dst (.slice (some ⟨w.heap.size, 0, none⟩) 1 1)) (w.alloc (.cells c 31))) : wpList Tryd.prog ops Q (o :: rest) a w := by
  have hsz : (Tryd.prog.info? 31).map (·.size) = some 236 := infoT
  cases hie : Tryd.prog.info? 31 with
  | none => rw [hie] at hsz; cases hsz
  | some ie =>
    rw [hie] at hsz
    simp at hsz
    have hzz : (Tryd.prog.info? 31).bind (·.zero) = some (.agg (tcs (tz 0))) := by rw [← zero236]; kernel_rfl
    rw [hie] at hzz
    have hz : ie.zero = some (.agg (tcs (tz 0))) := by simpa using hzz
    refine wpList_buildSlice hg 65 31 1 #[(0, x)] ho c ie _ Tryd.underlying65 hie hz (by rw [hsz]; decide) (by rw [hsz]; decide) ?_ h
    obtain ⟨r, h1, h2, h3⟩ := Great.fill_dense (s := 236) (by decide) [.agg c] 0 ((Array.range (1 * ie.size)).map ((Value.agg (tcs (tz 0))).cells[· % (Value.agg (tcs (tz 0))).cells.size]!)) (fun v hv => by
      rw [List.mem_singleton.1 hv]
      show c.size = 236
      rw [← hc]; exact tcs_size t) (by simp [hsz])
    have e : (#[(0, x)].map fun (y : Nat × Operand) => (y.1, a.eval y.2)).toList = ([Value.agg c].zipIdx 0).map fun x => (x.2, x.1) := by simp [hx]
    rw [show ((#[(0, x)] : Array (Nat × Operand)).map fun (i, x) => (i, a.eval x)).toList = ([Value.agg c].zipIdx 0).map fun x => (x.2, x.1) from e]
    rw [hsz] at h1 h2 h3 ⊢
    rw [h1]
    refine congrArg some ?_
    apply Array.ext_getElem?
    intro k
    rw [h3 k]
    have hcs : c.size = 236 := by rw [← hc]; exact tcs_size t
    by_cases hk : k < 236
    · rw [if_pos (by simp; omega), Nat.div_eq_of_lt hk, Nat.mod_eq_of_lt hk]
      rfl
    · rw [if_neg (by simp; omega), Array.getElem?_eq_none (by simp; omega), Array.getElem?_eq_none (by omega)]
/- Somebody is on in each tree of a part of a row. -/
def onT (ts : List Tr) (x : Int) (f k : Nat) : Bool := (List.range k).all fun i => decide (0 ≤ fnd (ts.getD (f + i) (tz 0)).ro x)
def onB (ts : List Tr) (x f t : Int) : Bool := !decide (f < 0) && (!decide ((ts.length : Int) ≤ t) && (!decide (t < f) && onT ts x f.toNat (t - f + 1).toNat))
theorem onT_no {ts : List Tr} {x : Int} {f k i : Nat} (hi : i < k) (h : fnd (ts.getD (f + i) (tz 0)).ro x < 0) : onT ts x f k = false := all_no hi (decide_eq_false (by omega))
theorem onT_yes {ts : List Tr} {x : Int} {f k : Nat} (h : ∀ i, i < k → 0 ≤ fnd (ts.getD (f + i) (tz 0)).ro x) : onT ts x f k = true := all_yes fun i hi => decide_eq_true (h i hi)
set_option maxRecDepth 100000 in
set_option maxHeartbeats 2000000 in
theorem rOn_any (a : Option Addr) (c : Nat) (ts : List Tr) (x f t : Int) (w : World) (hl : ts.length ≤ 4096) (hr : RdR w a ts) :
    Calls Tryd.prog 44 #[.slice a ts.length c, .int .i64 x, .int .i64 f, .int .i64 t] w fun e w' => e = .returned (.bool (onB ts x f t)) ∧ Below w.heap.size w w' := by
  go_enter Tryd.func44, Tryd.ntmps44
  by_cases h1 : f < 0
  · have d1 : decide (f < 0) = true := decide_eq_true h1
    have HQ : Hid (onB ts x f t = false) := by unfold Hid onB; rw [d1]; rfl
    clear h1
    go_wp2_with fail
    go_ret
    exact ⟨ret_bool HQ.out.symm, Below.refl _ _⟩
  · have d1 : decide (f < 0) = false := decide_eq_false h1
    by_cases h2 : (ts.length : Int) ≤ t
    · have d2 : decide ((ts.length : Int) ≤ t) = true := decide_eq_true h2
      have HQ : Hid (onB ts x f t = false) := by unfold Hid onB; rw [d2]; simp
      clear h1 h2
      go_wp2_with fail
      go_ret
      exact ⟨ret_bool HQ.out.symm, Below.refl _ _⟩
    · have d2 : decide ((ts.length : Int) ≤ t) = false := decide_eq_false h2
      by_cases h3 : t < f
      · have d3 : decide (t < f) = true := decide_eq_true h3
        have HQ : Hid (onB ts x f t = false) := by unfold Hid onB; rw [d3]; simp
        clear h1 h2 h3
        go_wp2_with fail
        go_ret
        exact ⟨ret_bool HQ.out.symm, Below.refl _ _⟩
      · have d3 : decide (t < f) = false := decide_eq_false h3
        obtain ⟨n, rfl⟩ : ∃ n : Nat, f = (n : Int) := ⟨f.toNat, by omega⟩
        obtain ⟨m, hm⟩ : ∃ m : Nat, t = (n : Int) + (m : Int) := ⟨(t - n).toNat, by omega⟩
        have HQ : Hid (onB ts x (n : Int) t = onT ts x n (m + 1)) := by
          unfold Hid onB
          rw [d1, d2, d3, show (t - (n : Int) + 1).toNat = m + 1 by omega, Int.toNat_natCast]
          rfl
        have HLM : Hid (n + m < ts.length) := by unfold Hid; omega
        have HTM : Hid (t = (n : Int) + (m : Int)) := hm
        clear h1 h2 h3 hm
        go_wp2_with fail
        go_loopw [9] (fun i wx => ∃ k : Nat, k ≤ m + 1 ∧ i = .int .i64 ((n + k : Nat) : Int) ∧ Below w.heap.size w wx ∧ ∀ j, j < k → 0 ≤ fnd (ts.getD (n + j) (tz 0)).ro x) (fun i _ => n + m + 1 - (intOf i).toNat)
        case atStart => exact ⟨0, by omega, rfl, Below.refl _ _, fun j hj => by omega⟩
        case round =>
          obtain ⟨k, hk, rfl, hbx, hall⟩ := hrel
          have HB : Hid (Below w.heap.size w wr) := hbx
          have HA : Hid (∀ j, j < k → 0 ≤ fnd (ts.getD (n + j) (tz 0)).ro x) := hall
          clear hbx hall
          have hlm := HLM.out
          by_cases hkm : k < m + 1
          · have d4 : decide (((n + k : Nat) : Int) ≤ t) = true := decide_eq_true (by rw [HTM.out]; omega)
            obtain ⟨u, hu⟩ : ∃ u, ts.getD (n + k) (tz 0) = u := ⟨_, rfl⟩
            obtain ⟨b, e, _, hro⟩ := (hr.later HB.out).tree (i := n + k) (by omega) hu
            have HU : Hid (ts.getD (n + k) (tz 0) = u) := hu
            have hfi := Rs.rFind_any u.ro x wr
            obtain ⟨cf, hcf⟩ : ∃ cf, rcs u.ro = cf := ⟨_, rfl⟩
            rw [hcf] at hro hfi
            obtain ⟨i, hi⟩ : ∃ i, n + k = i := ⟨_, rfl⟩
            rw [hi] at hro d4
            rw [hi]
            have HI : Hid (n + k = i) := hi
            have i1 : (0 : Int) ≤ (i : Int) := by omega
            have i2 : (i : Int) < (ts.length : Int) := by omega
            have i3 : i < 5000 := by omega
            obtain ⟨q, hq⟩ : ∃ q, fnd u.ro x = q := ⟨_, rfl⟩
            have HFQ : Hid (fnd u.ro x = q) := hq
            rw [hq] at hfi
            subst e
            clear hcf hu hi hq hlm
            go_wp2_with (refine rd_guard (v := .agg cf) (by rfl) (ld_exec hro rfl rfl) ?_)
            refine hfi.mono ?_
            rintro r w2 ⟨rfl, hb2⟩
            have HB2 : Hid (Below w.heap.size w w2) := HB.out.trans (hb2.mono HB.out.size)
            clear hfi hro hb2 HB
            by_cases hq0 : q < 0
            · have d5 : decide (q < 0) = true := decide_eq_true hq0
              have HR : Hid (onT ts x n (m + 1) = false) := onT_no hkm (by rw [HU.out, HFQ.out]; exact hq0)
              clear hq0
              go_wp2_with fail
              go_ret
              exact ⟨ret_bool (by rw [HQ.out, HR.out]), HB2.out⟩
            · have d5 : decide (q < 0) = false := decide_eq_false hq0
              have HR : Hid (∀ j, j < k + 1 → 0 ≤ fnd (ts.getD (n + j) (tz 0)).ro x) := fun j hj => by
                rcases Nat.lt_or_ge j k with c | c
                · exact HA.out j c
                · obtain rfl : j = k := by omega
                  rw [HU.out, HFQ.out]; omega
              clear hq0
              go_wp2_with fail
              go_roundw
              case rel => exact ⟨k + 1, by omega, by rw [← Nat.add_assoc, HI.out]; go_num, HB2.out, HR.out⟩
              case measure => have := HI.out; simp [intOf]; omega
          · obtain rfl : k = m + 1 := by omega
            obtain ⟨i, hi⟩ : ∃ i, n + (m + 1) = i := ⟨_, rfl⟩
            have d4 : decide ((i : Int) ≤ t) = false := decide_eq_false (by rw [HTM.out]; omega)
            rw [hi]
            clear hi
            go_wp2_with fail
            go_ret
            exact ⟨ret_bool (by rw [HQ.out, onT_yes HA.out]), HB.out⟩
/- A node's key at an epoch is excused. -/
def exc1 (ts : List Tr) (e v : Int) (x : Int × Int) : Bool := onB ts x.1 x.2 e && belB v (lef (fnd (ts.getD e.toNat (tz 0)).ro x.1))
def excB (ts : List Tr) (met : List (Int × Int)) (e v : Int) : Bool := met.any (exc1 ts e v)
set_option maxRecDepth 100000 in
set_option maxHeartbeats 2000000 in
theorem rExc_any (a : Option Addr) (c : Nat) (ts : List Tr) (a' : Option Addr) (c' : Nat) (met : List (Int × Int)) (e v : Nat) (w : World) (hl : ts.length ≤ 4096) (hl' : met.length ≤ 4194304) (he : e < ts.length) (hv : v < 21) (hr : RdR w a ts) (hm : RdS w a' met) :
    Calls Tryd.prog 24 #[.slice a ts.length c, .slice a' met.length c', .int .i64 (e : Int), .int .i64 (v : Int)] w fun r w' => r = .returned (.bool (excB ts met (e : Int) (v : Int))) ∧ Below w.heap.size w w' := by
  obtain ⟨u, hu⟩ : ∃ u, ts.getD e (tz 0) = u := ⟨_, rfl⟩
  have HU : Hid (ts.getD e (tz 0) = u) := hu
  have HON : Hid (∀ (x : Int × Int) (W : World), Below w.heap.size w W → Calls Tryd.prog 44 #[.slice a ts.length c, .int .i64 x.1, .int .i64 x.2, .int .i64 (e : Int)] W fun r w' => r = .returned (.bool (onB ts x.1 x.2 (e : Int))) ∧ Below W.heap.size W w') := fun x W hW => rOn_any a c ts x.1 x.2 e W hl (hr.later hW)
  obtain ⟨b, eb, -, -⟩ := hr.tree he hu
  have HRO : Hid (∀ W, Below w.heap.size w W → (Instr.loadAt 29 (.pointer (some ⟨b, e * 236 + 44, none⟩))).run Tryd.prog W = .ok (.agg (rcs u.ro)) W) := fun W hW => by
    obtain ⟨b', e', -, h2⟩ := (hr.later hW).tree he hu
    rw [eb] at e'
    simp at e'
    subst e'
    exact h2
  have d1 : decide ((e : Int) < 0) = false := decide_eq_false (by omega)
  have d2 : decide ((ts.length : Int) ≤ (e : Int)) = false := decide_eq_false (by omega)
  have d3 : decide ((v : Int) < 0) = false := decide_eq_false (by omega)
  have d4 : decide ((21 : Int) ≤ (v : Int)) = false := decide_eq_false (by omega)
  obtain ⟨cf, hcf⟩ : ∃ cf, rcs u.ro = cf := ⟨_, rfl⟩
  rw [hcf] at HRO
  have hfi := fun x => Rs.rFind_any u.ro x
  rw [hcf] at hfi
  have e1 : (0 : Int) ≤ (e : Int) := by omega
  have e2 : (e : Int) < (ts.length : Int) := by omega
  subst eb
  clear hcf hu hr
  obtain ⟨NT, hNT⟩ : ∃ n, ts.length = n := ⟨_, rfl⟩
  rw [hNT] at HON d2 e2 ⊢
  have HNT : Hid (ts.length = NT ∧ NT ≤ 4096 ∧ e < NT) := ⟨hNT, by omega, by omega⟩
  have d5 : decide (NT ≤ e) = false := decide_eq_false (by omega)
  clear hNT hl he
  go_enter Tryd.func24, Tryd.ntmps24
  go_wp2_with fail
  go_loopw [30] (fun i wx => ∃ k : Nat, k ≤ met.length ∧ i = .int .i64 (k : Int) ∧ Below w.heap.size w wx ∧ excB ts (met.take k) (e : Int) (v : Int) = false) (fun i _ => met.length - (intOf i).toNat)
  case atStart => exact ⟨0, by omega, rfl, Below.refl _ _, rfl⟩
  case round =>
    obtain ⟨k, hk, rfl, hbx, hno⟩ := hrel
    have HB : Hid (Below w.heap.size w wr) := hbx
    have HNO : Hid (excB ts (met.take k) (e : Int) (v : Int) = false) := hno
    clear hbx hno
    by_cases hkN : k < met.length
    · have i1 : (0 : Int) ≤ (k : Int) := by omega
      have i2 : (k : Int) < (met.length : Int) := by omega
      obtain ⟨g, hal, hc0, hc1⟩ := (hm.later HB.out) k hkN
      have HTK : Hid (excB ts (met.take (k + 1)) (e : Int) (v : Int) = exc1 ts (e : Int) (v : Int) (met.getD k (0, 0))) := by
        have h := HNO.out
        unfold excB at h
        unfold Hid excB
        rw [take_snoc2 hkN, List.any_append, h]
        simp
      have HIN : Hid (met.getD k (0, 0) ∈ met) := getD_in hkN
      have hon := fun W hW => HON.out (met.getD k (0, 0)) W hW
      obtain ⟨q, hq⟩ : ∃ q, met.getD k (0, 0) = q := ⟨_, rfl⟩
      rw [hq] at hc0 hc1 HTK HIN hon
      obtain ⟨px, py⟩ := q
      dsimp only at hc0 hc1 hon
      have HTK2 : Hid (exc1 ts (e : Int) (v : Int) (px, py) = (onB ts px py (e : Int) && belB (v : Int) (lef (fnd u.ro px)))) := by
        unfold Hid exc1
        rw [Int.toNat_natCast, HU.out]
      obtain ⟨o1, ho1⟩ : ∃ o, onB ts px py (e : Int) = o := ⟨_, rfl⟩
      rw [ho1] at hon HTK2
      clear hq ho1
      subst hal
      have HB1 : Hid (Below w.heap.size w (wr.alloc (.cells #[.int .i64 px, .int .i64 py] 100))) := HB.out.trans ((below_alloc _ _).mono HB.out.size)
      have hSE : (wr.alloc (.cells #[.int .i64 px, .int .i64 py] 100)).heap[wr.heap.size]? = some (.cells #[.int .i64 px, .int .i64 py] 100 (0, 0)) := heap_alloc_last wr _
      clear HB
      go_upto_region 6 with (fail)
      clear hc0 hc1
      generalize wr.alloc (.cells #[.int .i64 px, .int .i64 py] 100) = w5 at *
      generalize wr.heap.size = C at *
      have HSE : Hid (w5.heap[C]? = some (.cells #[.int .i64 px, .int .i64 py] 100 (0, 0))) := hSE
      have x0 := cell_of_row w5 C 0 _ _ _ hSE
      have x1 := cell_of_row w5 C 1 _ _ _ hSE
      simp only [List.size_toArray, List.length_cons, List.length_nil, Nat.zero_add, Nat.reduceAdd, List.getElem?_toArray, List.getElem?_cons_zero, List.getElem?_cons_succ] at x0 x1
      clear hSE
      go_wp2_with fail
      refine (hon _ HB1.out).mono ?_
      rintro r w6 ⟨rfl, hb6⟩
      have HB6 : Hid (Below w.heap.size w w6) := HB1.out.trans (hb6.mono HB1.out.size)
      have HS6 : Hid (w6.heap[C]? = some (.cells #[.int .i64 px, .int .i64 py] 100 (0, 0))) := (hb6.block C (Array.getElem?_eq_some_iff.1 HSE.out).1).trans HSE.out
      clear hon hb6 HB1 HSE x0 x1
      cases o1 with
      | false =>
        have HR : Hid (excB ts (met.take (k + 1)) (e : Int) (v : Int) = false) := by unfold Hid; rw [HTK.out, HTK2.out]; rfl
        go_wp2_with fail
        go_roundw
        case rel => exact ⟨k + 1, by omega, by go_num, HB6.out, HR.out⟩
        case measure => simp [intOf]; omega
      | true =>
        go_upto_region 7 with (fail)
        have hfx := hfi px
        obtain ⟨q, hq⟩ : ∃ q, fnd u.ro px = q := ⟨_, rfl⟩
        rw [hq] at hfx HTK2
        clear hq
        have hS0 : Below w6.heap.size w6 w6.drew := drew_below _
        refine wp_region_held_drew (S := fun X => Below w6.heap.size w6 X) (by kernel_rfl) hS0 (fun hHeld => ?_)
        refine wpAnyH_take (i := 0) (oi := { dst := some 42, op := Op.move (Operand.tmp 0), type := _, pos := _, after := _, guard := none }) (v := .slice (some ⟨b, 0, none⟩) NT c) rfl (by kernel_rfl) (by kernel_rfl) (by kernel_rfl) (fun _ _ _ h => h) (Or.inl ⟨by rfl, fun w hSw => by (try dsimp only at hSw); go_simp⟩) (by assumption) ?_
        simp only [Act.put, List.setIfInBounds_toArray, List.set_cons_zero, List.set_cons_succ]
        refine wpAnyH_take (i := 1) (oi := { dst := some 43, op := Op.move (Operand.tmp 2), type := _, pos := _, after := _, guard := none }) (v := .int .i64 (e : Int)) rfl (by kernel_rfl) (by kernel_rfl) (by kernel_rfl) (fun _ _ _ h => h) (Or.inl ⟨by rfl, fun w hSw => by (try dsimp only at hSw); go_simp⟩) (by assumption) ?_
        simp only [Act.put, List.setIfInBounds_toArray, List.set_cons_zero, List.set_cons_succ]
        refine wpAnyH_take (i := 2) (oi := { dst := some 44, op := Op.indexAddr 65 (Operand.tmp 42) (Operand.tmp 43), type := _, pos := _, after := _, guard := none }) (v := .pointer (some ⟨b, e * 236, none⟩)) rfl (by kernel_rfl) (by kernel_rfl) (by kernel_rfl) (fun _ _ _ h => h) (Or.inl ⟨by rfl, fun w hSw => by (try dsimp only at hSw); go_simp⟩) (by assumption) ?_
        simp only [Act.put, List.setIfInBounds_toArray, List.set_cons_zero, List.set_cons_succ]
        refine wpAnyH_take (i := 3) (oi := { dst := some 45, op := Op.fieldAddr 31 (Operand.tmp 44) 3, type := _, pos := _, after := _, guard := none }) (v := .pointer (some ⟨b, e * 236 + 44, none⟩)) rfl (by kernel_rfl) (by kernel_rfl) (by kernel_rfl) (fun _ _ _ h => h) (Or.inl ⟨by rfl, fun w hSw => by (try dsimp only at hSw); go_simp⟩) (by assumption) ?_
        simp only [Act.put, List.setIfInBounds_toArray, List.set_cons_zero, List.set_cons_succ]
        refine wpAnyH_take (i := 4) (oi := { dst := some 46, op := Op.load 29 (Operand.tmp 45), type := _, pos := _, after := _, guard := none }) (v := .agg cf) rfl (by kernel_rfl) (by kernel_rfl) (by kernel_rfl) (fun _ _ _ h => h) (Or.inl ⟨by rfl, fun w hSw => ld_exec (HRO.out _ (HB6.out.trans (hSw.mono HB6.out.size))) rfl rfl⟩) (by assumption) ?_
        simp only [Act.put, List.setIfInBounds_toArray, List.set_cons_zero, List.set_cons_succ]
        refine wpAnyH_take (i := 5) (oi := { dst := some 47, op := Op.fieldAddr 100 (Operand.tmp 10) 0, type := _, pos := _, after := _, guard := none }) (v := .pointer (some ⟨C, 0, none⟩)) rfl (by kernel_rfl) (by kernel_rfl) (by kernel_rfl) (fun _ _ _ h => h) (Or.inl ⟨by rfl, fun w hSw => by (try dsimp only at hSw); go_simp⟩) (by assumption) ?_
        simp only [Act.put, List.setIfInBounds_toArray, List.set_cons_zero, List.set_cons_succ]
        refine wpAnyH_take (i := 6) (oi := { dst := some 48, op := Op.load 3 (Operand.tmp 47), type := _, pos := _, after := _, guard := none }) (v := .int .i64 px) rfl (by kernel_rfl) (by kernel_rfl) (by kernel_rfl) (fun _ _ _ h => h) (Or.inl ⟨by rfl, fun w hSw => by have x0 := cell_of_row w C 0 _ _ _ ((hSw.block C (Array.getElem?_eq_some_iff.1 HS6.out).1).trans HS6.out); clear hSw; go_simp⟩) (by assumption) ?_
        simp only [Act.put, List.setIfInBounds_toArray, List.set_cons_zero, List.set_cons_succ]
        refine wpAnyH_ready (rs := [7]) (by kernel_rfl) (by simp) ?_
        refine AllReadyH.cons rfl (fun K hK => ?_) AllReadyH.nil
        go_simp
        refine (hfx _).mono ?_
        rintro r w7 ⟨rfl, hb7⟩
        go_wp2_with fail
        refine hK.out _ _ (hHeld.trans (hb7.mono hHeld.size)) (fun hHeld2 => ?_)
        clear hHeld hb7
        clear hK K
        try simp only [Act.put, List.setIfInBounds_toArray, List.set_cons_zero, List.set_cons_succ]
        refine wpAnyH_take (i := 8) (oi := { dst := some 11, op := Op.assign (Operand.tmp 49), type := _, pos := _, after := _, guard := none }) (v := .int .i64 q) rfl (by kernel_rfl) (by kernel_rfl) (by kernel_rfl) (fun _ _ _ h => h) (Or.inl ⟨by rfl, fun w hSw => by (try dsimp only at hSw); go_simp⟩) (by assumption) ?_
        simp only [Act.put, List.setIfInBounds_toArray, List.set_cons_zero, List.set_cons_succ]
        refine wpAnyH_done (by kernel_rfl) ?_ _
        have HB7 : Hid (Below w.heap.size w w7) := HB6.out.trans (hHeld2.mono HB6.out.size)
        have hlf := Sh.rLeaf_any q
        have hbe := fun W => Sh.rBelow_any (v : Int) (lef q) W
        obtain ⟨z, hz⟩ : ∃ z, lef q = z := ⟨_, rfl⟩
        rw [hz] at hlf hbe HTK2
        obtain ⟨bb, hbb⟩ : ∃ z', belB (v : Int) z = z' := ⟨_, rfl⟩
        rw [hbb] at hbe HTK2
        clear hz hbb hHeld2 hS0 hfx HB6 HS6
        go_wp2_with fail
        refine (hlf _).mono ?_
        rintro r w7 ⟨rfl, rfl⟩
        go_wp2_with fail
        refine (hbe _).mono ?_
        rintro r w7 ⟨rfl, rfl⟩
        clear hlf hbe
        cases bb with
        | true =>
          have HR : Hid (excB ts met (e : Int) (v : Int) = true) := by
            unfold Hid excB
            rw [List.any_eq_true]
            exact ⟨_, HIN.out, by rw [HTK2.out]; rfl⟩
          go_wp2_with fail
          go_ret
          exact ⟨ret_bool HR.out.symm, HB7.out⟩
        | false =>
          have HR : Hid (excB ts (met.take (k + 1)) (e : Int) (v : Int) = false) := by unfold Hid; rw [HTK.out, HTK2.out]; rfl
          go_wp2_with fail
          go_roundw
          case rel => exact ⟨k + 1, by omega, by go_num, HB7.out, HR.out⟩
          case measure => simp [intOf]; omega
    · obtain rfl : k = met.length := by omega
      have hdk : decide ((met.length : Int) < (met.length : Int)) = false := by simp
      rw [List.take_length] at HNO
      go_wp2_with fail
      go_ret
      exact ⟨ret_bool HNO.out.symm, HB.out⟩
end Go.Proofs.YtedbnamekfgmhabDoor
