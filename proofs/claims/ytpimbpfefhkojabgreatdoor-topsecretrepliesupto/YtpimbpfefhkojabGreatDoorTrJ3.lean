/- TrA, TrB, TrC, joined. -/
import Derived.Test.YtpimbpfefhkojabGreatDoorTrMath
import Derived.Test.YtpimbpfefhkojabGreatDoorRsJ2
import Derived.Test.YtpimbpfefhkojabGreatDoorRtJ
import Derived.Deep.DeepCutAuto
import Derived.BigQuiet
namespace Go.Proofs.YtpimbpfefhkojabGreatDoor
open Go.RowKit
open Rt (Ky zK kcs KsAt KyAt eqY eqA)
open Rs (En zE rcs RoAt EnAt eqE eqB)
set_option linter.unusedVariables false
set_option maxRecDepth 20000
set_option linter.unusedSimpArgs false

theorem infoT : (Tryz.prog.info? 47).map (·.size) = some 236 := by kernel_rfl
def TrAt (w : World) (B : Nat) (t : Tr) : Prop := w.heap[B]? = some (.cells (tcs t) 47 (0, 0))
theorem TrAt.lt {w : World} {B : Nat} {t : Tr} (h : TrAt w B t) : B < w.heap.size := (Array.getElem?_eq_some_iff.1 h).1
theorem TrAt.below {n : Nat} {w w' : World} {B : Nat} {t : Tr} (h : TrAt w B t) (hb : Below n w w') (hn : B < n) : TrAt w' B t := (hb.block B hn).trans h
theorem TrAt.later {w w' : World} {B : Nat} {t : Tr} (h : TrAt w B t) (hb : Below w.heap.size w w') : TrAt w' B t := h.below hb h.lt
theorem TrAt.new (w : World) (t : Tr) : TrAt (w.alloc (.cells (tcs t) 47)) w.heap.size t := heap_alloc_last w _
theorem alloc_tr (w : World) (t : Tr) : Below w.heap.size w (w.alloc (.cells (tcs t) 47)) := (Below.refl _ w).alloc (Nat.le_refl _) _
theorem below_alloc (w : World) (o : Obj) : Below w.heap.size w (w.alloc o) := (Below.refl _ w).alloc (Nat.le_refl _) _
theorem drew_below (w : World) : Below w.heap.size w w.drew := ⟨rfl, rfl, rfl, Nat.le_refl _, fun _ _ => rfl⟩
theorem dn_below (w : World) (n : Nat) : Below w.heap.size w (w.drewN n) := ⟨rfl, rfl, rfl, Nat.le_refl _, fun _ _ => rfl⟩
theorem cell_alloc_lt {w : World} {a : Addr} {v : Value} (h : w.cell? a = some v) (o : Obj) : (w.alloc o).cell? a = some v := cell_later ((Below.refl _ w).alloc (Nat.le_refl _) o) h
theorem TrAt.cells {w : World} {B : Nat} {t : Tr} (h : TrAt w B t) : w.cell? ⟨B, 0, none⟩ = some (.int .i64 t.ep) ∧ w.cell? ⟨B, 1, none⟩ = some (.int .i64 t.fr) :=
  ⟨(cell_of_row w B _ _ _ _ h).trans (tcs_0 t), (cell_of_row w B _ _ _ _ h).trans (tcs_1 t)⟩
theorem TrAt.key {w : World} {B : Nat} {t : Tr} (h : TrAt w B t) (k : Nat) (hk : k < 21) : w.cell? ⟨B, 2 + k * 2, none⟩ = some (.int .i64 (t.ks k).bas) ∧ w.cell? ⟨B, 2 + k * 2 + 1, none⟩ = some (.int .i64 (t.ks k).stp) := by
  obtain ⟨h0, h1⟩ := Rt.kcs_get t.ks k hk
  exact ⟨(cell_of_row w B _ _ _ _ h).trans ((tcs_ks t _ (by omega)).trans h0), by rw [Nat.add_assoc]; exact (cell_of_row w B _ _ _ _ h).trans ((tcs_ks t _ (by omega)).trans h1)⟩
theorem TrAt.ent {w : World} {B : Nat} {t : Tr} (h : TrAt w B t) (k : Nat) (hk : k < 64) : w.cell? ⟨B, 44 + k * 3, none⟩ = some (.int .i64 (t.ro k).who) ∧ w.cell? ⟨B, 44 + k * 3 + 1, none⟩ = some (.int .i64 (t.ro k).bas) ∧ w.cell? ⟨B, 44 + k * 3 + 2, none⟩ = some (.int .i64 (t.ro k).snc) := by
  obtain ⟨h0, h1, h2⟩ := Rs.rcs_get t.ro k hk
  exact ⟨(cell_of_row w B _ _ _ _ h).trans ((tcs_ro t _).trans h0), by rw [Nat.add_assoc]; exact (cell_of_row w B _ _ _ _ h).trans ((tcs_ro t _).trans h1), by rw [Nat.add_assoc]; exact (cell_of_row w B _ _ _ _ h).trans ((tcs_ro t _).trans h2)⟩
/- A part of a row, loaded as one value. -/
theorem part_run {w : World} {B : Nat} {cs : Array Value} {T0 : TypeId} {fz : Nat × Nat} (h : w.heap[B]? = some (.cells cs T0 fz)) {T : TypeId} {d : TypeDesc} (hu : Tryz.prog.underlying T = some d)
    (hd : (match d with | .struct _ | .array _ _ => true | _ => false) = true) {n : Nat} (hi : (Tryz.prog.info? T).map (·.size) = some n) (o : Nat) {ds : Array Value} (hn : ds.size = n) (hp : ∀ j, j < n → cs[o + j]? = ds[j]?) :
    (Instr.loadAt T (.pointer (some ⟨B, o, none⟩))).run Tryz.prog w = .ok (.agg ds) w := by
  have hl : (loadCells ⟨B, o, none⟩ ds.toList.length).run Tryz.prog w = .ok ds.toList.toArray w :=
    run_loadCells_list (P := Tryz.prog) w ⟨B, o, none⟩ ds.toList (fun j v hv => by
      have hadd : (⟨B, o, none⟩ : Addr).add j = ⟨B, o + j, none⟩ := by unfold Addr.add; split <;> simp_all
      have hv' : ds[j]? = some v := by simpa using hv
      have hj : j < n := by have := (Array.getElem?_eq_some_iff.1 hv').1; omega
      rw [hadd, cell_of_row w B (o + j) _ _ _ h, hp j hj]
      exact hv')
  cases hq : Tryz.prog.info? T with
  | none => rw [hq] at hi; simp at hi
  | some i =>
    have hs : i.size = n := by rw [hq] at hi; simpa using hi
    have hagg : (isAgg T).run Tryz.prog w = .ok true w := by
      unfold isAgg
      rw [Sem.run_bind, run_underlying hu w]
      cases d <;> simp_all
    simp only [Array.length_toList, Array.toArray_toList, hn] at hl
    simp only [Instr.loadAt, Instr.sureAddr, Sem.run_bind, Sem.run_pure, Result.andThen]
    simp only [loadVar, Sem.run_bind, hagg, sizeOf, typeInfo, hq, hs]
    simp [hl, Sem.run_bind, typeInfo, hq, hs]
theorem rd_guard {w : World} {ops : Array Oper} {rest : List Oper} {o : Oper} {a : Act} {Q : Exit → Act → World → Prop} {v : Value} (hw : Region.wanted o (yielded ops a.tmps) = true) (hrun : (execOp a.eval o).run Tryz.prog w = .ok (.value v) w)
    (k : wpList Tryz.prog ops Q rest (a.put o.dst v) w) : wpList Tryz.prog ops Q (o :: rest) a w := by
  refine wpList_step fun K hK => ?_
  rw [if_pos hw]
  unfold Oper.wp
  rw [hrun, Oper.upon_value]
  exact hK _ _ k
theorem ld_exec {w : World} {T : TypeId} {B o : Nat} {v : Value} (h : (Instr.loadAt T (.pointer (some ⟨B, o, none⟩))).run Tryz.prog w = .ok v w) {a : Act} {p : Oper} {x : Operand} (ho : p.op = .load T x) (hx : a.eval x = .pointer (some ⟨B, o, none⟩)) :
    (execOp a.eval p).run Tryz.prog w = .ok (.value v) w := by
  simp [execOp, ho, hx, h, Sem.run_bind, Result.andThen]
theorem TrAt.whole {w : World} {B : Nat} {t : Tr} (h : TrAt w B t) : (Instr.loadAt 47 (.pointer (some ⟨B, 0, none⟩))).run Tryz.prog w = .ok (.agg (tcs t)) w :=
  part_run h Tryz.underlying47 rfl infoT 0 (tcs_size t) fun j hj => by rw [Nat.zero_add]
theorem TrAt.keys {w : World} {B : Nat} {t : Tr} (h : TrAt w B t) : (Instr.loadAt 41 (.pointer (some ⟨B, 2, none⟩))).run Tryz.prog w = .ok (.agg (kcs t.ks)) w :=
  part_run h Tryz.underlying41 rfl Rt.infoK 2 (Rt.kcs_size _) fun j hj => tcs_ks t j hj
theorem TrAt.rost {w : World} {B : Nat} {t : Tr} (h : TrAt w B t) : (Instr.loadAt 45 (.pointer (some ⟨B, 44, none⟩))).run Tryz.prog w = .ok (.agg (rcs t.ro)) w :=
  part_run h Tryz.underlying45 rfl Rs.info25 44 (Rs.rcs_size _) fun j hj => tcs_ro t j
/- The same in a walk: the value as a letter. -/
theorem rdT {w : World} {ops : Array Oper} {rest : List Oper} {o : Oper} {a : Act} {Q : Exit → Act → World → Prop} {B : Nat} {t : Tr} {c : Array Value} (h : TrAt w B t) (hc : tcs t = c) (x : Operand) (ho : o.op = .load 47 x)
    (hx : a.eval x = .pointer (some ⟨B, 0, none⟩)) (hw : Region.wanted o (yielded ops a.tmps) = true) (k : wpList Tryz.prog ops Q rest (a.put o.dst (.agg c)) w) : wpList Tryz.prog ops Q (o :: rest) a w :=
  rd_guard hw (ld_exec (hc ▸ h.whole) ho hx) k
theorem rdK {w : World} {ops : Array Oper} {rest : List Oper} {o : Oper} {a : Act} {Q : Exit → Act → World → Prop} {B : Nat} {t : Tr} {c : Array Value} (h : TrAt w B t) (hc : kcs t.ks = c) (x : Operand) (ho : o.op = .load 41 x)
    (hx : a.eval x = .pointer (some ⟨B, 2, none⟩)) (hw : Region.wanted o (yielded ops a.tmps) = true) (k : wpList Tryz.prog ops Q rest (a.put o.dst (.agg c)) w) : wpList Tryz.prog ops Q (o :: rest) a w :=
  rd_guard hw (ld_exec (hc ▸ h.keys) ho hx) k
theorem rdR {w : World} {ops : Array Oper} {rest : List Oper} {o : Oper} {a : Act} {Q : Exit → Act → World → Prop} {B : Nat} {t : Tr} {c : Array Value} (h : TrAt w B t) (hc : rcs t.ro = c) (x : Operand) (ho : o.op = .load 45 x)
    (hx : a.eval x = .pointer (some ⟨B, 44, none⟩)) (hw : Region.wanted o (yielded ops a.tmps) = true) (k : wpList Tryz.prog ops Q rest (a.put o.dst (.agg c)) w) : wpList Tryz.prog ops Q (o :: rest) a w :=
  rd_guard hw (ld_exec (hc ▸ h.rost) ho hx) k
/- '==' of whole trees. -/
def eqT (t u : Tr) : Bool := decide (t.ep = u.ep) && (decide (t.fr = u.fr) && (eqA t.ks u.ks && eqB t.ro u.ro))
theorem eqT_refl (t : Tr) : eqT t t = true := by unfold eqT; rw [Rt.eqA_refl, Rs.eqB_refl]; simp
theorem run_eqKs' (d : Nat) (f g : Nat → Ky) (w : World) : (Op.equalIn (d + 3) 41 (.agg (kcs f)) (.agg (kcs g))).run Tryz.prog w = .ok (eqA f g) w := by
  obtain ⟨i, hi⟩ := Option.isSome_iff_exists.mp Rt.info_ky
  rw [run_equalIn_array w (d + 2) _ _ Tryz.underlying41 hi]
  have h := Rt.eqItemsK f g d w (List.range 21) fun i hi => List.mem_range.1 hi
  rw [Rt.cells_ky]
  exact h
theorem run_eqRo' (d : Nat) (f g : Nat → En) (w : World) : (Op.equalIn (d + 3) 45 (.agg (rcs f)) (.agg (rcs g))).run Tryz.prog w = .ok (eqB f g) w := by
  obtain ⟨i, hi⟩ := Option.isSome_iff_exists.mp Rs.info_en
  rw [run_equalIn_array w (d + 2) _ _ Tryz.underlying45 hi]
  have h := Rs.eqItems25 f g d w (List.range 64) fun i hi => List.mem_range.1 hi
  rw [Rs.cells_en]
  exact h
theorem ext_ks (t : Tr) : (tcs t).extract 2 44 = kcs t.ks := by
  apply Array.ext
  · simp
  · intro i h1 h2
    have hi : i < 42 := by simpa using h2
    rw [Array.getElem_extract]
    have := tcs_ks t i hi
    rw [Array.getElem?_eq_getElem (by simp; omega), Array.getElem?_eq_getElem (by simpa using hi)] at this
    exact Option.some.inj this
theorem ext_ro (t : Tr) : (tcs t).extract 44 236 = rcs t.ro := by
  apply Array.ext
  · simp
  · intro i h1 h2
    have hi : i < 192 := by simpa using h2
    rw [Array.getElem_extract]
    have := tcs_ro t i
    rw [Array.getElem?_eq_getElem (by simp; omega), Array.getElem?_eq_getElem (by simpa using hi)] at this
    exact Option.some.inj this
set_option maxRecDepth 100000 in
theorem run_eqTr (t u : Tr) (w : World) : (Op.equalIn 10000 47 (.agg (tcs t)) (.agg (tcs u))).run Tryz.prog w = .ok (eqT t u) w := by
  have a1 := tcs_0 t
  have a2 := tcs_1 t
  have a3 := ext_ks t
  have a4 := ext_ro t
  have b1 := tcs_0 u
  have b2 := tcs_1 u
  have b3 := ext_ks u
  have b4 := ext_ro u
  have c3 : (Op.equalIn 9999 41 (.agg (kcs t.ks)) (.agg (kcs u.ks))).run Tryz.prog w = _ := run_eqKs' 9996 t.ks u.ks w
  have c4 : (Op.equalIn 9999 45 (.agg (rcs t.ro)) (.agg (rcs u.ro))).run Tryz.prog w = _ := run_eqRo' 9996 t.ro u.ro w
  rw [run_equalIn_agg w 9999 47 _ _ (by kernel_rfl) (by kernel_rfl)]
  unfold eqT
  generalize tcs t = ct at *
  generalize tcs u = cu at *
  generalize kcs t.ks = k1 at *
  generalize kcs u.ks = k2 at *
  generalize rcs t.ro = r1 at *
  generalize rcs u.ro = r2 at *
  by_cases h1 : t.ep = u.ep <;> by_cases h2 : t.fr = u.fr <;> cases h3 : eqA t.ks u.ks <;> cases h4 : eqB t.ro u.ro <;> simp [go_sem, a1, a2, a3, a4, b1, b2, b3, b4, c3, c4, h1, h2, h3, h4]
open Rt (Ky zK kcs KsAt KyAt)
open Rs (En zE rcs RoAt EnAt)

set_option maxRecDepth 100000 in
set_option maxHeartbeats 1000000 in
theorem isKeyName_any (f : Nat → Ky) (x : Int) (w : World) : Calls Tryz.prog 71 #[.agg (kcs f), .int .i64 x] w fun r w' => r = .returned (.bool (isn f x)) ∧ Below w.heap.size w w' := by
  have hn := KsAt.new w f
  have hB1 := Rt.alloc_ks w f
  go_enter Tryz.func71, Tryz.ntmps71
  go_upto_region 1 with (fail)
  generalize w.alloc (.cells (kcs f) 41) = w1 at *
  refine wp_region_lit ?_
  refine Rt.ldK hn rfl _ rfl rfl ?_
  obtain ⟨c, hc⟩ : ∃ c, kcs f = c := ⟨_, rfl⟩
  rw [hc]
  go_wp2_with fail
  go_loopw [8] (fun i wx => ∃ k : Nat, k ≤ 21 ∧ i = .int .i64 (k : Int) ∧ Below w1.heap.size w1 wx ∧ ∀ j, j < k → decide ((f j).bas = x) = false) (fun i _ => 21 - (intOf i).toNat)
  case atStart => exact ⟨0, by omega, rfl, Below.refl _ _, fun j hj => by omega⟩
  case round =>
    obtain ⟨k, hk, rfl, hb, hf⟩ := hrel
    have HB : Hid (Below w.heap.size w wr) := hB1.trans (hb.mono hB1.size)
    have HBW : Hid (Below w1.heap.size w1 wr) := hb
    have HF : Hid (∀ j, j < k → decide ((f j).bas = x) = false) := hf
    clear hb hf
    by_cases hk8 : k < 21
    · have k8 : (k : Int) < 21 := by omega
      have hi := Rt.idxK f k hk8
      rw [hc] at hi
      have HBE : Hid (Below wr.heap.size wr (wr.alloc (.cells #[.int .i64 (f k).bas, .int .i64 (f k).stp] 31))) := Rt.alloc_ky wr (f k)
      obtain ⟨e, he⟩ : ∃ e, f k = e := ⟨_, rfl⟩
      rw [he] at hi HBE
      have HE : Hid (f k = e) := he
      clear he hc
      by_cases hx : e.bas = x
      · have hx2 : (e.bas == x) = true := by simp [hx]
        have HX : Hid (e.bas = x) := hx
        clear hx
        go_wp2_with fail
        go_ret
        exact ⟨ret_bool (by unfold isn; rw [any_yes hk8 (by rw [HE.out, HX.out]; simp)]), HB.out.trans (HBE.out.mono HB.out.size)⟩
      · have hx2 : (e.bas == x) = false := by simp [hx]
        go_wp2_with fail
        go_roundw
        case rel =>
          refine ⟨k + 1, by omega, by go_num, HBW.out.trans (HBE.out.mono HBW.out.size), fun j hj => ?_⟩
          rcases Nat.lt_or_ge j k with h | h
          · exact HF.out j h
          · obtain rfl : j = k := by omega
            rw [HE.out]
            exact decide_eq_false hx
        case measure => simp [intOf]; omega
    · obtain rfl : k = 21 := by omega
      go_wp2_with fail
      go_ret
      exact ⟨ret_bool (by unfold isn; rw [any_no HF.out]), HB.out⟩
theorem fk1_no1 {t : Tr} {k : Nat} {e : Ky} (he : t.ks k = e) (h : t.fr ≤ e.bas) : fk1 t k = false := by unfold fk1; rw [he, decide_eq_false (by omega)]; rfl
theorem fk1_no2 {t : Tr} {k : Nat} {e : Ky} (he : t.ks k = e) (h : t.ep < e.stp) : fk1 t k = false := by unfold fk1; rw [he, decide_eq_false (p := e.stp ≤ t.ep) (by omega), Bool.and_false]
theorem fk1_yes {t : Tr} {k : Nat} {e : Ky} (he : t.ks k = e) (h1 : ¬ t.fr ≤ e.bas) (h2 : ¬ t.ep < e.stp) : fk1 t k = true := by unfold fk1; rw [he, decide_eq_true (by omega), decide_eq_true (by omega)]; rfl
set_option maxRecDepth 100000 in
set_option maxHeartbeats 1000000 in
theorem keysFit_any (t : Tr) (w : World) : Calls Tryz.prog 31 #[.agg (tcs t)] w fun r w' => r = .returned (.bool (fitK t)) ∧ Below w.heap.size w w' := by
  have hn := TrAt.new w t
  have hB1 := alloc_tr w t
  obtain ⟨c, hc⟩ : ∃ c, kcs t.ks = c := ⟨_, rfl⟩
  have HC : Hid (kcs t.ks = c) := hc
  clear hc
  go_enter Tryz.func31, Tryz.ntmps31
  go_upto_region 1 with (fail)
  generalize w.alloc (.cells (tcs t) 47) = w1 at *
  obtain ⟨B, hBB⟩ : ∃ B, w.heap.size = B := ⟨_, rfl⟩
  rw [hBB] at hn ⊢
  obtain ⟨ct, hct⟩ : ∃ ct, tcs t = ct := ⟨_, rfl⟩
  rw [hct]
  clear hct
  have HBB : Hid (w.heap.size = B) := hBB
  clear hBB
  go_wp2_with (refine rdK hn HC.out _ rfl rfl rfl ?_)
  go_loopw [7] (fun i wx => ∃ k : Nat, k ≤ 21 ∧ i = .int .i64 (k : Int) ∧ Below w1.heap.size w1 wx ∧ ∀ j, j < k → fk1 t j = true) (fun i _ => 21 - (intOf i).toNat)
  case atStart => exact ⟨0, by omega, rfl, Below.refl _ _, fun j hj => by omega⟩
  case round =>
    obtain ⟨k, hk, rfl, hb, hf⟩ := hrel
    have HB : Hid (Below w.heap.size w wr) := hB1.trans (hb.mono hB1.size)
    have HBW : Hid (Below w1.heap.size w1 wr) := hb
    have HF : Hid (∀ j, j < k → fk1 t j = true) := hf
    by_cases hk8 : k < 21
    · have k8 : (k : Int) < 21 := by omega
      have hi := Rt.idxK t.ks k hk8
      simp only [HC.out] at hi
      obtain ⟨c0, c1⟩ := (hn.later hb).cells
      have d0 := fun o => cell_alloc_lt c0 o
      have d1 := fun o => cell_alloc_lt c1 o
      have HBE : Hid (Below wr.heap.size wr (wr.alloc (.cells #[.int .i64 (t.ks k).bas, .int .i64 (t.ks k).stp] 31))) := Rt.alloc_ky wr (t.ks k)
      obtain ⟨e, he⟩ : ∃ e, t.ks k = e := ⟨_, rfl⟩
      rw [he] at hi HBE
      have HE : Hid (t.ks k = e) := he
      clear he c0 c1 hb hf
      by_cases g1 : t.fr ≤ e.bas
      · go_wp2_with fail
        go_ret
        exact ⟨ret_bool (by unfold fitK; rw [all_no hk8 (fk1_no1 HE.out g1)]), HB.out.trans (HBE.out.mono HB.out.size)⟩
      · by_cases g2 : t.ep < e.stp
        · go_wp2_with fail
          go_ret
          exact ⟨ret_bool (by unfold fitK; rw [all_no hk8 (fk1_no2 HE.out g2)]), HB.out.trans (HBE.out.mono HB.out.size)⟩
        · go_wp2_with fail
          go_roundw
          case rel =>
            refine ⟨k + 1, by omega, by go_num, HBW.out.trans (HBE.out.mono HBW.out.size), fun j hj => ?_⟩
            rcases Nat.lt_or_ge j k with h | h
            · exact HF.out j h
            · obtain rfl : j = k := by omega
              exact fk1_yes HE.out (by omega) (by omega)
          case measure => simp [intOf]; omega
    · obtain rfl : k = 21 := by omega
      clear hb hf
      go_wp2_with fail
      go_ret
      exact ⟨ret_bool (by unfold fitK; rw [all_yes HF.out]), HB.out⟩
theorem fs1_no1 {t : Tr} {k : Nat} {e : En} (he : t.ro k = e) (h : t.fr ≤ e.bas) : fs1 t k = false := by unfold fs1; rw [he, decide_eq_false (by omega)]; rfl
theorem fs1_no2 {t : Tr} {k : Nat} {e : En} (he : t.ro k = e) (h : t.ep < e.snc) : fs1 t k = false := by unfold fs1; rw [he, decide_eq_false (p := e.snc ≤ t.ep) (by omega), Bool.false_and, Bool.and_false]
theorem fs1_no3 {t : Tr} {k : Nat} {e : En} (he : t.ro k = e) (h : isn t.ks e.bas = true) : fs1 t k = false := by unfold fs1; rw [he, h, Bool.not_true, Bool.and_false, Bool.and_false]
theorem fs1_yes {t : Tr} {k : Nat} {e : En} (he : t.ro k = e) (h1 : ¬ t.fr ≤ e.bas) (h2 : ¬ t.ep < e.snc) (h3 : isn t.ks e.bas = false) : fs1 t k = true := by unfold fs1; rw [he, h3, decide_eq_true (by omega), decide_eq_true (by omega)]; rfl
set_option maxRecDepth 100000 in
set_option maxHeartbeats 1000000 in
theorem seatsFit_any (t : Tr) (w : World) : Calls Tryz.prog 32 #[.agg (tcs t)] w fun r w' => r = .returned (.bool (fitS t)) ∧ Below w.heap.size w w' := by
  have hn := TrAt.new w t
  have hB1 := alloc_tr w t
  have hnm := fun x => isKeyName_any t.ks x
  obtain ⟨c, hc⟩ : ∃ c, rcs t.ro = c := ⟨_, rfl⟩
  have HC : Hid (rcs t.ro = c) := hc
  clear hc
  obtain ⟨ck, hck⟩ : ∃ c, kcs t.ks = c := ⟨_, rfl⟩
  simp only [hck] at hnm
  have HK : Hid (kcs t.ks = ck) := hck
  clear hck
  go_enter Tryz.func32, Tryz.ntmps32
  go_upto_region 1 with (fail)
  generalize w.alloc (.cells (tcs t) 47) = w1 at *
  obtain ⟨B, hBB⟩ : ∃ B, w.heap.size = B := ⟨_, rfl⟩
  rw [hBB] at hn ⊢
  obtain ⟨ct, hct⟩ : ∃ ct, tcs t = ct := ⟨_, rfl⟩
  rw [hct]
  clear hct
  have HBB : Hid (w.heap.size = B) := hBB
  clear hBB
  go_wp2_with (refine rdR hn HC.out _ rfl rfl rfl ?_)
  go_loopw [7] (fun i wx => ∃ k : Nat, k ≤ 64 ∧ i = .int .i64 (k : Int) ∧ Below w1.heap.size w1 wx ∧ ∀ j, j < k → fs1 t j = true) (fun i _ => 64 - (intOf i).toNat)
  case atStart => exact ⟨0, by omega, rfl, Below.refl _ _, fun j hj => by omega⟩
  case round =>
    obtain ⟨k, hk, rfl, hb, hf⟩ := hrel
    have HB : Hid (Below w.heap.size w wr) := hB1.trans (hb.mono hB1.size)
    have HBW : Hid (Below w1.heap.size w1 wr) := hb
    have HF : Hid (∀ j, j < k → fs1 t j = true) := hf
    by_cases hk8 : k < 64
    · have k8 : (k : Int) < 64 := by omega
      have hi := Rs.idx25 t.ro k hk8
      simp only [HC.out] at hi
      have hT := hn.later hb
      obtain ⟨c0, c1⟩ := hT.cells
      have d0 := fun o => cell_alloc_lt c0 o
      have d1 := fun o => cell_alloc_lt c1 o
      have hBE := Rs.alloc_en wr (t.ro k)
      obtain ⟨e, he⟩ : ∃ e, t.ro k = e := ⟨_, rfl⟩
      rw [he] at hi hBE
      have hTE := hT.later hBE
      have HBE : Hid (Below wr.heap.size wr (wr.alloc (.cells #[.int .i64 e.who, .int .i64 e.bas, .int .i64 e.snc] 43))) := hBE
      have HE : Hid (t.ro k = e) := he
      clear he c0 c1 hb hf hT hBE
      by_cases g1 : t.fr ≤ e.bas
      · clear hTE
        go_wp2_with fail
        go_ret
        exact ⟨ret_bool (by unfold fitS; rw [all_no hk8 (fs1_no1 HE.out g1)]), HB.out.trans (HBE.out.mono HB.out.size)⟩
      · by_cases g2 : t.ep < e.snc
        · clear hTE
          go_wp2_with fail
          go_ret
          exact ⟨ret_bool (by unfold fitS; rw [all_no hk8 (fs1_no2 HE.out g2)]), HB.out.trans (HBE.out.mono HB.out.size)⟩
        · go_wp2_with (refine rdK hTE HK.out _ rfl rfl rfl ?_)
          refine (hnm e.bas _).mono ?_
          rintro r w3 ⟨rfl, hb3⟩
          have HB4 : Hid (Below wr.heap.size wr w3) := HBE.out.trans (hb3.mono HBE.out.size)
          clear hTE hb3 d0 d1 hi
          cases h3 : isn t.ks e.bas with
          | true =>
            go_wp2_with fail
            go_ret
            exact ⟨ret_bool (by unfold fitS; rw [all_no hk8 (fs1_no3 HE.out h3)]), HB.out.trans (HB4.out.mono HB.out.size)⟩
          | false =>
            go_wp2_with fail
            go_roundw
            case rel =>
              refine ⟨k + 1, by omega, by go_num, HBW.out.trans (HB4.out.mono HBW.out.size), fun j hj => ?_⟩
              rcases Nat.lt_or_ge j k with h | h
              · exact HF.out j h
              · obtain rfl : j = k := by omega
                exact fs1_yes HE.out (by omega) (by omega) h3
            case measure => simp [intOf]; omega
    · obtain rfl : k = 64 := by omega
      clear hb hf
      go_wp2_with fail
      go_ret
      exact ⟨ret_bool (by unfold fitS; rw [all_yes HF.out]), HB.out⟩
open Rt (Ky zK kcs KsAt KyAt kchk kchkE)
open Rs (En zE rcs RoAt EnAt chk chkE)

theorem chkE_tt {r : Nat → En} (h : chk r = true) : chkE r = 0 := by unfold chkE; rw [h]; rfl
theorem chkE_ff {r : Nat → En} (h : chk r = false) : chkE r = 31 := by unfold chkE; rw [h]; rfl
theorem tck_b {t : Tr} (h : bnd t = false) : tck t = false := by unfold tck; rw [h]; rfl
theorem tck_k {t : Tr} (h : kchk t.ks = false) : tck t = false := by unfold tck; rw [h, Bool.false_and, Bool.and_false]
theorem tck_r {t : Tr} (h : chk t.ro = false) : tck t = false := by unfold tck; rw [h, Bool.false_and, Bool.and_false, Bool.and_false]
theorem tck_fk {t : Tr} (h : fitK t = false) : tck t = false := by unfold tck; rw [h, Bool.false_and, Bool.and_false, Bool.and_false, Bool.and_false]
theorem tck_fs {t : Tr} (h : fitS t = false) : tck t = false := by unfold tck; rw [h, Bool.and_false, Bool.and_false, Bool.and_false, Bool.and_false]
theorem tck_ok {t : Tr} (h1 : bnd t = true) (h2 : kchk t.ks = true) (h3 : chk t.ro = true) (h4 : fitK t = true) (h5 : fitS t = true) : tck t = true := by unfold tck; rw [h1, h2, h3, h4, h5]; rfl
theorem bnd_1 {t : Tr} (h : ¬ 0 ≤ t.ep) : bnd t = false := by unfold bnd; rw [decide_eq_false h]; rfl
theorem bnd_2 {t : Tr} (h : ¬ t.ep ≤ 200) : bnd t = false := by unfold bnd; rw [decide_eq_false h, Bool.false_and, Bool.and_false]
theorem bnd_3 {t : Tr} (h : ¬ 22 ≤ t.fr) : bnd t = false := by unfold bnd; rw [decide_eq_false h, Bool.false_and, Bool.and_false, Bool.and_false]
theorem bnd_4 {t : Tr} (h : ¬ t.fr ≤ 32768) : bnd t = false := by unfold bnd; rw [decide_eq_false h, Bool.and_false, Bool.and_false, Bool.and_false]
theorem bnd_ok {t : Tr} (h1 : 0 ≤ t.ep) (h2 : t.ep ≤ 200) (h3 : 22 ≤ t.fr) (h4 : t.fr ≤ 32768) : bnd t = true := by unfold bnd; rw [decide_eq_true h1, decide_eq_true h2, decide_eq_true h3, decide_eq_true h4]; rfl
set_option maxRecDepth 100000 in
set_option maxHeartbeats 1000000 in
theorem check_any (t : Tr) (w : World) : Calls Tryz.prog 15 #[.agg (tcs t)] w fun r w' => r = .returned (.int .i64 (tckE t)) ∧ Below w.heap.size w w' := by
  have hn := TrAt.new w t
  have hB1 := alloc_tr w t
  have h1 := Rt.check_any t.ks
  have h2 := Rs.check_any t.ro
  have h3 := keysFit_any t
  have h4 := seatsFit_any t
  obtain ⟨ck, hck⟩ : ∃ c, kcs t.ks = c := ⟨_, rfl⟩
  obtain ⟨cr, hcr⟩ : ∃ c, rcs t.ro = c := ⟨_, rfl⟩
  obtain ⟨ct, hct⟩ : ∃ c, tcs t = c := ⟨_, rfl⟩
  simp only [hck] at h1
  simp only [hcr] at h2
  simp only [hct] at h3 h4
  have HK : Hid (kcs t.ks = ck) := hck
  have HR : Hid (rcs t.ro = cr) := hcr
  have HT : Hid (tcs t = ct) := hct
  clear hck hcr hct
  go_enter Tryz.func15, Tryz.ntmps15
  go_upto_region 1 with (fail)
  generalize w.alloc (.cells (tcs t) 47) = w1 at *
  rw [HT.out]
  obtain ⟨B, hBB⟩ : ∃ B, w.heap.size = B := ⟨_, rfl⟩
  rw [hBB] at hn ⊢
  have HBB : Hid (w.heap.size = B) := hBB
  clear hBB
  obtain ⟨c0, c1⟩ := hn.cells
  have HB1 : Hid (Below w.heap.size w w1) := hB1
  cases q1 : decide (t.ep < 0) with
  | true =>
    have HBN : Hid (bnd t = false) := bnd_1 (by have := of_decide_eq_true q1; omega)
    generalize t.ep = ep at *
    generalize t.fr = fr at *
    go_wp2_with fail
    go_ret
    exact ⟨ret_int (by rw [tckE_ff (tck_b HBN.out)]), HB1.out⟩
  | false =>
    cases q2 : decide (200 < t.ep) with
    | true =>
      have HBN : Hid (bnd t = false) := bnd_2 (by have := of_decide_eq_true q2; omega)
      generalize t.ep = ep at *
      generalize t.fr = fr at *
      go_wp2_with fail
      go_ret
      exact ⟨ret_int (by rw [tckE_ff (tck_b HBN.out)]), HB1.out⟩
    | false =>
      cases q3 : decide (t.fr < 22) with
      | true =>
        have HBN : Hid (bnd t = false) := bnd_3 (by have := of_decide_eq_true q3; omega)
        generalize t.ep = ep at *
        generalize t.fr = fr at *
        go_wp2_with fail
        go_ret
        exact ⟨ret_int (by rw [tckE_ff (tck_b HBN.out)]), HB1.out⟩
      | false =>
        cases q4 : decide (32768 < t.fr) with
        | true =>
          have HBN : Hid (bnd t = false) := bnd_4 (by have := of_decide_eq_true q4; omega)
          generalize t.ep = ep at *
          generalize t.fr = fr at *
          go_wp2_with fail
          go_ret
          exact ⟨ret_int (by rw [tckE_ff (tck_b HBN.out)]), HB1.out⟩
        | false =>
          have HBN : Hid (bnd t = true) := bnd_ok (by have := of_decide_eq_false q1; omega) (by have := of_decide_eq_false q2; omega) (by have := of_decide_eq_false q3; omega) (by have := of_decide_eq_false q4; omega)
          generalize t.ep = ep at *
          generalize t.fr = fr at *
          go_wp2_with (refine rdK hn HK.out _ rfl rfl rfl ?_)
          clear q1 q2 q3 q4 c0 c1
          refine (h1 _).mono ?_
          rintro r w2 ⟨rfl, hb2⟩
          have hn2 := hn.later hb2
          have hB2 := hB1.trans (hb2.mono hB1.size)
          clear h1 hn hB1 hb2 HB1
          cases hk : kchk t.ks with
          | false =>
            rw [Rt.kchkE_ff hk]
            go_wp2_with fail
            go_ret
            exact ⟨ret_int (by rw [tckE_ff (tck_k hk)]), hB2⟩
          | true =>
            rw [Rt.kchkE_tt hk]
            go_wp2_with (refine rdR hn2 HR.out _ rfl rfl rfl ?_)
            refine (h2 _).mono ?_
            rintro r w3 ⟨rfl, hb3⟩
            have hn3 := hn2.later hb3
            have hB3 := hB2.trans (hb3.mono hB2.size)
            clear h2 hn2 hB2 hb3
            cases hr : chk t.ro with
            | false =>
              rw [chkE_ff hr]
              go_wp2_with fail
              go_ret
              exact ⟨ret_int (by rw [tckE_ff (tck_r hr)]), hB3⟩
            | true =>
              rw [chkE_tt hr]
              go_wp2_with (refine rdT hn3 HT.out _ rfl rfl rfl ?_)
              refine (h3 _).mono ?_
              rintro r w4 ⟨rfl, hb4⟩
              have hn4 := hn3.later hb4
              have hB4 := hB3.trans (hb4.mono hB3.size)
              clear h3 hn3 hB3 hb4
              cases hfk : fitK t with
              | false =>
                go_wp2_with fail
                go_ret
                exact ⟨ret_int (by rw [tckE_ff (tck_fk hfk)]), hB4⟩
              | true =>
                go_wp2_with (refine rdT hn4 HT.out _ rfl rfl rfl ?_)
                refine (h4 _).mono ?_
                rintro r w5 ⟨rfl, hb5⟩
                have hB5 := hB4.trans (hb5.mono hB4.size)
                clear h4 hn4 hB4 hb5
                cases hfs : fitS t with
                | false =>
                  go_wp2_with fail
                  go_ret
                  exact ⟨ret_int (by rw [tckE_ff (tck_fs hfs)]), hB5⟩
                | true =>
                  go_wp2_with fail
                  go_ret
                  exact ⟨ret_int (by rw [tckE_tt (tck_ok HBN.out hk hr hfk hfs)]), hB5⟩
end Go.Proofs.YtpimbpfefhkojabGreatDoor
