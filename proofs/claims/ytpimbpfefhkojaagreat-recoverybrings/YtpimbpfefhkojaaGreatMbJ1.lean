/- MbA, MbB, MbC, MbD, MbE, joined. -/
import Derived.Test.YtpimbpfefhkojaaGreatMbJ0
import Derived.Test.YtpimbpfefhkojaaGreatTrJ2
import Derived.Test.YtpimbpfefhkojaaGreatWiJ1
import Derived.BigQuiet
import Derived.LoopN
/- Member states in memory: their cells; '=='; arms of the walk. -/
namespace Go.Proofs.YtpimbpfefhkojaaGreat.Mb
open Go.RowKit Go.Maps
open Rt (Ky zK gd pcs)
open Wi (gR gE gW gS gI gB gK ldM stM rd_guard ra_of th_of ra_later)
set_option linter.unusedVariables false
set_option linter.unusedSimpArgs false

def pal (a b c : Ky) : List Value := [.int .i64 a.bas, .int .i64 a.stp, .int .i64 b.bas, .int .i64 b.stp, .int .i64 c.bas, .int .i64 c.stp]
def mbl (m : Mb) : List Value := [.int .i64 m.who, .int .i64 m.slt, .int .i64 m.ep, .int .i64 m.lf.bas, .int .i64 m.lf.stp, .int .i64 m.p0.bas, .int .i64 m.p0.stp, .int .i64 m.p1.bas, .int .i64 m.p1.stp, .int .i64 m.p2.bas, .int .i64 m.p2.stp, .bool m.has, .bool m.out, .int .i64 m.bh]
def mba (m : Mb) : Array Value := (mbl m).toArray
@[simp] theorem mba_size (m : Mb) : (mba m).size = 14 := rfl
theorem mba_one (m : Mb) : (mba m).all (·.oneCell') = true := by simp [mba, mbl, Value.oneCell']
theorem szPath : (Tryz.prog.info? 37).map (·.size) = some 6 := by kernel_rfl
def MA (w : World) (B : Nat) (m : Mb) : Prop := w.heap[B]? = some (.cells (mba m) 39 (0, 0))
theorem MA.lt {w : World} {B : Nat} {m : Mb} (h : MA w B m) : B < w.heap.size := (Array.getElem?_eq_some_iff.1 h).1
theorem MA.later {w w' : World} {B : Nat} {m : Mb} (h : MA w B m) (hb : Below w.heap.size w w') : MA w' B m := row_later h hb
theorem MA.new (w : World) (m : Mb) : MA (w.alloc (.cells (mba m) 39)) w.heap.size m := heap_alloc_last w _
theorem MA.all {w : World} {B : Nat} {m : Mb} (h : MA w B m) : w.rangeAt B 0 (mbl m) := ra_of h 0 (mbl m) rfl
theorem MA.path {w : World} {B : Nat} {m : Mb} (h : MA w B m) : w.rangeAt B 5 (pal m.p0 m.p1 m.p2) := ra_of h 5 (pal m.p0 m.p1 m.p2) rfl
theorem MA.leaf {w : World} {B : Nat} {m : Mb} (h : MA w B m) : w.cell? ⟨B, 3, none⟩ = some (.int .i64 m.lf.bas) ∧ w.cell? ⟨B, 4, none⟩ = some (.int .i64 m.lf.stp) := ⟨cell_of_row w B 3 _ _ _ h, cell_of_row w B 4 _ _ _ h⟩
theorem MA.who {w : World} {B : Nat} {m : Mb} (h : MA w B m) : w.cell? ⟨B, 0, none⟩ = some (.int .i64 m.who) := cell_of_row w B 0 _ _ _ h
theorem MA.slt {w : World} {B : Nat} {m : Mb} (h : MA w B m) : w.cell? ⟨B, 1, none⟩ = some (.int .i64 m.slt) := cell_of_row w B 1 _ _ _ h
theorem MA.ep {w : World} {B : Nat} {m : Mb} (h : MA w B m) : w.cell? ⟨B, 2, none⟩ = some (.int .i64 m.ep) := cell_of_row w B 2 _ _ _ h
theorem MA.has {w : World} {B : Nat} {m : Mb} (h : MA w B m) : w.cell? ⟨B, 11, none⟩ = some (.bool m.has) := cell_of_row w B 11 _ _ _ h
theorem MA.out {w : World} {B : Nat} {m : Mb} (h : MA w B m) : w.cell? ⟨B, 12, none⟩ = some (.bool m.out) := cell_of_row w B 12 _ _ _ h
theorem MA.bh {w : World} {B : Nat} {m : Mb} (h : MA w B m) : w.cell? ⟨B, 13, none⟩ = some (.int .i64 m.bh) := cell_of_row w B 13 _ _ _ h
theorem MA.key {w : World} {B : Nat} {m : Mb} (h : MA w B m) : (w.cell? ⟨B, 5, none⟩ = some (.int .i64 m.p0.bas) ∧ w.cell? ⟨B, 6, none⟩ = some (.int .i64 m.p0.stp)) ∧ (w.cell? ⟨B, 7, none⟩ = some (.int .i64 m.p1.bas) ∧ w.cell? ⟨B, 8, none⟩ = some (.int .i64 m.p1.stp)) ∧ w.cell? ⟨B, 9, none⟩ = some (.int .i64 m.p2.bas) ∧ w.cell? ⟨B, 10, none⟩ = some (.int .i64 m.p2.stp) :=
  ⟨⟨cell_of_row w B 5 _ _ _ h, cell_of_row w B 6 _ _ _ h⟩, ⟨cell_of_row w B 7 _ _ _ h, cell_of_row w B 8 _ _ _ h⟩, cell_of_row w B 9 _ _ _ h, cell_of_row w B 10 _ _ _ h⟩
theorem MA.fr {w : World} {B : Nat} {m : Mb} (h : MA w B m) (k : Nat) : w.frozen? ⟨B, k, none⟩ = false := Rt.row_frozen h k
theorem MA.var {w : World} {B : Nat} {m : Mb} (h : MA w B m) : (loadVar 39 ⟨B, 0, none⟩).run Tryz.prog w = .ok (.agg (mba m)) w := run_loadVar_row w B _ 39 _ _ _ h Tryz.underlying39 rfl infoMb
theorem MA.row {w : World} {B : Nat} {m : Mb} (h : MA w B m) (n : Mb) : MA (w.setRow B (mba n)) B n := Rt.heap_setRow_same h _
theorem zMb_eq : (#[.int .i64 0, .int .i64 0, .int .i64 0, .int .i64 0, .int .i64 0, .int .i64 0, .int .i64 0, .int .i64 0, .int .i64 0, .int .i64 0, .int .i64 0, .bool false, .bool false, .int .i64 0] : Array Value) = mba zMb := rfl
/- '==' . -/
theorem eqY_kE (a b : Ky) : Rt.eqY a b = kE a b := by
  rw [Bool.eq_iff_iff, Rt.eqY_iff, kE_iff]
theorem pal_pcs (a b c : Ky) : (pal a b c).toArray = pcs (fun i => if i = 0 then a else if i = 1 then b else c) := by rw [pcs6]; rfl
def pE (a b c a' b' c' : Ky) : Bool := kE a a' && (kE b b' && kE c c')
theorem run_eq3 (d : Nat) (a b c a' b' c' : Ky) (w : World) : (Op.equalIn (d + 3) 37 (.agg (pal a b c).toArray) (.agg (pal a' b' c').toArray)).run Tryz.prog w = .ok (pE a b c a' b' c') w := by
  rw [pal_pcs, pal_pcs]
  obtain ⟨i, hi⟩ := Option.isSome_iff_exists.mp Rt.info_ky
  rw [run_equalIn_array w (d + 2) _ _ Tryz.underlying37 hi]
  have h := Rt.eqItemsP (fun i => if i = 0 then a else if i = 1 then b else c) (fun i => if i = 0 then a' else if i = 1 then b' else c') d w (List.range 3) fun i hi => List.mem_range.1 hi
  rw [Rt.cells_ky, h, show List.range 3 = [0, 1, 2] from rfl]
  simp [List.all_cons, eqY_kE, pE]
set_option maxRecDepth 100000 in
set_option maxHeartbeats 1000000 in
theorem run_eqM (m n : Mb) (w : World) : (Op.equalIn 10000 39 (.agg (mba m)) (.agg (mba n))).run Tryz.prog w = .ok (mE m n) w := by
  obtain ⟨m1, m2, m3, ⟨m4, m5⟩, p, q, r, m6, m7, m8⟩ := m
  obtain ⟨n1, n2, n3, ⟨n4, n5⟩, p', q', r', n6, n7, n8⟩ := n
  have c3 : (Op.equalIn 9999 37 (.agg (pal p q r).toArray) (.agg (pal p' q' r').toArray)).run Tryz.prog w = _ := run_eq3 9996 p q r p' q' r' w
  have HE : mE ⟨m1, m2, m3, ⟨m4, m5⟩, p, q, r, m6, m7, m8⟩ ⟨n1, n2, n3, ⟨n4, n5⟩, p', q', r', n6, n7, n8⟩ = (decide (m1 = n1) && (decide (m2 = n2) && (decide (m3 = n3) && ((decide (m4 = n4) && decide (m5 = n5)) && (pE p q r p' q' r' && ((m6 == n6) && ((m7 == n7) && decide (m8 = n8)))))))) := by
    unfold mE pE
    simp only [Bool.and_assoc, kE]
  rw [HE]
  clear HE
  obtain ⟨x, hx⟩ : ∃ x, pE p q r p' q' r' = x := ⟨_, rfl⟩
  rw [hx] at c3
  rw [hx]
  clear hx
  unfold pal at c3
  rw [run_equalIn_agg w 9999 39 _ _ (by kernel_rfl) (by kernel_rfl)]
  unfold mba mbl
  dsimp only
  by_cases h1 : m1 = n1
  rotate_left
  · simp [go_sem, part, h1]
  by_cases h2 : m2 = n2
  rotate_left
  · simp [go_sem, part, h1, h2]
  by_cases h3 : m3 = n3
  rotate_left
  · simp [go_sem, part, h1, h2, h3]
  by_cases h4 : m4 = n4
  rotate_left
  · simp [go_sem, part, h1, h2, h3, h4]
  by_cases h5 : m5 = n5
  rotate_left
  · simp [go_sem, part, h1, h2, h3, h4, h5]
  subst h1 h2 h3 h4 h5
  cases x with
  | false => simp [go_sem, part, c3]
  | true =>
    by_cases h8 : m8 = n8
    · cases m6 <;> cases n6 <;> cases m7 <;> cases n7 <;> simp [go_sem, part, c3, h8]
    · cases m6 <;> cases n6 <;> cases m7 <;> cases n7 <;> simp [go_sem, part, c3, h8]
theorem eqM {ops : Array Oper} {rest : List Oper} {o : Oper} {a : Act} {w : World} {Q : Exit → Act → World → Prop} {m n : Mb} {cm cn : Array Value} (h1 : mba m = cm) (h2 : mba n = cn) {b : Bool} (hb : mE m n = b) (x y : Operand) (ho : o.op = .binOp .eql 39 x y 39)
    (hx : a.eval x = .agg cm) (hy : a.eval y = .agg cn) (hw : Region.wanted o (yielded ops a.tmps) = true) (k : wpList Tryz.prog ops Q rest (a.put o.dst (.bool b)) w) : wpList Tryz.prog ops Q (o :: rest) a w := by
  subst h1 h2 hb
  refine rd_guard hw ?_ k
  have h3 := run_eqGuard_agg (P := Tryz.prog) w .eql 39 x y (mba m) (mba n) Tryz.eqGuardType39
  have h4 := run_eql_struct (P := Tryz.prog) w 39 (mba m) (mba n)
  rw [run_eqM] at h4
  simp [execOp, ho, hx, hy, h3, h4, Sem.run_bind, Result.andThen]
theorem neM {ops : Array Oper} {rest : List Oper} {o : Oper} {a : Act} {w : World} {Q : Exit → Act → World → Prop} {m n : Mb} {cm cn : Array Value} (h1 : mba m = cm) (h2 : mba n = cn) {b : Bool} (hb : mE m n = b) (x y : Operand) (ho : o.op = .binOp .neq 39 x y 39)
    (hx : a.eval x = .agg cm) (hy : a.eval y = .agg cn) (hw : Region.wanted o (yielded ops a.tmps) = true) (k : wpList Tryz.prog ops Q rest (a.put o.dst (.bool (!b))) w) : wpList Tryz.prog ops Q (o :: rest) a w := by
  subst h1 h2 hb
  refine rd_guard hw ?_ k
  have h3 := run_eqGuard_agg (P := Tryz.prog) w .neq 39 x y (mba m) (mba n) Tryz.eqGuardType39
  have h4 := run_neq_struct (P := Tryz.prog) w 39 (mba m) (mba n)
  rw [run_eqM] at h4
  simp [execOp, ho, hx, hy, h3, h4, Sem.run_bind, Result.andThen]
theorem eq3 {ops : Array Oper} {rest : List Oper} {o : Oper} {ac : Act} {w : World} {Q : Exit → Act → World → Prop} {a b c a' b' c' : Ky} {r : Bool} (hb : pE a b c a' b' c' = r) (x y : Operand) (ho : o.op = .binOp .eql 37 x y 37)
    (hx : ac.eval x = .agg (pal a b c).toArray) (hy : ac.eval y = .agg (pal a' b' c').toArray) (hw : Region.wanted o (yielded ops ac.tmps) = true) (k : wpList Tryz.prog ops Q rest (ac.put o.dst (.bool r)) w) : wpList Tryz.prog ops Q (o :: rest) ac w := by
  subst hb
  refine rd_guard hw ?_ k
  have h3 := run_eqGuard_agg (P := Tryz.prog) w .eql 37 x y (pal a b c).toArray (pal a' b' c').toArray Tryz.eqGuardType37
  have h4 := run_eql_struct (P := Tryz.prog) w 37 (pal a b c).toArray (pal a' b' c').toArray
  rw [run_eq3 9997] at h4
  simp [execOp, ho, hx, hy, h3, h4, Sem.run_bind, Result.andThen]
theorem ne3 {ops : Array Oper} {rest : List Oper} {o : Oper} {ac : Act} {w : World} {Q : Exit → Act → World → Prop} {a b c a' b' c' : Ky} {r : Bool} (hb : pE a b c a' b' c' = r) (x y : Operand) (ho : o.op = .binOp .neq 37 x y 37)
    (hx : ac.eval x = .agg (pal a b c).toArray) (hy : ac.eval y = .agg (pal a' b' c').toArray) (hw : Region.wanted o (yielded ops ac.tmps) = true) (k : wpList Tryz.prog ops Q rest (ac.put o.dst (.bool (!r))) w) : wpList Tryz.prog ops Q (o :: rest) ac w := by
  subst hb
  refine rd_guard hw ?_ k
  have h3 := run_eqGuard_agg (P := Tryz.prog) w .neq 37 x y (pal a b c).toArray (pal a' b' c').toArray Tryz.eqGuardType37
  have h4 := run_neq_struct (P := Tryz.prog) w 37 (pal a b c).toArray (pal a' b' c').toArray
  rw [run_eq3 9997] at h4
  simp [execOp, ho, hx, hy, h3, h4, Sem.run_bind, Result.andThen]
/- Whole states loaded and stored; answers. -/
theorem ldMb {ops : Array Oper} {rest : List Oper} {o : Oper} {a : Act} {w : World} {Q : Exit → Act → World → Prop} {B : Nat} {m : Mb} {cm : Array Value} (h : MA w B m) (h1 : mba m = cm) (x : Operand) (ho : o.op = .load 39 x) (hx : a.eval x = .pointer (some ⟨B, 0, none⟩)) (hw : Region.wanted o (yielded ops a.tmps) = true)
    (k : wpList Tryz.prog ops Q rest (a.put o.dst (.agg cm)) w) : wpList Tryz.prog ops Q (o :: rest) a w := by
  subst h1
  exact ldM h.all Tryz.underlying39 rfl infoMb x ho hx hw k
theorem stMb {ops : Array Oper} {rest : List Oper} {o : Oper} {a : Act} {w : World} {Q : Exit → Act → World → Prop} {B : Nat} {m n : Mb} {cn : Array Value} (h : MA w B m) (h1 : mba n = cn) (hgd : o.guard = none) (x y : Operand) (ho : o.op = .store 39 x y) (hx : a.eval x = .pointer (some ⟨B, 0, none⟩)) (hy : a.eval y = .agg cn)
    (k : wpList Tryz.prog ops Q rest (a.put o.dst undef) (w.setRow B (mba n))) : wpList Tryz.prog ops Q (o :: rest) a w := by
  subst h1
  exact stRow infoMb (cs := mba m) (mba_size m) h (mba n) (mba_size n) (mba_one n) hgd x y ho hx hy k
theorem ldPa {ops : Array Oper} {rest : List Oper} {o : Oper} {a : Act} {w : World} {Q : Exit → Act → World → Prop} {B : Nat} {m : Mb} (h : MA w B m) (x : Operand) (ho : o.op = .load 37 x) (hx : a.eval x = .pointer (some ⟨B, 5, none⟩)) (hw : Region.wanted o (yielded ops a.tmps) = true)
    (k : wpList Tryz.prog ops Q rest (a.put o.dst (.agg (pal m.p0 m.p1 m.p2).toArray)) w) : wpList Tryz.prog ops Q (o :: rest) a w := ldM h.path Tryz.underlying37 rfl szPath x ho hx hw k
theorem resOne {T : TypeId} {fn : Func} {p : Tmp} (hf : fn.results = #[.cell p T]) (tmps : Array Value) (W : World) (B : Nat) (cs : Array Value) (hp : tmps[p]? = some (.pointer (some ⟨B, 0, none⟩))) (h : (loadVar T ⟨B, 0, none⟩).run Tryz.prog W = .ok (.agg cs) W) :
    (results fn tmps).run Tryz.prog W = .ok (.agg cs) W := by
  simp [results, hf, hp, asAddr, h]
end Go.Proofs.YtpimbpfefhkojaaGreat.Mb
/- Contracts: the small tests of package member and of the document's answer; Kind, Restart. -/
namespace Go.Proofs.YtpimbpfefhkojaaGreat.Mb
open Go.RowKit Go.Maps
open Rt (Ky zK gd pcs KyAt)
open Wi (gR gE gW gS gI gB gK ldM stM rd_guard ra_of th_of ra_later)
set_option linter.unusedVariables false
set_option linter.unusedSimpArgs false

theorem mGoodEpoch_any (n : Int) (w : World) : Calls Tryz.prog 85 #[.int .i64 n] w fun e w' => e = .returned (.bool (gE n)) ∧ w' = w := by
  by_cases h0 : 1 ≤ n
  · by_cases h1 : n ≤ 200
    · go_enter Tryz.func85, Tryz.ntmps85
      go_wp2
      go_ret
      exact ⟨ret_bool (by simp [Wi.gE, h0, h1]), rfl⟩
    · go_enter Tryz.func85, Tryz.ntmps85
      go_wp2
      go_ret
      exact ⟨ret_bool (by simp [Wi.gE, h0, h1]), rfl⟩
  · go_enter Tryz.func85, Tryz.ntmps85
    go_wp2
    go_ret
    exact ⟨ret_bool (by simp [Wi.gE]; omega), rfl⟩
theorem mGoodWho_any (n : Int) (w : World) : Calls Tryz.prog 84 #[.int .i64 n] w fun e w' => e = .returned (.bool (gW n)) ∧ w' = w := by
  by_cases h0 : 0 ≤ n
  · by_cases h1 : n < 256
    · go_enter Tryz.func84, Tryz.ntmps84
      go_wp2
      go_ret
      exact ⟨ret_bool (by simp [Wi.gW, h0, h1]), rfl⟩
    · go_enter Tryz.func84, Tryz.ntmps84
      go_wp2
      go_ret
      exact ⟨ret_bool (by simp [Wi.gW, h0, h1]), rfl⟩
  · go_enter Tryz.func84, Tryz.ntmps84
    go_wp2
    go_ret
    exact ⟨ret_bool (by simp [Wi.gW]; omega), rfl⟩
def bhv (b e : Int) : Bool := decide (b = 0) || (decide (e < b) && decide (b ≤ 200))
theorem goodBehind_any (b e : Int) (w : World) : Calls Tryz.prog 64 #[.int .i64 b, .int .i64 e] w fun r w' => r = .returned (.bool (bhv b e)) ∧ w' = w := by
  by_cases h0 : b = 0
  · subst h0
    go_enter Tryz.func64, Tryz.ntmps64
    go_wp2
    go_ret
    exact ⟨ret_bool (by simp [bhv]), rfl⟩
  · have d0 : (b == 0) = false := by simpa using h0
    by_cases h1 : e < b
    · by_cases h2 : b ≤ 200
      · go_enter Tryz.func64, Tryz.ntmps64
        go_wp2
        go_ret
        exact ⟨ret_bool (by simp [bhv, h0, h1, h2]), rfl⟩
      · go_enter Tryz.func64, Tryz.ntmps64
        go_wp2
        go_ret
        exact ⟨ret_bool (by simp [bhv, h0, h1, h2]), rfl⟩
    · go_enter Tryz.func64, Tryz.ntmps64
      go_wp2
      go_ret
      exact ⟨ret_bool (by simp [bhv, h0]; omega), rfl⟩
theorem lef_slot (s : Int) : decide (0 ≤ Sh.lef s) = (decide (0 ≤ s) && decide (s < 64)) := by
  unfold Sh.lef
  by_cases h0 : 0 ≤ s
  · by_cases h1 : s < 64
    · rw [if_pos ⟨h0, h1⟩]; simp [h0, h1]; omega
    · rw [if_neg (by omega)]; simp [h0, h1]
  · rw [if_neg (by omega)]; simp [h0]
theorem gCd_of (W S P b s : Int) : gCd W S P ⟨b, s⟩ = (gW W && (decide (0 ≤ Sh.lef S) && (gE P && gd b s))) := by rw [lef_slot]; rfl
set_option maxHeartbeats 1000000 in
theorem goodCard_any (W S P b s : Int) (w : World) : Calls Tryz.prog 63 #[.agg #[.int .i64 W, .int .i64 S, .int .i64 P, .int .i64 b, .int .i64 s] ] w fun e w' => e = .returned (.bool (gCd W S P ⟨b, s⟩)) ∧ Below w.heap.size w w' := by
  rw [gCd_of]
  have h1 := mGoodWho_any W
  have h2 := Sh.leaf_any S
  have h3 := mGoodEpoch_any P
  have h4 := Rt.good_any b s
  generalize gW W = g1 at *
  generalize Sh.lef S = x at *
  generalize gE P = g3 at *
  generalize gd b s = g4 at *
  cases g1 with
  | false =>
    go_enter Tryz.func63, Tryz.ntmps63
    go_wp2_with (go_at_call 84; refine (h1 _).mono ?_; rintro r w' ⟨rfl, rfl⟩)
    go_ret
    exact ⟨rfl, below_alloc _ _⟩
  | true =>
    by_cases hx : 0 ≤ x
    · have HX : Hid (decide (0 ≤ x) = true) := decide_eq_true hx
      cases g3 with
      | false =>
        go_enter Tryz.func63, Tryz.ntmps63
        go_wp2_with (first | (go_at_call 84; refine (h1 _).mono ?_; rintro r w' ⟨rfl, rfl⟩) | (go_at_call 73; refine (h2 _).mono ?_; rintro r w' ⟨rfl, rfl⟩) | (go_at_call 85; refine (h3 _).mono ?_; rintro r w' ⟨rfl, rfl⟩))
        go_ret
        exact ⟨ret_bool (by rw [HX.out]; rfl), below_alloc _ _⟩
      | true =>
        go_enter Tryz.func63, Tryz.ntmps63
        go_wp2_with (first | (go_at_call 84; refine (h1 _).mono ?_; rintro r w' ⟨rfl, rfl⟩) | (go_at_call 73; refine (h2 _).mono ?_; rintro r w' ⟨rfl, rfl⟩) | (go_at_call 85; refine (h3 _).mono ?_; rintro r w' ⟨rfl, rfl⟩))
        refine (h4 _).mono ?_
        rintro r w2 ⟨rfl, rfl⟩
        go_wp2_with fail
        go_ret
        exact ⟨ret_bool (by rw [HX.out]; cases g4 <;> rfl), Wi.Below.plus (below_alloc _ _) _⟩
    · have HX : Hid (decide (0 ≤ x) = false) := decide_eq_false hx
      go_enter Tryz.func63, Tryz.ntmps63
      go_wp2_with (first | (go_at_call 84; refine (h1 _).mono ?_; rintro r w' ⟨rfl, rfl⟩) | (go_at_call 73; refine (h2 _).mono ?_; rintro r w' ⟨rfl, rfl⟩))
      go_ret
      exact ⟨ret_bool (by rw [HX.out]; rfl), below_alloc _ _⟩
end Go.Proofs.YtpimbpfefhkojaaGreat.Mb
/- Contracts: goodPath, putOut, kindOut, Kind, holdsSeat, Restart. -/
namespace Go.Proofs.YtpimbpfefhkojaaGreat.Mb
open Go.RowKit Go.Maps
open Rt (Ky zK gd pcs KyAt)
open Wi (gR gE gW gS gI gB gK ldM stM rd_guard ra_of th_of ra_later)
set_option linter.unusedVariables false
set_option linter.unusedSimpArgs false

theorem ix0 (a b c d e f : Value) (w : World) : (Instr.index 37 (.agg #[a, b, c, d, e, f]) (.int .i64 0)).run Tryz.prog w = .ok (.agg #[a, b]) w := by kernel_rfl
theorem ix1 (a b c d e f : Value) (w : World) : (Instr.index 37 (.agg #[a, b, c, d, e, f]) (.int .i64 1)).run Tryz.prog w = .ok (.agg #[c, d]) w := by kernel_rfl
theorem ix2 (a b c d e f : Value) (w : World) : (Instr.index 37 (.agg #[a, b, c, d, e, f]) (.int .i64 2)).run Tryz.prog w = .ok (.agg #[e, f]) w := by kernel_rfl
def gp (a b c : Ky) : Bool := gk a && (gk b && gk c)
set_option maxRecDepth 100000 in
set_option maxHeartbeats 1000000 in
theorem goodPath_any (a b c : Ky) (w : World) : Calls Tryz.prog 65 #[.agg (pal a b c).toArray] w fun e w' => e = .returned (.bool (gp a b c)) ∧ Below w.heap.size w w' := by
  obtain ⟨a1, a2⟩ := a
  obtain ⟨b1, b2⟩ := b
  obtain ⟨c1, c2⟩ := c
  have h0 := Rt.good_any a1 a2
  have h1 := Rt.good_any b1 b2
  have h2 := Rt.good_any c1 c2
  unfold gp gk pal
  dsimp only
  generalize gd a1 a2 = g0 at *
  generalize gd b1 b2 = g1 at *
  generalize gd c1 c2 = g2 at *
  have q0 := ix0
  have q1 := ix1
  have q2 := ix2
  go_enter Tryz.func65, Tryz.ntmps65
  go_wp2_with fail
  refine wp_loop_rounds 4 ?_
  rw [rounds_succ]; go_wp2_with fail
  refine (h0 _).mono ?_
  rintro r w2 ⟨rfl, rfl⟩
  cases g0 with
  | false =>
    go_wp2_with fail
    go_ret
    exact ⟨rfl, Wi.Below.plus (Wi.Below.plus (below_alloc _ _) _) _⟩
  | true =>
    go_wp2_with fail
    rw [rounds_succ]; go_wp2_with fail
    refine (h1 _).mono ?_
    rintro r w3 ⟨rfl, rfl⟩
    cases g1 with
    | false =>
      go_wp2_with fail
      go_ret
      exact ⟨rfl, Wi.Below.plus (Wi.Below.plus (Wi.Below.plus (Wi.Below.plus (below_alloc _ _) _) _) _) _⟩
    | true =>
      go_wp2_with fail
      rw [rounds_succ]; go_wp2_with fail
      refine (h2 _).mono ?_
      rintro r w4 ⟨rfl, rfl⟩
      cases g2 with
      | false =>
        go_wp2_with fail
        go_ret
        exact ⟨rfl, Wi.Below.plus (Wi.Below.plus (Wi.Below.plus (Wi.Below.plus (Wi.Below.plus (Wi.Below.plus (below_alloc _ _) _) _) _) _) _) _⟩
      | true =>
        go_wp2_with fail
        rw [rounds_succ]; go_wp2_with fail
        go_ret
        exact ⟨rfl, Wi.Below.plus (Wi.Below.plus (Wi.Below.plus (Wi.Below.plus (Wi.Below.plus (Wi.Below.plus (below_alloc _ _) _) _) _) _) _) _⟩
structure S1 (w W : World) (B : Nat) (m : Mb) : Prop where
  mb : MA W B m
  bel : Below w.heap.size w W
theorem S1.later {w W W' : World} {B : Nat} {m : Mb} (h : S1 w W B m) (hb : Below W.heap.size W W') : S1 w W' B m := ⟨h.mb.later hb, h.bel.trans (hb.mono h.bel.size)⟩
theorem S1.new (w : World) (m : Mb) : S1 w (w.alloc (.cells (mba m) 39)) w.heap.size m := ⟨MA.new w m, below_alloc _ _⟩
structure S2 (w W : World) (B K : Nat) (m n : Mb) : Prop where
  mb : MA W B m
  re : MA W K n
  bel : Below w.heap.size w W
  ge : w.heap.size ≤ K
  ne : B ≠ K
theorem S2.later {w W W' : World} {B K : Nat} {m n : Mb} (h : S2 w W B K m n) (hb : Below W.heap.size W W') : S2 w W' B K m n := ⟨h.mb.later hb, h.re.later hb, h.bel.trans (hb.mono h.bel.size), h.ge, h.ne⟩
theorem S2.new (w : World) (m n : Mb) : S2 w ((w.alloc (.cells (mba m) 39)).alloc (.cells (mba n) 39)) w.heap.size (w.heap.size + 1) m n := by
  have h2 := MA.new (w.alloc (.cells (mba m) 39)) n
  rw [World.size_alloc] at h2
  exact ⟨(MA.new w m).later (below_alloc _ _), h2, Wi.Below.plus (below_alloc _ _) _, by omega, by omega⟩
theorem S2.row {w W : World} {B K : Nat} {m n : Mb} (h : S2 w W B K m n) (k : Mb) : S2 w (W.setRow K (mba k)) B K m k := ⟨(Rt.row_other h.ne _).trans h.mb, h.re.row k, Rt.setRow_below h.ge h.bel _, h.ge, h.ne⟩
set_option maxRecDepth 100000 in
theorem putOut_any (m : Mb) (e : Int) (w : World) : Calls Tryz.prog 86 #[.agg (mba m), .int .i64 e] w fun r w' => r = .returned (.agg (mba (outM m.who e))) ∧ Below w.heap.size w w' := by
  have hS := S2.new w m zMb
  obtain ⟨cm, hcm⟩ : ∃ c, mba m = c := ⟨_, rfl⟩
  rw [hcm] at hS
  rw [hcm]
  clear hcm
  go_enter Tryz.func86, Tryz.ntmps86
  go_upto_region 1 with (fail)
  rw [zMb_eq]
  generalize (w.alloc (.cells cm 39)).alloc (.cells (mba zMb) 39) = w1 at *
  obtain ⟨K, hK⟩ : ∃ K, w.heap.size + 1 = K := ⟨_, rfl⟩
  obtain ⟨B, hB⟩ : ∃ B, w.heap.size = B := ⟨_, rfl⟩
  rw [hK, hB] at hS ⊢
  clear hK hB
  have c0 := hS.mb.who
  go_wp2_with (refine stMb (n := outM m.who e) hS.re rfl rfl _ _ rfl rfl rfl ?_)
  refine bodyPost_ret (resOne (p := 4) rfl _ _ K (mba (outM m.who e)) rfl (hS.re.row (outM m.who e)).var) rfl ?_
  exact ⟨rfl, (hS.row _).bel⟩
theorem eqM_exec {o : Oper} {a : Act} {w : World} {m n : Mb} {cm cn : Array Value} (h1 : mba m = cm) (h2 : mba n = cn) {b : Bool} (hb : mE m n = b) {x y : Operand} (ho : o.op = .binOp .eql 39 x y 39)
    (hx : a.eval x = .agg cm) (hy : a.eval y = .agg cn) : (execOp a.eval o).run Tryz.prog w = .ok (.value (.bool b)) w := by
  subst h1 h2 hb
  have h3 := run_eqGuard_agg (P := Tryz.prog) w .eql 39 x y (mba m) (mba n) Tryz.eqGuardType39
  have h4 := run_eql_struct (P := Tryz.prog) w 39 (mba m) (mba n)
  rw [run_eqM] at h4
  simp [execOp, ho, hx, hy, h3, h4, Sem.run_bind, Result.andThen]
theorem ldMb_exec {w : World} {o : Oper} {a : Act} {B : Nat} {m : Mb} {cm : Array Value} (h : MA w B m) (h1 : mba m = cm) {x : Operand} (ho : o.op = .load 39 x) (hx : a.eval x = .pointer (some ⟨B, 0, none⟩)) :
    (execOp a.eval o).run Tryz.prog w = .ok (.value (.agg cm)) w := by
  subst h1
  have h2 := run_loadAt_mid w B 0 39 (mbl m) _ h.all Tryz.underlying39 rfl infoMb
  simp [execOp, ho, hx, h2, Sem.run_bind, Result.andThen]
  rfl
def koV (m : Mb) : Int := if mE m (outM m.who m.ep) && (gW m.who && gE m.ep) then 1 else -1
set_option maxRecDepth 100000 in
set_option maxHeartbeats 1000000 in
theorem kindOut_any (m : Mb) (w : World) : Calls Tryz.prog 62 #[.agg (mba m)] w fun r w' => r = .returned (.int .i64 (koV m)) ∧ Below w.heap.size w w' := by
  have hS := S1.new w m
  have h1 := mGoodWho_any m.who
  have h2 := mGoodEpoch_any m.ep
  have h3 := putOut_any m m.ep
  obtain ⟨cm, hcm⟩ : ∃ c, mba m = c := ⟨_, rfl⟩
  have HC : Hid (mba m = cm) := hcm
  rw [hcm] at hS
  simp only [hcm] at h3
  rw [hcm]
  clear hcm
  go_enter Tryz.func62, Tryz.ntmps62
  go_upto_region 1 with (fail)
  generalize w.alloc (.cells cm 39) = w1 at *
  obtain ⟨B, hB⟩ : ∃ B, w.heap.size = B := ⟨_, rfl⟩
  rw [hB] at hS ⊢
  clear hB
  have hS0 : S1 w w1.drew B m := hS.later (drew_below _)
  clear hS
  cases g1 : gW m.who with
  | false =>
    have HE : Hid (koV m = -1) := by unfold Hid koV; rw [g1]; simp
    rw [g1] at h1
    clear g1 h2 h3
    refine wp_region_held_drew (S := fun W => S1 w W B m) (by kernel_rfl) hS0 (fun hHeld => ?_)
    refine wpAnyH_take (i := 0) (oi := { dst := some 3, op := Op.fieldAddr 39 (Operand.tmp 1) 0, type := _, pos := _, after := _, guard := none }) (v := .pointer (some ⟨B, 0, none⟩)) rfl (by kernel_rfl) (by kernel_rfl) (by kernel_rfl) (fun _ _ _ h => h) (Or.inl ⟨by rfl, fun w hSw => by (try dsimp only at hSw); go_simp⟩) (by assumption) ?_
    simp only [Act.put, List.setIfInBounds_toArray, List.set_cons_zero, List.set_cons_succ]
    refine wpAnyH_take (i := 1) (oi := { dst := some 4, op := Op.load 3 (Operand.tmp 3), type := _, pos := _, after := _, guard := none }) (v := .int .i64 m.who) rfl (by kernel_rfl) (by kernel_rfl) (by kernel_rfl) (fun _ _ _ h => h) (Or.inl ⟨by rfl, fun w hSw => by have c0 := hSw.mb.who; clear hSw; go_simp⟩) (by assumption) ?_
    simp only [Act.put, List.setIfInBounds_toArray, List.set_cons_zero, List.set_cons_succ]
    refine wpAnyH_ready (rs := [2]) (by kernel_rfl) (by simp) ?_
    refine AllReadyH.cons rfl (fun K hK => ?_) AllReadyH.nil
    go_simp
    refine (h1 _).mono ?_
    rintro r w3 ⟨rfl, rfl⟩
    go_wp2_with fail
    refine hK.out _ _ hHeld (fun hHeld2 => ?_)
    clear hHeld
    clear hK K
    try simp only [Act.put, List.setIfInBounds_toArray, List.set_cons_zero, List.set_cons_succ]
    refine wpAnyH_take (i := 3) (oi := { dst := some 6, op := Op.move (Operand.tmp 5), type := _, pos := _, after := _, guard := none }) (v := .bool false) rfl (by kernel_rfl) (by kernel_rfl) (by kernel_rfl) (fun _ _ _ h => h) (Or.inl ⟨by rfl, fun w hSw => by (try dsimp only at hSw); go_simp⟩) (by assumption) ?_
    simp only [Act.put, List.setIfInBounds_toArray, List.set_cons_zero, List.set_cons_succ]
    refine wpAnyH_take (i := 4) (oi := { dst := some 7, op := Op.fieldAddr 39 (Operand.tmp 1) 2, type := _, pos := _, after := _, guard := some (3, true) }) (v := undef) rfl (by kernel_rfl) (by kernel_rfl) (by kernel_rfl) (fun _ _ _ h => h) (Or.inr ⟨by rfl, rfl⟩) (by assumption) ?_
    simp only [Act.put, List.setIfInBounds_toArray, List.set_cons_zero, List.set_cons_succ]
    refine wpAnyH_take (i := 5) (oi := { dst := some 8, op := Op.load 3 (Operand.tmp 7), type := _, pos := _, after := _, guard := some (3, true) }) (v := undef) rfl (by kernel_rfl) (by kernel_rfl) (by kernel_rfl) (fun _ _ _ h => h) (Or.inr ⟨by rfl, rfl⟩) (by assumption) ?_
    simp only [Act.put, List.setIfInBounds_toArray, List.set_cons_zero, List.set_cons_succ]
    refine wpAnyH_take (i := 6) (oi := { dst := some 9, op := Op.call { callee := Callee.value (Operand.func 85), args := #[(Operand.tmp 8)], argTypes := #[3] }, type := _, pos := _, after := _, guard := some (3, true) }) (v := undef) rfl (by kernel_rfl) (by kernel_rfl) (by kernel_rfl) (fun _ _ _ h => h) (Or.inr ⟨by rfl, rfl⟩) (by assumption) ?_
    simp only [Act.put, List.setIfInBounds_toArray, List.set_cons_zero, List.set_cons_succ]
    refine wpAnyH_take (i := 7) (oi := { dst := some 10, op := Op.pick (Operand.tmp 6) (Operand.tmp 9) (Operand.const (Value.bool false)), type := _, pos := _, after := _, guard := none }) (v := .bool false) rfl (by kernel_rfl) (by kernel_rfl) (by kernel_rfl) (fun _ _ _ h => h) (Or.inl ⟨by rfl, fun w hSw => by (try dsimp only at hSw); go_simp⟩) (by assumption) ?_
    simp only [Act.put, List.setIfInBounds_toArray, List.set_cons_zero, List.set_cons_succ]
    refine wpAnyH_take (i := 8) (oi := { dst := some 11, op := Op.move (Operand.tmp 10), type := _, pos := _, after := _, guard := none }) (v := .bool false) rfl (by kernel_rfl) (by kernel_rfl) (by kernel_rfl) (fun _ _ _ h => h) (Or.inl ⟨by rfl, fun w hSw => by (try dsimp only at hSw); go_simp⟩) (by assumption) ?_
    simp only [Act.put, List.setIfInBounds_toArray, List.set_cons_zero, List.set_cons_succ]
    refine wpAnyH_take (i := 9) (oi := { dst := some 12, op := Op.load 39 (Operand.tmp 1), type := _, pos := _, after := _, guard := some (8, true) }) (v := undef) rfl (by kernel_rfl) (by kernel_rfl) (by kernel_rfl) (fun _ _ _ h => h) (Or.inr ⟨by rfl, rfl⟩) (by assumption) ?_
    simp only [Act.put, List.setIfInBounds_toArray, List.set_cons_zero, List.set_cons_succ]
    refine wpAnyH_take (i := 10) (oi := { dst := some 13, op := Op.load 39 (Operand.tmp 1), type := _, pos := _, after := _, guard := some (8, true) }) (v := undef) rfl (by kernel_rfl) (by kernel_rfl) (by kernel_rfl) (fun _ _ _ h => h) (Or.inr ⟨by rfl, rfl⟩) (by assumption) ?_
    simp only [Act.put, List.setIfInBounds_toArray, List.set_cons_zero, List.set_cons_succ]
    refine wpAnyH_take (i := 11) (oi := { dst := some 14, op := Op.fieldAddr 39 (Operand.tmp 1) 2, type := _, pos := _, after := _, guard := some (8, true) }) (v := undef) rfl (by kernel_rfl) (by kernel_rfl) (by kernel_rfl) (fun _ _ _ h => h) (Or.inr ⟨by rfl, rfl⟩) (by assumption) ?_
    simp only [Act.put, List.setIfInBounds_toArray, List.set_cons_zero, List.set_cons_succ]
    refine wpAnyH_take (i := 12) (oi := { dst := some 15, op := Op.load 3 (Operand.tmp 14), type := _, pos := _, after := _, guard := some (8, true) }) (v := undef) rfl (by kernel_rfl) (by kernel_rfl) (by kernel_rfl) (fun _ _ _ h => h) (Or.inr ⟨by rfl, rfl⟩) (by assumption) ?_
    simp only [Act.put, List.setIfInBounds_toArray, List.set_cons_zero, List.set_cons_succ]
    refine wpAnyH_take (i := 13) (oi := { dst := some 16, op := Op.call { callee := Callee.value (Operand.func 86), args := #[(Operand.tmp 13), (Operand.tmp 15)], argTypes := #[39, 3] }, type := _, pos := _, after := _, guard := some (8, true) }) (v := undef) rfl (by kernel_rfl) (by kernel_rfl) (by kernel_rfl) (fun _ _ _ h => h) (Or.inr ⟨by rfl, rfl⟩) (by assumption) ?_
    simp only [Act.put, List.setIfInBounds_toArray, List.set_cons_zero, List.set_cons_succ]
    refine wpAnyH_take (i := 14) (oi := { dst := some 17, op := Op.binOp BinOp.eql 39 (Operand.tmp 12) (Operand.tmp 16) 39, type := _, pos := _, after := _, guard := some (8, true) }) (v := undef) rfl (by kernel_rfl) (by kernel_rfl) (by kernel_rfl) (fun _ _ _ h => h) (Or.inr ⟨by rfl, rfl⟩) (by assumption) ?_
    simp only [Act.put, List.setIfInBounds_toArray, List.set_cons_zero, List.set_cons_succ]
    refine wpAnyH_take (i := 15) (oi := { dst := some 18, op := Op.pick (Operand.tmp 11) (Operand.tmp 17) (Operand.const (Value.bool false)), type := _, pos := _, after := _, guard := none }) (v := .bool false) rfl (by kernel_rfl) (by kernel_rfl) (by kernel_rfl) (fun _ _ _ h => h) (Or.inl ⟨by rfl, fun w hSw => by (try dsimp only at hSw); go_simp⟩) (by assumption) ?_
    simp only [Act.put, List.setIfInBounds_toArray, List.set_cons_zero, List.set_cons_succ]
    refine wpAnyH_done (by kernel_rfl) ?_ _
    go_wp2_with fail
    go_ret
    exact ⟨ret_int HE.out.symm, hHeld2.bel⟩
  | true =>
    rw [g1] at h1
    cases g2 : gE m.ep with
    | false =>
      have HE : Hid (koV m = -1) := by unfold Hid koV; rw [g2]; simp
      rw [g2] at h2
      clear g1 g2 h3
      refine wp_region_held_drew (S := fun W => S1 w W B m) (by kernel_rfl) hS0 (fun hHeld => ?_)
      refine wpAnyH_take (i := 0) (oi := { dst := some 3, op := Op.fieldAddr 39 (Operand.tmp 1) 0, type := _, pos := _, after := _, guard := none }) (v := .pointer (some ⟨B, 0, none⟩)) rfl (by kernel_rfl) (by kernel_rfl) (by kernel_rfl) (fun _ _ _ h => h) (Or.inl ⟨by rfl, fun w hSw => by (try dsimp only at hSw); go_simp⟩) (by assumption) ?_
      simp only [Act.put, List.setIfInBounds_toArray, List.set_cons_zero, List.set_cons_succ]
      refine wpAnyH_take (i := 1) (oi := { dst := some 4, op := Op.load 3 (Operand.tmp 3), type := _, pos := _, after := _, guard := none }) (v := .int .i64 m.who) rfl (by kernel_rfl) (by kernel_rfl) (by kernel_rfl) (fun _ _ _ h => h) (Or.inl ⟨by rfl, fun w hSw => by have c0 := hSw.mb.who; clear hSw; go_simp⟩) (by assumption) ?_
      simp only [Act.put, List.setIfInBounds_toArray, List.set_cons_zero, List.set_cons_succ]
      refine wpAnyH_ready (rs := [2]) (by kernel_rfl) (by simp) ?_
      refine AllReadyH.cons rfl (fun K hK => ?_) AllReadyH.nil
      go_simp
      refine (h1 _).mono ?_
      rintro r w3 ⟨rfl, rfl⟩
      go_wp2_with fail
      refine hK.out _ _ hHeld (fun hHeld2 => ?_)
      clear hHeld
      clear hK K
      try simp only [Act.put, List.setIfInBounds_toArray, List.set_cons_zero, List.set_cons_succ]
      refine wpAnyH_take (i := 3) (oi := { dst := some 6, op := Op.move (Operand.tmp 5), type := _, pos := _, after := _, guard := none }) (v := .bool true) rfl (by kernel_rfl) (by kernel_rfl) (by kernel_rfl) (fun _ _ _ h => h) (Or.inl ⟨by rfl, fun w hSw => by (try dsimp only at hSw); go_simp⟩) (by assumption) ?_
      simp only [Act.put, List.setIfInBounds_toArray, List.set_cons_zero, List.set_cons_succ]
      refine wpAnyH_take (i := 4) (oi := { dst := some 7, op := Op.fieldAddr 39 (Operand.tmp 1) 2, type := _, pos := _, after := _, guard := some (3, true) }) (v := .pointer (some ⟨B, 2, none⟩)) rfl (by kernel_rfl) (by kernel_rfl) (by kernel_rfl) (fun _ _ _ h => h) (Or.inl ⟨by rfl, fun w hSw => by (try dsimp only at hSw); go_simp⟩) (by assumption) ?_
      simp only [Act.put, List.setIfInBounds_toArray, List.set_cons_zero, List.set_cons_succ]
      refine wpAnyH_take (i := 5) (oi := { dst := some 8, op := Op.load 3 (Operand.tmp 7), type := _, pos := _, after := _, guard := some (3, true) }) (v := .int .i64 m.ep) rfl (by kernel_rfl) (by kernel_rfl) (by kernel_rfl) (fun _ _ _ h => h) (Or.inl ⟨by rfl, fun w hSw => by have c0 := hSw.mb.ep; clear hSw; go_simp⟩) (by assumption) ?_
      simp only [Act.put, List.setIfInBounds_toArray, List.set_cons_zero, List.set_cons_succ]
      refine wpAnyH_ready (rs := [6]) (by kernel_rfl) (by simp) ?_
      refine AllReadyH.cons rfl (fun K hK => ?_) AllReadyH.nil
      go_simp
      refine (h2 _).mono ?_
      rintro r w3 ⟨rfl, rfl⟩
      go_wp2_with fail
      refine hK.out _ _ hHeld2 (fun hHeld3 => ?_)
      clear hHeld2
      clear hK K
      try simp only [Act.put, List.setIfInBounds_toArray, List.set_cons_zero, List.set_cons_succ]
      refine wpAnyH_take (i := 7) (oi := { dst := some 10, op := Op.pick (Operand.tmp 6) (Operand.tmp 9) (Operand.const (Value.bool false)), type := _, pos := _, after := _, guard := none }) (v := .bool false) rfl (by kernel_rfl) (by kernel_rfl) (by kernel_rfl) (fun _ _ _ h => h) (Or.inl ⟨by rfl, fun w hSw => by (try dsimp only at hSw); go_simp⟩) (by assumption) ?_
      simp only [Act.put, List.setIfInBounds_toArray, List.set_cons_zero, List.set_cons_succ]
      refine wpAnyH_take (i := 8) (oi := { dst := some 11, op := Op.move (Operand.tmp 10), type := _, pos := _, after := _, guard := none }) (v := .bool false) rfl (by kernel_rfl) (by kernel_rfl) (by kernel_rfl) (fun _ _ _ h => h) (Or.inl ⟨by rfl, fun w hSw => by (try dsimp only at hSw); go_simp⟩) (by assumption) ?_
      simp only [Act.put, List.setIfInBounds_toArray, List.set_cons_zero, List.set_cons_succ]
      refine wpAnyH_take (i := 9) (oi := { dst := some 12, op := Op.load 39 (Operand.tmp 1), type := _, pos := _, after := _, guard := some (8, true) }) (v := undef) rfl (by kernel_rfl) (by kernel_rfl) (by kernel_rfl) (fun _ _ _ h => h) (Or.inr ⟨by rfl, rfl⟩) (by assumption) ?_
      simp only [Act.put, List.setIfInBounds_toArray, List.set_cons_zero, List.set_cons_succ]
      refine wpAnyH_take (i := 10) (oi := { dst := some 13, op := Op.load 39 (Operand.tmp 1), type := _, pos := _, after := _, guard := some (8, true) }) (v := undef) rfl (by kernel_rfl) (by kernel_rfl) (by kernel_rfl) (fun _ _ _ h => h) (Or.inr ⟨by rfl, rfl⟩) (by assumption) ?_
      simp only [Act.put, List.setIfInBounds_toArray, List.set_cons_zero, List.set_cons_succ]
      refine wpAnyH_take (i := 11) (oi := { dst := some 14, op := Op.fieldAddr 39 (Operand.tmp 1) 2, type := _, pos := _, after := _, guard := some (8, true) }) (v := undef) rfl (by kernel_rfl) (by kernel_rfl) (by kernel_rfl) (fun _ _ _ h => h) (Or.inr ⟨by rfl, rfl⟩) (by assumption) ?_
      simp only [Act.put, List.setIfInBounds_toArray, List.set_cons_zero, List.set_cons_succ]
      refine wpAnyH_take (i := 12) (oi := { dst := some 15, op := Op.load 3 (Operand.tmp 14), type := _, pos := _, after := _, guard := some (8, true) }) (v := undef) rfl (by kernel_rfl) (by kernel_rfl) (by kernel_rfl) (fun _ _ _ h => h) (Or.inr ⟨by rfl, rfl⟩) (by assumption) ?_
      simp only [Act.put, List.setIfInBounds_toArray, List.set_cons_zero, List.set_cons_succ]
      refine wpAnyH_take (i := 13) (oi := { dst := some 16, op := Op.call { callee := Callee.value (Operand.func 86), args := #[(Operand.tmp 13), (Operand.tmp 15)], argTypes := #[39, 3] }, type := _, pos := _, after := _, guard := some (8, true) }) (v := undef) rfl (by kernel_rfl) (by kernel_rfl) (by kernel_rfl) (fun _ _ _ h => h) (Or.inr ⟨by rfl, rfl⟩) (by assumption) ?_
      simp only [Act.put, List.setIfInBounds_toArray, List.set_cons_zero, List.set_cons_succ]
      refine wpAnyH_take (i := 14) (oi := { dst := some 17, op := Op.binOp BinOp.eql 39 (Operand.tmp 12) (Operand.tmp 16) 39, type := _, pos := _, after := _, guard := some (8, true) }) (v := undef) rfl (by kernel_rfl) (by kernel_rfl) (by kernel_rfl) (fun _ _ _ h => h) (Or.inr ⟨by rfl, rfl⟩) (by assumption) ?_
      simp only [Act.put, List.setIfInBounds_toArray, List.set_cons_zero, List.set_cons_succ]
      refine wpAnyH_take (i := 15) (oi := { dst := some 18, op := Op.pick (Operand.tmp 11) (Operand.tmp 17) (Operand.const (Value.bool false)), type := _, pos := _, after := _, guard := none }) (v := .bool false) rfl (by kernel_rfl) (by kernel_rfl) (by kernel_rfl) (fun _ _ _ h => h) (Or.inl ⟨by rfl, fun w hSw => by (try dsimp only at hSw); go_simp⟩) (by assumption) ?_
      simp only [Act.put, List.setIfInBounds_toArray, List.set_cons_zero, List.set_cons_succ]
      refine wpAnyH_done (by kernel_rfl) ?_ _
      go_wp2_with fail
      go_ret
      exact ⟨ret_int HE.out.symm, hHeld3.bel⟩
    | true =>
      rw [g2] at h2
      obtain ⟨b, hb⟩ : ∃ b, mE m (outM m.who m.ep) = b := ⟨_, rfl⟩
      have HQ : Hid (mE m (outM m.who m.ep) = b) := hb
      have HE : Hid (koV m = if b then 1 else -1) := by unfold Hid koV; rw [g1, g2, hb]; simp
      obtain ⟨co, hco⟩ : ∃ c, mba (outM m.who m.ep) = c := ⟨_, rfl⟩
      have HO : Hid (mba (outM m.who m.ep) = co) := hco
      simp only [hco] at h3
      clear g1 g2 hb hco
      refine wp_region_held_drew (S := fun W => S1 w W B m) (by kernel_rfl) hS0 (fun hHeld => ?_)
      refine wpAnyH_take (i := 0) (oi := { dst := some 3, op := Op.fieldAddr 39 (Operand.tmp 1) 0, type := _, pos := _, after := _, guard := none }) (v := .pointer (some ⟨B, 0, none⟩)) rfl (by kernel_rfl) (by kernel_rfl) (by kernel_rfl) (fun _ _ _ h => h) (Or.inl ⟨by rfl, fun w hSw => by (try dsimp only at hSw); go_simp⟩) (by assumption) ?_
      simp only [Act.put, List.setIfInBounds_toArray, List.set_cons_zero, List.set_cons_succ]
      refine wpAnyH_take (i := 1) (oi := { dst := some 4, op := Op.load 3 (Operand.tmp 3), type := _, pos := _, after := _, guard := none }) (v := .int .i64 m.who) rfl (by kernel_rfl) (by kernel_rfl) (by kernel_rfl) (fun _ _ _ h => h) (Or.inl ⟨by rfl, fun w hSw => by have c0 := hSw.mb.who; clear hSw; go_simp⟩) (by assumption) ?_
      simp only [Act.put, List.setIfInBounds_toArray, List.set_cons_zero, List.set_cons_succ]
      refine wpAnyH_ready (rs := [2]) (by kernel_rfl) (by simp) ?_
      refine AllReadyH.cons rfl (fun K hK => ?_) AllReadyH.nil
      go_simp
      refine (h1 _).mono ?_
      rintro r w3 ⟨rfl, rfl⟩
      go_wp2_with fail
      refine hK.out _ _ hHeld (fun hHeld2 => ?_)
      clear hHeld
      clear hK K
      try simp only [Act.put, List.setIfInBounds_toArray, List.set_cons_zero, List.set_cons_succ]
      refine wpAnyH_take (i := 3) (oi := { dst := some 6, op := Op.move (Operand.tmp 5), type := _, pos := _, after := _, guard := none }) (v := .bool true) rfl (by kernel_rfl) (by kernel_rfl) (by kernel_rfl) (fun _ _ _ h => h) (Or.inl ⟨by rfl, fun w hSw => by (try dsimp only at hSw); go_simp⟩) (by assumption) ?_
      simp only [Act.put, List.setIfInBounds_toArray, List.set_cons_zero, List.set_cons_succ]
      refine wpAnyH_take (i := 4) (oi := { dst := some 7, op := Op.fieldAddr 39 (Operand.tmp 1) 2, type := _, pos := _, after := _, guard := some (3, true) }) (v := .pointer (some ⟨B, 2, none⟩)) rfl (by kernel_rfl) (by kernel_rfl) (by kernel_rfl) (fun _ _ _ h => h) (Or.inl ⟨by rfl, fun w hSw => by (try dsimp only at hSw); go_simp⟩) (by assumption) ?_
      simp only [Act.put, List.setIfInBounds_toArray, List.set_cons_zero, List.set_cons_succ]
      refine wpAnyH_take (i := 5) (oi := { dst := some 8, op := Op.load 3 (Operand.tmp 7), type := _, pos := _, after := _, guard := some (3, true) }) (v := .int .i64 m.ep) rfl (by kernel_rfl) (by kernel_rfl) (by kernel_rfl) (fun _ _ _ h => h) (Or.inl ⟨by rfl, fun w hSw => by have c0 := hSw.mb.ep; clear hSw; go_simp⟩) (by assumption) ?_
      simp only [Act.put, List.setIfInBounds_toArray, List.set_cons_zero, List.set_cons_succ]
      refine wpAnyH_ready (rs := [6]) (by kernel_rfl) (by simp) ?_
      refine AllReadyH.cons rfl (fun K hK => ?_) AllReadyH.nil
      go_simp
      refine (h2 _).mono ?_
      rintro r w3 ⟨rfl, rfl⟩
      go_wp2_with fail
      refine hK.out _ _ hHeld2 (fun hHeld3 => ?_)
      clear hHeld2
      clear hK K
      try simp only [Act.put, List.setIfInBounds_toArray, List.set_cons_zero, List.set_cons_succ]
      refine wpAnyH_take (i := 7) (oi := { dst := some 10, op := Op.pick (Operand.tmp 6) (Operand.tmp 9) (Operand.const (Value.bool false)), type := _, pos := _, after := _, guard := none }) (v := .bool true) rfl (by kernel_rfl) (by kernel_rfl) (by kernel_rfl) (fun _ _ _ h => h) (Or.inl ⟨by rfl, fun w hSw => by (try dsimp only at hSw); go_simp⟩) (by assumption) ?_
      simp only [Act.put, List.setIfInBounds_toArray, List.set_cons_zero, List.set_cons_succ]
      refine wpAnyH_take (i := 8) (oi := { dst := some 11, op := Op.move (Operand.tmp 10), type := _, pos := _, after := _, guard := none }) (v := .bool true) rfl (by kernel_rfl) (by kernel_rfl) (by kernel_rfl) (fun _ _ _ h => h) (Or.inl ⟨by rfl, fun w hSw => by (try dsimp only at hSw); go_simp⟩) (by assumption) ?_
      simp only [Act.put, List.setIfInBounds_toArray, List.set_cons_zero, List.set_cons_succ]
      refine wpAnyH_take (i := 9) (oi := { dst := some 12, op := Op.load 39 (Operand.tmp 1), type := _, pos := _, after := _, guard := some (8, true) }) (v := .agg cm) rfl (by kernel_rfl) (by kernel_rfl) (by kernel_rfl) (fun _ _ _ h => h) (Or.inl ⟨by rfl, fun w hSw => ldMb_exec hSw.mb HC.out rfl rfl⟩) (by assumption) ?_
      simp only [Act.put, List.setIfInBounds_toArray, List.set_cons_zero, List.set_cons_succ]
      refine wpAnyH_take (i := 10) (oi := { dst := some 13, op := Op.load 39 (Operand.tmp 1), type := _, pos := _, after := _, guard := some (8, true) }) (v := .agg cm) rfl (by kernel_rfl) (by kernel_rfl) (by kernel_rfl) (fun _ _ _ h => h) (Or.inl ⟨by rfl, fun w hSw => ldMb_exec hSw.mb HC.out rfl rfl⟩) (by assumption) ?_
      simp only [Act.put, List.setIfInBounds_toArray, List.set_cons_zero, List.set_cons_succ]
      refine wpAnyH_take (i := 11) (oi := { dst := some 14, op := Op.fieldAddr 39 (Operand.tmp 1) 2, type := _, pos := _, after := _, guard := some (8, true) }) (v := .pointer (some ⟨B, 2, none⟩)) rfl (by kernel_rfl) (by kernel_rfl) (by kernel_rfl) (fun _ _ _ h => h) (Or.inl ⟨by rfl, fun w hSw => by (try dsimp only at hSw); go_simp⟩) (by assumption) ?_
      simp only [Act.put, List.setIfInBounds_toArray, List.set_cons_zero, List.set_cons_succ]
      refine wpAnyH_take (i := 12) (oi := { dst := some 15, op := Op.load 3 (Operand.tmp 14), type := _, pos := _, after := _, guard := some (8, true) }) (v := .int .i64 m.ep) rfl (by kernel_rfl) (by kernel_rfl) (by kernel_rfl) (fun _ _ _ h => h) (Or.inl ⟨by rfl, fun w hSw => by have c0 := hSw.mb.ep; clear hSw; go_simp⟩) (by assumption) ?_
      simp only [Act.put, List.setIfInBounds_toArray, List.set_cons_zero, List.set_cons_succ]
      refine wpAnyH_ready (rs := [13]) (by kernel_rfl) (by simp) ?_
      refine AllReadyH.cons rfl (fun K hK => ?_) AllReadyH.nil
      go_simp
      refine (h3 _).mono ?_
      rintro r w4 ⟨rfl, hb4⟩
      go_wp2_with fail
      refine hK.out _ _ (hHeld3.later hb4) (fun hHeld4 => ?_)
      clear hHeld3 hb4
      clear hK K
      try simp only [Act.put, List.setIfInBounds_toArray, List.set_cons_zero, List.set_cons_succ]
      refine wpAnyH_take (i := 14) (oi := { dst := some 17, op := Op.binOp BinOp.eql 39 (Operand.tmp 12) (Operand.tmp 16) 39, type := _, pos := _, after := _, guard := some (8, true) }) (v := .bool b) rfl (by kernel_rfl) (by kernel_rfl) (by kernel_rfl) (fun _ _ _ h => h) (Or.inl ⟨by rfl, fun w hSw => eqM_exec HC.out HO.out HQ.out rfl rfl rfl⟩) (by assumption) ?_
      simp only [Act.put, List.setIfInBounds_toArray, List.set_cons_zero, List.set_cons_succ]
      refine wpAnyH_take (i := 15) (oi := { dst := some 18, op := Op.pick (Operand.tmp 11) (Operand.tmp 17) (Operand.const (Value.bool false)), type := _, pos := _, after := _, guard := none }) (v := .bool b) rfl (by kernel_rfl) (by kernel_rfl) (by kernel_rfl) (fun _ _ _ h => h) (Or.inl ⟨by rfl, fun w hSw => by (try dsimp only at hSw); go_simp⟩) (by assumption) ?_
      simp only [Act.put, List.setIfInBounds_toArray, List.set_cons_zero, List.set_cons_succ]
      refine wpAnyH_done (by kernel_rfl) ?_ _
      cases b with
      | true =>
        go_wp2_with fail
        go_ret
        exact ⟨ret_int HE.out.symm, hHeld4.bel⟩
      | false =>
        go_wp2_with fail
        go_ret
        exact ⟨ret_int HE.out.symm, hHeld4.bel⟩
end Go.Proofs.YtpimbpfefhkojaaGreat.Mb
/- Contracts: Kind, holdsSeat, Seated, Group, arrive. -/
namespace Go.Proofs.YtpimbpfefhkojaaGreat.Mb
open Go.RowKit Go.Maps
open Rt (Ky zK gd pcs KyAt)
open Wi (gR gE gW gS gI gB gK ldM stM rd_guard ra_of th_of ra_later)
set_option linter.unusedVariables false
set_option linter.unusedSimpArgs false

theorem goodCard_k (W S P : Int) (k : Ky) (w : World) : Calls Tryz.prog 63 #[.agg #[.int .i64 W, .int .i64 S, .int .i64 P, .int .i64 k.bas, .int .i64 k.stp] ] w fun e w' => e = .returned (.bool (gCd W S P k)) ∧ Below w.heap.size w w' := goodCard_any W S P k.bas k.stp w
theorem bhB_of (m : Mb) : bhv m.bh m.ep = bhB m := rfl
theorem knd_0 {m : Mb} (h : mE m zMb = true) : knd m = 0 := by unfold knd; rw [if_pos h]
theorem knd_o {m : Mb} (h : mE m zMb = false) (ho : m.out = true) : knd m = koV m := by unfold knd; rw [h, if_neg (by decide), if_pos ho]; rfl
theorem knd_c {m : Mb} (h : mE m zMb = false) (ho : m.out = false) (hc : (gCd m.who m.slt m.ep m.lf && bhB m) = false) : knd m = -1 := by unfold knd; rw [h, if_neg (by decide), if_neg (by rw [ho]; decide), if_neg (by rw [hc]; decide)]
theorem knd_h {m : Mb} (h : mE m zMb = false) (ho : m.out = false) (hc : (gCd m.who m.slt m.ep m.lf && bhB m) = true) : knd m = if m.has then (if gp m.p0 m.p1 m.p2 then 3 else -1) else (if pE m.p0 m.p1 m.p2 zK zK zK then 2 else -1) := by
  unfold knd; rw [h, if_neg (by decide), if_neg (by rw [ho]; decide), if_pos hc]; rfl
set_option maxRecDepth 100000 in
set_option maxHeartbeats 2000000 in
theorem kind_any (m : Mb) (w : World) : Calls Tryz.prog 43 #[.agg (mba m)] w fun r w' => r = .returned (.int .i64 (knd m)) ∧ Below w.heap.size w w' := by
  have hS := S1.new w m
  have h1 := kindOut_any m
  have h2 := goodCard_k m.who m.slt m.ep m.lf
  have h3 := goodBehind_any m.bh m.ep
  rw [bhB_of] at h3
  have h4 := goodPath_any m.p0 m.p1 m.p2
  obtain ⟨cm, hcm⟩ : ∃ c, mba m = c := ⟨_, rfl⟩
  have HC : Hid (mba m = cm) := hcm
  rw [hcm] at hS
  simp only [hcm] at h1
  rw [hcm]
  clear hcm
  go_enter Tryz.func43, Tryz.ntmps43
  go_upto_region 1 with (fail)
  generalize w.alloc (.cells cm 39) = w1 at *
  obtain ⟨B, hB⟩ : ∃ B, w.heap.size = B := ⟨_, rfl⟩
  rw [hB] at hS ⊢
  clear hB
  cases c0 : mE m zMb with
  | true =>
    have HQ : Hid (mE m zMb = true) := c0
    clear c0
    go_wp2_with (first | (refine ldMb hS.mb HC.out _ rfl rfl rfl ?_) | (refine eqM HC.out (show mba zMb = _ from rfl) HQ.out _ _ rfl rfl rfl rfl ?_))
    go_ret
    exact ⟨ret_int (knd_0 HQ.out).symm, hS.bel⟩
  | false =>
    have HQ : Hid (mE m zMb = false) := c0
    clear c0
    have co := hS.mb.out
    cases ho : m.out with
    | true =>
      rw [ho] at co
      have HE : Hid (knd m = koV m) := knd_o HQ.out ho
      clear ho
      go_wp2_with (first | (refine ldMb hS.mb HC.out _ rfl rfl rfl ?_) | (refine eqM HC.out (show mba zMb = _ from rfl) HQ.out _ _ rfl rfl rfl rfl ?_))
      refine (h1 _).mono ?_
      rintro r w2 ⟨rfl, hb2⟩
      have hS2 := hS.later hb2
      clear hS hb2 co
      go_wp2_with fail
      go_ret
      exact ⟨ret_int HE.out.symm, hS2.bel⟩
    | false =>
      rw [ho] at co
      have HO : Hid (m.out = false) := ho
      clear ho h1
      obtain ⟨k0, k1⟩ := hS.mb.leaf
      have cw := hS.mb.who
      have cs := hS.mb.slt
      have ce := hS.mb.ep
      go_upto_region 6 with (first | (refine ldMb hS.mb HC.out _ rfl rfl rfl ?_) | (refine eqM HC.out (show mba zMb = _ from rfl) HQ.out _ _ rfl rfl rfl rfl ?_))
      have hS2 := hS.later (below_alloc w1 (.cells #[.int .i64 m.who, .int .i64 m.slt, .int .i64 m.ep, .int .i64 m.lf.bas, .int .i64 m.lf.stp] 109))
      clear hS co k0 k1 cw cs ce
      obtain ⟨g1, hg1⟩ : ∃ g, gCd m.who m.slt m.ep m.lf = g := ⟨_, rfl⟩
      have HG1 : Hid (gCd m.who m.slt m.ep m.lf = g1) := hg1
      simp only [hg1] at h2
      clear hg1
      go_wp2_with fail
      refine (h2 _).mono ?_
      rintro r w2 ⟨rfl, hb2⟩
      have hS3 := hS2.later hb2
      clear hS2 hb2 h2
      cases g1 with
      | false =>
        go_wp2_with fail
        go_ret
        exact ⟨ret_int (knd_c HQ.out HO.out (by rw [HG1.out]; rfl)).symm, hS3.bel⟩
      | true =>
        have ce := hS3.mb.ep
        have cb := hS3.mb.bh
        have chs := hS3.mb.has
        obtain ⟨g2, hg2⟩ : ∃ g, bhB m = g := ⟨_, rfl⟩
        have HG2 : Hid (bhB m = g2) := hg2
        simp only [hg2] at h3
        clear hg2
        cases g2 with
        | false =>
          go_wp2_with (go_at_call 64; refine (h3 _).mono ?_; rintro r w3 ⟨rfl, rfl⟩)
          go_ret
          exact ⟨ret_int (knd_c HQ.out HO.out (by rw [HG1.out, HG2.out]; rfl)).symm, hS3.bel⟩
        | true =>
          have HK := knd_h HQ.out HO.out (by rw [HG1.out, HG2.out]; rfl)
          cases hh : m.has with
          | true =>
            rw [hh] at HK chs
            have HH : Hid (m.has = true) := hh
            have HE : Hid (knd m = if gp m.p0 m.p1 m.p2 then 3 else -1) := HK
            clear hh HK
            obtain ⟨g3, hg3⟩ : ∃ g, gp m.p0 m.p1 m.p2 = g := ⟨_, rfl⟩
            rw [hg3] at HE
            simp only [hg3] at h4
            clear hg3
            go_wp2_with (first | (go_at_call 64; refine (h3 _).mono ?_; rintro r w3 ⟨rfl, rfl⟩) | (refine ldPa hS3.mb _ rfl rfl rfl ?_))
            refine (h4 _).mono ?_
            rintro r w3 ⟨rfl, hb3⟩
            have hS4 := hS3.later hb3
            clear hS3 hb3 ce cb chs h3 h4
            have chs := hS4.mb.has
            cases g3 with
            | true =>
              go_wp2_with fail
              go_ret
              exact ⟨ret_int HE.out.symm, hS4.bel⟩
            | false =>
              rw [HH.out] at chs
              go_wp2_with fail
              go_ret
              exact ⟨ret_int HE.out.symm, hS4.bel⟩
          | false =>
            rw [hh] at HK chs
            have HE : Hid (knd m = if pE m.p0 m.p1 m.p2 zK zK zK then 2 else -1) := HK
            clear hh HK h4
            obtain ⟨g3, hg3⟩ : ∃ g, pE m.p0 m.p1 m.p2 zK zK zK = g := ⟨_, rfl⟩
            rw [hg3] at HE
            have HP : Hid (pE m.p0 m.p1 m.p2 zK zK zK = g3) := hg3
            clear hg3
            cases g3 with
            | true =>
              go_wp2_with (first | (go_at_call 64; refine (h3 _).mono ?_; rintro r w3 ⟨rfl, rfl⟩) | (refine ldPa hS3.mb _ rfl rfl rfl ?_) | (refine eq3 HP.out _ _ rfl rfl rfl rfl ?_))
              go_ret
              exact ⟨ret_int HE.out.symm, hS3.bel⟩
            | false =>
              go_wp2_with (first | (go_at_call 64; refine (h3 _).mono ?_; rintro r w3 ⟨rfl, rfl⟩) | (refine ldPa hS3.mb _ rfl rfl rfl ?_) | (refine eq3 HP.out _ _ rfl rfl rfl rfl ?_))
              go_ret
              exact ⟨ret_int HE.out.symm, hS3.bel⟩
end Go.Proofs.YtpimbpfefhkojaaGreat.Mb
/- Contracts: holdsSeat, Seated, Group, arrive. -/
namespace Go.Proofs.YtpimbpfefhkojaaGreat.Mb
open Go.RowKit Go.Maps
open Rt (Ky zK gd pcs KyAt)
open Wi (gR gE gW gS gI gB gK ldM stM rd_guard ra_of th_of ra_later)
set_option linter.unusedVariables false
set_option linter.unusedSimpArgs false

def hsE (m : Mb) : Int := if knd m < 1 then 30 else if knd m = 1 then 20 else 0
def SeatA (W S P : Int) (k : Ky) : Ending := .returned (.tuple #[.agg (mba (seaM W S P k)), .int .i64 (seaE W S P k)])
theorem SeatA.no {W S P : Int} {k : Ky} (h : gCd W S P k = false) : Ending.returned (.tuple #[.agg (mba zMb), .int .i64 30]) = SeatA W S P k := by unfold SeatA seaM seaE; rw [h]; rfl
theorem SeatA.yes {W S P : Int} {k : Ky} (h : gCd W S P k = true) : Ending.returned (.tuple #[.agg (mba ⟨W, S, P, k, zK, zK, zK, false, false, 0⟩), .int .i64 0]) = SeatA W S P k := by unfold SeatA seaM seaE; rw [h]; rfl
structure SD (w W : World) (B K : Nat) (X S P : Int) (k : Ky) : Prop where
  cd : CdAt W B X S P k
  re : MA W K zMb
  bel : Below w.heap.size w W
  ge : w.heap.size ≤ K
theorem SD.later {w W W' : World} {B K : Nat} {X S P : Int} {k : Ky} (h : SD w W B K X S P k) (hb : Below W.heap.size W W') : SD w W' B K X S P k := ⟨row_later h.cd hb, h.re.later hb, h.bel.trans (hb.mono h.bel.size), h.ge⟩
theorem SD.new (w : World) (X S P : Int) (k : Ky) : SD w ((w.alloc (.cells (ccs X S P k) 109)).alloc (.cells (mba zMb) 39)) w.heap.size (w.heap.size + 1) X S P k := by
  have h2 := MA.new (w.alloc (.cells (ccs X S P k) 109)) zMb
  rw [World.size_alloc] at h2
  exact ⟨row_later (CdAt.new w X S P k) (below_alloc _ _), h2, Wi.Below.plus (below_alloc _ _) _, by omega⟩
def GrpA (m : Mb) : Ending := .returned (.tuple #[.agg #[.int .i64 (grK m).bas, .int .i64 (grK m).stp], .int .i64 (grE m)])
theorem hs_cases (m : Mb) : (hsE m = 30 ∧ grE m = 30 ∧ grK m = zK) ∨ (hsE m = 20 ∧ grE m = 20 ∧ grK m = zK) ∨ (hsE m = 0 ∧ m.has = false ∧ grE m = 22 ∧ grK m = zK) ∨ (hsE m = 0 ∧ m.has = true ∧ grE m = 0 ∧ grK m = m.p2) := by
  unfold hsE grE grK
  rcases knd_cases m with h | h | h | h | h
  · rw [h]; simp
  · rw [h]; simp
  · rw [h]; simp
  · rcases (knd_sat (.inl h)).2 with ⟨a, _⟩ | ⟨_, b, _⟩
    · rw [h]; simp [a]
    · omega
  · rcases (knd_sat (.inr h)).2 with ⟨_, b, _⟩ | ⟨a, _⟩
    · omega
    · rw [h]; simp [a]
structure SG (w W : World) (B K : Nat) (m : Mb) : Prop where
  mb : MA W B m
  re : KyAt W K zK
  bel : Below w.heap.size w W
  ge : w.heap.size ≤ K
theorem SG.later {w W W' : World} {B K : Nat} {m : Mb} (h : SG w W B K m) (hb : Below W.heap.size W W') : SG w W' B K m := ⟨h.mb.later hb, h.re.later hb, h.bel.trans (hb.mono h.bel.size), h.ge⟩
theorem SG.new (w : World) (m : Mb) : SG w ((w.alloc (.cells (mba m) 39)).alloc (.cells #[.int .i64 0, .int .i64 0] 23)) w.heap.size (w.heap.size + 1) m := by
  have h2 := KyAt.new (w.alloc (.cells (mba m) 39)) zK
  rw [World.size_alloc] at h2
  exact ⟨(MA.new w m).later (below_alloc _ _), h2, Wi.Below.plus (below_alloc _ _) _, by omega⟩
theorem grp_no {m : Mb} {e : Int} (h : grE m = e) (hk : grK m = zK) : Ending.returned (.tuple #[.agg #[.int .i64 0, .int .i64 0], .int .i64 e]) = GrpA m := by unfold GrpA; rw [h, hk]; rfl
theorem grp_yes {m : Mb} (h : grE m = 0) (hk : grK m = m.p2) : Ending.returned (.tuple #[.agg #[.int .i64 m.p2.bas, .int .i64 m.p2.stp], .int .i64 0]) = GrpA m := by unfold GrpA; rw [h, hk]
end Go.Proofs.YtpimbpfefhkojaaGreat.Mb
