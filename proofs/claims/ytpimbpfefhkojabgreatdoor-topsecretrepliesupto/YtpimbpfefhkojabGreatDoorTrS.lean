/- Contracts: Start of both. -/
import Derived.Test.YtpimbpfefhkojabGreatDoorTrJ3
import Derived.Great.BuildSlice
namespace Go.Proofs.YtpimbpfefhkojabGreatDoor
open Go.RowKit Go.Great
open Rt (Ky zK kcs)
open Rs (En zE rcs)
set_option linter.unusedVariables false
set_option linter.unusedSimpArgs false

def tz (n : Int) : Tr := ⟨0, n, fun _ => zK, fun _ => zE⟩
def stT : Tr := ⟨0, 22, fun v => ⟨(v : Int) + 1, 0⟩, fun _ => zE⟩
/- While the keys are laid: j of them are there. -/
def stS (j : Nat) : Tr := ⟨0, 22, fun v => if v < j then ⟨(v : Int) + 1, 0⟩ else zK, fun _ => zE⟩
theorem tcs_congr {t u : Tr} (h1 : t.ep = u.ep) (h2 : t.fr = u.fr) (h3 : kcs t.ks = kcs u.ks) (h4 : rcs t.ro = rcs u.ro) : tcs t = tcs u := by unfold tcs; rw [h1, h2, h3, h4]
theorem stS_zero : tcs (stS 0) = tcs (tz 22) := by
  refine tcs_congr rfl rfl (Rt.kcs_congr fun i _ => ?_) rfl
  show (if i < 0 then (⟨(i : Int) + 1, 0⟩ : Ky) else zK) = zK
  exact if_neg (by omega)
theorem stS_all : tcs (stS 21) = tcs stT := by
  refine tcs_congr rfl rfl (Rt.kcs_congr fun i hi => ?_) rfl
  show (if i < 21 then (⟨(i : Int) + 1, 0⟩ : Ky) else zK) = ⟨(i : Int) + 1, 0⟩
  exact if_pos hi
theorem stS_step (j : Nat) : stS (j + 1) = { stS j with ks := Rt.kup (stS j).ks j ⟨(j : Int) + 1, 0⟩ } := by
  unfold stS
  congr 1
  funext v
  show (if v < j + 1 then (⟨(v : Int) + 1, 0⟩ : Ky) else zK) = if v = j then ⟨(j : Int) + 1, 0⟩ else (if v < j then ⟨(v : Int) + 1, 0⟩ else zK)
  by_cases h : v = j
  · subst h
    rw [if_pos (by omega), if_pos rfl]
  · rw [if_neg h]
    by_cases c : v < j
    · rw [if_pos (by omega), if_pos c]
    · rw [if_neg (by omega), if_neg c]
theorem tcs_set (t : Tr) (k : Nat) (hk : k < 21) (a b : Int) : ((tcs t).setIfInBounds (2 + k * 2) (.int .i64 a)).setIfInBounds (2 + k * 2 + 1) (.int .i64 b) = tcs { t with ks := Rt.kup t.ks k ⟨a, b⟩ } := by
  apply Array.ext_getElem?
  intro i
  rw [Array.getElem?_setIfInBounds, Array.getElem?_setIfInBounds]
  rcases Nat.lt_or_ge i 2 with h | h
  · rw [if_neg (by omega), if_neg (by omega)]
    have : i = 0 ∨ i = 1 := by omega
    rcases this with rfl | rfl
    · rw [tcs_0, tcs_0]
    · rw [tcs_1, tcs_1]
  · rcases Nat.lt_or_ge i 44 with h2 | h2
    · obtain ⟨j, rfl⟩ : ∃ j, i = 2 + j := ⟨i - 2, by omega⟩
      rw [tcs_ks _ j (by omega), tcs_ks _ j (by omega)]
      have h3 := congrArg (·[j]?) (Rt.kcs_set t.ks k ⟨a, b⟩ hk)
      simp only [Array.getElem?_setIfInBounds, Array.size_setIfInBounds, Rt.kcs_size] at h3
      rw [← h3]
      simp only [Array.size_setIfInBounds, tcs_size]
      by_cases c1 : k * 2 + 1 = j
      · rw [if_pos (by omega), if_pos (by omega), if_pos c1, if_pos (by omega)]
      · rw [if_neg (by omega), if_neg c1]
        by_cases c0 : k * 2 = j
        · rw [if_pos (by omega), if_pos (by omega), if_pos c0, if_pos (by omega)]
        · rw [if_neg (by omega), if_neg c0]
    · obtain ⟨j, rfl⟩ : ∃ j, i = 44 + j := ⟨i - 44, by omega⟩
      rw [if_neg (by omega), if_neg (by omega), tcs_ro, tcs_ro]
theorem TrAt.set2 {w : World} {B : Nat} {t : Tr} (h : TrAt w B t) (k : Nat) (hk : k < 21) (a b : Int) :
    TrAt ((w.setCell ⟨B, 2 + k * 2, none⟩ (.int .i64 a)).setCell ⟨B, 2 + k * 2 + 1, none⟩ (.int .i64 b)) B { t with ks := Rt.kup t.ks k ⟨a, b⟩ } := by
  have h3 := Rt.row_setCell (Rt.row_setCell h (2 + k * 2) (.int .i64 a)) (2 + k * 2 + 1) (.int .i64 b)
  rw [tcs_set t k hk a b] at h3
  exact h3
theorem TrAt.congr {w : World} {B : Nat} {t u : Tr} (h : TrAt w B t) (e : tcs t = tcs u) : TrAt w B u := by unfold TrAt at *; rw [← e]; exact h
theorem TrAt.row {w : World} {B : Nat} {t : Tr} (h : TrAt w B t) (u : Tr) : TrAt (w.setRow B (tcs u)) B u := Rt.heap_setRow_same h _
theorem stTr {ops : Array Oper} {rest : List Oper} {o : Oper} {a : Act} {w : World} {Q : Exit → Act → World → Prop} {B : Nat} {t u : Tr} (h : TrAt w B t) (hgd : o.guard = none) (x y : Operand) (ho : o.op = .store 47 x y)
    (hx : a.eval x = .pointer (some ⟨B, 0, none⟩)) (hy : a.eval y = .agg (tcs u)) (k : wpList Tryz.prog ops Q rest (a.put o.dst undef) (w.setRow B (tcs u))) : wpList Tryz.prog ops Q (o :: rest) a w :=
  wpList_store_row hgd 47 x y ho B (tcs u) hx hy 47 (tcs t) h (by rw [tcs_size]; exact infoT) (by rw [tcs_size, tcs_size]) (tcs_one u) k
theorem results_tr {fn : Func} {p : Tmp} (hf : fn.results = #[.cell p 47 ]) (tmps : Array Value) (W : World) (B : Nat) (t : Tr) (hp : tmps[p]? = some (.pointer (some ⟨B, 0, none⟩))) (hb : TrAt W B t) :
    (results fn tmps).run Tryz.prog W = .ok (.agg (tcs t)) W := by
  have h := run_loadVar_row W B _ 47 _ _ _ hb Tryz.underlying47 rfl (by rw [tcs_size]; exact infoT)
  simp [results, hf, hp, asAddr, h]
theorem zero236 : Tryz.zeroCells47 = tcs (tz 0) := by kernel_rfl
theorem built236 : Tryz.prog.built 47 [(1, .int .i64 22)] = some (tcs (tz 22)) := by kernel_rfl
theorem built236' (a : Act) : Tryz.prog.built 47 ((#[(1, Operand.const (.int .i64 22))] : Array (Nat × Operand)).map fun (i, x) => (i, a.eval x)).toList = some (tcs (tz 22)) := by
  rw [show ((#[(1, Operand.const (.int .i64 22))] : Array (Nat × Operand)).map fun (i, x) => (i, a.eval x)).toList = [(1, Value.int .i64 22)] by simp [Act.eval]]
  exact built236
theorem TrAt.zero (w : World) : TrAt (w.alloc (.cells Tryz.zeroCells47 47)) w.heap.size (tz 0) := by rw [zero236]; exact TrAt.new w _
/- What stands when the keys are to be laid. -/
theorem st_begin (w : World) : ∃ W, ((w.alloc (.cells Tryz.zeroCells47 47)).alloc (.cells Tryz.zeroCells47 47)).setRow (w.heap.size + 1) (tcs (tz 22)) = W ∧ TrAt W w.heap.size (tz 0) ∧ TrAt W (w.heap.size + 1) (tz 22) ∧ Below w.heap.size w W := by
  have h1 := TrAt.zero w
  have h2 := TrAt.zero (w.alloc (.cells Tryz.zeroCells47 47))
  have hb1 := below_alloc w (.cells Tryz.zeroCells47 47)
  have hb2 := below_alloc (w.alloc (.cells Tryz.zeroCells47 47)) (.cells Tryz.zeroCells47 47)
  rw [World.size_alloc] at h2
  have h3 := h1.later hb2
  have hb := hb1.trans (hb2.mono hb1.size)
  refine ⟨_, rfl, ?_, h2.row _, Rt.setRow_below (by omega) hb _⟩
  exact (Rt.row_other (by omega) _).trans h3
set_option maxRecDepth 100000 in
set_option maxHeartbeats 1000000 in
theorem rStart_any (w : World) : Calls Tryz.prog 12 #[] w fun e w' => e = .returned (.agg (tcs stT)) ∧ Below w.heap.size w w' := by
  have hz := TrAt.zero (w.alloc (.cells Tryz.zeroCells47 47))
  rw [World.size_alloc] at hz
  obtain ⟨W1, hW1, hA1, hZ1, hB1⟩ := st_begin w
  go_enter Tryz.func12, Tryz.ntmps12
  go_upto_region 1 with (fail)
  refine wp_region_lit ?_
  refine wpList_buildTo rfl 47 _ rfl _ rfl (tcs (tz 22)) (built236' _) ?_
  go_upto_region 2 with (refine stTr hz rfl _ _ rfl rfl rfl ?_)
  rw [hW1]
  clear hW1 hz
  obtain ⟨ct, hct⟩ : ∃ c, tcs (tz 22) = c := ⟨_, rfl⟩
  rw [hct]
  clear hct
  have HZ1 : Hid (TrAt W1 (w.heap.size + 1) (tz 22)) := hZ1
  have HA1 : Hid (TrAt W1 w.heap.size (tz 0)) := hA1
  have HB1 : Hid (Below w.heap.size w W1) := hB1
  clear hZ1 hA1 hB1
  go_wp2_with fail
  go_loopw [ 2 ] (fun i wx => ∃ j : Nat, j ≤ 21 ∧ i = .int .i64 (j : Int) ∧ TrAt wx w.heap.size (tz 0) ∧ TrAt wx (w.heap.size + 1) (stS j) ∧ Below w.heap.size w wx) (fun i _ => 21 - (intOf i).toNat)
  case atStart => exact ⟨0, by omega, rfl, HA1.out, HZ1.out.congr stS_zero.symm, HB1.out⟩
  case round =>
    obtain ⟨j, hj, rfl, hk, hz, hb⟩ := hrel
    clear HZ1 HA1 HB1
    by_cases hj8 : j < 21
    · have j0 : (0 : Int) ≤ (j : Int) := by omega
      have j1 : (j : Int) < 21 := by omega
      obtain ⟨c0, c1⟩ := hz.key j hj8
      have f0 := Rt.row_frozen hz (2 + j * 2)
      have f1 := Rt.row_frozen hz (2 + j * 2 + 1)
      have HZ : Hid (TrAt ((wr.setCell ⟨w.heap.size + 1, 2 + j * 2, none⟩ (.int .i64 ((j : Int) + 1))).setCell ⟨w.heap.size + 1, 2 + j * 2 + 1, none⟩ (.int .i64 0)) (w.heap.size + 1) (stS (j + 1))) := by rw [stS_step]; exact hz.set2 j hj8 _ _
      have HK : Hid (TrAt ((wr.setCell ⟨w.heap.size + 1, 2 + j * 2, none⟩ (.int .i64 ((j : Int) + 1))).setCell ⟨w.heap.size + 1, 2 + j * 2 + 1, none⟩ (.int .i64 0)) w.heap.size (tz 0)) := (Rt.set2_other (by omega) _ _ _ _).trans hk
      have HB : Hid (Below w.heap.size w ((wr.setCell ⟨w.heap.size + 1, 2 + j * 2, none⟩ (.int .i64 ((j : Int) + 1))).setCell ⟨w.heap.size + 1, 2 + j * 2 + 1, none⟩ (.int .i64 0))) := Rt.set2_below hb (by omega) _ _ _ _
      generalize (stS j).ks j = e at *
      clear hk hz hb
      go_wp2_with fail
      go_roundw
      case rel => exact ⟨j + 1, by omega, by go_num, HK.out, HZ.out, HB.out⟩
      case measure => simp [intOf]; omega
    · obtain rfl : j = 21 := by omega
      have hN := hz.congr stS_all
      go_upto_region 6 with (fail)
      refine wp_region_lit ?_
      refine rdT hN rfl _ rfl rfl rfl ?_
      go_wp2_with (refine stTr (u := stT) hk rfl _ _ rfl rfl rfl ?_)
      refine bodyPost_ret (results_tr (p := 0) rfl _ _ w.heap.size stT rfl (hk.row _)) rfl ?_
      exact ⟨rfl, Rt.setRow_below (by omega) hb _⟩
end Go.Proofs.YtpimbpfefhkojabGreatDoor
