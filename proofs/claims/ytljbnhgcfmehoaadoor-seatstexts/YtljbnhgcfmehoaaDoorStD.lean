/- Contracts: the least slot (least, Lowest, Next). -/
import Derived.Test.YtljbnhgcfmehoaaDoorStC
namespace Go.Proofs.YtljbnhgcfmehoaaDoor
open Go.RowKit Go.Maps Go.Shelf
attribute [local go_sem] Oper.semAt_some
set_option linter.unusedVariables false
set_option linter.unusedSimpArgs false

theorem below_putObj {n0 : Nat} {w : World} (hn : n0 ≤ w.heap.size) : ∀ (W : World) (l : Nat) (o o' : Obj), w.heap.size ≤ l → W.heap[l]? = some o → o.isCells = false → o.isWalk = false → Below n0 W (W.putObj l o') := belowK_b hn
theorem pure_own {β : Type} {B : Nat} (p : β → Prop) : OwnFrom B (fun (s : β) (_ : World) => p s) := fun s W W' row hs _ _ => hs
/- The end: the deferred calls that were gathered are none; the result lies in its cell. -/
theorem cell_put {W : World} {B D : Nat} {t : TypeId} {v : Value} {o o' : Obj} (h : Boxed W B t v) (hD : W.heap[D]? = some o) (hne : B ≠ D) : Boxed (W.putObj D o') B t v := by
  show (W.putObj D o').heap[B]? = _
  rw [World.putObj_heap_other hne]
  exact h
theorem results_int_cell {fn : Func} (hf : fn.results = #[.cell 2 3 ]) (tmps : Array Value) (W : World) (B : Nat) (z : Int) (hp : tmps[2]? = some (.pointer (some ⟨B, 0, none⟩))) (hb : Boxed W B 3 (.int .i64 z)) :
    (results fn tmps).run Tryd.prog W = .ok (.int .i64 z) W := by
  have hc := hb.cell
  simp [results, hf, hp, asAddr, go_sem, hc]
set_option maxRecDepth 100000 in
set_option maxHeartbeats 2000000 in
theorem least_in (n : Nat) (hn : 3 ≤ n) (s : Nat) (hs : s < 18446744073709551616) (w : World) (hT : Tb w) :
    CallsIn Fence.wide n Tryd.prog 38 #[.int .u64 (s : Int)] w fun e w' => e = .returned (.int .i64 (hd (bl s))) ∧ Below w.heap.size w w' := by
  have h1 : 1 ≤ n := by omega
  refine callsIn_of_wp_marks Tryd.func38 rfl trivial ?_ rfl
  simp only [Tryd.ntmps38, List.size_toArray, List.length_cons, List.length_nil, Nat.reduceAdd, Nat.reduceSub, Array.replicate_succ, Array.replicate_zero, List.push_toArray, List.append_toArray, List.nil_append, List.cons_append]
  gi_wp2_with fail
  refine ⟨trivial, (slots_in (n - 1) _ _).mono ?_⟩
  rintro e w' ⟨rfl, rfl⟩
  have bR := Boxed.new w 3 (.int .i64 0)
  have bI := Boxed.new (w.alloc (.cells #[.int .i64 0] 3)) 22 (.int .u64 (s : Int))
  simp only [World.size_alloc] at bI
  have hB0 : Below w.heap.size w ((w.alloc (.cells #[.int .i64 0] 3)).alloc (.cells #[.int .u64 (s : Int)] 22)) := ((Below.refl _ w).alloc (Nat.le_refl _) _).alloc (by simp) _
  gi_wp2_with fail
  refine wpIn_rangeFunc_ownG rfl h1 (gf := 43) (lb := #[.pointer (some ⟨w.heap.size + 1, 0, none⟩)]) (by simp [go_sem]) trivial (enters_of Tryd.func43 (by kernel_rfl) rfl)
    (slots_stops (n - 1) (by omega) (w.heap.size + 1) w.heap.size s hs _ (by simp) (by simp; omega) hT.1 (hT.later hB0) bI.cell) Below.trans (below_putObj (by simp; omega)) (Below.refl _ _) (fun _ => rfl)
    (fun pre W => (pre = [] ∧ Boxed W w.heap.size 3 (.int .i64 0)) ∧ Below w.heap.size w W)
    (fun c pre W => ((c = .ret ∧ ∃ x, pre = [x]) ∧ Boxed W w.heap.size 3 (.int .i64 (hd pre))) ∧ Below w.heap.size w W)
    (OwnFrom.and (OwnFrom.and (pure_own _) (Own.from (boxed_own _ _ _) _)) (ownFrom_below (Nat.le_refl _) (by simp; omega)))
    (fun c => OwnFrom.and (OwnFrom.and (pure_own _) (Own.from (boxed_own _ _ _) _)) (ownFrom_below (Nat.le_refl _) (by simp; omega)))
    ⟨⟨rfl, bR.alloc _⟩, hB0⟩
    (fun x => { tmps := #[.int .u64 (s : Int), undef, .pointer (some ⟨w.heap.size, 0, none⟩), .int .i64 (x : Int), .int .u64 (s : Int), .func (.func 43) #[] #[.pointer (some ⟨w.heap.size + 1, 0, none⟩)], .int .i64 (x : Int), undef], defers := [] }) ?assign ?body ?done ?stop
  case assign =>
    intro lo x W K hK
    gi_wp2
    exact hK
  case body =>
    rintro lo pre x W ⟨⟨rfl, hv⟩, hB⟩ hlt
    have hc := hv.cell
    have hf := hv.frozen
    gi_wp2_with fail
    exact ⟨(KeepsOthers.setCell _ _ _).from _, ⟨⟨rfl, x, rfl⟩, hv.set _⟩, hB.setCell (Nat.le_refl _) _⟩
  case done =>
    rintro D ys W hD rfl ⟨⟨he, hv⟩, hB⟩ hK
    have hc := hv.cell
    have hf := hv.frozen
    gi_wp2
    have hv2 := hv.set (.int .i64 (-1))
    have hB2 := hB.setCell (p := ⟨w.heap.size, 0, none⟩) (Nat.le_refl _) (.int .i64 (-1))
    have hK2 : (W.setCell ⟨w.heap.size, 0, none⟩ (.int .i64 (-1))).heap[D]? = some (.deferred (some [])) := (KeepsOthers.setCell _ _ _).same _ _ hK rfl
    generalize W.setCell ⟨w.heap.size, 0, none⟩ (.int .i64 (-1)) = W2 at *
    simp at hD
    refine ⟨by simp, .inl ⟨_, _, rfl, run_takeDeferred hK2, ?_⟩⟩
    exact ⟨_, results_int_cell rfl _ _ w.heap.size (-1) rfl (cell_put hv2 hK2 (by omega)), by rw [he]; rfl, hB2.trans (belowK_b (w := w) (Nat.le_refl _) W2 D _ _ (by omega) hK2 rfl rfl)⟩
  case stop =>
    rintro D c pre W hD hp ⟨⟨⟨rfl, x, rfl⟩, hv⟩, hB⟩ hK
    have hc := hv.cell
    gi_wp2
    have hx : hd (bl s) = hd [x] := by obtain ⟨r, hr⟩ := hp; rw [← hr]; rfl
    simp at hD
    refine ⟨by simp, .inl ⟨_, _, rfl, run_takeDeferred hK, ?_⟩⟩
    exact ⟨_, results_int_cell rfl _ _ w.heap.size _ rfl (cell_put hv hK (by omega)), by rw [hx], hB.trans (belowK_b (w := w) (Nat.le_refl _) W D _ _ (by omega) hK rfl rfl)⟩
theorem least_any (s : Nat) (hs : s < 18446744073709551616) (w : World) (hT : Tb w) :
    Calls Tryd.prog 38 #[.int .u64 (s : Int)] w fun e w' => e = .returned (.int .i64 (hd (bl s))) ∧ Below w.heap.size w w' := callsIn_wide.1 (least_in 3 (by omega) s hs w hT)
theorem xor_all {s : Nat} (hs : s < 18446744073709551616) : 18446744073709551615 ^^^ s = nt s := by
  have h64 : (18446744073709551615 : Nat) ^^^ s < 18446744073709551616 := Nat.xor_lt_two_pow (n := 64) (by decide) hs
  apply eq_of_bits h64 (nt_lt s)
  intro i hi
  rw [nt_bit hs hi, Nat.testBit_xor, show (18446744073709551615 : Nat) = 2 ^ 64 - 1 by decide, Nat.testBit_two_pow_sub_one]
  simp [hi]
theorem not_u64 (s : Nat) (h : s < 18446744073709551616) : bits BinOp.xor IntKind.u64 IntKind.u64.max (s : Int) = ((nt s : Nat) : Int) := by
  rw [show IntKind.u64.max = ((18446744073709551615 : Nat) : Int) by decide, u64_xor_nat _ _ (by decide) h, xor_all h]
set_option maxHeartbeats 400000 in
theorem lowest_any (s : Nat) (hs : s < 18446744073709551616) (w : World) (hT : Tb w) :
    Calls Tryd.prog 17 #[.int .u64 (s : Int)] w fun e w' => e = .returned (.int .i64 (hd (bl (nt s)))) ∧ Below w.heap.size w w' := by
  have hl := least_any (nt s) (nt_lt s) w hT
  have hn := not_u64 s hs
  go_enter Tryd.func17, Tryd.ntmps17
  go_wp2_with fail
  refine hl.mono ?_
  rintro e w' ⟨rfl, hb⟩
  clear hl hn
  go_wp2_with fail
  go_ret
  exact ⟨rfl, hb⟩
/- From a number on. -/
def fm (n : Int) : Nat := (max n 0).toNat
def nx (s : Nat) (n : Int) : Int := hd (bf s (fm n) (64 - fm n))
theorem fr_int {s : Nat} (hs : s < 18446744073709551616) {k : Nat} : IntKind.u64.wrap ((s : Int) / 2 ^ min k 64 * 2 ^ min k 64) = ((fr s k : Nat) : Int) := by
  have h1 : fr s (min k 64) = fr s k := by
    by_cases h : k ≤ 64
    · rw [Nat.min_eq_left h]
    · rw [Nat.min_eq_right (by omega), fr_high hs (Nat.le_refl _), fr_high hs (by omega)]
  have h2 : (s : Int) / 2 ^ min k 64 * 2 ^ min k 64 = ((fr s (min k 64) : Nat) : Int) := by unfold fr; simp
  have h3 := fr_lt (b := k) hs
  rw [h2, h1, u64_fit _ (by omega) (by omega)]
set_option maxHeartbeats 400000 in
theorem next_any (s : Nat) (hs : s < 18446744073709551616) (n : Int) (hn0 : -9223372036854775808 ≤ n) (hn1 : n < 9223372036854775808) (w : World) (hT : Tb w) :
    Calls Tryd.prog 19 #[.int .u64 (s : Int), .int .i64 n] w fun e w' => e = .returned (.int .i64 (nx s n)) ∧ Below w.heap.size w w' := by
  have hl := least_any (fr s (fm n)) (fr_lt hs) w hT
  rw [fr_bl s _ hs] at hl
  by_cases hneg : n < 0
  · have h0 : fm n = 0 := by unfold fm; omega
    have h1 : fr s 0 = s := by simp [fr]
    unfold nx
    rw [h0] at hl ⊢
    rw [h1] at hl
    go_enter Tryd.func19, Tryd.ntmps19
    go_wp2_with fail
    refine hl.mono ?_
    rintro e w' ⟨rfl, hb⟩
    clear hl
    go_wp2_with fail
    go_ret
    exact ⟨rfl, hb⟩
  · obtain ⟨k, rfl⟩ : ∃ k : Nat, n = (k : Int) := ⟨n.toNat, by omega⟩
    have h0 : fm (k : Int) = k := by unfold fm; omega
    unfold nx
    rw [h0] at hl ⊢
    have hm : ¬ ((k : Int) < 0) := hneg
    go_enter Tryd.func19, Tryd.ntmps19
    go_wp2_with fail
    rw [fr_int hs]
    refine hl.mono ?_
    rintro e w' ⟨rfl, hb⟩
    clear hl
    go_wp2_with fail
    go_ret
    exact ⟨rfl, hb⟩
end Go.Proofs.YtljbnhgcfmehoaaDoor
