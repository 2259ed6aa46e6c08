/- RtC, RtD, RtE, RtF, RtG, joined. -/
import Derived.Test.YteocfmimgoocnaaDoorRtJ
import Derived.Test.YteocfmimgoocnaaDoorKeyJ
import Derived.Laws.BitsAllLaws
import Derived.Lib.BitFns
/- Contracts: the document's Check, In, count. -/
namespace Go.Proofs.YteocfmimgoocnaaDoor.Rt
open Go.RowKit
set_option linter.unusedVariables false
set_option linter.unusedSimpArgs false

theorem dn_below (w : World) (n : Nat) : Below w.heap.size w (w.drewN n) := ⟨rfl, rfl, rfl, Nat.le_refl _, fun _ _ => rfl⟩
end Go.Proofs.YteocfmimgoocnaaDoor.Rt
/- Contracts: how many bits (the library's OnesCount32); areFree. -/
namespace Go.Proofs.YteocfmimgoocnaaDoor.Rt
open Go.RowKit
set_option linter.unusedVariables false
set_option linter.unusedSimpArgs false

def fre (f : Nat → Ky) (x : Int) (n : Nat) : Bool := decide (n = 0) || (decide (1 ≤ x) && (decide (x ≤ 32768 - (n : Int)) && !nmd f 21 x (x + (n : Int))))
theorem frk_fre (f : Nat → Ky) (r : Nat) (x : Int) : frk f r x = fre f x (cu r 21) := rfl
set_option maxRecDepth 100000 in
set_option maxHeartbeats 1000000 in
theorem areFree_any (f : Nat → Ky) (x : Int) (n : Nat) (hn : n ≤ 21) (w : World) :
    Calls Tryd.prog 61 #[.agg (kcs f), .int .i64 x, .int .i64 (n : Int)] w fun e w' => e = .returned (.bool (fre f x n)) ∧ Below w.heap.size w w' := by
  have HFR : Hid (fre f x n = (decide (n = 0) || (decide (1 ≤ x) && (decide (x ≤ 32768 - (n : Int)) && !nmd f 21 x (x + (n : Int)))))) := rfl
  have hR := KsAt.new w f
  have hB1 := alloc_ks w f
  go_enter Tryd.func61, Tryd.ntmps61
  go_upto_region 1 with (fail)
  generalize w.alloc (.cells (kcs f) 39) = w1 at *
  obtain ⟨c, hc⟩ : ∃ c, kcs f = c := ⟨_, rfl⟩
  rw [hc]
  clear hc
  by_cases hn0 : n = 0
  · subst hn0
    go_wp2_with fail
    go_ret
    exact ⟨ret_bool (by rw [HFR.out]; rfl), hB1⟩
  · have h0 : ¬ ((n : Int) = 0) := by omega
    have h0' : ((n : Int) == 0) = false := by simp; omega
    have HD : Hid (decide (n = 0) = false) := decide_eq_false hn0
    have hsub : IntKind.i64.wrap (32768 - (n : Int)) = 32768 - (n : Int) := i64_fit _ (by omega) (by omega)
    by_cases h1 : x < 1
    · have HD1 : Hid (decide (1 ≤ x) = false) := decide_eq_false (by omega)
      go_wp2_with fail
      go_ret
      exact ⟨ret_bool (by rw [HFR.out, HD.out, HD1.out]; rfl), hB1⟩
    · have HD1 : Hid (decide (1 ≤ x) = true) := decide_eq_true (by omega)
      by_cases h2 : 32768 - (n : Int) < x
      · have HD2 : Hid (decide (x ≤ 32768 - (n : Int)) = false) := decide_eq_false (by omega)
        go_wp2_with fail
        go_ret
        exact ⟨ret_bool (by rw [HFR.out, HD.out, HD1.out, HD2.out]; rfl), hB1⟩
      · have HD2 : Hid (decide (x ≤ 32768 - (n : Int)) = true) := decide_eq_true (by omega)
        have hsum : IntKind.i64.wrap (x + (n : Int)) = x + (n : Int) := i64_fit _ (by omega) (by omega)
        have hnm := named_any (B := w.heap.size) (f := f) 21 21 (by omega) x (x + (n : Int)) w1 hR
        go_wp2_with (go_at_call 84; refine hnm.mono ?_; rintro e w2 ⟨rfl, hb2⟩)
        go_ret
        exact ⟨ret_bool (by rw [HFR.out, HD.out, HD1.out, HD2.out]; rfl), hB1.trans (hb2.mono hB1.size)⟩
theorem pop_cu : ∀ n : Fin 256, Lib.pop8 (n.val : Int) = ((cu n.val 8 : Nat) : Int) := by decide +kernel
theorem pop_at (n : Nat) (h : n < 256) : Lib.pop8 (n : Int) = ((cu n 8 : Nat) : Int) := pop_cu ⟨n, h⟩
theorem cu_congr {r s : Nat} : ∀ {k : Nat}, (∀ i, i < k → r.testBit i = s.testBit i) → cu r k = cu s k
  | 0, _ => rfl
  | k + 1, h => by
    simp only [cu]
    rw [cu_congr fun i hi => h i (by omega)]
    unfold b1
    rw [h k (by omega)]
theorem cu_add (r a : Nat) : ∀ b, cu r (a + b) = cu r a + cu (r / 2 ^ a) b
  | 0 => by simp [cu]
  | b + 1 => by
    rw [← Nat.add_assoc]
    simp only [cu]
    rw [cu_add r a b]
    have : b1 r (a + b) = b1 (r / 2 ^ a) b := by
      unfold b1
      rw [← Nat.shiftRight_eq_div_pow, Nat.testBit_shiftRight]
    omega
theorem cu_mod8 (r : Nat) : cu (r % 256) 8 = cu r 8 := cu_congr fun i hi => by
  rw [show 256 = 2 ^ 8 by decide, Nat.testBit_mod_two_pow]
  simp [hi]
theorem cu_parts (r : Nat) (hr : r < 2097152) : cu r 21 = cu (r / 65536) 8 + cu (r / 256 % 256) 8 + cu (r % 256) 8 := by
  rw [show 21 = 8 + 13 by decide, cu_add, show 13 = 8 + 5 by decide, cu_add, cu_mod8, cu_mod8]
  have e1 : r / 2 ^ 8 / 2 ^ 8 = r / 65536 := by omega
  rw [e1, show 2 ^ 8 = 256 by decide]
  have e2 : cu (r / 65536) 8 = cu (r / 65536) 5 := by
    rw [show 8 = 5 + 3 by decide, cu_add, show r / 65536 / 2 ^ 5 = 0 by omega, cu_none (r := 0) fun i _ => by simp]
    rfl
  omega
theorem and255 (v : Int) (h0 : 0 ≤ v) (h1 : v < 4294967296) : bits .and .u32 v 255 = v % 256 := by
  rw [u32_and _ _ (by omega) (by omega) (by omega) (by omega)]
  have : v.toNat &&& (255 : Int).toNat = v.toNat % 256 := Nat.and_two_pow_sub_one_eq_mod v.toNat 8
  rw [this]; omega
set_option maxRecDepth 100000 in
set_option maxHeartbeats 1000000 in
theorem ones_any (r : Nat) (hr : r < 2097152) (w : World) :
    Calls Tryd.prog 62 #[.int .u32 (r : Int)] w fun e w' => e = .returned (.int .i64 ((cu r 21 : Nat) : Int)) ∧ Below w.heap.size w w' := by
  have hc := cu_parts r hr
  have p1 := pop_at (r / 65536) (by omega)
  have p2 := pop_at (r / 256 % 256) (by omega)
  have p3 := pop_at (r % 256) (by omega)
  have p0 : Lib.pop8 0 = 0 := by decide +kernel
  have l1 := cu_le (r / 65536) 8
  have l2 := cu_le (r / 256 % 256) 8
  have l3 := cu_le (r % 256) 8
  have s0 : (r : Int) / 16777216 = 0 := by omega
  have a1 : bits .and .u32 ((r : Int) / 65536) 255 = ((r / 65536 : Nat) : Int) := by rw [and255 _ (by omega) (by omega)]; omega
  have a2 : bits .and .u32 ((r : Int) / 256) 255 = ((r / 256 % 256 : Nat) : Int) := by rw [and255 _ (by omega) (by omega)]; omega
  have a3 : bits .and .u32 (r : Int) 255 = ((r % 256 : Nat) : Int) := by rw [and255 _ (by omega) (by omega)]; omega
  have b1 : r / 65536 < 256 := by omega
  have b2 : r / 256 % 256 < 256 := by omega
  have b3 : r % 256 < 256 := by omega
  generalize r / 65536 = x1 at *
  generalize r / 256 % 256 = x2 at *
  generalize r % 256 = x3 at *
  obtain ⟨q1, h1⟩ : ∃ q, cu x1 8 = q := ⟨_, rfl⟩
  obtain ⟨q2, h2⟩ : ∃ q, cu x2 8 = q := ⟨_, rfl⟩
  obtain ⟨q3, h3⟩ : ∃ q, cu x3 8 = q := ⟨_, rfl⟩
  rw [h1] at hc p1 l1
  rw [h2] at hc p2 l2
  rw [h3] at hc p3 l3
  rw [hc]
  clear h1 h2 h3 hc hr
  have c1 : (x1 : Int) ≤ 255 := by omega
  have c2 : (x2 : Int) ≤ 255 := by omega
  have c3 : (x3 : Int) ≤ 255 := by omega
  go_enter Tryd.func62, Tryd.ntmps62
  go_upto_region 1 with (fail)
  go_quiet (fail)
  go_wp2_with fail
  go_ret
  exact ⟨ret_int (by omega), dn_below _ _⟩
end Go.Proofs.YteocfmimgoocnaaDoor.Rt
/- Contracts: Turn of the program. -/
namespace Go.Proofs.YteocfmimgoocnaaDoor.Rt
open Go.RowKit
set_option linter.unusedVariables false
set_option linter.unusedSimpArgs false

theorem zero42' : Value.agg #[Value.int .i64 0, Value.int .i64 0, Value.int .i64 0, Value.int .i64 0, Value.int .i64 0, Value.int .i64 0, Value.int .i64 0, Value.int .i64 0, Value.int .i64 0, Value.int .i64 0, Value.int .i64 0, Value.int .i64 0, Value.int .i64 0, Value.int .i64 0, Value.int .i64 0, Value.int .i64 0, Value.int .i64 0, Value.int .i64 0, Value.int .i64 0, Value.int .i64 0, Value.int .i64 0, Value.int .i64 0, Value.int .i64 0, Value.int .i64 0, Value.int .i64 0, Value.int .i64 0, Value.int .i64 0, Value.int .i64 0, Value.int .i64 0, Value.int .i64 0, Value.int .i64 0, Value.int .i64 0, Value.int .i64 0, Value.int .i64 0, Value.int .i64 0, Value.int .i64 0, Value.int .i64 0, Value.int .i64 0, Value.int .i64 0, Value.int .i64 0, Value.int .i64 0, Value.int .i64 0] = .agg (kcs fun _ => zK) := by rw [zero42]
theorem ldK_run {w : World} {B : Nat} {f : Nat → Ky} (h : KsAt w B f) : (Instr.loadAt 39 (.pointer (some ⟨B, 0, none⟩))).run Tryd.prog w = .ok (.agg (kcs f)) w := by
  simp only [Instr.loadAt, Instr.sureAddr, Sem.run_bind, Sem.run_pure, Result.andThen]
  exact run_loadVar_row w B _ _ _ _ _ h Tryd.underlying39 rfl (by rw [kcs_size]; exact infoK)
theorem ldK_exec {w : World} {B : Nat} {f : Nat → Ky} (h : KsAt w B f) {a : Act} {o : Oper} {x : Operand} (ho : o.op = .load 39 x) (hx : a.eval x = .pointer (some ⟨B, 0, none⟩)) : (execOp a.eval o).run Tryd.prog w = .ok (.value (.agg (kcs f))) w := by
  have := ldK_run h
  simp [execOp, ho, hx, this, Sem.run_bind, Result.andThen]
theorem results_ks3 {fn : Func} {p t u : Tmp} (hf : fn.results = #[.cell p 39, .tmp t, .tmp u]) (tmps : Array Value) (W : World) (B : Nat) (f : Nat → Ky) (hp : tmps[p]? = some (.pointer (some ⟨B, 0, none⟩))) (hb : KsAt W B f) :
    (results fn tmps).run Tryd.prog W = .ok (.tuple #[.agg (kcs f), tmps.getD t undef, tmps.getD u undef]) W := by
  have h := run_loadVar_row W B _ 39 _ _ _ hb Tryd.underlying39 rfl (by rw [kcs_size]; exact infoK)
  simp [results, hf, hp, asAddr, h]
/- What stands while Turn goes. -/
structure TS (w W : World) (f : Nat → Ky) : Prop where
  ks : KsAt W w.heap.size f
  ze : KsAt W (w.heap.size + 1) (fun _ => zK)
  bel : Below w.heap.size w W
theorem TS.later {w W W' : World} {f : Nat → Ky} (h : TS w W f) (hb : Below W.heap.size W W') : TS w W' f := ⟨h.ks.later hb, h.ze.later hb, h.bel.trans (hb.mono h.bel.size)⟩
theorem TS.new (w : World) (f : Nat → Ky) : TS w ((w.alloc (.cells (kcs f) 39)).alloc (.cells (kcs fun _ => zK) 39)) f := by
  have b2 := alloc_ks (w.alloc (.cells (kcs f) 39)) (fun _ => zK)
  have h2 := KsAt.new (w.alloc (.cells (kcs f) 39)) (fun _ => zK)
  rw [World.size_alloc] at h2
  exact ⟨(KsAt.new w f).later b2, h2, (alloc_ks w f).trans (b2.mono (by simp))⟩
structure TL (w W : World) (f : Nat → Ky) (B : Nat) (g : Nat → Ky) : Prop where
  ts : TS w W f
  nx : KsAt W B g
  far : w.heap.size + 2 ≤ B
theorem TL.later {w W W' : World} {f g : Nat → Ky} {B : Nat} (h : TL w W f B g) (hb : Below W.heap.size W W') : TL w W' f B g := ⟨h.ts.later hb, h.nx.later hb, h.far⟩
theorem TL.set {w W : World} {f g : Nat → Ky} {B : Nat} (h : TL w W f B g) (k : Nat) (hk : k < 21) (a b : Int) : TL w ((W.setCell ⟨B, k * 2, none⟩ (.int .i64 a)).setCell ⟨B, k * 2 + 1, none⟩ (.int .i64 b)) f B (kup g k ⟨a, b⟩) := by
  have hf := h.far
  exact ⟨⟨(set2_other (by omega) _ _ _ _).trans h.ts.ks, (set2_other (by omega) _ _ _ _).trans h.ts.ze, set2_below h.ts.bel (by omega) _ _ _ _⟩, h.nx.set2 k hk a b, hf⟩
/- What Turn answers. -/
def TurnA (f : Nat → Ky) (r : Nat) (n : Int) : Ending := .returned (.tuple #[.agg (kcs (trA f r n)), .int .i64 (trN f r n), .int .i64 (trE f r n)])
theorem TurnA.no {f : Nat → Ky} {r : Nat} {n x : Int} (h : trE f r n = x) (hx : x ≠ 0) : Ending.returned (.tuple #[.agg (kcs fun _ => zK), .int .i64 0, .int .i64 x]) = TurnA f r n := by
  unfold TurnA trA trN
  rw [h, if_neg hx, if_neg hx]
theorem TurnA.yes {f : Nat → Ky} {r : Nat} {n : Int} (h : trE f r n = 0) : Ending.returned (.tuple #[.agg (kcs (trK f r n)), .int .i64 (n + ((cu r 21 : Nat) : Int)), .int .i64 0]) = TurnA f r n := by
  unfold TurnA trA trN
  rw [h, if_pos rfl, if_pos rfl]
theorem and1 (r v : Nat) (hr : r < 4294967296) : bits .and .u32 ((r : Int) / 2 ^ v) 1 = if r.testBit v then 1 else 0 := by
  have e : (r : Int) / 2 ^ v = ((r / 2 ^ v : Nat) : Int) := by simp
  have hlt : r / 2 ^ v < 4294967296 := Nat.lt_of_le_of_lt (Nat.div_le_self _ _) hr
  generalize hx : r / 2 ^ v = x at *
  rw [e, u32_and _ _ (by omega) (by omega) (by omega) (by omega)]
  have h2 : ((x : Int)).toNat &&& (1 : Int).toNat = x % 2 := by
    rw [Int.toNat_natCast]
    exact Nat.and_one_is_mod _
  rw [h2, Nat.testBit_eq_decide_div_mod_eq, hx]
  rcases Nat.mod_two_eq_zero_or_one x with h | h <;> simp [h]
set_option maxRecDepth 100000 in
set_option maxHeartbeats 2000000 in
theorem turn_any (f : Nat → Ky) (r : Nat) (hr : r < 4294967296) (n : Int) (w : World) :
    Calls Tryd.prog 50 #[.agg (kcs f), .int .u32 (r : Int), .int .i64 n] w fun e w' => e = TurnA f r n ∧ Below w.heap.size w w' := by
  have hT0 := TS.new w f
  go_enter Tryd.func50, Tryd.ntmps50
  go_upto_region 1 with (fail)
  rw [zero42]
  generalize (w.alloc (.cells (kcs f) 39)).alloc (.cells (kcs fun _ => zK) 39) = w1 at *
  refine wp_region_lit ?_
  refine ldK hT0.ks rfl _ rfl rfl ?_
  have hck := check_any f w1
  obtain ⟨cf, hcf⟩ : ∃ cf, kcs f = cf := ⟨_, rfl⟩
  rw [hcf] at hck ⊢
  clear hcf
  go_wp2_with fail
  refine hck.mono ?_
  rintro e w2 ⟨rfl, hb2⟩
  have hT2 := hT0.later hb2
  clear hck hb2 hT0
  cases hkc : kchk f with
  | false =>
    rw [kchkE_ff hkc]
    go_wp2_with (refine stK (g := fun _ => zK) hT2.ze rfl _ _ rfl rfl zero42' ?_)
    refine bodyPost_ret (results_ks3 (p := 6) (t := 7) (u := 8) rfl _ _ (w.heap.size + 1) (fun _ => zK) rfl (hT2.ze.row _)) rfl ?_
    exact ⟨TurnA.no (trE_wrong hkc) (by decide), setRow_below (by omega) hT2.bel _⟩
  | true =>
    rw [kchkE_tt hkc]
    by_cases hr2 : r < 2097152
    · have hs : (r : Int) / 2097152 = 0 := by omega
      have h1 := ones_any r hr2
      have h2 := areFree_any f n (cu r 21) (cu_le _ _)
      rw [← frk_fre] at h2
      have HCU : Hid (cu r 21 ≤ 21) := cu_le _ _
      obtain ⟨q, hq⟩ : ∃ q, cu r 21 = q := ⟨_, rfl⟩
      rw [hq] at h1 h2
      have HQ : Hid (cu r 21 = q) := hq
      clear hq
      go_upto_region 6 with (fail)
      have hS0 : TS w w2.drew f := hT2.later (drew_below _)
      clear hs
      cases hfk : frk f r n with
      | false =>
        rw [hfk] at h2
        refine wp_region_held_drew (S := fun W => TS w W f) (by kernel_rfl) hS0 (fun hHeld => ?_)
        refine wpAnyH_take (i := 0) (oi := { dst := some 24, op := Op.load 39 (Operand.tmp 3), type := _, pos := _, after := _, guard := none }) (v := .agg (kcs f)) rfl (by kernel_rfl) (by kernel_rfl) (by kernel_rfl) (fun _ _ _ h => h) (Or.inl ⟨by rfl, fun w hSw => ldK_exec hSw.ks rfl rfl⟩) (by assumption) ?_
        simp only [Act.put, List.setIfInBounds_toArray, List.set_cons_zero, List.set_cons_succ]
        refine wpAnyH_take (i := 1) (oi := { dst := some 25, op := Op.move (Operand.tmp 2), type := _, pos := _, after := _, guard := none }) (v := .int .i64 n) rfl (by kernel_rfl) (by kernel_rfl) (by kernel_rfl) (fun _ _ _ h => h) (Or.inl ⟨by rfl, fun w hSw => by (try dsimp only at hSw); go_simp⟩) (by assumption) ?_
        simp only [Act.put, List.setIfInBounds_toArray, List.set_cons_zero, List.set_cons_succ]
        refine wpAnyH_take (i := 2) (oi := { dst := some 26, op := Op.move (Operand.tmp 1), type := _, pos := _, after := _, guard := none }) (v := .int .u32 (r : Int)) rfl (by kernel_rfl) (by kernel_rfl) (by kernel_rfl) (fun _ _ _ h => h) (Or.inl ⟨by rfl, fun w hSw => by (try dsimp only at hSw); go_simp⟩) (by assumption) ?_
        simp only [Act.put, List.setIfInBounds_toArray, List.set_cons_zero, List.set_cons_succ]
        refine wpAnyH_ready (rs := [3]) (by kernel_rfl) (by simp) ?_
        refine AllReadyH.cons rfl (fun K hK => ?_) AllReadyH.nil
        go_simp
        refine (h1 _).mono ?_
        rintro e w3 ⟨rfl, hb3⟩
        go_wp2_with fail
        refine hK.out _ _ (hHeld.later hb3) (fun hHeld2 => ?_)
        clear hHeld hb3
        clear hK K
        try simp only [Act.put, List.setIfInBounds_toArray, List.set_cons_zero, List.set_cons_succ]
        refine wpAnyH_ready (rs := [4]) (by kernel_rfl) (by simp) ?_
        refine AllReadyH.cons rfl (fun K hK => ?_) AllReadyH.nil
        go_simp
        refine (h2 _).mono ?_
        rintro e w4 ⟨rfl, hb4⟩
        go_wp2_with fail
        refine hK.out _ _ (hHeld2.later hb4) (fun hHeld3 => ?_)
        clear hHeld2 hb4
        clear hK K
        try simp only [Act.put, List.setIfInBounds_toArray, List.set_cons_zero, List.set_cons_succ]
        refine wpAnyH_take (i := 5) (oi := { dst := some 29, op := Op.unOp UnOp.not 4 (Operand.tmp 28), type := _, pos := _, after := _, guard := none }) (v := .bool true) rfl (by kernel_rfl) (by kernel_rfl) (by kernel_rfl) (fun _ _ _ h => h) (Or.inl ⟨by rfl, fun w hSw => by (try dsimp only at hSw); go_simp⟩) (by assumption) ?_
        simp only [Act.put, List.setIfInBounds_toArray, List.set_cons_zero, List.set_cons_succ]
        refine wpAnyH_done (by kernel_rfl) ?_ _
        go_wp2_with (refine stK (g := fun _ => zK) hHeld3.ze rfl _ _ rfl rfl zero42' ?_)
        refine bodyPost_ret (results_ks3 (p := 6) (t := 7) (u := 8) rfl _ _ (w.heap.size + 1) (fun _ => zK) rfl (hHeld3.ze.row _)) rfl ?_
        exact ⟨TurnA.no (trE_key hkc hr2 hfk) (by decide), setRow_below (by omega) hHeld3.bel _⟩
      | true =>
        rw [hfk] at h2
        refine wp_region_held_drew (S := fun W => TS w W f) (by kernel_rfl) hS0 (fun hHeld => ?_)
        refine wpAnyH_take (i := 0) (oi := { dst := some 24, op := Op.load 39 (Operand.tmp 3), type := _, pos := _, after := _, guard := none }) (v := .agg (kcs f)) rfl (by kernel_rfl) (by kernel_rfl) (by kernel_rfl) (fun _ _ _ h => h) (Or.inl ⟨by rfl, fun w hSw => ldK_exec hSw.ks rfl rfl⟩) (by assumption) ?_
        simp only [Act.put, List.setIfInBounds_toArray, List.set_cons_zero, List.set_cons_succ]
        refine wpAnyH_take (i := 1) (oi := { dst := some 25, op := Op.move (Operand.tmp 2), type := _, pos := _, after := _, guard := none }) (v := .int .i64 n) rfl (by kernel_rfl) (by kernel_rfl) (by kernel_rfl) (fun _ _ _ h => h) (Or.inl ⟨by rfl, fun w hSw => by (try dsimp only at hSw); go_simp⟩) (by assumption) ?_
        simp only [Act.put, List.setIfInBounds_toArray, List.set_cons_zero, List.set_cons_succ]
        refine wpAnyH_take (i := 2) (oi := { dst := some 26, op := Op.move (Operand.tmp 1), type := _, pos := _, after := _, guard := none }) (v := .int .u32 (r : Int)) rfl (by kernel_rfl) (by kernel_rfl) (by kernel_rfl) (fun _ _ _ h => h) (Or.inl ⟨by rfl, fun w hSw => by (try dsimp only at hSw); go_simp⟩) (by assumption) ?_
        simp only [Act.put, List.setIfInBounds_toArray, List.set_cons_zero, List.set_cons_succ]
        refine wpAnyH_ready (rs := [3]) (by kernel_rfl) (by simp) ?_
        refine AllReadyH.cons rfl (fun K hK => ?_) AllReadyH.nil
        go_simp
        refine (h1 _).mono ?_
        rintro e w3 ⟨rfl, hb3⟩
        go_wp2_with fail
        refine hK.out _ _ (hHeld.later hb3) (fun hHeld2 => ?_)
        clear hHeld hb3
        clear hK K
        try simp only [Act.put, List.setIfInBounds_toArray, List.set_cons_zero, List.set_cons_succ]
        refine wpAnyH_ready (rs := [4]) (by kernel_rfl) (by simp) ?_
        refine AllReadyH.cons rfl (fun K hK => ?_) AllReadyH.nil
        go_simp
        refine (h2 _).mono ?_
        rintro e w4 ⟨rfl, hb4⟩
        go_wp2_with fail
        refine hK.out _ _ (hHeld2.later hb4) (fun hHeld3 => ?_)
        clear hHeld2 hb4
        clear hK K
        try simp only [Act.put, List.setIfInBounds_toArray, List.set_cons_zero, List.set_cons_succ]
        refine wpAnyH_take (i := 5) (oi := { dst := some 29, op := Op.unOp UnOp.not 4 (Operand.tmp 28), type := _, pos := _, after := _, guard := none }) (v := .bool false) rfl (by kernel_rfl) (by kernel_rfl) (by kernel_rfl) (fun _ _ _ h => h) (Or.inl ⟨by rfl, fun w hSw => by (try dsimp only at hSw); go_simp⟩) (by assumption) ?_
        simp only [Act.put, List.setIfInBounds_toArray, List.set_cons_zero, List.set_cons_succ]
        refine wpAnyH_done (by kernel_rfl) ?_ _
        clear h1 h2 hS0 hT2
        go_upto_region 9 with (fail)
        rw [zero42]
        have hL5 : TL w (w4.alloc (.cells (kcs fun _ => zK) 39)) f w4.heap.size (trS (fun _ => zK) f r n 0) := ⟨hHeld3.later (alloc_ks _ _), (KsAt.new _ _).congr (trS_zero _ _ _ _).symm, hHeld3.ze.lt⟩
        clear hHeld3
        generalize w4.alloc (.cells (kcs fun _ => zK) 39) = w6 at *
        generalize w4.heap.size = Bn at *
        have HL5 : Hid (TL w w6 f Bn (trS (fun _ => zK) f r n 0)) := hL5
        clear hL5
        go_wp2_with fail
        go_loopw [2, 11] (fun x i wx => ∃ j : Nat, j ≤ 21 ∧ i = .int .i64 (20 - (j : Int)) ∧ x = .int .i64 (n + ((cd r j : Nat) : Int)) ∧ TL w wx f Bn (trS (fun _ => zK) f r n j) ∧ ∀ m, m < j → skk f r (20 - m) = false) (fun _ i _ => (intOf i + 1).toNat)
        case atStart => exact ⟨0, by omega, rfl, by simp [cd], HL5.out, fun m hm => by omega⟩
        case round =>
          obtain ⟨j, hj, rfl, rfl, hL, hsk⟩ := hrel
          have HL : Hid (TL w wr f Bn (trS (fun _ => zK) f r n j)) := hL
          have HSK : Hid (∀ m, m < j → skk f r (20 - m) = false) := hsk
          clear hL hsk HL5
          by_cases hj8 : j < 21
          · obtain ⟨v, hv⟩ : ∃ v : Nat, 20 - j = v := ⟨_, rfl⟩
            have hvi : (20 : Int) - (j : Int) = (v : Int) := by omega
            rw [hvi]
            have v0 : (0 : Int) ≤ (v : Int) := by omega
            have v1 : (v : Int) < 21 := by omega
            have vw : IntKind.u64.wrap (v : Int) = (v : Int) := by rw [IntKind.wrap_u64]; omega
            obtain ⟨y, hy⟩ : ∃ y : Int, n + ((cd r j : Nat) : Int) = y := ⟨_, rfl⟩
            rw [hy]
            have HY : Hid (n + ((cd r j : Nat) : Int) = y) := hy
            have HV : Hid (20 - j = v) := hv
            clear hy hv hvi
            have hand := and1 r v hr
            obtain ⟨c0, c1⟩ := HL.out.nx.cells v (by omega)
            have f0 := row_frozen HL.out.nx (v * 2)
            have f1 := row_frozen HL.out.nx (v * 2 + 1)
            have HI : Hid ((20 : Int) - ((j + 1 : Nat) : Int) = (v : Int) - 1) := by have := HV.out; unfold Hid; omega
            have HVJ : Hid (20 - v = j) := by have := HV.out; unfold Hid; omega
            have hcdl := cd_le r j
            have HCD : Hid (cd r (j + 1) = cd r j + b1 r v) := by have := HV.out; rw [← this]; exact rfl
            have HTS : Hid (trS (fun _ => zK) f r n (j + 1) = kup (trS (fun _ => zK) f r n j) v (trK f r n v)) := by have := trS_step (fun _ => zK) f r n hj8; rw [HV.out] at this; exact this
            cases hb : r.testBit v with
            | true =>
              rw [hb] at hand
              obtain ⟨fk1, fk2, _⟩ := frk_at hfk (by omega : v < 21) hb
              have HY1 : Hid (y + 1 = n + ((cd r (j + 1) : Nat) : Int)) := by have h1 := HY.out; have h2 := HCD.out; unfold b1 at h2; rw [hb] at h2; simp at h2; unfold Hid; omega
              have hyw : IntKind.i64.wrap (y + 1) = y + 1 := i64_fit _ (by have := HY.out; omega) (by have := HY.out; have := HCU.out; omega)
              have HL2 : Hid (TL w ((wr.setCell ⟨Bn, v * 2, none⟩ (.int .i64 y)).setCell ⟨Bn, v * 2 + 1, none⟩ (.int .i64 0)) f Bn (kup (trS (fun _ => zK) f r n j) v ⟨y, 0⟩)) := HL.out.set v (by omega) y 0
              clear fk1 fk2
              go_wp2_with fail
              go_roundw
              case rel =>
                refine ⟨j + 1, by omega, by rw [HI.out], by rw [← HY1.out], ?_, fun m hm => ?_⟩
                · rw [HTS.out, trK_new hb, HVJ.out, HY.out]
                  exact HL2.out
                · rcases Nat.lt_or_ge m j with h | h
                  · exact HSK.out m h
                  · obtain rfl : m = j := by omega
                    unfold skk
                    rw [HV.out, hb]
                    rfl
              case measure => simp [intOf]
            | false =>
              rw [hb] at hand
              obtain ⟨d0, d1⟩ := HL.out.ts.ks.cells v (by omega)
              obtain ⟨hG, _⟩ := (kchk_iff.1 hkc).1 v (by omega)
              have HY1 : Hid (y = n + ((cd r (j + 1) : Nat) : Int)) := by have h1 := HY.out; have h2 := HCD.out; unfold b1 at h2; rw [hb] at h2; simp at h2; unfold Hid; omega
              have HTK : Hid (trK f r n v = ⟨(f v).bas, (f v).stp + 1⟩) := trK_old hb
              have HSV : Hid (skk f r v = decide (254 < (f v).stp)) := by unfold skk; rw [hb]; rfl
              obtain ⟨e, he⟩ : ∃ e, f v = e := ⟨_, rfl⟩
              rw [he] at d0 d1 hG HTK HSV
              have HFE : Hid (f v = e) := he
              clear he
              by_cases hst : 254 < e.stp
              · have ha := ahead_far e.bas e.stp 1 hG (Or.inr (by omega)) wr
                clear c0 c1 f0 f1
                go_wp2_with fail
                refine ha.mono ?_
                rintro a w7 ⟨rfl, hb7⟩
                have hT8 := (HL.out.ts.later hb7).later (below_alloc w7 (.cells #[.int .i64 0, .int .i64 0] 37))
                clear ha hb7 d0 d1
                go_wp2_with (refine stK (g := fun _ => zK) hT8.ze rfl _ _ rfl rfl zero42' ?_)
                refine bodyPost_ret (results_ks3 (p := 6) (t := 7) (u := 8) rfl _ _ (w.heap.size + 1) (fun _ => zK) rfl (hT8.ze.row _)) rfl ?_
                exact ⟨TurnA.no (trE_step hkc hr2 hfk (stuck_yes (v := v) (by omega) (by rw [HSV.out]; exact decide_eq_true hst))) (by decide), setRow_below (by omega) hT8.bel _⟩
              · have ha := ahead_yes e.bas e.stp 1 hG (by omega) (by omega) wr
                clear c0 c1 f0 f1
                go_wp2_with fail
                refine ha.mono ?_
                rintro a w7 ⟨rfl, hb7⟩
                have hL8 := (HL.out.later hb7).later (below_alloc w7 (.cells #[.int .i64 e.bas, .int .i64 (e.stp + 1)] 37))
                obtain ⟨c0, c1⟩ := hL8.nx.cells v (by omega)
                have f0 := row_frozen hL8.nx (v * 2)
                have f1 := row_frozen hL8.nx (v * 2 + 1)
                have HL9 : Hid (TL w (((w7.alloc (.cells #[.int .i64 e.bas, .int .i64 (e.stp + 1)] 37)).setCell ⟨Bn, v * 2, none⟩ (.int .i64 e.bas)).setCell ⟨Bn, v * 2 + 1, none⟩ (.int .i64 (e.stp + 1))) f Bn (kup (trS (fun _ => zK) f r n j) v ⟨e.bas, e.stp + 1⟩)) := hL8.set v (by omega) e.bas (e.stp + 1)
                clear ha hb7 d0 d1 hL8
                go_wp2_with fail
                go_roundw
                case rel =>
                  refine ⟨j + 1, by omega, by rw [HI.out], by rw [← HY1.out], ?_, fun m hm => ?_⟩
                  · rw [HTS.out, HTK.out]
                    exact HL9.out
                  · rcases Nat.lt_or_ge m j with h | h
                    · exact HSK.out m h
                    · obtain rfl : m = j := by omega
                      rw [HV.out, HSV.out]
                      exact decide_eq_false (by omega)
                case measure => simp [intOf]
          · obtain rfl : j = 21 := by omega
            have HE0 : Hid (trE f r n = 0) := trE_ok hkc hr2 hfk (stuck_no fun v hv => by have := HSK.out (20 - v) (by omega); rw [show 20 - (20 - v) = v by omega] at this; exact this)
            have hN := HL.out.nx.congr (trS_all _ _ _ _)
            rw [show cd r 21 = cu r 21 from cd_all r]
            obtain ⟨y, hy⟩ : ∃ y : Int, n + ((cu r 21 : Nat) : Int) = y := ⟨_, rfl⟩
            rw [hy]
            have HY : Hid (n + ((cu r 21 : Nat) : Int) = y) := hy
            clear hy
            go_upto_region 19 with (fail)
            refine wp_region_lit ?_
            refine ldK hN rfl _ rfl rfl ?_
            go_wp2_with (refine stK (g := trK f r n) HL.out.ts.ze rfl _ _ rfl rfl rfl ?_)
            refine bodyPost_ret (results_ks3 (p := 6) (t := 7) (u := 8) rfl _ _ (w.heap.size + 1) (trK f r n) rfl (HL.out.ts.ze.row _)) rfl ?_
            refine ⟨?_, setRow_below (by omega) HL.out.ts.bel _⟩
            rw [← TurnA.yes HE0.out, HY.out]
            rfl
    · have hs : ((r : Int) / 2097152 == 0) = false := by simp; omega
      have hs2 : ¬ ((r : Int) / 2097152 = 0) := by omega
      go_wp2_with (refine stK (g := fun _ => zK) hT2.ze rfl _ _ rfl rfl zero42' ?_)
      refine bodyPost_ret (results_ks3 (p := 6) (t := 7) (u := 8) rfl _ _ (w.heap.size + 1) (fun _ => zK) rfl (hT2.ze.row _)) rfl ?_
      exact ⟨TurnA.no (trE_node hkc hr2) (by decide), setRow_below (by omega) hT2.bel _⟩
end Go.Proofs.YteocfmimgoocnaaDoor.Rt
/- Contracts: plain; what every statement asks first (lives). -/
namespace Go.Proofs.YteocfmimgoocnaaDoor.Rt
open Go.RowKit
set_option linter.unusedVariables false
set_option linter.unusedSimpArgs false

def plK (s : Int) : Nat → Ky := fun v => ⟨(v : Int) + 1, s⟩
def plS (s : Int) (j : Nat) : Nat → Ky := fun v => if v < j then ⟨(v : Int) + 1, s⟩ else zK
theorem plS_zero (s : Int) : kcs (plS s 0) = kcs fun _ => zK := kcs_congr fun i _ => if_neg (by omega)
theorem plS_all (s : Int) : kcs (plS s 21) = kcs (plK s) := kcs_congr fun i hi => if_pos hi
theorem plS_step (s : Int) (j : Nat) : plS s (j + 1) = kup (plS s j) j ⟨(j : Int) + 1, s⟩ := by
  funext v
  show (if v < j + 1 then (⟨(v : Int) + 1, s⟩ : Ky) else zK) = if v = j then ⟨(j : Int) + 1, s⟩ else (if v < j then ⟨(v : Int) + 1, s⟩ else zK)
  by_cases h : v = j
  · subst h
    rw [if_pos (by omega), if_pos rfl]
  · rw [if_neg h]
    by_cases c : v < j
    · rw [if_pos (by omega), if_pos c]
    · rw [if_neg (by omega), if_neg c]
theorem results_ks1 {fn : Func} {p : Tmp} (hf : fn.results = #[.cell p 39 ]) (tmps : Array Value) (W : World) (B : Nat) (f : Nat → Ky) (hp : tmps[p]? = some (.pointer (some ⟨B, 0, none⟩))) (hb : KsAt W B f) :
    (results fn tmps).run Tryd.prog W = .ok (.agg (kcs f)) W := by
  have h := run_loadVar_row W B _ 39 _ _ _ hb Tryd.underlying39 rfl (by rw [kcs_size]; exact infoK)
  simp [results, hf, hp, asAddr, h]
theorem alloc_zeroK (w : World) : w.alloc (.cells #[Value.int .i64 0, Value.int .i64 0, Value.int .i64 0, Value.int .i64 0, Value.int .i64 0, Value.int .i64 0, Value.int .i64 0, Value.int .i64 0, Value.int .i64 0, Value.int .i64 0, Value.int .i64 0, Value.int .i64 0, Value.int .i64 0, Value.int .i64 0, Value.int .i64 0, Value.int .i64 0, Value.int .i64 0, Value.int .i64 0, Value.int .i64 0, Value.int .i64 0, Value.int .i64 0, Value.int .i64 0, Value.int .i64 0, Value.int .i64 0, Value.int .i64 0, Value.int .i64 0, Value.int .i64 0, Value.int .i64 0, Value.int .i64 0, Value.int .i64 0, Value.int .i64 0, Value.int .i64 0, Value.int .i64 0, Value.int .i64 0, Value.int .i64 0, Value.int .i64 0, Value.int .i64 0, Value.int .i64 0, Value.int .i64 0, Value.int .i64 0, Value.int .i64 0, Value.int .i64 0] 39) = w.alloc (.cells (kcs fun _ => zK) 39) := by rw [zero42]
theorem new_zeroK (w : World) : KsAt (w.alloc (.cells #[Value.int .i64 0, Value.int .i64 0, Value.int .i64 0, Value.int .i64 0, Value.int .i64 0, Value.int .i64 0, Value.int .i64 0, Value.int .i64 0, Value.int .i64 0, Value.int .i64 0, Value.int .i64 0, Value.int .i64 0, Value.int .i64 0, Value.int .i64 0, Value.int .i64 0, Value.int .i64 0, Value.int .i64 0, Value.int .i64 0, Value.int .i64 0, Value.int .i64 0, Value.int .i64 0, Value.int .i64 0, Value.int .i64 0, Value.int .i64 0, Value.int .i64 0, Value.int .i64 0, Value.int .i64 0, Value.int .i64 0, Value.int .i64 0, Value.int .i64 0, Value.int .i64 0, Value.int .i64 0, Value.int .i64 0, Value.int .i64 0, Value.int .i64 0, Value.int .i64 0, Value.int .i64 0, Value.int .i64 0, Value.int .i64 0, Value.int .i64 0, Value.int .i64 0, Value.int .i64 0] 39)) w.heap.size (fun _ => zK) := by rw [alloc_zeroK]; exact KsAt.new _ _
theorem live0 : trE (plK 3) 1048593 40 = 0 := by decide +kernel
theorem live1 : trN (plK 3) 1048593 40 = 43 := by decide +kernel
theorem live2 : (trA (plK 3) 1048593 40 20).bas = 40 ∧ (trA (plK 3) 1048593 40 20).stp = 0 := by decide +kernel
theorem live3 : (trA (plK 3) 1048593 40 4).bas = 41 ∧ (trA (plK 3) 1048593 40 4).stp = 0 := by decide +kernel
theorem live4 : (trA (plK 3) 1048593 40 0).bas = 42 ∧ (trA (plK 3) 1048593 40 0).stp = 0 := by decide +kernel
theorem live5 : (trA (plK 3) 1048593 40 1).bas = 2 ∧ (trA (plK 3) 1048593 40 1).stp = 4 := by decide +kernel
end Go.Proofs.YteocfmimgoocnaaDoor.Rt
/- Contracts: the document's Turn. -/
namespace Go.Proofs.YteocfmimgoocnaaDoor.Rt
open Go.RowKit
set_option linter.unusedVariables false
set_option linter.unusedSimpArgs false

theorem TS.set {w W : World} {g : Nat → Ky} (h : TS w W g) (k : Nat) (hk : k < 21) (a b : Int) : TS w ((W.setCell ⟨w.heap.size, k * 2, none⟩ (.int .i64 a)).setCell ⟨w.heap.size, k * 2 + 1, none⟩ (.int .i64 b)) (kup g k ⟨a, b⟩) :=
  ⟨h.ks.set2 k hk a b, (set2_other (by omega) _ _ _ _).trans h.ze, set2_below h.bel (Nat.le_refl _) _ _ _ _⟩
theorem high_bit {r : Nat} (hr : r < 4294967296) (h : ∀ i, 21 ≤ i → i < 32 → r.testBit i = false) : r < 2097152 := by
  rcases Nat.lt_or_ge r 2097152 with h1 | h1
  · exact h1
  · exfalso
    obtain ⟨i, hi, hb⟩ := Nat.exists_ge_and_testBit_of_ge_two_pow (n := 21) (x := r) (by simpa using h1)
    rcases Nat.lt_or_ge i 32 with h2 | h2
    · rw [h i hi h2] at hb
      cases hb
    · rw [Nat.testBit_lt_two_pow (Nat.lt_of_lt_of_le hr (by have := Nat.pow_le_pow_right (n := 2) (by omega) h2; simpa using this))] at hb
      cases hb
theorem low_bit {r i : Nat} (hr : r < 2097152) (hi : 21 ≤ i) : r.testBit i = false := Nat.testBit_lt_two_pow (Nat.lt_of_lt_of_le hr (by have := Nat.pow_le_pow_right (n := 2) (by omega) hi; simpa using this))
theorem frk_zero {f : Nat → Ky} {r : Nat} {n : Int} (h : cu r 21 = 0) : frk f r n = true := by unfold frk; rw [h]; rfl
theorem frk_low {f : Nat → Ky} {r : Nat} {n : Int} (h : ¬ cu r 21 = 0) (h2 : n < 1 ∨ 32768 - (cu r 21 : Int) < n) : frk f r n = false := by
  unfold frk
  rw [decide_eq_false h, Bool.false_or]
  rcases h2 with h2 | h2
  · rw [decide_eq_false (by omega), Bool.false_and]
  · rw [decide_eq_false (p := n ≤ _) (by omega), Bool.false_and, Bool.and_false]
theorem frk_clash {f : Nat → Ky} {r i : Nat} {n : Int} (h : ¬ cu r 21 = 0) (hi : i < 21) (hc : nm1 (f i) n (n + (cu r 21 : Int)) = true) : frk f r n = false := by
  unfold frk
  rw [decide_eq_false h, Bool.false_or, nmd_yes hi hc, Bool.not_true, Bool.and_false, Bool.and_false]
theorem frk_fine {f : Nat → Ky} {r : Nat} {n : Int} (h1 : 1 ≤ n) (h2 : n ≤ 32768 - (cu r 21 : Int)) (hc : ∀ i, i < 21 → nm1 (f i) n (n + (cu r 21 : Int)) = false) : frk f r n = true := by
  unfold frk
  rw [decide_eq_true h1, decide_eq_true h2, nmd_no hc]
  simp
/- Behind the tests: the nodes from the greatest down. -/
end Go.Proofs.YteocfmimgoocnaaDoor.Rt
