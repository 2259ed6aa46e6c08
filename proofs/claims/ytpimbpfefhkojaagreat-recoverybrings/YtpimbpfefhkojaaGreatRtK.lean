/- RtC, RtD, RtE, RtF, RtG, RtP, joined. -/
import Derived.Test.YtpimbpfefhkojaaGreatRtJ
import Derived.Test.YtpimbpfefhkojaaGreatKeyJ
import Derived.Laws.BitsAllLaws
import Derived.Lib.BitFns
/- Contracts: the document's Check, In, count. -/
namespace Go.Proofs.YtpimbpfefhkojaaGreat.Rt
open Go.RowKit
set_option linter.unusedVariables false
set_option linter.unusedSimpArgs false

theorem dn_below (w : World) (n : Nat) : Below w.heap.size w (w.drewN n) := ⟨rfl, rfl, rfl, Nat.le_refl _, fun _ _ => rfl⟩
theorem rIn_any (r v : Nat) (hr : r < 4294967296) (hv : v < 32) (w : World) :
    Calls Tryz.prog 39 #[.int .u32 (r : Int), .int .i64 (v : Int)] w fun e w' => e = .returned (.bool (r.testBit v)) ∧ w' = w := by
  have v0 : (0 : Int) ≤ (v : Int) := by omega
  have v1 : (v : Int) < 32 := by omega
  go_enter Tryz.func39, Tryz.ntmps39
  go_wp2_with fail
  go_loopw [0, 5] (fun x i wx => ∃ k : Nat, k ≤ v ∧ i = .int .i64 (k : Int) ∧ x = .int .u32 ((r / 2 ^ k : Nat) : Int) ∧ wx = w) (fun _ i _ => v - (intOf i).toNat)
  case atStart => exact ⟨0, by omega, rfl, by simp, rfl⟩
  case round =>
    obtain ⟨k, hk, rfl, rfl, rfl⟩ := hrel
    by_cases hk8 : k < v
    · have k8 : (k : Int) < (v : Int) := by omega
      have hsucc : r / 2 ^ (k + 1) = r / 2 ^ k / 2 := by rw [Nat.pow_succ, Nat.div_div_eq_div_mul]
      have hlt : r / 2 ^ k < 4294967296 := Nat.lt_of_le_of_lt (Nat.div_le_self _ _) hr
      obtain ⟨q, hq⟩ : ∃ q, r / 2 ^ k = q := ⟨_, rfl⟩
      rw [hq] at hsucc hlt ⊢
      have HQ : Hid (r / 2 ^ (k + 1) = q / 2) := hsucc
      clear hq hsucc
      go_wp2_with fail
      go_roundw
      case rel => exact ⟨k + 1, by omega, by go_num, by rw [HQ.out]; congr 1, by first | rfl | trivial⟩
      case measure => simp [intOf]; omega
    · obtain rfl : k = v := by omega
      have hd : decide ((k : Int) < (k : Int)) = false := by simp
      have hbit : r.testBit k = decide (r / 2 ^ k % 2 = 1) := Nat.testBit_eq_decide_div_mod_eq
      have hlt : r / 2 ^ k < 4294967296 := Nat.lt_of_le_of_lt (Nat.div_le_self _ _) hr
      obtain ⟨q, hq⟩ : ∃ q, r / 2 ^ k = q := ⟨_, rfl⟩
      rw [hq] at hbit hlt ⊢
      have HB : Hid (r.testBit k = decide (q % 2 = 1)) := hbit
      clear hq hbit
      go_wp2_with fail
      go_ret
      refine ⟨ret_bool ?_, rfl⟩
      rw [HB.out, Bool.eq_iff_iff]
      simp
      omega
theorem rCount_any (r : Nat) (hr : r < 4294967296) (w : World) :
    Calls Tryz.prog 59 #[.int .u32 (r : Int)] w fun e w' => e = .returned (.int .i64 ((cu r 21 : Nat) : Int)) ∧ w' = w := by
  go_enter Tryz.func59, Tryz.ntmps59
  go_wp2_with fail
  go_loopw [3, 4] (fun x i wx => ∃ k : Nat, k ≤ 21 ∧ i = .int .i64 (k : Int) ∧ x = .int .i64 ((cu r k : Nat) : Int) ∧ wx = w) (fun _ i _ => 21 - (intOf i).toNat)
  case atStart => exact ⟨0, by omega, rfl, rfl, rfl⟩
  case round =>
    obtain ⟨k, hk, rfl, rfl, rfl⟩ := hrel
    have hc := cu_le r k
    by_cases hk8 : k < 21
    · have k8 : (k : Int) < 21 := by omega
      have hin := rIn_any r k hr (by omega) wr
      have hs : cu r (k + 1) = cu r k + b1 r k := rfl
      unfold b1 at hs
      obtain ⟨q, hq⟩ : ∃ q, cu r k = q := ⟨_, rfl⟩
      rw [hq] at hs hc ⊢
      have HQ : Hid (cu r (k + 1) = q + if r.testBit k then 1 else 0) := hs
      clear hq hs
      cases hb : r.testBit k with
      | true =>
        rw [hb] at hin
        go_wp2_with (go_at_call 39; refine hin.mono ?_; rintro e w' ⟨rfl, rfl⟩)
        go_roundw
        case rel => exact ⟨k + 1, by omega, by go_num, by rw [HQ.out, hb]; go_num, by first | rfl | trivial⟩
        case measure => simp [intOf]; omega
      | false =>
        rw [hb] at hin
        go_wp2_with (go_at_call 39; refine hin.mono ?_; rintro e w' ⟨rfl, rfl⟩)
        go_roundw
        case rel => exact ⟨k + 1, by omega, by go_num, by rw [HQ.out, hb]; rfl, by first | rfl | trivial⟩
        case measure => simp [intOf]; omega
    · obtain rfl : k = 21 := by omega
      go_wp2_with fail
      go_ret
      exact ⟨rfl, rfl⟩
set_option maxRecDepth 100000 in
set_option maxHeartbeats 1000000 in
theorem rCheck_any (f : Nat → Ky) (w : World) : Calls Tryz.prog 33 #[.agg (kcs f)] w fun r w' => r = .returned (.int .i64 (kchkE f)) ∧ Below w.heap.size w w' := by
  have hn := KsAt.new w f
  have hB1 := alloc_ks w f
  go_enter Tryz.func33, Tryz.ntmps33
  go_upto_region 1 with (fail)
  generalize w.alloc (.cells (kcs f) 25) = w1 at *
  obtain ⟨B, hBB⟩ : ∃ B, w.heap.size = B := ⟨_, rfl⟩
  rw [hBB] at hn ⊢
  have HB1 : Hid (Below w.heap.size w w1) := hB1
  clear hB1 hBB
  obtain ⟨c, hc⟩ : ∃ c, kcs f = c := ⟨_, rfl⟩
  rw [hc]
  clear hc
  go_wp2_with fail
  go_loopw [3] (fun i wx => ∃ k : Nat, k ≤ 21 ∧ i = .int .i64 (k : Int) ∧ Below w1.heap.size w1 wx ∧ ∀ j, j < k → kok f j = true) (fun i _ => 21 - (intOf i).toNat)
  case atStart => exact ⟨0, by omega, rfl, Below.refl _ _, fun j hj => by omega⟩
  case round =>
    obtain ⟨k, hk, rfl, hb, hf⟩ := hrel
    have HB : Hid (Below w.heap.size w wr) := HB1.out.trans (hb.mono HB1.out.size)
    have HBW : Hid (Below w1.heap.size w1 wr) := hb
    have HF : Hid (∀ j, j < k → kok f j = true) := hf
    have hR := hn.later hb
    clear hb hf
    by_cases hk8 : k < 21
    · have k8 : (k : Int) < 21 := by omega
      have k0 : (0 : Int) ≤ (k : Int) := by omega
      obtain ⟨c0, c1⟩ := hR.cells k hk8
      have hg := rGood_any (f k).bas (f k).stp wr
      obtain ⟨e, he⟩ : ∃ e, f k = e := ⟨_, rfl⟩
      rw [he] at hg c0 c1
      have HE : Hid (f k = e) := he
      clear he
      cases hgd : gd e.bas e.stp with
      | false =>
        rw [hgd] at hg
        go_wp2_with (go_at_call 29; refine hg.mono ?_; rintro e w' ⟨rfl, rfl⟩)
        go_ret
        exact ⟨ret_int (by rw [kchkE_ff (kchk_bad hk8 (kok_bad1 HE.out hgd))]), HB.out.trans ((below_alloc _ _).mono HB.out.size)⟩
      | true =>
        rw [hgd] at hg
        have d0 := fun o => cell_alloc_lt c0 o
        cases how : decide (e.bas < 32768) with
        | false =>
          have how2 : (32768 : Int) ≤ e.bas := by have := of_decide_eq_false how; omega
          go_wp2_with (go_at_call 29; refine hg.mono ?_; rintro e w' ⟨rfl, rfl⟩)
          go_ret
          exact ⟨ret_int (by rw [kchkE_ff (kchk_bad hk8 (kok_bad2 HE.out how))]), HB.out.trans ((below_alloc _ _).mono HB.out.size)⟩
        | true =>
          have how2 : ¬ (32768 : Int) ≤ e.bas := by have := of_decide_eq_true how; omega
          go_wp2_with (go_at_call 29; refine hg.mono ?_; rintro e w' ⟨rfl, rfl⟩)
          have hb2 := below_alloc wr (.cells #[.int .i64 e.bas, .int .i64 e.stp] 23)
          have hR2 := hR.later hb2
          have HB2 : Hid (Below w.heap.size w (wr.alloc (.cells #[.int .i64 e.bas, .int .i64 e.stp] 23))) := HB.out.trans (hb2.mono HB.out.size)
          have HBW2 : Hid (Below w1.heap.size w1 (wr.alloc (.cells #[.int .i64 e.bas, .int .i64 e.stp] 23))) := HBW.out.trans (hb2.mono HBW.out.size)
          clear hb2 hR c0 c1 d0 hg
          generalize wr.alloc (.cells #[.int .i64 e.bas, .int .i64 e.stp] 23) = w2 at *
          go_loopw [4] (fun i wx => ∃ j : Nat, j ≤ k ∧ i = .int .i64 (j : Int) ∧ Below w2.heap.size w2 wx ∧ ∀ m, m < j → decide ((f m).bas = e.bas) = false) (fun i _ => k - (intOf i).toNat)
          case atStart => exact ⟨0, by omega, rfl, Below.refl _ _, fun j hj => by omega⟩
          case round =>
            obtain ⟨j, hj, rfl, hb, hf⟩ := hrel
            have HBX : Hid (Below w2.heap.size w2 wr) := hb
            have HG : Hid (∀ m, m < j → decide ((f m).bas = e.bas) = false) := hf
            have hR := hR2.later hb
            clear hf hb
            by_cases hjk : j < k
            · have j1 : (j : Int) < (k : Int) := by omega
              have j2 : (0 : Int) ≤ (j : Int) := by omega
              have j3 : (j : Int) < 21 := by omega
              obtain ⟨c0, _⟩ := hR.cells k hk8
              obtain ⟨d0, _⟩ := hR.cells j (by omega)
              rw [HE.out] at c0
              obtain ⟨x, hx⟩ : ∃ x, (f j).bas = x := ⟨_, rfl⟩
              rw [hx] at d0
              have HX : Hid ((f j).bas = x) := hx
              clear hx hR
              by_cases hxe : x = e.bas
              · have hxe2 : (x == e.bas) = true := by simp [hxe]
                have HXE : Hid (x = e.bas) := hxe
                clear hxe
                go_upto_region 9 with (fail)
                go_quiet (fail)
                go_wp2_with fail
                go_ret
                have hbb := HB2.out.trans (HBX.out.mono HB2.out.size)
                exact ⟨ret_int (by rw [kchkE_ff (kchk_bad hk8 (kok_bad3 HE.out (nmd_yes hjk (by rw [nm1_same, HX.out, HXE.out]; simp))))]), hbb.trans ((dn_below _ _).mono hbb.size)⟩
              · have hxe2 : (x == e.bas) = false := by simp [hxe]
                go_upto_region 9 with (fail)
                go_quiet (fail)
                go_wp2_with fail
                go_roundw
                case rel =>
                  refine ⟨j + 1, by omega, by go_num, HBX.out.trans ((dn_below _ _).mono HBX.out.size), fun m hm => ?_⟩
                  rcases Nat.lt_or_ge m j with h | h
                  · exact HG.out m h
                  · obtain rfl : m = j := by omega
                    rw [HX.out]
                    exact decide_eq_false hxe
                case measure => simp [intOf]; omega
            · obtain rfl : j = k := by omega
              have j1 : decide ((j : Int) < (j : Int)) = false := by simp
              go_wp2_with fail
              go_roundw
              case rel =>
                refine ⟨j + 1, by omega, by go_num, HBW2.out.trans (HBX.out.mono HBW2.out.size), fun m hm => ?_⟩
                rcases Nat.lt_or_ge m j with h | h
                · exact HF.out m h
                · obtain rfl : m = j := by omega
                  exact kok_fine HE.out hgd how (nmd_no fun i hi => by rw [nm1_same]; exact HG.out i hi)
              case measure => simp [intOf]; omega
    · obtain rfl : k = 21 := by omega
      go_wp2_with fail
      go_ret
      exact ⟨ret_int (by rw [kchkE_tt (kchk_good HF.out)]), HB.out⟩
end Go.Proofs.YtpimbpfefhkojaaGreat.Rt
/- Contracts: how many bits (the library's OnesCount32); areFree. -/
namespace Go.Proofs.YtpimbpfefhkojaaGreat.Rt
open Go.RowKit
set_option linter.unusedVariables false
set_option linter.unusedSimpArgs false

def fre (f : Nat → Ky) (x : Int) (n : Nat) : Bool := decide (n = 0) || (decide (1 ≤ x) && (decide (x ≤ 32768 - (n : Int)) && !nmd f 21 x (x + (n : Int))))
theorem frk_fre (f : Nat → Ky) (r : Nat) (x : Int) : frk f r x = fre f x (cu r 21) := rfl
theorem pop_cu : ∀ n : Fin 256, Lib.pop8 (n.val : Int) = ((cu n.val 8 : Nat) : Int) := by decide +kernel
theorem pop_at (n : Nat) (h : n < 256) : Lib.pop8 (n : Int) = ((cu n 8 : Nat) : Int) := pop_cu ⟨n, h⟩
theorem cu_congr {r s : Nat} : ∀ {k : Nat}, (∀ i, i < k → r.testBit i = s.testBit i) → cu r k = cu s k
  | 0, _ => rfl
  | k + 1, h => by
    simp only [cu]
    rw [cu_congr fun i hi => h i (by omega)]
    unfold b1
    rw [h k (by omega)]
theorem cu_add (r a : Nat) : ∀ b, cu r (a + b) = cu r a + cu (r / 2 ^ a) b
  | 0 => by simp [cu]
  | b + 1 => by
    rw [← Nat.add_assoc]
    simp only [cu]
    rw [cu_add r a b]
    have : b1 r (a + b) = b1 (r / 2 ^ a) b := by
      unfold b1
      rw [← Nat.shiftRight_eq_div_pow, Nat.testBit_shiftRight]
    omega
theorem cu_mod8 (r : Nat) : cu (r % 256) 8 = cu r 8 := cu_congr fun i hi => by
  rw [show 256 = 2 ^ 8 by decide, Nat.testBit_mod_two_pow]
  simp [hi]
theorem cu_parts (r : Nat) (hr : r < 2097152) : cu r 21 = cu (r / 65536) 8 + cu (r / 256 % 256) 8 + cu (r % 256) 8 := by
  rw [show 21 = 8 + 13 by decide, cu_add, show 13 = 8 + 5 by decide, cu_add, cu_mod8, cu_mod8]
  have e1 : r / 2 ^ 8 / 2 ^ 8 = r / 65536 := by omega
  rw [e1, show 2 ^ 8 = 256 by decide]
  have e2 : cu (r / 65536) 8 = cu (r / 65536) 5 := by
    rw [show 8 = 5 + 3 by decide, cu_add, show r / 65536 / 2 ^ 5 = 0 by omega, cu_none (r := 0) fun i _ => by simp]
    rfl
  omega
theorem and255 (v : Int) (h0 : 0 ≤ v) (h1 : v < 4294967296) : bits .and .u32 v 255 = v % 256 := by
  rw [u32_and _ _ (by omega) (by omega) (by omega) (by omega)]
  have : v.toNat &&& (255 : Int).toNat = v.toNat % 256 := Nat.and_two_pow_sub_one_eq_mod v.toNat 8
  rw [this]; omega
end Go.Proofs.YtpimbpfefhkojaaGreat.Rt
/- Contracts: Turn of the program. -/
namespace Go.Proofs.YtpimbpfefhkojaaGreat.Rt
open Go.RowKit
set_option linter.unusedVariables false
set_option linter.unusedSimpArgs false

theorem zero42' : Value.agg #[Value.int .i64 0, Value.int .i64 0, Value.int .i64 0, Value.int .i64 0, Value.int .i64 0, Value.int .i64 0, Value.int .i64 0, Value.int .i64 0, Value.int .i64 0, Value.int .i64 0, Value.int .i64 0, Value.int .i64 0, Value.int .i64 0, Value.int .i64 0, Value.int .i64 0, Value.int .i64 0, Value.int .i64 0, Value.int .i64 0, Value.int .i64 0, Value.int .i64 0, Value.int .i64 0, Value.int .i64 0, Value.int .i64 0, Value.int .i64 0, Value.int .i64 0, Value.int .i64 0, Value.int .i64 0, Value.int .i64 0, Value.int .i64 0, Value.int .i64 0, Value.int .i64 0, Value.int .i64 0, Value.int .i64 0, Value.int .i64 0, Value.int .i64 0, Value.int .i64 0, Value.int .i64 0, Value.int .i64 0, Value.int .i64 0, Value.int .i64 0, Value.int .i64 0, Value.int .i64 0] = .agg (kcs fun _ => zK) := by rw [zero42]
theorem ldK_run {w : World} {B : Nat} {f : Nat → Ky} (h : KsAt w B f) : (Instr.loadAt 25 (.pointer (some ⟨B, 0, none⟩))).run Tryz.prog w = .ok (.agg (kcs f)) w := by
  simp only [Instr.loadAt, Instr.sureAddr, Sem.run_bind, Sem.run_pure, Result.andThen]
  exact run_loadVar_row w B _ _ _ _ _ h Tryz.underlying25 rfl (by rw [kcs_size]; exact infoK)
theorem ldK_exec {w : World} {B : Nat} {f : Nat → Ky} (h : KsAt w B f) {a : Act} {o : Oper} {x : Operand} (ho : o.op = .load 25 x) (hx : a.eval x = .pointer (some ⟨B, 0, none⟩)) : (execOp a.eval o).run Tryz.prog w = .ok (.value (.agg (kcs f))) w := by
  have := ldK_run h
  simp [execOp, ho, hx, this, Sem.run_bind, Result.andThen]
theorem results_ks3 {fn : Func} {p t u : Tmp} (hf : fn.results = #[.cell p 25, .tmp t, .tmp u]) (tmps : Array Value) (W : World) (B : Nat) (f : Nat → Ky) (hp : tmps[p]? = some (.pointer (some ⟨B, 0, none⟩))) (hb : KsAt W B f) :
    (results fn tmps).run Tryz.prog W = .ok (.tuple #[.agg (kcs f), tmps.getD t undef, tmps.getD u undef]) W := by
  have h := run_loadVar_row W B _ 25 _ _ _ hb Tryz.underlying25 rfl (by rw [kcs_size]; exact infoK)
  simp [results, hf, hp, asAddr, h]
/- What stands while Turn goes. -/
structure TS (w W : World) (f : Nat → Ky) : Prop where
  ks : KsAt W w.heap.size f
  ze : KsAt W (w.heap.size + 1) (fun _ => zK)
  bel : Below w.heap.size w W
theorem TS.later {w W W' : World} {f : Nat → Ky} (h : TS w W f) (hb : Below W.heap.size W W') : TS w W' f := ⟨h.ks.later hb, h.ze.later hb, h.bel.trans (hb.mono h.bel.size)⟩
theorem TS.new (w : World) (f : Nat → Ky) : TS w ((w.alloc (.cells (kcs f) 25)).alloc (.cells (kcs fun _ => zK) 25)) f := by
  have b2 := alloc_ks (w.alloc (.cells (kcs f) 25)) (fun _ => zK)
  have h2 := KsAt.new (w.alloc (.cells (kcs f) 25)) (fun _ => zK)
  rw [World.size_alloc] at h2
  exact ⟨(KsAt.new w f).later b2, h2, (alloc_ks w f).trans (b2.mono (by simp))⟩
structure TL (w W : World) (f : Nat → Ky) (B : Nat) (g : Nat → Ky) : Prop where
  ts : TS w W f
  nx : KsAt W B g
  far : w.heap.size + 2 ≤ B
theorem TL.later {w W W' : World} {f g : Nat → Ky} {B : Nat} (h : TL w W f B g) (hb : Below W.heap.size W W') : TL w W' f B g := ⟨h.ts.later hb, h.nx.later hb, h.far⟩
theorem TL.set {w W : World} {f g : Nat → Ky} {B : Nat} (h : TL w W f B g) (k : Nat) (hk : k < 21) (a b : Int) : TL w ((W.setCell ⟨B, k * 2, none⟩ (.int .i64 a)).setCell ⟨B, k * 2 + 1, none⟩ (.int .i64 b)) f B (kup g k ⟨a, b⟩) := by
  have hf := h.far
  exact ⟨⟨(set2_other (by omega) _ _ _ _).trans h.ts.ks, (set2_other (by omega) _ _ _ _).trans h.ts.ze, set2_below h.ts.bel (by omega) _ _ _ _⟩, h.nx.set2 k hk a b, hf⟩
/- What Turn answers. -/
def TurnA (f : Nat → Ky) (r : Nat) (n : Int) : Ending := .returned (.tuple #[.agg (kcs (trA f r n)), .int .i64 (trN f r n), .int .i64 (trE f r n)])
theorem TurnA.no {f : Nat → Ky} {r : Nat} {n x : Int} (h : trE f r n = x) (hx : x ≠ 0) : Ending.returned (.tuple #[.agg (kcs fun _ => zK), .int .i64 0, .int .i64 x]) = TurnA f r n := by
  unfold TurnA trA trN
  rw [h, if_neg hx, if_neg hx]
theorem TurnA.yes {f : Nat → Ky} {r : Nat} {n : Int} (h : trE f r n = 0) : Ending.returned (.tuple #[.agg (kcs (trK f r n)), .int .i64 (n + ((cu r 21 : Nat) : Int)), .int .i64 0]) = TurnA f r n := by
  unfold TurnA trA trN
  rw [h, if_pos rfl, if_pos rfl]
theorem and1 (r v : Nat) (hr : r < 4294967296) : bits .and .u32 ((r : Int) / 2 ^ v) 1 = if r.testBit v then 1 else 0 := by
  have e : (r : Int) / 2 ^ v = ((r / 2 ^ v : Nat) : Int) := by simp
  have hlt : r / 2 ^ v < 4294967296 := Nat.lt_of_le_of_lt (Nat.div_le_self _ _) hr
  generalize hx : r / 2 ^ v = x at *
  rw [e, u32_and _ _ (by omega) (by omega) (by omega) (by omega)]
  have h2 : ((x : Int)).toNat &&& (1 : Int).toNat = x % 2 := by
    rw [Int.toNat_natCast]
    exact Nat.and_one_is_mod _
  rw [h2, Nat.testBit_eq_decide_div_mod_eq, hx]
  rcases Nat.mod_two_eq_zero_or_one x with h | h <;> simp [h]
end Go.Proofs.YtpimbpfefhkojaaGreat.Rt
/- Contracts: plain; what every statement asks first (lives). -/
namespace Go.Proofs.YtpimbpfefhkojaaGreat.Rt
open Go.RowKit
set_option linter.unusedVariables false
set_option linter.unusedSimpArgs false

def plK (s : Int) : Nat → Ky := fun v => ⟨(v : Int) + 1, s⟩
def plS (s : Int) (j : Nat) : Nat → Ky := fun v => if v < j then ⟨(v : Int) + 1, s⟩ else zK
theorem plS_zero (s : Int) : kcs (plS s 0) = kcs fun _ => zK := kcs_congr fun i _ => if_neg (by omega)
theorem plS_all (s : Int) : kcs (plS s 21) = kcs (plK s) := kcs_congr fun i hi => if_pos hi
theorem plS_step (s : Int) (j : Nat) : plS s (j + 1) = kup (plS s j) j ⟨(j : Int) + 1, s⟩ := by
  funext v
  show (if v < j + 1 then (⟨(v : Int) + 1, s⟩ : Ky) else zK) = if v = j then ⟨(j : Int) + 1, s⟩ else (if v < j then ⟨(v : Int) + 1, s⟩ else zK)
  by_cases h : v = j
  · subst h
    rw [if_pos (by omega), if_pos rfl]
  · rw [if_neg h]
    by_cases c : v < j
    · rw [if_pos (by omega), if_pos c]
    · rw [if_neg (by omega), if_neg c]
theorem results_ks1 {fn : Func} {p : Tmp} (hf : fn.results = #[.cell p 25 ]) (tmps : Array Value) (W : World) (B : Nat) (f : Nat → Ky) (hp : tmps[p]? = some (.pointer (some ⟨B, 0, none⟩))) (hb : KsAt W B f) :
    (results fn tmps).run Tryz.prog W = .ok (.agg (kcs f)) W := by
  have h := run_loadVar_row W B _ 25 _ _ _ hb Tryz.underlying25 rfl (by rw [kcs_size]; exact infoK)
  simp [results, hf, hp, asAddr, h]
theorem alloc_zeroK (w : World) : w.alloc (.cells #[Value.int .i64 0, Value.int .i64 0, Value.int .i64 0, Value.int .i64 0, Value.int .i64 0, Value.int .i64 0, Value.int .i64 0, Value.int .i64 0, Value.int .i64 0, Value.int .i64 0, Value.int .i64 0, Value.int .i64 0, Value.int .i64 0, Value.int .i64 0, Value.int .i64 0, Value.int .i64 0, Value.int .i64 0, Value.int .i64 0, Value.int .i64 0, Value.int .i64 0, Value.int .i64 0, Value.int .i64 0, Value.int .i64 0, Value.int .i64 0, Value.int .i64 0, Value.int .i64 0, Value.int .i64 0, Value.int .i64 0, Value.int .i64 0, Value.int .i64 0, Value.int .i64 0, Value.int .i64 0, Value.int .i64 0, Value.int .i64 0, Value.int .i64 0, Value.int .i64 0, Value.int .i64 0, Value.int .i64 0, Value.int .i64 0, Value.int .i64 0, Value.int .i64 0, Value.int .i64 0] 25) = w.alloc (.cells (kcs fun _ => zK) 25) := by rw [zero42]
theorem new_zeroK (w : World) : KsAt (w.alloc (.cells #[Value.int .i64 0, Value.int .i64 0, Value.int .i64 0, Value.int .i64 0, Value.int .i64 0, Value.int .i64 0, Value.int .i64 0, Value.int .i64 0, Value.int .i64 0, Value.int .i64 0, Value.int .i64 0, Value.int .i64 0, Value.int .i64 0, Value.int .i64 0, Value.int .i64 0, Value.int .i64 0, Value.int .i64 0, Value.int .i64 0, Value.int .i64 0, Value.int .i64 0, Value.int .i64 0, Value.int .i64 0, Value.int .i64 0, Value.int .i64 0, Value.int .i64 0, Value.int .i64 0, Value.int .i64 0, Value.int .i64 0, Value.int .i64 0, Value.int .i64 0, Value.int .i64 0, Value.int .i64 0, Value.int .i64 0, Value.int .i64 0, Value.int .i64 0, Value.int .i64 0, Value.int .i64 0, Value.int .i64 0, Value.int .i64 0, Value.int .i64 0, Value.int .i64 0, Value.int .i64 0] 25)) w.heap.size (fun _ => zK) := by rw [alloc_zeroK]; exact KsAt.new _ _
theorem live0 : trE (plK 3) 1048593 40 = 0 := by decide +kernel
theorem live1 : trN (plK 3) 1048593 40 = 43 := by decide +kernel
theorem live2 : (trA (plK 3) 1048593 40 20).bas = 40 ∧ (trA (plK 3) 1048593 40 20).stp = 0 := by decide +kernel
theorem live3 : (trA (plK 3) 1048593 40 4).bas = 41 ∧ (trA (plK 3) 1048593 40 4).stp = 0 := by decide +kernel
theorem live4 : (trA (plK 3) 1048593 40 0).bas = 42 ∧ (trA (plK 3) 1048593 40 0).stp = 0 := by decide +kernel
theorem live5 : (trA (plK 3) 1048593 40 1).bas = 2 ∧ (trA (plK 3) 1048593 40 1).stp = 4 := by decide +kernel
end Go.Proofs.YtpimbpfefhkojaaGreat.Rt
/- Contracts: the document's Turn. -/
namespace Go.Proofs.YtpimbpfefhkojaaGreat.Rt
open Go.RowKit
set_option linter.unusedVariables false
set_option linter.unusedSimpArgs false

theorem rAhead_yes (b s n : Int) (h : Gd b s) (h0 : 0 ≤ n) (h1 : n ≤ 255 - s) (w : World) :
    Calls Tryz.prog 60 #[.agg #[.int .i64 b, .int .i64 s], .int .i64 n] w fun e w' => e = .returned (.tuple #[.agg #[.int .i64 b, .int .i64 (s + n)], .int .i64 0]) ∧ Below w.heap.size w w' := by
  have h3 := h.2.2.1
  refine (rAhead_in b s n h h0 (by omega) w).mono ?_
  rintro e w' ⟨he, hb⟩
  rw [if_pos (by omega)] at he
  exact ⟨he, hb⟩
theorem rAhead_far (b s n : Int) (h : Gd b s) (hn : n < 0 ∨ 255 - s < n) (w : World) :
    Calls Tryz.prog 60 #[.agg #[.int .i64 b, .int .i64 s], .int .i64 n] w fun e w' => e = .returned (.tuple #[.agg #[.int .i64 0, .int .i64 0], .int .i64 4]) ∧ Below w.heap.size w w' := by
  by_cases hi : 0 ≤ n ∧ n ≤ 255
  · refine (rAhead_in b s n h hi.1 hi.2 w).mono ?_
    rintro e w' ⟨he, hb⟩
    rw [if_neg (by omega)] at he
    exact ⟨he, hb⟩
  · exact rAhead_off b s n h (by omega) w
theorem TS.set {w W : World} {g : Nat → Ky} (h : TS w W g) (k : Nat) (hk : k < 21) (a b : Int) : TS w ((W.setCell ⟨w.heap.size, k * 2, none⟩ (.int .i64 a)).setCell ⟨w.heap.size, k * 2 + 1, none⟩ (.int .i64 b)) (kup g k ⟨a, b⟩) :=
  ⟨h.ks.set2 k hk a b, (set2_other (by omega) _ _ _ _).trans h.ze, set2_below h.bel (Nat.le_refl _) _ _ _ _⟩
theorem high_bit {r : Nat} (hr : r < 4294967296) (h : ∀ i, 21 ≤ i → i < 32 → r.testBit i = false) : r < 2097152 := by
  rcases Nat.lt_or_ge r 2097152 with h1 | h1
  · exact h1
  · exfalso
    obtain ⟨i, hi, hb⟩ := Nat.exists_ge_and_testBit_of_ge_two_pow (n := 21) (x := r) (by simpa using h1)
    rcases Nat.lt_or_ge i 32 with h2 | h2
    · rw [h i hi h2] at hb
      cases hb
    · rw [Nat.testBit_lt_two_pow (Nat.lt_of_lt_of_le hr (by have := Nat.pow_le_pow_right (n := 2) (by omega) h2; simpa using this))] at hb
      cases hb
theorem low_bit {r i : Nat} (hr : r < 2097152) (hi : 21 ≤ i) : r.testBit i = false := Nat.testBit_lt_two_pow (Nat.lt_of_lt_of_le hr (by have := Nat.pow_le_pow_right (n := 2) (by omega) hi; simpa using this))
theorem frk_zero {f : Nat → Ky} {r : Nat} {n : Int} (h : cu r 21 = 0) : frk f r n = true := by unfold frk; rw [h]; rfl
theorem frk_low {f : Nat → Ky} {r : Nat} {n : Int} (h : ¬ cu r 21 = 0) (h2 : n < 1 ∨ 32768 - (cu r 21 : Int) < n) : frk f r n = false := by
  unfold frk
  rw [decide_eq_false h, Bool.false_or]
  rcases h2 with h2 | h2
  · rw [decide_eq_false (by omega), Bool.false_and]
  · rw [decide_eq_false (p := n ≤ _) (by omega), Bool.false_and, Bool.and_false]
theorem frk_clash {f : Nat → Ky} {r i : Nat} {n : Int} (h : ¬ cu r 21 = 0) (hi : i < 21) (hc : nm1 (f i) n (n + (cu r 21 : Int)) = true) : frk f r n = false := by
  unfold frk
  rw [decide_eq_false h, Bool.false_or, nmd_yes hi hc, Bool.not_true, Bool.and_false, Bool.and_false]
theorem frk_fine {f : Nat → Ky} {r : Nat} {n : Int} (h1 : 1 ≤ n) (h2 : n ≤ 32768 - (cu r 21 : Int)) (hc : ∀ i, i < 21 → nm1 (f i) n (n + (cu r 21 : Int)) = false) : frk f r n = true := by
  unfold frk
  rw [decide_eq_true h1, decide_eq_true h2, nmd_no hc]
  simp
/- Behind the tests: the nodes from the greatest down. -/
set_option maxRecDepth 100000 in
set_option maxHeartbeats 2000000 in
theorem rTurn_any (f : Nat → Ky) (r : Nat) (hr : r < 4294967296) (n : Int) (w : World) :
    Calls Tryz.prog 36 #[.agg (kcs f), .int .u32 (r : Int), .int .i64 n] w fun e w' => e = TurnA f r n ∧ Below w.heap.size w w' := by
  have hT0 := TS.new w f
  go_enter Tryz.func36, Tryz.ntmps36
  go_upto_region 1 with (fail)
  rw [zero42]
  generalize (w.alloc (.cells (kcs f) 25)).alloc (.cells (kcs fun _ => zK) 25) = w1 at *
  refine wp_region_lit ?_
  refine ldK hT0.ks rfl _ rfl rfl ?_
  have hck := rCheck_any f w1
  obtain ⟨cf, hcf⟩ : ∃ cf, kcs f = cf := ⟨_, rfl⟩
  rw [hcf] at hck ⊢
  clear hcf
  go_wp2_with fail
  refine hck.mono ?_
  rintro e w2 ⟨rfl, hb2⟩
  have hT2 := hT0.later hb2
  clear hck hb2 hT0
  cases hkc : kchk f with
  | false =>
    rw [kchkE_ff hkc]
    go_wp2_with (refine stK (g := fun _ => zK) hT2.ze rfl _ _ rfl rfl zero42' ?_)
    refine bodyPost_ret (results_ks3 (p := 6) (t := 7) (u := 8) rfl _ _ (w.heap.size + 1) (fun _ => zK) rfl (hT2.ze.row _)) rfl ?_
    exact ⟨TurnA.no (trE_wrong hkc) (by decide), setRow_below (by omega) hT2.bel _⟩
  | true =>
    rw [kchkE_tt hkc]
    go_wp2_with fail
    go_loopw [9] (fun i wx => ∃ k : Nat, 21 ≤ k ∧ k ≤ 32 ∧ i = .int .i64 (k : Int) ∧ wx = w2 ∧ ∀ m, 21 ≤ m → m < k → r.testBit m = false) (fun i _ => 32 - (intOf i).toNat)
    case atStart => exact ⟨21, by omega, by omega, rfl, rfl, fun m h1 h2 => by omega⟩
    case round =>
      obtain ⟨k, hk0, hk, rfl, rfl, hf⟩ := hrel
      have HF : Hid (∀ m, 21 ≤ m → m < k → r.testBit m = false) := hf
      clear hf
      by_cases hk8 : k < 32
      · have k8 : (k : Int) < 32 := by omega
        have hin := rIn_any r k hr hk8 wr
        cases hb : r.testBit k with
        | true =>
          rw [hb] at hin
          go_wp2_with (first | (go_at_call 39; refine hin.mono ?_; rintro e wr ⟨rfl, rfl⟩) | (refine stK (g := fun _ => zK) hT2.ze rfl _ _ rfl rfl zero42' ?_))
          refine bodyPost_ret (results_ks3 (p := 6) (t := 7) (u := 8) rfl _ _ (w.heap.size + 1) (fun _ => zK) rfl (hT2.ze.row _)) rfl ?_
          exact ⟨TurnA.no (trE_node hkc fun h => by rw [low_bit h hk0] at hb; cases hb) (by decide), setRow_below (by omega) hT2.bel _⟩
        | false =>
          rw [hb] at hin
          go_wp2_with (go_at_call 39; refine hin.mono ?_; rintro e wr ⟨rfl, rfl⟩)
          go_roundw
          case rel =>
            refine ⟨k + 1, by omega, by omega, by go_num, by first | rfl | trivial, fun m h1 h2 => ?_⟩
            rcases Nat.lt_or_ge m k with h | h
            · exact HF.out m h1 h
            · obtain rfl : m = k := by omega
              exact hb
          case measure => simp [intOf]; omega
      · obtain rfl : k = 32 := by omega
        rw [show ((32 : Nat) : Int) = 32 from rfl]
        have hr2 : r < 2097152 := high_bit hr fun i h1 h2 => HF.out i h1 h2
        clear HF hk hk0 hk8
        have hcn := rCount_any r hr wr
        have hcu := cu_le r 21
        obtain ⟨q, hq⟩ : ∃ q, cu r 21 = q := ⟨_, rfl⟩
        rw [hq] at hcn hcu
        have HQ : Hid (cu r 21 = q) := hq
        clear hq
        go_upto_region 9 with (go_at_call 59; refine hcn.mono ?_; rintro e wr ⟨rfl, rfl⟩)
        clear hcn
        have hqs : IntKind.i64.wrap (32768 - (q : Int)) = 32768 - (q : Int) := i64_fit _ (by omega) (by omega)
        by_cases hbad : 0 < q ∧ (n < 1 ∨ 32768 - (q : Int) < n)
        · obtain ⟨hq0, hbad⟩ := hbad
          have hq1 : (0 : Int) < (q : Int) := by omega
          have HFK : Hid (frk f r n = false) := frk_low (by rw [HQ.out]; omega) (by rw [HQ.out]; exact hbad)
          by_cases hn1 : n < 1
          · clear hbad
            go_wp2_with (refine stK (g := fun _ => zK) hT2.ze rfl _ _ rfl rfl zero42' ?_)
            refine bodyPost_ret (results_ks3 (p := 6) (t := 7) (u := 8) rfl _ _ (w.heap.size + 1) (fun _ => zK) rfl (hT2.ze.row _)) rfl ?_
            exact ⟨TurnA.no (trE_key hkc hr2 HFK.out) (by decide), setRow_below (by omega) hT2.bel _⟩
          · have hn2 : 32768 - (q : Int) < n := by omega
            clear hbad
            go_wp2_with (refine stK (g := fun _ => zK) hT2.ze rfl _ _ rfl rfl zero42' ?_)
            refine bodyPost_ret (results_ks3 (p := 6) (t := 7) (u := 8) rfl _ _ (w.heap.size + 1) (fun _ => zK) rfl (hT2.ze.row _)) rfl ?_
            exact ⟨TurnA.no (trE_key hkc hr2 HFK.out) (by decide), setRow_below (by omega) hT2.bel _⟩
        · by_cases hq0 : q = 0
          · subst hq0
            rw [show ((0 : Nat) : Int) = 0 from rfl]
            have hfk : frk f r n = true := frk_zero HQ.out
            clear hbad hqs hcu
            go_wp2_with fail
            go_loopw [11] (fun i wx => i = .int .i64 0 ∧ wx = wr) (fun i _ => 0)
            case atStart => exact ⟨rfl, rfl⟩
            case round =>
              obtain ⟨rfl, rfl⟩ := hrel
              have HT : Hid (TS w wr (trS f f r n 0)) := by have e : kcs (trS f f r n 0) = kcs f := trS_zero _ _ _ _; exact ⟨hT2.ks.congr e.symm, hT2.ze, hT2.bel⟩
              clear hT2
              go_wp2_with fail
              go_loopw [2, 12] (fun x i wx => ∃ j : Nat, j ≤ 21 ∧ i = .int .i64 (20 - (j : Int)) ∧ x = .int .i64 (n + ((cd r j : Nat) : Int)) ∧ TS w wx (trS f f r n j) ∧ ∀ m, m < j → skk f r (20 - m) = false) (fun _ i _ => (intOf i + 1).toNat)
              case atStart => exact ⟨0, by omega, rfl, by simp [cd], HT.out, fun m hm => by omega⟩
              case round =>
                obtain ⟨j, hj, rfl, rfl, hL, hsk⟩ := hrel
                have HL : Hid (TS w wr (trS f f r n j)) := hL
                have HSK : Hid (∀ m, m < j → skk f r (20 - m) = false) := hsk
                clear hL hsk HT
                by_cases hj8 : j < 21
                · obtain ⟨v, hv⟩ : ∃ v : Nat, 20 - j = v := ⟨_, rfl⟩
                  have hvi : (20 : Int) - (j : Int) = (v : Int) := by omega
                  rw [hvi]
                  have v0 : (0 : Int) ≤ (v : Int) := by omega
                  have v1 : (v : Int) < 21 := by omega
                  obtain ⟨y, hy⟩ : ∃ y : Int, n + ((cd r j : Nat) : Int) = y := ⟨_, rfl⟩
                  rw [hy]
                  have HY : Hid (n + ((cd r j : Nat) : Int) = y) := hy
                  have HV : Hid (20 - j = v) := hv
                  have hvl : v < 21 := by omega
                  clear hy hv hvi
                  have hin := rIn_any r v hr (by omega) wr
                  obtain ⟨c0, c1⟩ := HL.out.ks.cells v (by omega)
                  have hat : trS f f r n j v = f v := by have := trS_at f f r n hj8; rw [HV.out] at this; exact this
                  rw [hat] at c0 c1
                  clear hat
                  have f0 := row_frozen HL.out.ks (v * 2)
                  have f1 := row_frozen HL.out.ks (v * 2 + 1)
                  have HI : Hid ((20 : Int) - ((j + 1 : Nat) : Int) = (v : Int) - 1) := by have := HV.out; unfold Hid; omega
                  have HVJ : Hid (20 - v = j) := by have := HV.out; unfold Hid; omega
                  have HJ8 : Hid (j < 21) := hj8
                  have hcdl := cd_le r j
                  have HCD : Hid (cd r (j + 1) = cd r j + b1 r v) := by have := HV.out; rw [← this]; exact rfl
                  have HTS : Hid (trS f f r n (j + 1) = kup (trS f f r n j) v (trK f r n v)) := by have := trS_step f f r n hj8; rw [HV.out] at this; exact this
                  cases hb : r.testBit v with
                  | true =>
                    rw [hb] at hin
                    obtain ⟨fk1, fk2, _⟩ := frk_at hfk (by omega : v < 21) hb
                    have HY1 : Hid (y + 1 = n + ((cd r (j + 1) : Nat) : Int)) := by have h1 := HY.out; have h2 := HCD.out; unfold b1 at h2; rw [hb] at h2; simp at h2; unfold Hid; omega
                    have hyw : IntKind.i64.wrap (y + 1) = y + 1 := i64_fit _ (by have := HY.out; omega) (by have := HY.out; omega)
                    have HL2 : Hid (TS w ((wr.setCell ⟨w.heap.size, v * 2, none⟩ (.int .i64 y)).setCell ⟨w.heap.size, v * 2 + 1, none⟩ (.int .i64 0)) (kup (trS f f r n j) v ⟨y, 0⟩)) := HL.out.set v (by omega) y 0
                    clear fk1 fk2
                    go_wp2_with (go_at_call 39; refine hin.mono ?_; rintro e wr ⟨rfl, rfl⟩)
                    go_roundw
                    case rel =>
                      refine ⟨j + 1, by have := HJ8.out; omega, by rw [HI.out], by rw [← HY1.out], ?_, fun m hm => ?_⟩
                      · rw [HTS.out, trK_new hb, HVJ.out, HY.out]
                        exact HL2.out
                      · rcases Nat.lt_or_ge m j with h | h
                        · exact HSK.out m h
                        · obtain rfl : m = j := by omega
                          unfold skk
                          rw [HV.out, hb]
                          rfl
                    case measure => simp [intOf]
                  | false =>
                    rw [hb] at hin
                    obtain ⟨hG, _⟩ := (kchk_iff.1 hkc).1 v (by omega)
                    have HY1 : Hid (y = n + ((cd r (j + 1) : Nat) : Int)) := by have h1 := HY.out; have h2 := HCD.out; unfold b1 at h2; rw [hb] at h2; simp at h2; unfold Hid; omega
                    have HTK : Hid (trK f r n v = ⟨(f v).bas, (f v).stp + 1⟩) := trK_old hb
                    have HSV : Hid (skk f r v = decide (254 < (f v).stp)) := by unfold skk; rw [hb]; rfl
                    obtain ⟨e, he⟩ : ∃ e, f v = e := ⟨_, rfl⟩
                    rw [he] at c0 c1 hG HTK HSV
                    have HFE : Hid (f v = e) := he
                    clear he
                    by_cases hst : 254 < e.stp
                    · have ha := rAhead_far e.bas e.stp 1 hG (Or.inr (by omega)) wr
                      clear f0 f1
                      go_wp2_with (go_at_call 39; refine hin.mono ?_; rintro e wr ⟨rfl, rfl⟩)
                      refine ha.mono ?_
                      rintro a w7 ⟨rfl, hb7⟩
                      have hT8 := (HL.out.later hb7).later (below_alloc w7 (.cells #[.int .i64 0, .int .i64 0] 23))
                      clear ha hb7 c0 c1
                      go_wp2_with (refine stK (g := fun _ => zK) hT8.ze rfl _ _ rfl rfl zero42' ?_)
                      refine bodyPost_ret (results_ks3 (p := 6) (t := 7) (u := 8) rfl _ _ (w.heap.size + 1) (fun _ => zK) rfl (hT8.ze.row _)) rfl ?_
                      exact ⟨TurnA.no (trE_step hkc hr2 hfk (stuck_yes (v := v) hvl (by rw [HSV.out]; exact decide_eq_true hst))) (by decide), setRow_below (by omega) hT8.bel _⟩
                    · have ha := rAhead_yes e.bas e.stp 1 hG (by omega) (by omega) wr
                      clear f0 f1
                      go_wp2_with (go_at_call 39; refine hin.mono ?_; rintro e wr ⟨rfl, rfl⟩)
                      refine ha.mono ?_
                      rintro a w7 ⟨rfl, hb7⟩
                      clear c0 c1
                      have hL8 := (HL.out.later hb7).later (below_alloc w7 (.cells #[.int .i64 e.bas, .int .i64 (e.stp + 1)] 23))
                      obtain ⟨c0, c1⟩ := hL8.ks.cells v (by omega)
                      have f0 := row_frozen hL8.ks (v * 2)
                      have f1 := row_frozen hL8.ks (v * 2 + 1)
                      have HL9 : Hid (TS w (((w7.alloc (.cells #[.int .i64 e.bas, .int .i64 (e.stp + 1)] 23)).setCell ⟨w.heap.size, v * 2, none⟩ (.int .i64 e.bas)).setCell ⟨w.heap.size, v * 2 + 1, none⟩ (.int .i64 (e.stp + 1))) (kup (trS f f r n j) v ⟨e.bas, e.stp + 1⟩)) := hL8.set v (by omega) e.bas (e.stp + 1)
                      clear ha hb7 hL8
                      go_wp2_with fail
                      go_roundw
                      case rel =>
                        refine ⟨j + 1, by have := HJ8.out; omega, by rw [HI.out], by rw [← HY1.out], ?_, fun m hm => ?_⟩
                        · rw [HTS.out, HTK.out]
                          exact HL9.out
                        · rcases Nat.lt_or_ge m j with h | h
                          · exact HSK.out m h
                          · obtain rfl : m = j := by omega
                            rw [HV.out, HSV.out]
                            exact decide_eq_false (by omega)
                      case measure => simp [intOf]
                · obtain rfl : j = 21 := by omega
                  have HE0 : Hid (trE f r n = 0) := trE_ok hkc hr2 hfk (stuck_no fun v hv => by have := HSK.out (20 - v) (by omega); rw [show 20 - (20 - v) = v by omega] at this; exact this)
                  have hN := HL.out.ks.congr (trS_all _ _ _ _)
                  rw [show cd r 21 = cu r 21 from cd_all r]
                  obtain ⟨y, hy⟩ : ∃ y : Int, n + ((cu r 21 : Nat) : Int) = y := ⟨_, rfl⟩
                  rw [hy]
                  have HY : Hid (n + ((cu r 21 : Nat) : Int) = y) := hy
                  clear hy
                  go_upto_region 26 with (fail)
                  refine wp_region_lit ?_
                  refine ldK hN rfl _ rfl rfl ?_
                  go_wp2_with (refine stK (g := trK f r n) HL.out.ze rfl _ _ rfl rfl rfl ?_)
                  refine bodyPost_ret (results_ks3 (p := 6) (t := 7) (u := 8) rfl _ _ (w.heap.size + 1) (trK f r n) rfl (HL.out.ze.row _)) rfl ?_
                  refine ⟨?_, setRow_below (by omega) HL.out.bel _⟩
                  rw [← TurnA.yes HE0.out, HY.out]
                  rfl
          · have hn1 : 1 ≤ n := by omega
            have hn2 : n ≤ 32768 - (q : Int) := by omega
            have hq1 : (0 : Int) < (q : Int) := by omega
            have hnq : IntKind.i64.wrap (n + (q : Int)) = n + (q : Int) := i64_fit _ (by omega) (by omega)
            clear hbad
            go_wp2_with fail
            go_loopw [11] (fun i wx => ∃ k : Nat, k ≤ 21 ∧ i = .int .i64 (k : Int) ∧ wx = wr ∧ ∀ m, m < k → nm1 (f m) n (n + (q : Int)) = false) (fun i _ => 21 - (intOf i).toNat)
            case atStart => exact ⟨0, by omega, rfl, rfl, fun m hm => by omega⟩
            case round =>
              obtain ⟨k, hk, rfl, rfl, hf⟩ := hrel
              have HF : Hid (∀ m, m < k → nm1 (f m) n (n + (q : Int)) = false) := hf
              clear hf
              by_cases hk8 : k < 21
              · have k8 : (k : Int) < 21 := by omega
                have k0 : (0 : Int) ≤ (k : Int) := by omega
                obtain ⟨c0, c1⟩ := hT2.ks.cells k hk8
                have HN : Hid (nm1 (f k) n (n + (q : Int)) = (decide (n ≤ (f k).bas) && decide ((f k).bas < n + (q : Int)))) := rfl
                obtain ⟨b, hb⟩ : ∃ b, (f k).bas = b := ⟨_, rfl⟩
                rw [hb] at c0 HN
                clear hb c1
                by_cases g1 : n ≤ b
                · by_cases g2 : b < n + (q : Int)
                  · go_wp2_with (refine stK (g := fun _ => zK) hT2.ze rfl _ _ rfl rfl zero42' ?_)
                    refine bodyPost_ret (results_ks3 (p := 6) (t := 7) (u := 8) rfl _ _ (w.heap.size + 1) (fun _ => zK) rfl (hT2.ze.row _)) rfl ?_
                    exact ⟨TurnA.no (trE_key hkc hr2 (frk_clash (by rw [HQ.out]; omega) hk8 (by rw [HQ.out, HN.out, decide_eq_true g1, decide_eq_true g2]; rfl))) (by decide), setRow_below (by omega) hT2.bel _⟩
                  · go_wp2_with fail
                    go_roundw
                    case rel =>
                      refine ⟨k + 1, by omega, by go_num, by first | rfl | trivial, fun m hm => ?_⟩
                      rcases Nat.lt_or_ge m k with h | h
                      · exact HF.out m h
                      · obtain rfl : m = k := by omega
                        rw [HN.out, decide_eq_false g2, Bool.and_false]
                    case measure => simp [intOf]; omega
                · go_wp2_with fail
                  go_roundw
                  case rel =>
                    refine ⟨k + 1, by omega, by go_num, by first | rfl | trivial, fun m hm => ?_⟩
                    rcases Nat.lt_or_ge m k with h | h
                    · exact HF.out m h
                    · obtain rfl : m = k := by omega
                      rw [HN.out, decide_eq_false g1, Bool.false_and]
                  case measure => simp [intOf]; omega
              · obtain rfl : k = 21 := by omega
                rw [show ((21 : Nat) : Int) = 21 from rfl]
                have hfk : frk f r n = true := frk_fine hn1 (by rw [HQ.out]; exact hn2) (by rw [HQ.out]; exact HF.out)
                clear HF hk hk8 hq1 hnq hn1 hn2 hqs hcu
                have HT : Hid (TS w wr (trS f f r n 0)) := by have e : kcs (trS f f r n 0) = kcs f := trS_zero _ _ _ _; exact ⟨hT2.ks.congr e.symm, hT2.ze, hT2.bel⟩
                clear hT2
                go_wp2_with fail
                go_loopw [2, 12] (fun x i wx => ∃ j : Nat, j ≤ 21 ∧ i = .int .i64 (20 - (j : Int)) ∧ x = .int .i64 (n + ((cd r j : Nat) : Int)) ∧ TS w wx (trS f f r n j) ∧ ∀ m, m < j → skk f r (20 - m) = false) (fun _ i _ => (intOf i + 1).toNat)
                case atStart => exact ⟨0, by omega, rfl, by simp [cd], HT.out, fun m hm => by omega⟩
                case round =>
                  obtain ⟨j, hj, rfl, rfl, hL, hsk⟩ := hrel
                  have HL : Hid (TS w wr (trS f f r n j)) := hL
                  have HSK : Hid (∀ m, m < j → skk f r (20 - m) = false) := hsk
                  clear hL hsk HT
                  by_cases hj8 : j < 21
                  · obtain ⟨v, hv⟩ : ∃ v : Nat, 20 - j = v := ⟨_, rfl⟩
                    have hvi : (20 : Int) - (j : Int) = (v : Int) := by omega
                    rw [hvi]
                    have v0 : (0 : Int) ≤ (v : Int) := by omega
                    have v1 : (v : Int) < 21 := by omega
                    obtain ⟨y, hy⟩ : ∃ y : Int, n + ((cd r j : Nat) : Int) = y := ⟨_, rfl⟩
                    rw [hy]
                    have HY : Hid (n + ((cd r j : Nat) : Int) = y) := hy
                    have HV : Hid (20 - j = v) := hv
                    have hvl : v < 21 := by omega
                    clear hy hv hvi
                    have hin := rIn_any r v hr (by omega) wr
                    obtain ⟨c0, c1⟩ := HL.out.ks.cells v (by omega)
                    have hat : trS f f r n j v = f v := by have := trS_at f f r n hj8; rw [HV.out] at this; exact this
                    rw [hat] at c0 c1
                    clear hat
                    have f0 := row_frozen HL.out.ks (v * 2)
                    have f1 := row_frozen HL.out.ks (v * 2 + 1)
                    have HI : Hid ((20 : Int) - ((j + 1 : Nat) : Int) = (v : Int) - 1) := by have := HV.out; unfold Hid; omega
                    have HVJ : Hid (20 - v = j) := by have := HV.out; unfold Hid; omega
                    have HJ8 : Hid (j < 21) := hj8
                    have hcdl := cd_le r j
                    have HCD : Hid (cd r (j + 1) = cd r j + b1 r v) := by have := HV.out; rw [← this]; exact rfl
                    have HTS : Hid (trS f f r n (j + 1) = kup (trS f f r n j) v (trK f r n v)) := by have := trS_step f f r n hj8; rw [HV.out] at this; exact this
                    cases hb : r.testBit v with
                    | true =>
                      rw [hb] at hin
                      obtain ⟨fk1, fk2, _⟩ := frk_at hfk (by omega : v < 21) hb
                      have HY1 : Hid (y + 1 = n + ((cd r (j + 1) : Nat) : Int)) := by have h1 := HY.out; have h2 := HCD.out; unfold b1 at h2; rw [hb] at h2; simp at h2; unfold Hid; omega
                      have hyw : IntKind.i64.wrap (y + 1) = y + 1 := i64_fit _ (by have := HY.out; omega) (by have := HY.out; omega)
                      have HL2 : Hid (TS w ((wr.setCell ⟨w.heap.size, v * 2, none⟩ (.int .i64 y)).setCell ⟨w.heap.size, v * 2 + 1, none⟩ (.int .i64 0)) (kup (trS f f r n j) v ⟨y, 0⟩)) := HL.out.set v (by omega) y 0
                      clear fk1 fk2
                      go_wp2_with (go_at_call 39; refine hin.mono ?_; rintro e wr ⟨rfl, rfl⟩)
                      go_roundw
                      case rel =>
                        refine ⟨j + 1, by have := HJ8.out; omega, by rw [HI.out], by rw [← HY1.out], ?_, fun m hm => ?_⟩
                        · rw [HTS.out, trK_new hb, HVJ.out, HY.out]
                          exact HL2.out
                        · rcases Nat.lt_or_ge m j with h | h
                          · exact HSK.out m h
                          · obtain rfl : m = j := by omega
                            unfold skk
                            rw [HV.out, hb]
                            rfl
                      case measure => simp [intOf]
                    | false =>
                      rw [hb] at hin
                      obtain ⟨hG, _⟩ := (kchk_iff.1 hkc).1 v (by omega)
                      have HY1 : Hid (y = n + ((cd r (j + 1) : Nat) : Int)) := by have h1 := HY.out; have h2 := HCD.out; unfold b1 at h2; rw [hb] at h2; simp at h2; unfold Hid; omega
                      have HTK : Hid (trK f r n v = ⟨(f v).bas, (f v).stp + 1⟩) := trK_old hb
                      have HSV : Hid (skk f r v = decide (254 < (f v).stp)) := by unfold skk; rw [hb]; rfl
                      obtain ⟨e, he⟩ : ∃ e, f v = e := ⟨_, rfl⟩
                      rw [he] at c0 c1 hG HTK HSV
                      have HFE : Hid (f v = e) := he
                      clear he
                      by_cases hst : 254 < e.stp
                      · have ha := rAhead_far e.bas e.stp 1 hG (Or.inr (by omega)) wr
                        clear f0 f1
                        go_wp2_with (go_at_call 39; refine hin.mono ?_; rintro e wr ⟨rfl, rfl⟩)
                        refine ha.mono ?_
                        rintro a w7 ⟨rfl, hb7⟩
                        have hT8 := (HL.out.later hb7).later (below_alloc w7 (.cells #[.int .i64 0, .int .i64 0] 23))
                        clear ha hb7 c0 c1
                        go_wp2_with (refine stK (g := fun _ => zK) hT8.ze rfl _ _ rfl rfl zero42' ?_)
                        refine bodyPost_ret (results_ks3 (p := 6) (t := 7) (u := 8) rfl _ _ (w.heap.size + 1) (fun _ => zK) rfl (hT8.ze.row _)) rfl ?_
                        exact ⟨TurnA.no (trE_step hkc hr2 hfk (stuck_yes (v := v) hvl (by rw [HSV.out]; exact decide_eq_true hst))) (by decide), setRow_below (by omega) hT8.bel _⟩
                      · have ha := rAhead_yes e.bas e.stp 1 hG (by omega) (by omega) wr
                        clear f0 f1
                        go_wp2_with (go_at_call 39; refine hin.mono ?_; rintro e wr ⟨rfl, rfl⟩)
                        refine ha.mono ?_
                        rintro a w7 ⟨rfl, hb7⟩
                        clear c0 c1
                        have hL8 := (HL.out.later hb7).later (below_alloc w7 (.cells #[.int .i64 e.bas, .int .i64 (e.stp + 1)] 23))
                        obtain ⟨c0, c1⟩ := hL8.ks.cells v (by omega)
                        have f0 := row_frozen hL8.ks (v * 2)
                        have f1 := row_frozen hL8.ks (v * 2 + 1)
                        have HL9 : Hid (TS w (((w7.alloc (.cells #[.int .i64 e.bas, .int .i64 (e.stp + 1)] 23)).setCell ⟨w.heap.size, v * 2, none⟩ (.int .i64 e.bas)).setCell ⟨w.heap.size, v * 2 + 1, none⟩ (.int .i64 (e.stp + 1))) (kup (trS f f r n j) v ⟨e.bas, e.stp + 1⟩)) := hL8.set v (by omega) e.bas (e.stp + 1)
                        clear ha hb7 hL8
                        go_wp2_with fail
                        go_roundw
                        case rel =>
                          refine ⟨j + 1, by have := HJ8.out; omega, by rw [HI.out], by rw [← HY1.out], ?_, fun m hm => ?_⟩
                          · rw [HTS.out, HTK.out]
                            exact HL9.out
                          · rcases Nat.lt_or_ge m j with h | h
                            · exact HSK.out m h
                            · obtain rfl : m = j := by omega
                              rw [HV.out, HSV.out]
                              exact decide_eq_false (by omega)
                        case measure => simp [intOf]
                  · obtain rfl : j = 21 := by omega
                    have HE0 : Hid (trE f r n = 0) := trE_ok hkc hr2 hfk (stuck_no fun v hv => by have := HSK.out (20 - v) (by omega); rw [show 20 - (20 - v) = v by omega] at this; exact this)
                    have hN := HL.out.ks.congr (trS_all _ _ _ _)
                    rw [show cd r 21 = cu r 21 from cd_all r]
                    obtain ⟨y, hy⟩ : ∃ y : Int, n + ((cu r 21 : Nat) : Int) = y := ⟨_, rfl⟩
                    rw [hy]
                    have HY : Hid (n + ((cu r 21 : Nat) : Int) = y) := hy
                    clear hy
                    go_upto_region 26 with (fail)
                    refine wp_region_lit ?_
                    refine ldK hN rfl _ rfl rfl ?_
                    go_wp2_with (refine stK (g := trK f r n) HL.out.ze rfl _ _ rfl rfl rfl ?_)
                    refine bodyPost_ret (results_ks3 (p := 6) (t := 7) (u := 8) rfl _ _ (w.heap.size + 1) (trK f r n) rfl (HL.out.ze.row _)) rfl ?_
                    refine ⟨?_, setRow_below (by omega) HL.out.bel _⟩
                    rw [← TurnA.yes HE0.out, HY.out]
                    rfl
end Go.Proofs.YtpimbpfefhkojaaGreat.Rt
/- Paths: three keys in a block (made by wip/mk_path.py out of the texts of the 21 keys). -/
namespace Go.Proofs.YtpimbpfefhkojaaGreat.Rt
open Go.RowKit Go.Great
set_option linter.unusedVariables false
set_option linter.unusedSimpArgs false

def pcs (f : Nat → Ky) : Array Value := Array.ofFn (n := 6) fun i => .int .i64 ((f (i.1 / 2)).fld (i.1 % 2))
@[simp] theorem pcs_size (f : Nat → Ky) : (pcs f).size = 6 := by simp [pcs]
theorem pcs_at (f : Nat → Ky) (j : Nat) (h : j < 6) : (pcs f)[j]? = some (.int .i64 ((f (j / 2)).fld (j % 2))) := by
  rw [Array.getElem?_eq_getElem (by simpa using h)]
  simp [pcs]
theorem pcs_get (f : Nat → Ky) (i : Nat) (h : i < 3) : (pcs f)[i * 2]? = some (.int .i64 (f i).bas) ∧ (pcs f)[i * 2 + 1]? = some (.int .i64 (f i).stp) := by
  refine ⟨?_, ?_⟩
  · rw [pcs_at f _ (by omega), show i * 2 / 2 = i by omega, show i * 2 % 2 = 0 by omega]; rfl
  · rw [pcs_at f _ (by omega), show (i * 2 + 1) / 2 = i by omega, show (i * 2 + 1) % 2 = 1 by omega]; rfl
theorem pcs_congr {f g : Nat → Ky} (h : ∀ i, i < 3 → f i = g i) : pcs f = pcs g := by
  unfold pcs
  congr 1
  funext i
  rw [h (i.1 / 2) (by have := i.2; omega)]
theorem pcs_one (f : Nat → Ky) : (pcs f).all (·.oneCell') = true := by
  rw [Array.all_eq_true]
  intro i h
  simp [pcs, Value.oneCell']
theorem pcs_set (f : Nat → Ky) (k : Nat) (e : Ky) (hk : k < 3) :
    ((pcs f).setIfInBounds (k * 2) (.int .i64 e.bas)).setIfInBounds (k * 2 + 1) (.int .i64 e.stp) = pcs (kup f k e) := by
  apply Array.ext
  · simp
  · intro i h1 h2
    simp at h1
    rw [Array.getElem_setIfInBounds (by simpa using h1), Array.getElem_setIfInBounds (by simpa using h1)]
    simp only [pcs, Array.getElem_ofFn]
    by_cases h : i / 2 = k
    · rw [h, kup_same]
      by_cases c1 : k * 2 + 1 = i
      · rw [if_pos c1, show i % 2 = 1 by omega]; rfl
      · rw [if_neg c1, if_pos (by omega), show i % 2 = 0 by omega]; rfl
    · rw [if_neg (by omega), if_neg (by omega), kup_ne _ _ h]
theorem infoP : (Tryz.prog.info? 37).map (·.size) = some 6 := by kernel_rfl
def PaAt (w : World) (B : Nat) (f : Nat → Ky) : Prop := w.heap[B]? = some (.cells (pcs f) 37 (0, 0))
theorem PaAt.lt {w : World} {B : Nat} {f : Nat → Ky} (h : PaAt w B f) : B < w.heap.size := (Array.getElem?_eq_some_iff.1 h).1
theorem PaAt.below {n : Nat} {w w' : World} {B : Nat} {f : Nat → Ky} (h : PaAt w B f) (hb : Below n w w') (hn : B < n) : PaAt w' B f := (hb.block B hn).trans h
theorem PaAt.later {w w' : World} {B : Nat} {f : Nat → Ky} (h : PaAt w B f) (hb : Below w.heap.size w w') : PaAt w' B f := h.below hb h.lt
theorem PaAt.new (w : World) (f : Nat → Ky) : PaAt (w.alloc (.cells (pcs f) 37)) w.heap.size f := heap_alloc_last w _
theorem PaAt.congr {w : World} {B : Nat} {f g : Nat → Ky} (h : PaAt w B f) (e : pcs f = pcs g) : PaAt w B g := by unfold PaAt at *; rw [← e]; exact h
theorem alloc_pa (w : World) (f : Nat → Ky) : Below w.heap.size w (w.alloc (.cells (pcs f) 37)) := (Below.refl _ w).alloc (Nat.le_refl _) _
theorem PaAt.cells {w : World} {B : Nat} {f : Nat → Ky} (h : PaAt w B f) (k : Nat) (hk : k < 3) : w.cell? ⟨B, k * 2, none⟩ = some (.int .i64 (f k).bas) ∧ w.cell? ⟨B, k * 2 + 1, none⟩ = some (.int .i64 (f k).stp) := by
  obtain ⟨h0, h1⟩ := pcs_get f k hk
  exact ⟨(cell_of_row w B _ _ _ _ h).trans h0, (cell_of_row w B _ _ _ _ h).trans h1⟩
theorem ldP {ops : Array Oper} {rest : List Oper} {o : Oper} {a : Act} {w : World} {Q : Exit → Act → World → Prop} {B : Nat} {f : Nat → Ky} (h : PaAt w B f) (hgd : o.guard = none) (x : Operand) (ho : o.op = .load 37 x)
    (hx : a.eval x = .pointer (some ⟨B, 0, none⟩)) (k : wpList Tryz.prog ops Q rest (a.put o.dst (.agg (pcs f))) w) : wpList Tryz.prog ops Q (o :: rest) a w :=
  wpList_load_row hgd 37 x ho B hx 37 (pcs f) (0, 0) _ h Tryz.underlying37 rfl (by rw [pcs_size]; exact infoP) k
theorem stP {ops : Array Oper} {rest : List Oper} {o : Oper} {a : Act} {w : World} {Q : Exit → Act → World → Prop} {B : Nat} {f g : Nat → Ky} (h : PaAt w B f) (hgd : o.guard = none) (x y : Operand) (ho : o.op = .store 37 x y)
    (hx : a.eval x = .pointer (some ⟨B, 0, none⟩)) (hy : a.eval y = .agg (pcs g)) (k : wpList Tryz.prog ops Q rest (a.put o.dst undef) (w.setRow B (pcs g))) : wpList Tryz.prog ops Q (o :: rest) a w :=
  wpList_store_row hgd 37 x y ho B (pcs g) hx hy 37 (pcs f) h (by rw [pcs_size]; exact infoP) (by rw [pcs_size, pcs_size]) (pcs_one g) k
theorem PaAt.row {w : World} {B : Nat} {f : Nat → Ky} (h : PaAt w B f) (g : Nat → Ky) : PaAt (w.setRow B (pcs g)) B g := heap_setRow_same h _
theorem PaAt.set2 {w : World} {B : Nat} {f : Nat → Ky} (h : PaAt w B f) (k : Nat) (hk : k < 3) (a b : Int) :
    PaAt ((w.setCell ⟨B, k * 2, none⟩ (.int .i64 a)).setCell ⟨B, k * 2 + 1, none⟩ (.int .i64 b)) B (kup f k ⟨a, b⟩) := by
  have h3 := row_setCell (row_setCell h (k * 2) (.int .i64 a)) (k * 2 + 1) (.int .i64 b)
  rw [pcs_set f k ⟨a, b⟩ hk] at h3
  exact h3
theorem zero6 : (#[Value.int .i64 0, Value.int .i64 0, Value.int .i64 0, Value.int .i64 0, Value.int .i64 0, Value.int .i64 0] : Array Value) = pcs fun _ => zK := by kernel_rfl
theorem extP (f : Nat → Ky) (k : Nat) (hk : k < 3) : (pcs f).extract (k * 2) (k * 2 + 2) = #[.int .i64 (f k).bas, .int .i64 (f k).stp] := by
  obtain ⟨h0, h1⟩ := pcs_get f k hk
  have hs := pcs_size f
  apply Array.ext
  · simp; omega
  · intro i h3 h4
    simp at h4
    rw [Array.getElem_extract]
    match i, h4 with
    | 0, _ => simpa using (Array.getElem?_eq_some_iff.1 h0).2
    | 1, _ => simpa using (Array.getElem?_eq_some_iff.1 h1).2
theorem idxP (f : Nat → Ky) (k : Nat) (hk : k < 3) (W : World) : (Instr.index 37 (.agg (pcs f)) (.int .i64 (k : Int))).run Tryz.prog W = .ok (.agg #[.int .i64 (f k).bas, .int .i64 (f k).stp]) W := by
  have hk2 : (k : Int) < 3 := by omega
  have hk3 : (0 : Int) ≤ (k : Int) := by omega
  have e := extP f k hk
  have hs := pcs_size f
  generalize pcs f = c at *
  simp [Instr.index, asIntOf, hk2, hk3, part, go_sem, e]
  omega
def eqP (f g : Nat → Ky) : Bool := (List.range 3).all fun i => eqY (f i) (g i)
theorem eqP_iff {f g : Nat → Ky} : eqP f g = true ↔ ∀ i, i < 3 → f i = g i := by
  unfold eqP
  rw [List.all_eq_true]
  exact ⟨fun h i hi => eqY_iff.1 (h i (List.mem_range.2 hi)), fun h i hi => eqY_iff.2 (h i (List.mem_range.1 hi))⟩
theorem eqP_refl (f : Nat → Ky) : eqP f f = true := eqP_iff.2 fun _ _ => rfl
theorem partP (f : Nat → Ky) (i : Nat) (hi : i < 3) (w : World) : (part 23 (pcs f) (i * 2)).run Tryz.prog w = .ok (.agg #[.int .i64 (f i).bas, .int .i64 (f i).stp]) w := by
  have e := extP f i hi
  simp [part, go_sem, e]
theorem eqItemsP (f g : Nat → Ky) (d : Nat) (w : World) : ∀ l : List Nat, (∀ i ∈ l, i < 3) → (Op.eqItems (d + 2) 23 2 (pcs f) (pcs g) l).run Tryz.prog w = .ok (l.all fun i => eqY (f i) (g i)) w
  | [], _ => by simp [Op.eqItems]
  | i :: l, h => by
    have hi := h i (by simp)
    have ih := eqItemsP f g d w l fun j hj => h j (by simp [hj])
    cases he : eqY (f i) (g i) with
    | false => simp [Op.eqItems, Sem.run_bind, Sem.run_ite, partP _ i hi, Result.andThen_ok, run_eqKy d, he]
    | true => simp [Op.eqItems, Sem.run_bind, Sem.run_ite, partP _ i hi, Result.andThen_ok, run_eqKy d, he, ih]
theorem run_eqPa (f g : Nat → Ky) (w : World) : (Op.equalIn 10000 37 (.agg (pcs f)) (.agg (pcs g))).run Tryz.prog w = .ok (eqP f g) w := by
  obtain ⟨i, hi⟩ := Option.isSome_iff_exists.mp info_ky
  rw [run_equalIn_array w 9999 _ _ Tryz.underlying37 hi]
  have h := eqItemsP f g 9997 w (List.range 3) fun i hi => List.mem_range.1 hi
  rw [cells_ky]
  exact h
theorem eqPa {ops : Array Oper} {rest : List Oper} {o : Oper} {a : Act} {w : World} {Q : Exit → Act → World → Prop} {f g : Nat → Ky} {b : Bool} (hb : eqP f g = b) (hgd : o.guard = none) (x y : Operand) (ho : o.op = .binOp .eql 37 x y 37)
    (hx : a.eval x = .agg (pcs f)) (hy : a.eval y = .agg (pcs g)) (k : wpList Tryz.prog ops Q rest (a.put o.dst (.bool b)) w) : wpList Tryz.prog ops Q (o :: rest) a w := by
  subst hb
  refine wpList_readTo hgd o.dst rfl (.bool (eqP f g)) ?_ k
  have h1 := run_eqGuard_agg (P := Tryz.prog) w .eql 37 x y (pcs f) (pcs g) Tryz.eqGuardType37
  have h2 := run_eql_struct (P := Tryz.prog) w 37 (pcs f) (pcs g)
  rw [run_eqPa] at h2
  simp [execOp, ho, hx, hy, h1, h2, Sem.run_bind, Result.andThen]
theorem zero6' : Value.agg #[Value.int .i64 0, Value.int .i64 0, Value.int .i64 0, Value.int .i64 0, Value.int .i64 0, Value.int .i64 0] = .agg (pcs fun _ => zK) := by rw [zero6]
theorem ldP_run {w : World} {B : Nat} {f : Nat → Ky} (h : PaAt w B f) : (Instr.loadAt 37 (.pointer (some ⟨B, 0, none⟩))).run Tryz.prog w = .ok (.agg (pcs f)) w := by
  simp only [Instr.loadAt, Instr.sureAddr, Sem.run_bind, Sem.run_pure, Result.andThen]
  exact run_loadVar_row w B _ _ _ _ _ h Tryz.underlying37 rfl (by rw [pcs_size]; exact infoP)
theorem ldP_exec {w : World} {B : Nat} {f : Nat → Ky} (h : PaAt w B f) {a : Act} {o : Oper} {x : Operand} (ho : o.op = .load 37 x) (hx : a.eval x = .pointer (some ⟨B, 0, none⟩)) : (execOp a.eval o).run Tryz.prog w = .ok (.value (.agg (pcs f))) w := by
  have := ldP_run h
  simp [execOp, ho, hx, this, Sem.run_bind, Result.andThen]
theorem alloc_zeroP (w : World) : w.alloc (.cells #[Value.int .i64 0, Value.int .i64 0, Value.int .i64 0, Value.int .i64 0, Value.int .i64 0, Value.int .i64 0] 37) = w.alloc (.cells (pcs fun _ => zK) 37) := by rw [zero6]
theorem new_zeroP (w : World) : PaAt (w.alloc (.cells #[Value.int .i64 0, Value.int .i64 0, Value.int .i64 0, Value.int .i64 0, Value.int .i64 0, Value.int .i64 0] 37)) w.heap.size (fun _ => zK) := by rw [alloc_zeroP]; exact PaAt.new _ _
end Go.Proofs.YtpimbpfefhkojaaGreat.Rt
