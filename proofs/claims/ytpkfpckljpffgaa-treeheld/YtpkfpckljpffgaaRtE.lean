/- Contracts: Turn of the program. -/
import Derived.Test.YtpkfpckljpffgaaRtD
namespace Go.Proofs.Ytpkfpckljpffgaa.Rt
open Go.RowKit
set_option linter.unusedVariables false
set_option linter.unusedSimpArgs false

theorem zero42' : Value.agg #[Value.int .i64 0, Value.int .i64 0, Value.int .i64 0, Value.int .i64 0, Value.int .i64 0, Value.int .i64 0, Value.int .i64 0, Value.int .i64 0, Value.int .i64 0, Value.int .i64 0, Value.int .i64 0, Value.int .i64 0, Value.int .i64 0, Value.int .i64 0, Value.int .i64 0, Value.int .i64 0, Value.int .i64 0, Value.int .i64 0, Value.int .i64 0, Value.int .i64 0, Value.int .i64 0, Value.int .i64 0, Value.int .i64 0, Value.int .i64 0, Value.int .i64 0, Value.int .i64 0, Value.int .i64 0, Value.int .i64 0, Value.int .i64 0, Value.int .i64 0, Value.int .i64 0, Value.int .i64 0, Value.int .i64 0, Value.int .i64 0, Value.int .i64 0, Value.int .i64 0, Value.int .i64 0, Value.int .i64 0, Value.int .i64 0, Value.int .i64 0, Value.int .i64 0, Value.int .i64 0] = .agg (kcs fun _ => zK) := by rw [zero42]
theorem ldK_run {w : World} {B : Nat} {f : Nat → Ky} (h : KsAt w B f) : (Instr.loadAt 25 (.pointer (some ⟨B, 0, none⟩))).run Try.prog w = .ok (.agg (kcs f)) w := by
  simp only [Instr.loadAt, Instr.sureAddr, Sem.run_bind, Sem.run_pure, Result.andThen]
  exact run_loadVar_row w B _ _ _ _ _ h Try.underlying25 rfl (by rw [kcs_size]; exact infoK)
theorem ldK_exec {w : World} {B : Nat} {f : Nat → Ky} (h : KsAt w B f) {a : Act} {o : Oper} {x : Operand} (ho : o.op = .load 25 x) (hx : a.eval x = .pointer (some ⟨B, 0, none⟩)) : (execOp a.eval o).run Try.prog w = .ok (.value (.agg (kcs f))) w := by
  have := ldK_run h
  simp [execOp, ho, hx, this, Sem.run_bind, Result.andThen]
theorem results_ks3 {fn : Func} {p t u : Tmp} (hf : fn.results = #[.cell p 25, .tmp t, .tmp u]) (tmps : Array Value) (W : World) (B : Nat) (f : Nat → Ky) (hp : tmps[p]? = some (.pointer (some ⟨B, 0, none⟩))) (hb : KsAt W B f) :
    (results fn tmps).run Try.prog W = .ok (.tuple #[.agg (kcs f), tmps.getD t undef, tmps.getD u undef]) W := by
  have h := run_loadVar_row W B _ 25 _ _ _ hb Try.underlying25 rfl (by rw [kcs_size]; exact infoK)
  simp [results, hf, hp, asAddr, h]
/- What stands while Turn goes. -/
structure TS (w W : World) (f : Nat → Ky) : Prop where
  ks : KsAt W w.heap.size f
  ze : KsAt W (w.heap.size + 1) (fun _ => zK)
  bel : Below w.heap.size w W
theorem TS.later {w W W' : World} {f : Nat → Ky} (h : TS w W f) (hb : Below W.heap.size W W') : TS w W' f := ⟨h.ks.later hb, h.ze.later hb, h.bel.trans (hb.mono h.bel.size)⟩
theorem TS.new (w : World) (f : Nat → Ky) : TS w ((w.alloc (.cells (kcs f) 25)).alloc (.cells (kcs fun _ => zK) 25)) f := by
  have b2 := alloc_ks (w.alloc (.cells (kcs f) 25)) (fun _ => zK)
  have h2 := KsAt.new (w.alloc (.cells (kcs f) 25)) (fun _ => zK)
  rw [World.size_alloc] at h2
  exact ⟨(KsAt.new w f).later b2, h2, (alloc_ks w f).trans (b2.mono (by simp))⟩
structure TL (w W : World) (f : Nat → Ky) (B : Nat) (g : Nat → Ky) : Prop where
  ts : TS w W f
  nx : KsAt W B g
  far : w.heap.size + 2 ≤ B
theorem TL.later {w W W' : World} {f g : Nat → Ky} {B : Nat} (h : TL w W f B g) (hb : Below W.heap.size W W') : TL w W' f B g := ⟨h.ts.later hb, h.nx.later hb, h.far⟩
theorem TL.set {w W : World} {f g : Nat → Ky} {B : Nat} (h : TL w W f B g) (k : Nat) (hk : k < 21) (a b : Int) : TL w ((W.setCell ⟨B, k * 2, none⟩ (.int .i64 a)).setCell ⟨B, k * 2 + 1, none⟩ (.int .i64 b)) f B (kup g k ⟨a, b⟩) := by
  have hf := h.far
  exact ⟨⟨(set2_other (by omega) _ _ _ _).trans h.ts.ks, (set2_other (by omega) _ _ _ _).trans h.ts.ze, set2_below h.ts.bel (by omega) _ _ _ _⟩, h.nx.set2 k hk a b, hf⟩
/- What Turn answers. -/
def TurnA (f : Nat → Ky) (r : Nat) (n : Int) : Ending := .returned (.tuple #[.agg (kcs (trA f r n)), .int .i64 (trN f r n), .int .i64 (trE f r n)])
theorem TurnA.no {f : Nat → Ky} {r : Nat} {n x : Int} (h : trE f r n = x) (hx : x ≠ 0) : Ending.returned (.tuple #[.agg (kcs fun _ => zK), .int .i64 0, .int .i64 x]) = TurnA f r n := by
  unfold TurnA trA trN
  rw [h, if_neg hx, if_neg hx]
theorem TurnA.yes {f : Nat → Ky} {r : Nat} {n : Int} (h : trE f r n = 0) : Ending.returned (.tuple #[.agg (kcs (trK f r n)), .int .i64 (n + ((cu r 21 : Nat) : Int)), .int .i64 0]) = TurnA f r n := by
  unfold TurnA trA trN
  rw [h, if_pos rfl, if_pos rfl]
theorem and1 (r v : Nat) (hr : r < 4294967296) : bits .and .u32 ((r : Int) / 2 ^ v) 1 = if r.testBit v then 1 else 0 := by
  have e : (r : Int) / 2 ^ v = ((r / 2 ^ v : Nat) : Int) := by simp
  have hlt : r / 2 ^ v < 4294967296 := Nat.lt_of_le_of_lt (Nat.div_le_self _ _) hr
  generalize hx : r / 2 ^ v = x at *
  rw [e, u32_and _ _ (by omega) (by omega) (by omega) (by omega)]
  have h2 : ((x : Int)).toNat &&& (1 : Int).toNat = x % 2 := by
    rw [Int.toNat_natCast]
    exact Nat.and_one_is_mod _
  rw [h2, Nat.testBit_eq_decide_div_mod_eq, hx]
  rcases Nat.mod_two_eq_zero_or_one x with h | h <;> simp [h]
end Go.Proofs.Ytpkfpckljpffgaa.Rt
