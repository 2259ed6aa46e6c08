/- The law's Op as a key of a map. -/
import Derived.Test.YtompgoaogomoaaaKnLe
import Derived.Maps.RangeWalk
import Derived.DeepKeys4
namespace Go.Proofs.Ytompgoaogomoaaa.Kn
open Go.Maps Go.RowKit
set_option linter.unusedVariables false
set_option linter.unusedSimpArgs false

theorem laidOut9 : laidOutB Try.prog = true := by kernel_rfl
theorem opRow : 39 < Try.prog.types.size := of_decide_eq_true (by kernel_rfl)
theorem opLaw : Keyed Try.prog 39 := Keyed.of_law (deep_law_laid laidOut9 (m := 4) (by omega) opRow (by kernel_rfl) (by kernel_rfl))
theorem opKeyType : Try.prog.keyType 39 = true := by kernel_rfl
theorem types4 : ∃ d, Try.prog.types.size + 1 = d + 4 := ⟨Try.prog.types.size - 3, by have : 10 < Try.prog.types.size := of_decide_eq_true (by kernel_rfl); omega⟩
theorem litI (d : Nat) (n : Int) (hw : wI n) : Try.prog.keyLits (d + 1) 3 [.int .i64 n] = some [.int .i64 n] := by
  unfold Program.keyLits
  rw [Try.underlying3 ]
  simp [show (Lit.int .i64 n).wf = true from hw]
theorem litS (d : Nat) (s : ByteArray) (hw : s.size ≤ 9223372036854775807) : Try.prog.keyLits (d + 1) 9 [.string s] = some [.string s.data.toList] := by
  unfold Program.keyLits
  rw [Try.underlying9 ]
  simp [maxLen, hw]
theorem litK (d : Nat) (a b : Int) (ha : wI a) (hb : wI b) : Try.prog.keyLits (d + 2) 33 [.int .i64 a, .int .i64 b] = some [.int .i64 a, .int .i64 b] := by
  unfold Program.keyLits
  rw [Try.underlying33 ]
  simp [celK, celI, litI, ha, hb]
theorem litB (d : Nat) (a b e f : Int) (ha : wI a) (hb : wI b) (he : wI e) (hf : wI f) : Try.prog.keyLits (d + 3) 35 [.int .i64 a, .int .i64 b, .int .i64 e, .int .i64 f] = some [.int .i64 a, .int .i64 b, .int .i64 e, .int .i64 f] := by
  unfold Program.keyLits
  rw [Try.underlying35 ]
  simp [celB, celK, litK, ha, hb, he, hf]
theorem litD (d : Nat) (a b e : Int) (s : ByteArray) (ha : wI a) (hb : wI b) (he : wI e) (hs : s.size ≤ 9223372036854775807) : Try.prog.keyLits (d + 3) 37 [.int .i64 a, .int .i64 b, .int .i64 e, .string s] = some [.int .i64 a, .int .i64 b, .int .i64 e, .string s.data.toList] := by
  unfold Program.keyLits
  rw [Try.underlying37 ]
  simp [celD, celK, celI, celT, litK, litI, litS, ha, hb, he, hs]
theorem keyOf_op (k b0 b1 b2 b3 e u0 u1 : Int) (t : ByteArray) (h : OkO (k, (((b0, b1), (b2, b3)), (e, ((u0, u1), t))))) : ∃ kl, keyOf Try.prog 39 (.agg #[.int .i64 k, .int .i64 b0, .int .i64 b1, .int .i64 b2, .int .i64 b3, .int .i64 e, .int .i64 u0, .int .i64 u1, .string t]) = some kl := by
  obtain ⟨d, hd⟩ := types4
  obtain ⟨wk, ⟨w0, w1, w2, w3⟩, we, wu0, wu1, wt⟩ := h
  have hf : (Value.agg #[.int .i64 k, .int .i64 b0, .int .i64 b1, .int .i64 b2, .int .i64 b3, .int .i64 e, .int .i64 u0, .int .i64 u1, .string t]).formed Try.prog 39 = true := by simp [Value.formed, Try.underlying39, celKO]
  dsimp only at wk w0 w1 w2 w3 we wu0 wu1 wt
  refine ⟨.string (keyBytes [.int .i64 k, .int .i64 b0, .int .i64 b1, .int .i64 b2, .int .i64 b3, .int .i64 e, .int .i64 u0, .int .i64 u1, .string t.data.toList]), ?_⟩
  unfold keyOf
  rw [Try.underlying39 ]
  simp only [opKeyType, hf, Bool.and_self, if_true, hd]
  unfold Program.keyLits
  rw [Try.underlying39 ]
  simp [Value.cells, celKO, celI, celB, celD, litI, litB, litD, wk, w0, w1, w2, w3, we, wu0, wu1, wt]
end Go.Proofs.Ytompgoaogomoaaa.Kn
