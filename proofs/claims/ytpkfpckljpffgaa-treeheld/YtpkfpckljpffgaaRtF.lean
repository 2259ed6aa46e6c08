/- Contracts: plain; what every statement asks first (lives). -/
import Derived.Test.YtpkfpckljpffgaaRtE
namespace Go.Proofs.Ytpkfpckljpffgaa.Rt
open Go.RowKit
set_option linter.unusedVariables false
set_option linter.unusedSimpArgs false

def plK (s : Int) : Nat → Ky := fun v => ⟨(v : Int) + 1, s⟩
def plS (s : Int) (j : Nat) : Nat → Ky := fun v => if v < j then ⟨(v : Int) + 1, s⟩ else zK
theorem plS_zero (s : Int) : kcs (plS s 0) = kcs fun _ => zK := kcs_congr fun i _ => if_neg (by omega)
theorem plS_all (s : Int) : kcs (plS s 21) = kcs (plK s) := kcs_congr fun i hi => if_pos hi
theorem plS_step (s : Int) (j : Nat) : plS s (j + 1) = kup (plS s j) j ⟨(j : Int) + 1, s⟩ := by
  funext v
  show (if v < j + 1 then (⟨(v : Int) + 1, s⟩ : Ky) else zK) = if v = j then ⟨(j : Int) + 1, s⟩ else (if v < j then ⟨(v : Int) + 1, s⟩ else zK)
  by_cases h : v = j
  · subst h
    rw [if_pos (by omega), if_pos rfl]
  · rw [if_neg h]
    by_cases c : v < j
    · rw [if_pos (by omega), if_pos c]
    · rw [if_neg (by omega), if_neg c]
theorem results_ks1 {fn : Func} {p : Tmp} (hf : fn.results = #[.cell p 25 ]) (tmps : Array Value) (W : World) (B : Nat) (f : Nat → Ky) (hp : tmps[p]? = some (.pointer (some ⟨B, 0, none⟩))) (hb : KsAt W B f) :
    (results fn tmps).run Try.prog W = .ok (.agg (kcs f)) W := by
  have h := run_loadVar_row W B _ 25 _ _ _ hb Try.underlying25 rfl (by rw [kcs_size]; exact infoK)
  simp [results, hf, hp, asAddr, h]
theorem alloc_zeroK (w : World) : w.alloc (.cells #[Value.int .i64 0, Value.int .i64 0, Value.int .i64 0, Value.int .i64 0, Value.int .i64 0, Value.int .i64 0, Value.int .i64 0, Value.int .i64 0, Value.int .i64 0, Value.int .i64 0, Value.int .i64 0, Value.int .i64 0, Value.int .i64 0, Value.int .i64 0, Value.int .i64 0, Value.int .i64 0, Value.int .i64 0, Value.int .i64 0, Value.int .i64 0, Value.int .i64 0, Value.int .i64 0, Value.int .i64 0, Value.int .i64 0, Value.int .i64 0, Value.int .i64 0, Value.int .i64 0, Value.int .i64 0, Value.int .i64 0, Value.int .i64 0, Value.int .i64 0, Value.int .i64 0, Value.int .i64 0, Value.int .i64 0, Value.int .i64 0, Value.int .i64 0, Value.int .i64 0, Value.int .i64 0, Value.int .i64 0, Value.int .i64 0, Value.int .i64 0, Value.int .i64 0, Value.int .i64 0] 25) = w.alloc (.cells (kcs fun _ => zK) 25) := by rw [zero42]
theorem new_zeroK (w : World) : KsAt (w.alloc (.cells #[Value.int .i64 0, Value.int .i64 0, Value.int .i64 0, Value.int .i64 0, Value.int .i64 0, Value.int .i64 0, Value.int .i64 0, Value.int .i64 0, Value.int .i64 0, Value.int .i64 0, Value.int .i64 0, Value.int .i64 0, Value.int .i64 0, Value.int .i64 0, Value.int .i64 0, Value.int .i64 0, Value.int .i64 0, Value.int .i64 0, Value.int .i64 0, Value.int .i64 0, Value.int .i64 0, Value.int .i64 0, Value.int .i64 0, Value.int .i64 0, Value.int .i64 0, Value.int .i64 0, Value.int .i64 0, Value.int .i64 0, Value.int .i64 0, Value.int .i64 0, Value.int .i64 0, Value.int .i64 0, Value.int .i64 0, Value.int .i64 0, Value.int .i64 0, Value.int .i64 0, Value.int .i64 0, Value.int .i64 0, Value.int .i64 0, Value.int .i64 0, Value.int .i64 0, Value.int .i64 0] 25)) w.heap.size (fun _ => zK) := by rw [alloc_zeroK]; exact KsAt.new _ _
theorem live0 : trE (plK 3) 1048593 40 = 0 := by decide +kernel
theorem live1 : trN (plK 3) 1048593 40 = 43 := by decide +kernel
theorem live2 : (trA (plK 3) 1048593 40 20).bas = 40 ∧ (trA (plK 3) 1048593 40 20).stp = 0 := by decide +kernel
theorem live3 : (trA (plK 3) 1048593 40 4).bas = 41 ∧ (trA (plK 3) 1048593 40 4).stp = 0 := by decide +kernel
theorem live4 : (trA (plK 3) 1048593 40 0).bas = 42 ∧ (trA (plK 3) 1048593 40 0).stp = 0 := by decide +kernel
theorem live5 : (trA (plK 3) 1048593 40 1).bas = 2 ∧ (trA (plK 3) 1048593 40 1).stp = 4 := by decide +kernel
end Go.Proofs.Ytpkfpckljpffgaa.Rt
