/- Contracts: plain; what every statement asks first (lives). -/
import Derived.Test.YtgfegolignhefaaRtE
namespace Go.Proofs.Ytgfegolignhefaa
open Go.RowKit
set_option linter.unusedVariables false
set_option linter.unusedSimpArgs false

def plK (s : Int) : Nat → Ky := fun v => ⟨(v : Int) + 1, s⟩
def plS (s : Int) (j : Nat) : Nat → Ky := fun v => if v < j then ⟨(v : Int) + 1, s⟩ else zK
theorem plS_zero (s : Int) : kcs (plS s 0) = kcs fun _ => zK := kcs_congr fun i _ => if_neg (by omega)
theorem plS_all (s : Int) : kcs (plS s 21) = kcs (plK s) := kcs_congr fun i hi => if_pos hi
theorem plS_step (s : Int) (j : Nat) : plS s (j + 1) = kup (plS s j) j ⟨(j : Int) + 1, s⟩ := by
  funext v
  show (if v < j + 1 then (⟨(v : Int) + 1, s⟩ : Ky) else zK) = if v = j then ⟨(j : Int) + 1, s⟩ else (if v < j then ⟨(v : Int) + 1, s⟩ else zK)
  by_cases h : v = j
  · subst h
    rw [if_pos (by omega), if_pos rfl]
  · rw [if_neg h]
    by_cases c : v < j
    · rw [if_pos (by omega), if_pos c]
    · rw [if_neg (by omega), if_neg c]
theorem results_ks1 {fn : Func} {p : Tmp} (hf : fn.results = #[.cell p 25 ]) (tmps : Array Value) (W : World) (B : Nat) (f : Nat → Ky) (hp : tmps[p]? = some (.pointer (some ⟨B, 0, none⟩))) (hb : KsAt W B f) :
    (results fn tmps).run Try.prog W = .ok (.agg (kcs f)) W := by
  have h := run_loadVar_row W B _ 25 _ _ _ hb Try.underlying25 rfl (by rw [kcs_size]; exact infoK)
  simp [results, hf, hp, asAddr, h]
set_option maxRecDepth 100000 in
set_option maxHeartbeats 1000000 in
theorem plain_any (s : Int) (w : World) : Calls Try.prog 19 #[.int .i64 s] w fun e w' => e = .returned (.agg (kcs (plK s))) ∧ Below w.heap.size w w' := by
  have hT := TS.new w (fun _ => zK)
  go_enter Try.func19, Try.ntmps19
  go_upto_region 2 with (fail)
  rw [zero42]
  generalize (w.alloc (.cells (kcs fun _ => zK) 25)).alloc (.cells (kcs fun _ => zK) 25) = w1 at *
  have HT : Hid (TS w w1 (fun _ => zK)) := hT
  clear hT
  go_wp2_with fail
  go_loopw [4] (fun i wx => ∃ j : Nat, j ≤ 21 ∧ i = .int .i64 (j : Int) ∧ KsAt wx w.heap.size (fun _ => zK) ∧ KsAt wx (w.heap.size + 1) (plS s j) ∧ Below w.heap.size w wx) (fun i _ => 21 - (intOf i).toNat)
  case atStart => exact ⟨0, by omega, rfl, HT.out.ks, HT.out.ze.congr (plS_zero s).symm, HT.out.bel⟩
  case round =>
    obtain ⟨j, hj, rfl, hk, hz, hb⟩ := hrel
    clear HT
    by_cases hj8 : j < 21
    · have j0 : (0 : Int) ≤ (j : Int) := by omega
      have j1 : (j : Int) < 21 := by omega
      obtain ⟨c0, c1⟩ := hz.cells j hj8
      have f0 := row_frozen hz (j * 2)
      have f1 := row_frozen hz (j * 2 + 1)
      have HZ : Hid (KsAt ((wr.setCell ⟨w.heap.size + 1, j * 2, none⟩ (.int .i64 ((j : Int) + 1))).setCell ⟨w.heap.size + 1, j * 2 + 1, none⟩ (.int .i64 s)) (w.heap.size + 1) (plS s (j + 1))) := by rw [plS_step]; exact hz.set2 j hj8 _ _
      have HK : Hid (KsAt ((wr.setCell ⟨w.heap.size + 1, j * 2, none⟩ (.int .i64 ((j : Int) + 1))).setCell ⟨w.heap.size + 1, j * 2 + 1, none⟩ (.int .i64 s)) w.heap.size (fun _ => zK)) := (set2_other (by omega) _ _ _ _).trans hk
      have HB : Hid (Below w.heap.size w ((wr.setCell ⟨w.heap.size + 1, j * 2, none⟩ (.int .i64 ((j : Int) + 1))).setCell ⟨w.heap.size + 1, j * 2 + 1, none⟩ (.int .i64 s))) := set2_below hb (by omega) _ _ _ _
      clear hk hz hb
      go_wp2_with fail
      go_roundw
      case rel => exact ⟨j + 1, by omega, by go_num, HK.out, HZ.out, HB.out⟩
      case measure => simp [intOf]; omega
    · obtain rfl : j = 21 := by omega
      have hN := hz.congr (plS_all s)
      go_upto_region 6 with (fail)
      refine wp_region_lit ?_
      refine ldK hN rfl _ rfl rfl ?_
      go_wp2_with (refine stK (g := plK s) hk rfl _ _ rfl rfl rfl ?_)
      refine bodyPost_ret (results_ks1 (p := 2) rfl _ _ w.heap.size (plK s) rfl (hk.row _)) rfl ?_
      exact ⟨rfl, setRow_below (by omega) hb _⟩
theorem alloc_zeroK (w : World) : w.alloc (.cells #[Value.int .i64 0, Value.int .i64 0, Value.int .i64 0, Value.int .i64 0, Value.int .i64 0, Value.int .i64 0, Value.int .i64 0, Value.int .i64 0, Value.int .i64 0, Value.int .i64 0, Value.int .i64 0, Value.int .i64 0, Value.int .i64 0, Value.int .i64 0, Value.int .i64 0, Value.int .i64 0, Value.int .i64 0, Value.int .i64 0, Value.int .i64 0, Value.int .i64 0, Value.int .i64 0, Value.int .i64 0, Value.int .i64 0, Value.int .i64 0, Value.int .i64 0, Value.int .i64 0, Value.int .i64 0, Value.int .i64 0, Value.int .i64 0, Value.int .i64 0, Value.int .i64 0, Value.int .i64 0, Value.int .i64 0, Value.int .i64 0, Value.int .i64 0, Value.int .i64 0, Value.int .i64 0, Value.int .i64 0, Value.int .i64 0, Value.int .i64 0, Value.int .i64 0, Value.int .i64 0] 25) = w.alloc (.cells (kcs fun _ => zK) 25) := by rw [zero42]
theorem new_zeroK (w : World) : KsAt (w.alloc (.cells #[Value.int .i64 0, Value.int .i64 0, Value.int .i64 0, Value.int .i64 0, Value.int .i64 0, Value.int .i64 0, Value.int .i64 0, Value.int .i64 0, Value.int .i64 0, Value.int .i64 0, Value.int .i64 0, Value.int .i64 0, Value.int .i64 0, Value.int .i64 0, Value.int .i64 0, Value.int .i64 0, Value.int .i64 0, Value.int .i64 0, Value.int .i64 0, Value.int .i64 0, Value.int .i64 0, Value.int .i64 0, Value.int .i64 0, Value.int .i64 0, Value.int .i64 0, Value.int .i64 0, Value.int .i64 0, Value.int .i64 0, Value.int .i64 0, Value.int .i64 0, Value.int .i64 0, Value.int .i64 0, Value.int .i64 0, Value.int .i64 0, Value.int .i64 0, Value.int .i64 0, Value.int .i64 0, Value.int .i64 0, Value.int .i64 0, Value.int .i64 0, Value.int .i64 0, Value.int .i64 0] 25)) w.heap.size (fun _ => zK) := by rw [alloc_zeroK]; exact KsAt.new _ _
theorem live0 : trE (plK 3) 1048593 40 = 0 := by decide +kernel
theorem live1 : trN (plK 3) 1048593 40 = 43 := by decide +kernel
theorem live2 : (trA (plK 3) 1048593 40 20).bas = 40 ∧ (trA (plK 3) 1048593 40 20).stp = 0 := by decide +kernel
theorem live3 : (trA (plK 3) 1048593 40 4).bas = 41 ∧ (trA (plK 3) 1048593 40 4).stp = 0 := by decide +kernel
theorem live4 : (trA (plK 3) 1048593 40 0).bas = 42 ∧ (trA (plK 3) 1048593 40 0).stp = 0 := by decide +kernel
theorem live5 : (trA (plK 3) 1048593 40 1).bas = 2 ∧ (trA (plK 3) 1048593 40 1).stp = 4 := by decide +kernel
set_option maxRecDepth 100000 in
set_option maxHeartbeats 1000000 in
theorem lives_any (w : World) : Calls Try.prog 9 #[] w fun e w' => e = .returned (.bool true) ∧ Below w.heap.size w w' := by
  have hp := plain_any 3 w
  have ht := fun W => turn_any (plK 3) 1048593 (by omega) 40 W
  unfold TurnA at ht
  simp only [live0, live1] at ht
  obtain ⟨cp, hcp⟩ : ∃ cp, kcs (plK 3) = cp := ⟨_, rfl⟩
  rw [hcp] at hp
  simp only [hcp] at ht
  clear hcp
  obtain ⟨g, hg⟩ : ∃ g, trA (plK 3) 1048593 40 = g := ⟨_, rfl⟩
  simp only [hg] at ht
  have l2 := live2
  have l3 := live3
  have l4 := live4
  have l5 := live5
  rw [hg] at l2 l3 l4 l5
  clear hg
  go_enter Try.func9, Try.ntmps9
  go_wp2_with fail
  refine hp.mono ?_
  rintro e w1 ⟨rfl, hb1⟩
  clear hp
  go_wp2_with fail
  refine (ht w1).mono ?_
  rintro e w2 ⟨rfl, hb2⟩
  clear ht
  have hB2 := hb1.trans (hb2.mono hb1.size)
  have hz := new_zeroK w2
  go_upto_region 2 with (refine stK (g := g) hz rfl _ _ rfl rfl rfl ?_)
  rw [alloc_zeroK, World.setRow_alloc_new]
  have hG := KsAt.new w2 g
  have hB3 := hB2.trans ((alloc_ks w2 g).mono hB2.size)
  clear hz hb1 hb2 hB2
  generalize w2.alloc (.cells (kcs g) 25) = w3 at *
  obtain ⟨p0, p1⟩ := hG.cells 20 (by decide)
  obtain ⟨q0, q1⟩ := hG.cells 4 (by decide)
  obtain ⟨r0, r1⟩ := hG.cells 0 (by decide)
  obtain ⟨s0, s1⟩ := hG.cells 1 (by decide)
  rw [l2.1] at p0
  rw [l2.2] at p1
  rw [l3.1] at q0
  rw [l3.2] at q1
  rw [l4.1] at r0
  rw [l4.2] at r1
  rw [l5.1] at s0
  rw [l5.2] at s1
  simp only [Nat.reduceMul, Nat.reduceAdd, Nat.zero_mul, Nat.zero_add, Nat.one_mul] at p0 p1 q0 q1 r0 r1 s0 s1
  clear l2 l3 l4 l5 hG
  go_wp2_with fail
  go_ret
  exact ⟨rfl, hB3⟩
end Go.Proofs.Ytgfegolignhefaa
