/- Contracts: the document's Places and Word. -/
import Derived.Test.YtieagbjempndnabDoorStE
import Derived.Deep.WholeRow
import Derived.Deep.LoopGhost
import Derived.Deep.DeepCutAuto
import Derived.Laws.ResultCell
namespace Go.Proofs.YtieagbjempndnabDoor
open Go.RowKit
set_option linter.unusedVariables false
set_option linter.unusedSimpArgs false

/- The 64 places as cells. -/
def plf (f : Nat → Bool) : Array Value := Array.ofFn (n := 64) fun i => .bool (f i.1)
@[simp] theorem plf_size (f : Nat → Bool) : (plf f).size = 64 := by simp [plf]
theorem plf_get (f : Nat → Bool) (i : Nat) (h : i < 64) : (plf f)[i]? = some (.bool (f i)) := by
  rw [Array.getElem?_eq_getElem (by simpa using h)]
  simp [plf]
theorem plf_congr {f g : Nat → Bool} (h : ∀ i, i < 64 → f i = g i) : plf f = plf g := by
  unfold plf
  congr 1
  funext i
  rw [h i.1 i.2]
theorem plf_set (f : Nat → Bool) (k : Nat) (b : Bool) (hk : k < 64) : (plf f).setIfInBounds k (.bool b) = plf (fun i => if i = k then b else f i) := by
  apply Array.ext
  · simp
  · intro i h1 h2
    simp at h1
    rw [Array.getElem_setIfInBounds (by simpa using h1)]
    simp only [plf, Array.getElem_ofFn]
    by_cases h : k = i
    · subst h; simp
    · rw [if_neg h, if_neg (fun e => h e.symm)]
theorem plf_one (f : Nat → Bool) : (plf f).all (·.oneCell') = true := by
  rw [Array.all_eq_true]
  intro i h
  simp [plf, Value.oneCell']
theorem zero45 (w : World) : (zeroValue 60).run Tryd.prog w = .ok (.agg (plf fun _ => false)) w := Tryd.zeroValue60 w
theorem info45 : (Tryd.prog.info? 60).map (·.size) = some 64 := by kernel_rfl
theorem zero_lit : ∃ z : Array Value, (∀ w, (zeroValue 60).run Tryd.prog w = .ok (.agg z) w) ∧ z = plf fun _ => false := ⟨_, zero45, rfl⟩
/- The places, as many as have been seen. -/
def seen (s k : Nat) : Array Value := plf fun i => decide (i < k) && s.testBit i
theorem seen_zero (s : Nat) : seen s 0 = plf fun _ => false := plf_congr fun i _ => by simp
theorem seen_all (s : Nat) : seen s 64 = plf fun i => s.testBit i := plf_congr fun i hi => by simp [hi]
theorem seen_set (s k : Nat) (hk : k < 64) : (seen s k).setIfInBounds k (.bool (s.testBit k)) = seen s (k + 1) := by
  unfold seen
  rw [plf_set _ _ _ hk]
  apply plf_congr
  intro i hi
  by_cases h : i = k
  · subst h; simp
  · rw [if_neg h, show decide (i < k) = decide (i < k + 1) by simp; omega]
theorem seen_get (s k : Nat) (hk : k < 64) : (seen s k)[k]? = some (.bool false) := by
  unfold seen
  rw [plf_get _ _ hk]
  simp
@[simp] theorem seen_size (s k : Nat) : (seen s k).size = 64 := by simp [seen]
theorem heap_setRow_same {w : World} {g : Nat} {cs : Array Value} {t : TypeId} {fr : Nat × Nat} (h : w.heap[g]? = some (.cells cs t fr)) (cs' : Array Value) : (w.setRow g cs').heap[g]? = some (.cells cs' t fr) := by
  simp only [World.setRow, Array.getElem?_modify]
  rw [if_pos trivial, h]
  rfl
theorem setRow_below {n g : Nat} {w W : World} (hg : n ≤ g) (h : Below n w W) (cs : Array Value) : Below n w (W.setRow g cs) := by
  refine h.trans ⟨rfl, rfl, rfl, by simp, fun k hk => ?_⟩
  simp only [World.setRow, Array.getElem?_modify]
  rw [if_neg (by omega)]
set_option maxRecDepth 100000 in
set_option maxHeartbeats 400000 in
theorem places_any (s : Nat) (hs : s < 18446744073709551616) (w : World) :
    Calls Tryd.prog 37 #[.int .u64 (s : Int)] w fun e w' => e = .returned (.agg (plf fun i => s.testBit i)) ∧ Below w.heap.size w w' := by
  go_enter Tryd.func37, Tryd.ntmps37
  go_wp2_with fail
  rw [show (#[Value.bool false, Value.bool false, Value.bool false, Value.bool false, Value.bool false, Value.bool false, Value.bool false, Value.bool false, Value.bool false, Value.bool false, Value.bool false, Value.bool false, Value.bool false, Value.bool false, Value.bool false, Value.bool false, Value.bool false, Value.bool false, Value.bool false, Value.bool false, Value.bool false, Value.bool false, Value.bool false, Value.bool false, Value.bool false, Value.bool false, Value.bool false, Value.bool false, Value.bool false, Value.bool false, Value.bool false, Value.bool false, Value.bool false, Value.bool false, Value.bool false, Value.bool false, Value.bool false, Value.bool false, Value.bool false, Value.bool false, Value.bool false, Value.bool false, Value.bool false, Value.bool false, Value.bool false, Value.bool false, Value.bool false, Value.bool false, Value.bool false, Value.bool false, Value.bool false, Value.bool false, Value.bool false, Value.bool false, Value.bool false, Value.bool false, Value.bool false, Value.bool false, Value.bool false, Value.bool false, Value.bool false, Value.bool false, Value.bool false, Value.bool false] : Array Value) = plf (fun _ => false) from rfl]
  obtain ⟨w1, hw1⟩ : ∃ w1, w.alloc (.cells (plf fun _ => false) 60) = w1 := ⟨_, rfl⟩
  have hR1 : w1.heap[w.heap.size]? = some (.cells (plf fun _ => false) 60 (0, 0)) := by rw [← hw1]; exact heap_alloc_last w _
  have hB1 : Below w.heap.size w w1 := by rw [← hw1]; exact (Below.refl _ w).alloc (Nat.le_refl _) _
  have hs1 : w.heap.size + 1 = w1.heap.size := by rw [← hw1, World.size_alloc]
  rw [hw1, ← seen_zero s, hs1]
  clear hw1
  go_loopw [0, 4] (fun x i wx => ∃ k : Nat, k ≤ 64 ∧ i = .int .i64 (k : Int) ∧ x = .int .u64 ((s / 2 ^ k : Nat) : Int) ∧ wx = w1.alloc (.cells (seen s k) 60)) (fun _ i _ => 64 - (intOf i).toNat)
  case atStart => exact ⟨0, by omega, rfl, by simp, rfl⟩
  case round =>
    obtain ⟨k, hk, rfl, rfl, rfl⟩ := hrel
    by_cases hk8 : k < 64
    · have k8 : (k : Int) < 64 := by omega
      have hbit : s.testBit k = decide (s / 2 ^ k % 2 = 1) := Nat.testBit_eq_decide_div_mod_eq
      have hsucc : s / 2 ^ (k + 1) = s / 2 ^ k / 2 := by rw [Nat.pow_succ, Nat.div_div_eq_div_mul]
      have hlt : s / 2 ^ k < 18446744073709551616 := Nat.lt_of_le_of_lt (Nat.div_le_self _ _) hs
      obtain ⟨q, hq⟩ : ∃ q, s / 2 ^ k = q := ⟨_, rfl⟩
      rw [hq] at hbit hsucc hlt ⊢
      have hget := seen_get s k hk8
      have hset := seen_set s k hk8
      have HQ : Hid (s / 2 ^ (k + 1) = q / 2) := hsucc
      have HS : Hid (_ = _) := hset
      have HB : Hid (_ = _) := hbit
      clear hq hsucc hset hbit
      go_wp2_with fail
      go_roundw
      case rel =>
        refine ⟨k + 1, by omega, by go_num, by rw [HQ.out]; congr 1, ?_⟩
        have hb : ((q : Int) % 2 == 1) = s.testBit k := by
          rw [HB.out, Bool.eq_iff_iff]
          simp
          omega
        rw [hb, HS.out]
      case measure => simp [intOf]; omega
    · obtain rfl : k = 64 := by omega
      obtain ⟨w2, hw2⟩ : ∃ w2, w1.alloc (.cells (seen s 64) 60) = w2 := ⟨_, rfl⟩
      have hP2 : w2.heap[w1.heap.size]? = some (.cells (seen s 64) 60 (0, 0)) := by rw [← hw2]; exact heap_alloc_last w1 _
      have hB2 : Below w1.heap.size w1 w2 := by rw [← hw2]; exact (Below.refl _ w1).alloc (Nat.le_refl _) _
      have hR2 : w2.heap[w.heap.size]? = some (.cells (plf fun _ => false) 60 (0, 0)) := (hB2.block _ (by omega)).trans hR1
      rw [hw2]
      clear hw2
      go_upto_region 7 with (fail)
      refine wp_region_lit ?_
      refine wpList_load_row rfl 60 _ rfl w1.heap.size rfl 60 (seen s 64) (0, 0) _ hP2 Tryd.underlying60 rfl (by rw [seen_size]; exact info45) ?_
      refine wpList_store_row rfl 60 _ _ rfl w.heap.size (seen s 64) rfl rfl 60 _ hR2 (by rw [seen_size]; exact info45) (by simp) (by unfold seen; exact plf_one _) ?_
      have hR3 := heap_setRow_same hR2 (seen s 64)
      have hB3 := setRow_below (n := w.heap.size) (Nat.le_refl _) (hB1.trans (hB2.mono (by omega))) (seen s 64)
      generalize w2.setRow w.heap.size (seen s 64) = w3 at *
      go_wp2_with fail
      refine bodyPost_ret (results_cell_row rfl _ _ w.heap.size 60 (seen s 64) (0, 0) _ rfl hR3 Tryd.underlying60 rfl (by rw [seen_size]; exact info45)) rfl ?_
      exact ⟨by rw [seen_all], hB3⟩
/- The word of the places. -/
theorem wd_step {f : Nat → Bool} {n : Nat} : wd f (n + 1) = 2 * wd f n + (f (63 - n)).toNat := rfl
set_option maxRecDepth 100000 in
set_option maxHeartbeats 400000 in
theorem word_any (f : Nat → Bool) (w : World) :
    Calls Tryd.prog 28 #[.agg (plf f)] w fun e w' => e = .returned (.int .u64 ((wd f 64 : Nat) : Int)) ∧ Below w.heap.size w w' := by
  have hsz := plf_size f
  have hget := plf_get f
  obtain ⟨c, hc⟩ : ∃ c, plf f = c := ⟨_, rfl⟩
  rw [hc] at hsz hget ⊢
  clear hc
  have hB : Below w.heap.size w (w.alloc (.cells c 60)) := (Below.refl _ w).alloc (Nat.le_refl _) _
  go_enter Tryd.func28, Tryd.ntmps28
  go_wp2_with fail
  go_loop [3, 4] (fun x i => ∃ k : Nat, k ≤ 64 ∧ i = .int .i64 (63 - (k : Int)) ∧ x = .int .u64 ((wd f k : Nat) : Int)) (fun _ i => (intOf i + 1).toNat)
  case atStart => exact ⟨0, by omega, rfl, rfl⟩
  case round =>
    obtain ⟨k, hk, rfl, rfl⟩ := hrel
    by_cases hk8 : k < 64
    · obtain ⟨j, hj⟩ : ∃ j : Nat, 63 - k = j := ⟨_, rfl⟩
      have hji : 63 - (k : Int) = (j : Int) := by omega
      have hj64 : (j : Int) < 64 := by omega
      have hjn : ¬ ((j : Int) < 0) := by omega
      have hcell := hget j (by omega)
      have hlt := wd_lt f k
      have hpw : 2 ^ k ≤ 2 ^ 63 := Nat.pow_le_pow_right (by omega) (by omega)
      have hst : wd f (k + 1) = 2 * wd f k + (f j).toNat := by rw [wd_step, hj]
      have h63 : wd f k < 9223372036854775808 := Nat.lt_of_lt_of_le hlt hpw
      clear hlt hpw hget
      obtain ⟨q, hq⟩ : ∃ q, wd f k = q := ⟨_, rfl⟩
      rw [hq] at hst h63 ⊢
      rw [hji]
      have HST : Hid (_ = _) := hst
      have HJ : Hid (63 - (k : Int) = (j : Int)) := hji
      clear hq hst hji hj
      cases hf : f j with
      | false =>
        rw [hf] at hcell
        go_wp2_with fail
        go_round
        case rel => exact ⟨k + 1, by omega, by have := HJ.out; go_num, by rw [HST.out, hf]; go_num⟩
        case measure => simp [intOf]
      | true =>
        rw [hf] at hcell
        go_wp2_with fail
        go_round
        case rel => exact ⟨k + 1, by omega, by have := HJ.out; go_num, by rw [HST.out, hf]; go_num⟩
        case measure => simp [intOf]
    · obtain rfl : k = 64 := by omega
      go_wp2_with fail
      go_ret
      exact ⟨rfl, hB⟩
end Go.Proofs.YtieagbjempndnabDoor
