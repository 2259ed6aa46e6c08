/- Contracts of the document's answers: Bits, and a reader. -/
import Derived.Test.YtpofjkjcbflloaaBitRefB
namespace Go.Proofs.Ytpofjkjcbflloaa
open Go.RowKit Go.Maps
set_option linter.unusedVariables false

def arr (y j : Nat) : Array Value := ((List.range 8).map fun i => Value.int .u8 (if i < j then 0 else ((decide (y / 2 ^ (7 - i) % 2 = 1)).toNat : Int))).toArray
theorem b01_one (l : List Bool) : ∀ u ∈ b01 l, u.oneCell' = true := by
  intro u hu
  simp only [b01, List.mem_map] at hu
  obtain ⟨_, _, rfl⟩ := hu
  rfl
theorem arr_end (y : Nat) : arr y 0 = (b01 (bo y 8)).toArray := rfl
theorem arr_start (y : Nat) : arr y 8 = #[.int .u8 0, .int .u8 0, .int .u8 0, .int .u8 0, .int .u8 0, .int .u8 0, .int .u8 0, .int .u8 0] := rfl
theorem arr_set (y j : Nat) (h : j ≤ 7) : (arr y (j + 1)).setIfInBounds j (.int .u8 ((decide (y / 2 ^ (7 - j) % 2 = 1)).toNat : Int)) = arr y j := by
  have : j = 0 ∨ j = 1 ∨ j = 2 ∨ j = 3 ∨ j = 4 ∨ j = 5 ∨ j = 6 ∨ j = 7 := by omega
  rcases this with rfl | rfl | rfl | rfl | rfl | rfl | rfl | rfl <;> rfl
theorem arr_get (y j : Nat) (h : j ≤ 7) : (arr y (j + 1))[j]? = some (.int .u8 0) := by
  have : j = 0 ∨ j = 1 ∨ j = 2 ∨ j = 3 ∨ j = 4 ∨ j = 5 ∨ j = 6 ∨ j = 7 := by omega
  rcases this with rfl | rfl | rfl | rfl | rfl | rfl | rfl | rfl <;> rfl
set_option maxHeartbeats 2000000 in
set_option maxRecDepth 100000 in
theorem rBits_any (s : ByteArray) (w : World) (hs : s.size ≤ 16777216) :
    Calls Try.prog 35 #[.string s] w fun e w' => ∃ v, e = .returned v ∧ w'.ownsRow w.heap.size 5 1 v (8 * s.size) (b01 (tb (bys s))) ∧ Below w.heap.size w w' := by
  obtain ⟨i0, hi, hz0, hz1, hz2⟩ := info_parts info8
  go_enter Try.func35, Try.ntmps35
  go_wp2_with fail
  go_loopw [3, 4] (fun v i wr => ∃ t : Nat, t ≤ s.size ∧ i = .int .i64 (t : Int) ∧ wr.ownsRow w.heap.size 5 1 v (8 * t) (b01 (tb ((bys s).take t))) ∧ Below w.heap.size w wr) (fun _ i _ => s.size - (intOf i).toNat)
  case atStart => exact ⟨0, by omega, rfl, World.ownsRow_nil _ _ _ _, Below.refl _ _⟩
  case round =>
    obtain ⟨t, ht, rfl, hrow, hb⟩ := hrel
    obtain ⟨W0, rfl⟩ : ∃ W0, W0 = wr := ⟨_, rfl⟩
    have HROW : Hid (W0.ownsRow w.heap.size 5 1 u3 (8 * t) (b01 (tb ((bys s).take t)))) := hrow
    have HB : Hid (Below w.heap.size w W0) := hb
    clear hrow hb
    by_cases hts : t < s.size
    · have i2 : (t : Int) < (s.size : Int) := by omega
      have i1 : (0 : Int) ≤ (t : Int) := by omega
      obtain ⟨y, hy⟩ : ∃ y, (s[t]'hts).toNat = y := ⟨_, rfl⟩
      have hy256 : y < 256 := by rw [← hy]; exact UInt8.toNat_lt _
      have HY : Hid ((bys s).take (t + 1) = (bys s).take t ++ [y]) := by
        have hlt : t < (bys s).length := by rw [bys_length]; exact hts
        have := take_snoc (bys s) t 0 hlt
        unfold Hid
        rw [this, ← hy, ← bys_get s t hts]
        simp [hlt]
      go_wp2_with fail
      clear hy
      go_loopw [5, 7] (fun x kk wr' => ∃ j : Nat, j ≤ 8 ∧ kk = .int .i64 ((j : Int) - 1) ∧ x = .int .u8 ((y / 2 ^ (8 - j) : Nat) : Int) ∧ wr'.heap[W0.heap.size]? = some (.cells (arr y j) 71) ∧ Below W0.heap.size W0 wr' ∧ wr'.heap.size = W0.heap.size + 1) (fun _ kk _ => (intOf kk + 1).toNat)
      case atStart => exact ⟨8, by omega, rfl, by simp, by rw [arr_start]; exact heap_alloc_new W0 _, below1 _ _, by simp⟩
      case round =>
        obtain ⟨j, hj, rfl, rfl, hblk, hbl, hsz⟩ := hrel
        have HBLK : Hid (wr.heap[W0.heap.size]? = some (.cells (arr y j) 71)) := hblk
        have HBL : Hid (Below W0.heap.size W0 wr) := hbl
        have HSZ : Hid (wr.heap.size = W0.heap.size + 1) := hsz
        clear hblk hbl hsz
        by_cases hj0 : j = 0
        · subst hj0
          rw [show ((0 : Nat) : Int) - 1 = -1 from rfl]
          have HR2 : Hid (wr.ownsRow w.heap.size 5 1 u3 (8 * t) (b01 (tb ((bys s).take t)))) := (Kept.ofBelow (F := fun _ => False) HBL.out).row HROW.out (fun _ _ h => h)
          have hnw := World.news_of_block HBLK.out
          rw [arr_end, List.toList_toArray] at hnw
          have HNW : Hid _ := hnw
          have hs1 := HSZ.out
          have hs2 := HB.out.size
          have HS1 : Hid (w.heap.size ≤ wr.heap.size) := by unfold Hid; omega
          clear hnw hs1 hs2
          go_wp2_with (at_builtin; refine wpList_append_lies _ rfl _ _ _ rfl w.heap.size 5 i0 _ 1 1 Try.underlying38 hi hz0 hz1 hz2 rfl (by omega) _ (8 * t) _ rfl HR2.out ⟨W0.heap.size, 0, none⟩ 8 8 (b01 (bo y 8)) rfl (by simp) HNW.out (b01_one _) (by omega) (by unfold maxLen; omega) (by omega) HS1.out wr.heap.size rfl ?_; intro g3 cap3 w3 hown3 hgrow3 hat3 hlt3; have HG3 : Hid (wr.grownBy w3 u3.ownBlock) := hgrow3; have HO3 : Hid (w3.ownsRow w.heap.size 5 1 (.slice (some ⟨g3, 0, none⟩) (8 * t + 8) cap3) (8 * t + 8) (b01 (tb ((bys s).take t)) ++ b01 (bo y 8))) := hown3; clear hown3 hgrow3 hat3 hlt3)
          go_roundw
          case rel =>
            refine ⟨t + 1, by omega, by go_num, ?_, Below.grown (Below.then HB.out HBL.out) HG3.out HS1.out (fun k hk => (HROW.out.lt k hk).1)⟩
            rw [HY.out, tb_append, b01_append, show 8 * (t + 1) = 8 * t + 8 by omega, show tb [y] = bo y 8 by simp [tb]]
            exact HO3.out
          case measure => simp [intOf]; omega
        · obtain ⟨i, rfl⟩ : ∃ i, j = i + 1 := ⟨j - 1, by omega⟩
          rw [show ((i + 1 : Nat) : Int) - 1 = (i : Int) by omega]
          have hi0 : (0 : Int) ≤ (i : Int) := by omega
          have hi8 : (i : Int) < 8 := by omega
          obtain ⟨z, hz⟩ : ∃ z, y / 2 ^ (8 - (i + 1)) = z := ⟨_, rfl⟩
          have hz256 : z < 256 := by rw [← hz]; exact Nat.lt_of_le_of_lt (Nat.div_le_self _ _) hy256
          have HZ : Hid (y / 2 ^ (7 - i) = z) := by unfold Hid; rw [← hz]; congr 2; omega
          rw [hz]
          clear hz
          obtain ⟨e, he⟩ : ∃ e : Nat, z % 2 = e := ⟨_, rfl⟩
          have he2 : (z : Int) % 2 = (e : Int) := by omega
          have HE : Hid (((decide (y / 2 ^ (7 - i) % 2 = 1)).toNat : Int) = (e : Int)) := by unfold Hid; rw [dec_toNat, HZ.out, he2]
          have hcell : wr.cell? ⟨W0.heap.size, i, none⟩ = some (.int .u8 0) := by
            have := arr_get y i (by omega)
            simp [World.cell?, HBLK.out, this]
          have hfr : wr.frozen? ⟨W0.heap.size, i, none⟩ = false := by simp [World.frozen?, HBLK.out]
          clear he
          go_wp2_with fail
          go_roundw
          case rel =>
            refine ⟨i, by omega, by go_num, ?_, ?_, HBL.out.setCell (by simp) _, by simpa [World.setCell] using HSZ.out⟩
            · have : y / 2 ^ (8 - i) = z / 2 := by rw [show 8 - i = (7 - i) + 1 by omega, Nat.pow_succ, ← Nat.div_div_eq_div_mul, HZ.out]
              rw [this]; simp
            · rw [blk_set HBLK.out, ← HE.out, arr_set y i (by omega)]
          case measure => simp [intOf]
    · have i2 : decide ((t : Int) < (s.size : Int)) = false := by simp; omega
      obtain rfl : t = s.size := by omega
      rw [List.take_of_length_le (by rw [bys_length]; exact Nat.le_refl _)] at HROW
      go_wp2_with fail
      go_ret
      exact ⟨u3, rfl, HROW.out, HB.out⟩
end Go.Proofs.Ytpofjkjcbflloaa
