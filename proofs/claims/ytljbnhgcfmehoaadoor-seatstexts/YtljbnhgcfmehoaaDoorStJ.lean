/- Contracts: the document's Count, Take and Same; Of, the program's and the document's. -/
import Derived.Test.YtljbnhgcfmehoaaDoorStI
import Derived.BigQuiet
namespace Go.Proofs.YtljbnhgcfmehoaaDoor
open Go.RowKit Go.Maps Go.Shelf
set_option linter.unusedVariables false
set_option linter.unusedSimpArgs false

set_option maxHeartbeats 400000 in
theorem rCount_any (s : Nat) (hs : s < 18446744073709551616) (w : World) :
    Calls Tryd.prog 16 #[.int .u64 (s : Int)] w fun e w' => e = .returned (.int .i64 (((bl s).length : Nat) : Int)) ∧ Below w.heap.size w w' := by
  go_enter Tryd.func16, Tryd.ntmps16
  go_wp2_with fail
  refine (rList_any s hs _).mono ?_
  rintro e w' ⟨⟨v, rfl, hv⟩, hb⟩
  obtain ⟨a, cap, rfl⟩ := row_slice hv
  clear hv
  go_wp2_with fail
  go_ret
  exact ⟨rfl, hb⟩
theorem take_more {l : List Nat} {k : Nat} (h : k < l.length) : l.take (k + 1) = l.take k ++ [l[k]] := List.take_succ_eq_append_getElem h
theorem hd_drop {l : List Nat} {k : Nat} (h : k < l.length) : hd (l.drop k) = (l[k] : Int) := by rw [List.drop_eq_getElem_cons h]; rfl
set_option maxRecDepth 100000 in
set_option maxHeartbeats 1000000 in
theorem rTake_any (s : Nat) (hs : s < 18446744073709551616) (m : Int) (hm0 : -9223372036854775808 ≤ m) (hm1 : m < 9223372036854775808) (w : World) :
    Calls Tryd.prog 22 #[.int .u64 (s : Int), .int .i64 m] w fun e w' => TakeP s m w w' e ∧ Below w.heap.size w w' := by
  have key : ∀ R : Ending → World → Prop, Hid (∀ e w', TakeP s m w w' e ∧ Below w.heap.size w w' → R e w') → Calls Tryd.prog 22 #[.int .u64 (s : Int), .int .i64 m] w R := ?_
  · exact key _ (fun _ _ h => h)
  intro R HR
  obtain ⟨i0, hi, hz0, hz1, hz2⟩ := info_parts infoInt
  by_cases hm : m < 0
  · go_enter Tryd.func22, Tryd.ntmps22
    go_wp2_with fail
    go_ret3
    exact HR.out _ _ ⟨TakeP.neg hm, Below.refl _ _⟩
  · obtain ⟨M, rfl⟩ : ∃ M : Nat, m = (M : Int) := ⟨m.toNat, by omega⟩
    have hboth := bl_both hs
    obtain ⟨L, hL⟩ : ∃ L, (bl (nt s)).length = L := ⟨_, rfl⟩
    have hcnt := rCount_any s hs
    obtain ⟨C, hC⟩ : ∃ C, (bl s).length = C := ⟨_, rfl⟩
    rw [hC] at hcnt hboth
    rw [hL] at hboth
    have HL : Hid ((bl (nt s)).length = L) := hL
    have hC64 : C ≤ 64 := by omega
    have HCL : Hid (C + L = 64) := hboth
    have hmn : ((M : Int) < 0) = False := by simp
    clear hC hL hm hboth hm0
    go_enter Tryd.func22, Tryd.ntmps22
    go_wp2_with fail
    refine (hcnt _).mono ?_
    rintro e w1 ⟨rfl, hb⟩
    clear hcnt
    go_upto_if 16 with (fail)
    by_cases hlm : 64 - (C : Int) < (M : Int)
    · rw [show decide (64 - (C : Int) < (M : Int)) = true from decide_eq_true hlm]
      go_wp2_with fail
      go_ret3
      exact HR.out _ _ ⟨TakeP.full (by have := HL.out; have := HCL.out; omega), hb⟩
    · have HML : Hid (M ≤ L) := by show M ≤ L; have := HCL.out; omega
      rw [show decide (64 - (C : Int) < (M : Int)) = false from decide_eq_false hlm]
      generalize 64 - (C : Int) = Z at *
      clear hmn hlm
      go_wp2_with fail
      have hml := HML.out
      obtain ⟨l, hl⟩ : ∃ l, bl (nt s) = l := ⟨_, rfl⟩
      have HLL : Hid (bl (nt s) = l) := hl
      have F0 : Hid (l.length = L) := by rw [← hl]; exact HL
      have F1 : Hid (∀ k, bl (nt (pf s (l.take k))) = l.drop k) := by rw [← hl]; exact fun k => bl_pf k hs
      have F2 : Hid (∀ i ∈ l, i < 64) := by rw [← hl]; exact fun i hi => (mem_bl.1 hi).1
      clear hl
      go_loopw [0, 7, 8] (fun x v i wx => ∃ k : Nat, k ≤ M ∧ i = .int .i64 (k : Int) ∧ x = .int .u64 ((pf s (l.take k) : Nat) : Int) ∧ wx.ownsRow w1.heap.size 3 1 v (l.take k).length (nI (l.take k)) ∧ Below w1.heap.size w1 wx) (fun _ _ i _ => M - (intOf i).toNat)
      case atStart => exact ⟨0, by omega, rfl, rfl, World.ownsRow_nil _ _ _ _, Below.refl _ _⟩
      case round =>
        obtain ⟨k, hk, rfl, rfl, hrow, hbw⟩ := hrel
        by_cases hkM : k < M
        · have hkL : k < l.length := by have := F0.out; omega
          have hmem : ∀ i ∈ l.take k, i < 64 := fun i hi => F2.out i (List.mem_of_mem_take hi)
          have hq64 := pf_lt hs hmem
          have hlow := rLowest_any (pf s (l.take k)) hq64
          rw [F1.out k, hd_drop hkL] at hlow
          have hx64 : l[k] < 64 := F2.out _ (List.getElem_mem hkL)
          have hset := rSet_any (pf s (l.take k)) hq64 ((l[k] : Nat) : Int) true
          rw [show setR (pf s (l.take k)) ((l[k] : Nat) : Int) true = putR (pf s (l.take k)) ((l[k] : Nat) : Int) from rfl, putR_sl hx64, ← pf_snoc, ← take_more hkL] at hset
          have HT : Hid (l.take (k + 1) = l.take k ++ [l[k]]) := take_more hkL
          have hlen : (l.take k).length ≤ 64 := by have := F0.out; have := HCL.out; simp; omega
          have HR : Hid (wr.ownsRow w1.heap.size 3 1 _ (l.take k).length (nI (l.take k))) := hrow
          have hkMi : (k : Int) < (M : Int) := by omega
          generalize l[k] = X at *
          generalize l.take k = lk at *
          generalize hlk : pf s (l.take (k + 1)) = q1 at *
          generalize pf s lk = q at *
          have HQ : Hid (pf s (l.take (k + 1)) = q1) := hlk
          clear hlk hmem
          go_wp2_with fail
          refine (hlow _).mono ?_
          rintro e w2 ⟨rfl, hb2⟩
          have hrow2 := row_below hrow hbw.size hb2
          clear hlow hrow
          go_wp2_with (at_builtin; refine wpList_append_own (w := _) rfl _ _ 32 rfl w1.heap.size 3 i0 _ 1 8 Tryd.underlying32 hi hz0 hz1 hz2 rfl (by decide) _ _ _ rfl (hrow2.alloc _) ⟨w2.heap.size, 0, none⟩ 1 1 [.int .i64 (X : Int)] rfl rfl (cell_one_new _ _ _) (by simp [Value.oneCell']) (by unfold maxLen; omega) (by omega) (by have := hbw.size; have := hb2.size; simp; omega) ?_; intro v' w3 hown' hgrow _)
          refine (hset _).mono ?_
          rintro e w4 ⟨rfl, hb4⟩
          have hb3 : Below w1.heap.size w2 w3 := row_grown hrow2 (Nat.le_trans hbw.size hb2.size) hgrow
          have hbt : Below w1.heap.size w1 w4 := ((hbw.trans (hb2.mono hbw.size)).trans hb3).trans (hb4.mono (Nat.le_trans (Nat.le_trans hbw.size hb2.size) hb3.size))
          have hrow4 := row_below hown' (Nat.le_trans (Nat.le_trans hbw.size hb2.size) hb3.size) hb4
          clear hset hrow2 hown' hgrow hb4 hb3 hb2
          go_wp2_with fail
          go_roundw
          case rel =>
            refine ⟨k + 1, by omega, by go_num, by rw [HQ.out], ?_, hbt⟩
            rw [HT.out, nI_snoc, List.length_append]
            exact hrow4
          case measure => simp [intOf]; omega
        · obtain rfl : k = M := by omega
          go_wp2_with fail
          go_ret3
          exact HR.out _ _ ⟨by
            have h1 := TakeP.ok (s := s) (M := k) (w := w) (w' := wr) (by have := HL.out; omega) (by rw [HLL.out]; exact row_wide hrow hb.size)
            rw [HLL.out] at h1
            exact h1, hb.trans (hbw.mono hb.size)⟩
end Go.Proofs.YtljbnhgcfmehoaaDoor
