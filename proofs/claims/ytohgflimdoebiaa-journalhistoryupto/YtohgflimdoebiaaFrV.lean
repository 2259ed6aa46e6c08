/- Contracts: the journal's iterator over the records. -/
import Derived.RangeFuncNested
import Derived.RangeFuncBound
import Derived.RangeFuncCalls
import Derived.RangeFuncLeaves
import Derived.RangeFuncBox
import Derived.Shelf.Abstract
import Derived.Shelf.RegionOpen
import Derived.WalkKit
import Derived.OwnWalkIn
import Derived.TacticsInMore
import Derived.LoopNIn
import Derived.LoopIn
import Derived.Maps.AppendAt
import Derived.Test.YtohgflimdoebiaaFrX2
namespace Go.Proofs.Ytohgflimdoebiaa
open Go.RowKit Go.Maps Go.Shelf
attribute [local go_sem] Oper.semAt_some
set_option linter.unusedVariables false
set_option linter.unusedSimpArgs false

/- What has come of the records, and what is still to come. -/
structure Midr (l : List ByteArray) (k a : Nat) (pre : List (Int × ByteArray)) : Prop where
  k1 : k ≤ 65535
  len : pre.length = k
  at' : a ≤ l.length
  p1 : pre ++ rcs (65535 - k) (l.drop a) (k + 1) a = rcs 65535 l 1 0
theorem Midr.start (l : List ByteArray) : Midr l 0 0 [] := ⟨by omega, rfl, Nat.zero_le _, by simp⟩
theorem Midr.step {l : List ByteArray} {k a : Nat} {pre : List (Int × ByteArray)} (h : Midr l k a pre) (hk : k < 65535) {s : ByteArray} (hs : sd (l.drop a) ((k + 1 : Nat) : Int) = some s) : Midr l (k + 1) (a + np s.size) (pre ++ [(((a + np s.size : Nat) : Int), s)]) := by
  have h1 := h.p1
  have h2 := (sd_std hs).fit
  have h3 := h.at'
  rw [List.length_drop] at h2
  rw [show 65535 - k = (65535 - (k + 1)) + 1 by omega, rcs, hs] at h1
  simp only [List.drop_drop] at h1
  exact ⟨by omega, by simp [h.len], by omega, by rw [List.append_assoc]; exact h1⟩
theorem Midr.stop {l : List ByteArray} {k a : Nat} {pre : List (Int × ByteArray)} (h : Midr l k a pre) (hs : sd (l.drop a) ((k + 1 : Nat) : Int) = none) : pre = rcs 65535 l 1 0 := by
  have h1 := h.p1
  by_cases hk : k < 65535
  · rw [show 65535 - k = (65535 - (k + 1)) + 1 by omega, rcs, hs] at h1
    simpa using h1
  · have := h.k1
    obtain rfl : k = 65535 := by omega
    rw [Nat.sub_self, rcs] at h1
    simpa using h1
theorem Midr.full {l : List ByteArray} {a : Nat} {pre : List (Int × ByteArray)} (h : Midr l 65535 a pre) : pre = rcs 65535 l 1 0 := by
  have h1 := h.p1
  rw [Nat.sub_self, rcs] at h1
  simpa using h1
theorem Midr.part {l : List ByteArray} {k a : Nat} {pre : List (Int × ByteArray)} (h : Midr l k a pre) : pre <+: rcs 65535 l 1 0 := ⟨_, h.p1⟩
theorem grown_of {W W' : World} (h : Below W.heap.size W W') : W.grownBy W' none := ⟨h.os, h.tape, h.output, h.size, fun k hk _ => h.block k hk⟩
theorem rds_below {n0 b o : Nat} {W W' : World} {l : List ByteArray} (h : Below n0 W W') (hb : b < n0) (hr : RdS W (some ⟨b, o, none⟩) l) : RdS W' (some ⟨b, o, none⟩) l := fun i hi => by
  obtain ⟨b', o', e, c⟩ := hr i hi
  cases e
  exact ⟨b, o, rfl, (h.cell (p := ⟨b, o + i, none⟩) hb).trans c⟩
theorem rds_drop {b o : Nat} {W : World} {l : List ByteArray} (hr : RdS W (some ⟨b, o, none⟩) l) (p : Nat) : RdS W (some ⟨b, o + p, none⟩) (l.drop p) := fun i hi => by
  rw [List.length_drop] at hi
  obtain ⟨b', o', e, c⟩ := hr (p + i) (by omega)
  cases e
  exact ⟨b, o + p, rfl, by rw [drop_getD, Nat.add_assoc]; exact c⟩
/- What a round keeps: all below n0, and the box that the iterator reads. -/
def KpR (n0 Bs : Nat) (W W' : World) : Prop := Below n0 W W' ∧ ∀ v, W.cell? ⟨Bs, 0, none⟩ = some v → W'.cell? ⟨Bs, 0, none⟩ = some v
theorem KpR.refl (n0 Bs : Nat) (W : World) : KpR n0 Bs W W := ⟨Below.refl _ _, fun _ h => h⟩
theorem KpR.trans {n0 Bs : Nat} {A B C : World} (h : KpR n0 Bs A B) (k : KpR n0 Bs B C) : KpR n0 Bs A C := ⟨h.1.trans k.1, fun v hv => k.2 v (h.2 v hv)⟩
theorem KpR.of {n0 Bs : Nat} {A B : World} (hn : n0 ≤ A.heap.size) (h : Below A.heap.size A B) : KpR n0 Bs A B := ⟨h.mono hn, fun v hv => cell_later h hv⟩
set_option maxRecDepth 100000 in
set_option maxHeartbeats 4000000 in
theorem records1_in (n : Nat) (hn : 1 ≤ n) (lo Bs n0 b o cap : Nat) (ls : List ByteArray) (hcap : ls.length ≤ cap) (hlen : ls.length ≤ 8796093022208) (hb : b < n0) (J Jx : List (Int × ByteArray) → World → Prop) (W : World) (hn0 : n0 ≤ W.heap.size) (hJ : AbidesFrom W.heap.size J)
    (hY : ∀ pre x W1, J pre W1 → pre.length < 65535 → YieldAt Fence.wide (n - 1) Try.prog lo #[.int .i64 x.1, .string x.2] W1 fun e W' =>
      (e = .returned (.bool true) ∧ J (pre ++ [x]) W' ∧ KpR n0 Bs W1 W') ∨ (e = .returned (.bool false) ∧ Jx (pre ++ [x]) W'))
    (hBs : W.cell? ⟨Bs, 0, none⟩ = some (.slice (some ⟨b, o, none⟩) ls.length cap)) (hrd : RdS W (some ⟨b, o, none⟩) ls) (h0 : J [] W) :
    CallsIn Fence.wide n Try.prog 48 #[.func (.yield lo) #[] #[], .pointer (some ⟨Bs, 0, none⟩)] W fun e W' => (∃ v, e = .returned v) ∧
      ((∃ ys, ys = rcs 65535 ls 1 0 ∧ J ys W') ∨ (∃ pre, pre <+: rcs 65535 ls 1 0 ∧ Jx pre W')) := by
  obtain ⟨N, hN⟩ : ∃ N, ls.length = N := ⟨_, rfl⟩
  have HLN : Hid (ls.length = N) := hN
  have HRD : Hid (RdS W (some ⟨b, o, none⟩) ls) := hrd
  rw [hN] at hcap hlen hBs
  clear hN hrd
  refine callsIn_of_wp Try.func48 rfl trivial ?_ rfl
  simp only [Try.ntmps48, List.size_toArray, List.length_cons, List.length_nil, Nat.reduceAdd, Nat.reduceSub, Array.replicate_succ, Array.replicate_zero, List.push_toArray, List.append_toArray, List.nil_append, List.cons_append]
  gi_wp2
  gi_loopw [3, 4] (fun x i wr => ∃ (k p : Nat) (pre : List (Int × ByteArray)), Midr ls k p pre ∧ x = .int .i64 (p : Int) ∧ i = .int .i64 ((k + 1 : Nat) : Int) ∧ J pre wr ∧ KpR n0 Bs W wr) (fun _ i _ => 65536 - (intOf i).toNat)
  case atStart => exact ⟨0, 0, [], Midr.start ls, rfl, rfl, h0, KpR.refl _ _ _⟩
  case round =>
    obtain ⟨k, p, pre, hM, rfl, rfl, hJp, hbw⟩ := hrel
    have HM : Hid (Midr ls k p pre) := hM
    have HJP : Hid (J pre wr) := hJp
    have HBW : Hid (KpR n0 Bs W wr) := hbw
    have HSZ : Hid (n0 ≤ wr.heap.size) := Nat.le_trans hn0 hbw.1.size
    have hk1 := hM.k1
    have hpn : p ≤ N := by rw [← HLN.out]; exact hM.at'
    have cB : wr.cell? ⟨Bs, 0, none⟩ = some (.slice (some ⟨b, o, none⟩) N cap) := hbw.2 _ hBs
    clear hM hJp hbw
    by_cases hk : k < 65535
    · have j1 : decide (((k + 1 : Nat) : Int) ≤ 65535) = true := by simp; omega
      have j2 : IntKind.i64.wrap (((k + 1 : Nat) : Int) + 1) = ((k + 1 + 1 : Nat) : Int) := by rw [Bt.wrap_fit _ (by omega) (by omega)]; omega
      have x5 : (0 : Int) ≤ (p : Int) := by omega
      have x6 : (p : Int) ≤ (N : Int) := by omega
      obtain ⟨K, hK⟩ : ∃ K, ((k + 1 : Nat) : Int) = K := ⟨_, rfl⟩
      obtain ⟨K2, hK2⟩ : ∃ K2, ((k + 1 + 1 : Nat) : Int) = K2 := ⟨_, rfl⟩
      have HK : Hid (((k + 1 : Nat) : Int) = K) := hK
      have HK2 : Hid (((k + 1 + 1 : Nat) : Int) = K2) := hK2
      rw [hK] at j1 j2 ⊢
      rw [hK2] at j2
      clear hK hK2
      by_cases hpc : p < cap
      · have y1 : ¬ cap = p := by omega
        have y2 : ¬ p = cap := by omega
        have hst := standing_any (some ⟨b, o + p, none⟩) (cap - p) (ls.drop p) K wr (by rw [List.length_drop, HLN.out]; omega) (rds_drop (rds_below HBW.out.1 hb HRD.out) p)
        rw [List.length_drop, HLN.out] at hst
        gi_wp2_with fail
        refine ⟨trivial, (callsIn_wide.2 hst).mono ?_⟩
        rintro e w3 ⟨rfl, hb3⟩
        have hJ3 : J pre w3 := hJ _ _ _ none HJP.out (grown_of hb3) (fun r e => by cases e)
        have HBW3 : Hid (KpR n0 Bs W w3) := HBW.out.trans (KpR.of HSZ.out hb3)
        cases hsd : sd (ls.drop p) K with
        | none =>
          have HE : Hid (pre = rcs 65535 ls 1 0) := HM.out.stop (by rw [HK.out]; exact hsd)
          rw [sdS_none hsd, sdN_none hsd]
          clear hsd hst
          gi_wp2_with fail
          refine bodyPost_ret (results_none rfl _ _ _) rfl ?_
          exact ⟨⟨_, rfl⟩, .inl ⟨_, HE.out, hJ3⟩⟩
        | some s =>
          have HM' : Hid (Midr ls (k + 1) (p + np s.size) (pre ++ [(((p + np s.size : Nat) : Int), s)])) := HM.out.step hk (by rw [HK.out]; exact hsd)
          have hpos := (sd_std hsd).pos
          have hat := HM'.out.at'
          rw [HLN.out] at hat
          rw [sdS_some hsd, sdN_some hsd]
          obtain ⟨m, hm⟩ : ∃ m, np s.size = m := ⟨_, rfl⟩
          rw [hm] at HM' hpos hat ⊢
          have m0 : ((m : Int) == 0) = false := by simp; omega
          have m1 : IntKind.i64.wrap ((p : Int) + (m : Int)) = ((p + m : Nat) : Int) := by rw [← Int.natCast_add]; exact Bt.wrap_fit _ (by omega) (by omega)
          obtain ⟨PM, hPM⟩ : ∃ PM, ((p + m : Nat) : Int) = PM := ⟨_, rfl⟩
          obtain ⟨fn, tmps, assign, body, hy, hR⟩ := hY pre (PM, s) w3 hJ3 (by rw [HM.out.len]; exact hk)
          dsimp only at hy
          have HPM : Hid (((p + m : Nat) : Int) = PM) := hPM
          rw [hPM] at m1 HM'
          clear hsd hm hst hPM hJ3
          gi_wp2_with fail
          refine hR.mono ?_
          rintro e W4 (⟨rfl, hJ4, hk4⟩ | ⟨rfl, hJx4⟩)
          · gi_wp2_with fail
            go_roundw
            case rel => exact ⟨k + 1, p + m, _, HM'.out, by rw [HPM.out], by rw [HK2.out], hJ4, HBW3.out.trans hk4⟩
            case measure => simp [intOf, ← HK.out, ← HK2.out]; omega
          · gi_wp2_with fail
            refine bodyPost_ret (results_none rfl _ _ _) rfl ?_
            exact ⟨⟨_, rfl⟩, .inr ⟨_, HM'.out.part, hJx4⟩⟩
      · have y1 : (cap = p) = True := by simp; omega
        have y2 : (p = cap) = True := by simp; omega
        have hst := standing_any (some ⟨b, o, none⟩) (cap - p) (ls.drop p) K wr (by rw [List.length_drop, HLN.out]; omega) (by rw [List.drop_eq_nil_of_le (by rw [HLN.out]; omega)]; exact RdS.nil _ _)
        rw [List.length_drop, HLN.out] at hst
        gi_wp2_with fail
        refine ⟨trivial, (callsIn_wide.2 hst).mono ?_⟩
        rintro e w3 ⟨rfl, hb3⟩
        have hJ3 : J pre w3 := hJ _ _ _ none HJP.out (grown_of hb3) (fun r e => by cases e)
        have HBW3 : Hid (KpR n0 Bs W w3) := HBW.out.trans (KpR.of HSZ.out hb3)
        cases hsd : sd (ls.drop p) K with
        | none =>
          have HE : Hid (pre = rcs 65535 ls 1 0) := HM.out.stop (by rw [HK.out]; exact hsd)
          rw [sdS_none hsd, sdN_none hsd]
          clear hsd hst
          gi_wp2_with fail
          refine bodyPost_ret (results_none rfl _ _ _) rfl ?_
          exact ⟨⟨_, rfl⟩, .inl ⟨_, HE.out, hJ3⟩⟩
        | some s =>
          have HM' : Hid (Midr ls (k + 1) (p + np s.size) (pre ++ [(((p + np s.size : Nat) : Int), s)])) := HM.out.step hk (by rw [HK.out]; exact hsd)
          have hpos := (sd_std hsd).pos
          have hat := HM'.out.at'
          rw [HLN.out] at hat
          rw [sdS_some hsd, sdN_some hsd]
          obtain ⟨m, hm⟩ : ∃ m, np s.size = m := ⟨_, rfl⟩
          rw [hm] at HM' hpos hat ⊢
          have m0 : ((m : Int) == 0) = false := by simp; omega
          have m1 : IntKind.i64.wrap ((p : Int) + (m : Int)) = ((p + m : Nat) : Int) := by rw [← Int.natCast_add]; exact Bt.wrap_fit _ (by omega) (by omega)
          obtain ⟨PM, hPM⟩ : ∃ PM, ((p + m : Nat) : Int) = PM := ⟨_, rfl⟩
          obtain ⟨fn, tmps, assign, body, hy, hR⟩ := hY pre (PM, s) w3 hJ3 (by rw [HM.out.len]; exact hk)
          dsimp only at hy
          have HPM : Hid (((p + m : Nat) : Int) = PM) := hPM
          rw [hPM] at m1 HM'
          clear hsd hm hst hPM hJ3
          gi_wp2_with fail
          refine hR.mono ?_
          rintro e W4 (⟨rfl, hJ4, hk4⟩ | ⟨rfl, hJx4⟩)
          · gi_wp2_with fail
            go_roundw
            case rel => exact ⟨k + 1, p + m, _, HM'.out, by rw [HPM.out], by rw [HK2.out], hJ4, HBW3.out.trans hk4⟩
            case measure => simp [intOf, ← HK.out, ← HK2.out]; omega
          · gi_wp2_with fail
            refine bodyPost_ret (results_none rfl _ _ _) rfl ?_
            exact ⟨⟨_, rfl⟩, .inr ⟨_, HM'.out.part, hJx4⟩⟩
    · have j1 : decide (((k + 1 : Nat) : Int) ≤ 65535) = false := by simp; omega
      obtain rfl : k = 65535 := by omega
      gi_wp2_with fail
      go_end0
      exact ⟨⟨_, rfl⟩, .inl ⟨pre, HM.out.full, HJP.out⟩⟩
end Go.Proofs.Ytohgflimdoebiaa
