/- FrV, FrU, joined. -/
import Derived.RangeFuncNested
import Derived.RangeFuncBound
import Derived.RangeFuncCalls
import Derived.RangeFuncLeaves
import Derived.RangeFuncBox
import Derived.Shelf.Abstract
import Derived.Shelf.RegionOpen
import Derived.WalkKit
import Derived.OwnWalkIn
import Derived.TacticsInMore
import Derived.LoopNIn
import Derived.LoopIn
import Derived.Maps.AppendAt
import Derived.Test.YtohgflimdoebiaaFrXJ
/- Contracts: the journal's iterator over the records. -/
namespace Go.Proofs.Ytohgflimdoebiaa
open Go.RowKit Go.Maps Go.Shelf
attribute [local go_sem] Oper.semAt_some
set_option linter.unusedVariables false
set_option linter.unusedSimpArgs false

/- What has come of the records, and what is still to come. -/
structure Midr (l : List ByteArray) (k a : Nat) (pre : List (Int × ByteArray)) : Prop where
  k1 : k ≤ 65535
  len : pre.length = k
  at' : a ≤ l.length
  p1 : pre ++ rcs (65535 - k) (l.drop a) (k + 1) a = rcs 65535 l 1 0
theorem Midr.start (l : List ByteArray) : Midr l 0 0 [] := ⟨by omega, rfl, Nat.zero_le _, by simp⟩
theorem Midr.step {l : List ByteArray} {k a : Nat} {pre : List (Int × ByteArray)} (h : Midr l k a pre) (hk : k < 65535) {s : ByteArray} (hs : sd (l.drop a) ((k + 1 : Nat) : Int) = some s) : Midr l (k + 1) (a + np s.size) (pre ++ [(((a + np s.size : Nat) : Int), s)]) := by
  have h1 := h.p1
  have h2 := (sd_std hs).fit
  have h3 := h.at'
  rw [List.length_drop] at h2
  rw [show 65535 - k = (65535 - (k + 1)) + 1 by omega, rcs, hs] at h1
  simp only [List.drop_drop] at h1
  exact ⟨by omega, by simp [h.len], by omega, by rw [List.append_assoc]; exact h1⟩
theorem Midr.stop {l : List ByteArray} {k a : Nat} {pre : List (Int × ByteArray)} (h : Midr l k a pre) (hs : sd (l.drop a) ((k + 1 : Nat) : Int) = none) : pre = rcs 65535 l 1 0 := by
  have h1 := h.p1
  by_cases hk : k < 65535
  · rw [show 65535 - k = (65535 - (k + 1)) + 1 by omega, rcs, hs] at h1
    simpa using h1
  · have := h.k1
    obtain rfl : k = 65535 := by omega
    rw [Nat.sub_self, rcs] at h1
    simpa using h1
theorem Midr.full {l : List ByteArray} {a : Nat} {pre : List (Int × ByteArray)} (h : Midr l 65535 a pre) : pre = rcs 65535 l 1 0 := by
  have h1 := h.p1
  rw [Nat.sub_self, rcs] at h1
  simpa using h1
theorem Midr.part {l : List ByteArray} {k a : Nat} {pre : List (Int × ByteArray)} (h : Midr l k a pre) : pre <+: rcs 65535 l 1 0 := ⟨_, h.p1⟩
theorem grown_of {W W' : World} (h : Below W.heap.size W W') : W.grownBy W' none := ⟨h.os, h.tape, h.output, h.size, fun k hk _ => h.block k hk⟩
theorem rds_below {n0 b o : Nat} {W W' : World} {l : List ByteArray} (h : Below n0 W W') (hb : b < n0) (hr : RdS W (some ⟨b, o, none⟩) l) : RdS W' (some ⟨b, o, none⟩) l := fun i hi => by
  obtain ⟨b', o', e, c⟩ := hr i hi
  cases e
  exact ⟨b, o, rfl, (h.cell (p := ⟨b, o + i, none⟩) hb).trans c⟩
theorem rds_drop {b o : Nat} {W : World} {l : List ByteArray} (hr : RdS W (some ⟨b, o, none⟩) l) (p : Nat) : RdS W (some ⟨b, o + p, none⟩) (l.drop p) := fun i hi => by
  rw [List.length_drop] at hi
  obtain ⟨b', o', e, c⟩ := hr (p + i) (by omega)
  cases e
  exact ⟨b, o + p, rfl, by rw [drop_getD, Nat.add_assoc]; exact c⟩
/- What a round keeps: all below n0, and the box that the iterator reads. -/
def KpR (n0 Bs : Nat) (W W' : World) : Prop := Below n0 W W' ∧ ∀ v, W.cell? ⟨Bs, 0, none⟩ = some v → W'.cell? ⟨Bs, 0, none⟩ = some v
theorem KpR.refl (n0 Bs : Nat) (W : World) : KpR n0 Bs W W := ⟨Below.refl _ _, fun _ h => h⟩
theorem KpR.trans {n0 Bs : Nat} {A B C : World} (h : KpR n0 Bs A B) (k : KpR n0 Bs B C) : KpR n0 Bs A C := ⟨h.1.trans k.1, fun v hv => k.2 v (h.2 v hv)⟩
theorem KpR.of {n0 Bs : Nat} {A B : World} (hn : n0 ≤ A.heap.size) (h : Below A.heap.size A B) : KpR n0 Bs A B := ⟨h.mono hn, fun v hv => cell_later h hv⟩
set_option maxRecDepth 100000 in
set_option maxHeartbeats 4000000 in
theorem records1_in (n : Nat) (hn : 1 ≤ n) (lo Bs n0 b o cap : Nat) (ls : List ByteArray) (hcap : ls.length ≤ cap) (hlen : ls.length ≤ 8796093022208) (hb : b < n0) (J Jx : List (Int × ByteArray) → World → Prop) (W : World) (hn0 : n0 ≤ W.heap.size) (hJ : AbidesFrom W.heap.size J)
    (hY : ∀ pre x W1, J pre W1 → pre.length < 65535 → YieldAt Fence.wide (n - 1) Try.prog lo #[.int .i64 x.1, .string x.2] W1 fun e W' =>
      (e = .returned (.bool true) ∧ J (pre ++ [x]) W' ∧ KpR n0 Bs W1 W') ∨ (e = .returned (.bool false) ∧ Jx (pre ++ [x]) W'))
    (hBs : W.cell? ⟨Bs, 0, none⟩ = some (.slice (some ⟨b, o, none⟩) ls.length cap)) (hrd : RdS W (some ⟨b, o, none⟩) ls) (h0 : J [] W) :
    CallsIn Fence.wide n Try.prog 48 #[.func (.yield lo) #[] #[], .pointer (some ⟨Bs, 0, none⟩)] W fun e W' => (∃ v, e = .returned v) ∧
      ((∃ ys, ys = rcs 65535 ls 1 0 ∧ J ys W') ∨ (∃ pre, pre <+: rcs 65535 ls 1 0 ∧ Jx pre W')) := by
  obtain ⟨N, hN⟩ : ∃ N, ls.length = N := ⟨_, rfl⟩
  have HLN : Hid (ls.length = N) := hN
  have HRD : Hid (RdS W (some ⟨b, o, none⟩) ls) := hrd
  rw [hN] at hcap hlen hBs
  clear hN hrd
  refine callsIn_of_wp Try.func48 rfl trivial ?_ rfl
  simp only [Try.ntmps48, List.size_toArray, List.length_cons, List.length_nil, Nat.reduceAdd, Nat.reduceSub, Array.replicate_succ, Array.replicate_zero, List.push_toArray, List.append_toArray, List.nil_append, List.cons_append]
  gi_wp2
  gi_loopw [3, 4] (fun x i wr => ∃ (k p : Nat) (pre : List (Int × ByteArray)), Midr ls k p pre ∧ x = .int .i64 (p : Int) ∧ i = .int .i64 ((k + 1 : Nat) : Int) ∧ J pre wr ∧ KpR n0 Bs W wr) (fun _ i _ => 65536 - (intOf i).toNat)
  case atStart => exact ⟨0, 0, [], Midr.start ls, rfl, rfl, h0, KpR.refl _ _ _⟩
  case round =>
    obtain ⟨k, p, pre, hM, rfl, rfl, hJp, hbw⟩ := hrel
    have HM : Hid (Midr ls k p pre) := hM
    have HJP : Hid (J pre wr) := hJp
    have HBW : Hid (KpR n0 Bs W wr) := hbw
    have HSZ : Hid (n0 ≤ wr.heap.size) := Nat.le_trans hn0 hbw.1.size
    have hk1 := hM.k1
    have hpn : p ≤ N := by rw [← HLN.out]; exact hM.at'
    have cB : wr.cell? ⟨Bs, 0, none⟩ = some (.slice (some ⟨b, o, none⟩) N cap) := hbw.2 _ hBs
    clear hM hJp hbw
    by_cases hk : k < 65535
    · have j1 : decide (((k + 1 : Nat) : Int) ≤ 65535) = true := by simp; omega
      have j2 : IntKind.i64.wrap (((k + 1 : Nat) : Int) + 1) = ((k + 1 + 1 : Nat) : Int) := by rw [Bt.wrap_fit _ (by omega) (by omega)]; omega
      have x5 : (0 : Int) ≤ (p : Int) := by omega
      have x6 : (p : Int) ≤ (N : Int) := by omega
      obtain ⟨K, hK⟩ : ∃ K, ((k + 1 : Nat) : Int) = K := ⟨_, rfl⟩
      obtain ⟨K2, hK2⟩ : ∃ K2, ((k + 1 + 1 : Nat) : Int) = K2 := ⟨_, rfl⟩
      have HK : Hid (((k + 1 : Nat) : Int) = K) := hK
      have HK2 : Hid (((k + 1 + 1 : Nat) : Int) = K2) := hK2
      rw [hK] at j1 j2 ⊢
      rw [hK2] at j2
      clear hK hK2
      by_cases hpc : p < cap
      · have y1 : ¬ cap = p := by omega
        have y2 : ¬ p = cap := by omega
        have hst := standing_any (some ⟨b, o + p, none⟩) (cap - p) (ls.drop p) K wr (by rw [List.length_drop, HLN.out]; omega) (rds_drop (rds_below HBW.out.1 hb HRD.out) p)
        rw [List.length_drop, HLN.out] at hst
        gi_wp2_with fail
        refine ⟨trivial, (callsIn_wide.2 hst).mono ?_⟩
        rintro e w3 ⟨rfl, hb3⟩
        have hJ3 : J pre w3 := hJ _ _ _ none HJP.out (grown_of hb3) (fun r e => by cases e)
        have HBW3 : Hid (KpR n0 Bs W w3) := HBW.out.trans (KpR.of HSZ.out hb3)
        cases hsd : sd (ls.drop p) K with
        | none =>
          have HE : Hid (pre = rcs 65535 ls 1 0) := HM.out.stop (by rw [HK.out]; exact hsd)
          rw [sdS_none hsd, sdN_none hsd]
          clear hsd hst
          gi_wp2_with fail
          refine bodyPost_ret (results_none rfl _ _ _) rfl ?_
          exact ⟨⟨_, rfl⟩, .inl ⟨_, HE.out, hJ3⟩⟩
        | some s =>
          have HM' : Hid (Midr ls (k + 1) (p + np s.size) (pre ++ [(((p + np s.size : Nat) : Int), s)])) := HM.out.step hk (by rw [HK.out]; exact hsd)
          have hpos := (sd_std hsd).pos
          have hat := HM'.out.at'
          rw [HLN.out] at hat
          rw [sdS_some hsd, sdN_some hsd]
          obtain ⟨m, hm⟩ : ∃ m, np s.size = m := ⟨_, rfl⟩
          rw [hm] at HM' hpos hat ⊢
          have m0 : ((m : Int) == 0) = false := by simp; omega
          have m1 : IntKind.i64.wrap ((p : Int) + (m : Int)) = ((p + m : Nat) : Int) := by rw [← Int.natCast_add]; exact Bt.wrap_fit _ (by omega) (by omega)
          obtain ⟨PM, hPM⟩ : ∃ PM, ((p + m : Nat) : Int) = PM := ⟨_, rfl⟩
          obtain ⟨fn, tmps, assign, body, hy, hR⟩ := hY pre (PM, s) w3 hJ3 (by rw [HM.out.len]; exact hk)
          dsimp only at hy
          have HPM : Hid (((p + m : Nat) : Int) = PM) := hPM
          rw [hPM] at m1 HM'
          clear hsd hm hst hPM hJ3
          gi_wp2_with fail
          refine hR.mono ?_
          rintro e W4 (⟨rfl, hJ4, hk4⟩ | ⟨rfl, hJx4⟩)
          · gi_wp2_with fail
            go_roundw
            case rel => exact ⟨k + 1, p + m, _, HM'.out, by rw [HPM.out], by rw [HK2.out], hJ4, HBW3.out.trans hk4⟩
            case measure => simp [intOf, ← HK.out, ← HK2.out]; omega
          · gi_wp2_with fail
            refine bodyPost_ret (results_none rfl _ _ _) rfl ?_
            exact ⟨⟨_, rfl⟩, .inr ⟨_, HM'.out.part, hJx4⟩⟩
      · have y1 : (cap = p) = True := by simp; omega
        have y2 : (p = cap) = True := by simp; omega
        have hst := standing_any (some ⟨b, o, none⟩) (cap - p) (ls.drop p) K wr (by rw [List.length_drop, HLN.out]; omega) (by rw [List.drop_eq_nil_of_le (by rw [HLN.out]; omega)]; exact RdS.nil _ _)
        rw [List.length_drop, HLN.out] at hst
        gi_wp2_with fail
        refine ⟨trivial, (callsIn_wide.2 hst).mono ?_⟩
        rintro e w3 ⟨rfl, hb3⟩
        have hJ3 : J pre w3 := hJ _ _ _ none HJP.out (grown_of hb3) (fun r e => by cases e)
        have HBW3 : Hid (KpR n0 Bs W w3) := HBW.out.trans (KpR.of HSZ.out hb3)
        cases hsd : sd (ls.drop p) K with
        | none =>
          have HE : Hid (pre = rcs 65535 ls 1 0) := HM.out.stop (by rw [HK.out]; exact hsd)
          rw [sdS_none hsd, sdN_none hsd]
          clear hsd hst
          gi_wp2_with fail
          refine bodyPost_ret (results_none rfl _ _ _) rfl ?_
          exact ⟨⟨_, rfl⟩, .inl ⟨_, HE.out, hJ3⟩⟩
        | some s =>
          have HM' : Hid (Midr ls (k + 1) (p + np s.size) (pre ++ [(((p + np s.size : Nat) : Int), s)])) := HM.out.step hk (by rw [HK.out]; exact hsd)
          have hpos := (sd_std hsd).pos
          have hat := HM'.out.at'
          rw [HLN.out] at hat
          rw [sdS_some hsd, sdN_some hsd]
          obtain ⟨m, hm⟩ : ∃ m, np s.size = m := ⟨_, rfl⟩
          rw [hm] at HM' hpos hat ⊢
          have m0 : ((m : Int) == 0) = false := by simp; omega
          have m1 : IntKind.i64.wrap ((p : Int) + (m : Int)) = ((p + m : Nat) : Int) := by rw [← Int.natCast_add]; exact Bt.wrap_fit _ (by omega) (by omega)
          obtain ⟨PM, hPM⟩ : ∃ PM, ((p + m : Nat) : Int) = PM := ⟨_, rfl⟩
          obtain ⟨fn, tmps, assign, body, hy, hR⟩ := hY pre (PM, s) w3 hJ3 (by rw [HM.out.len]; exact hk)
          dsimp only at hy
          have HPM : Hid (((p + m : Nat) : Int) = PM) := hPM
          rw [hPM] at m1 HM'
          clear hsd hm hst hPM hJ3
          gi_wp2_with fail
          refine hR.mono ?_
          rintro e W4 (⟨rfl, hJ4, hk4⟩ | ⟨rfl, hJx4⟩)
          · gi_wp2_with fail
            go_roundw
            case rel => exact ⟨k + 1, p + m, _, HM'.out, by rw [HPM.out], by rw [HK2.out], hJ4, HBW3.out.trans hk4⟩
            case measure => simp [intOf, ← HK.out, ← HK2.out]; omega
          · gi_wp2_with fail
            refine bodyPost_ret (results_none rfl _ _ _) rfl ?_
            exact ⟨⟨_, rfl⟩, .inr ⟨_, HM'.out.part, hJx4⟩⟩
    · have j1 : decide (((k + 1 : Nat) : Int) ≤ 65535) = false := by simp; omega
      obtain rfl : k = 65535 := by omega
      gi_wp2_with fail
      go_end0
      exact ⟨⟨_, rfl⟩, .inl ⟨pre, HM.out.full, HJP.out⟩⟩
end Go.Proofs.Ytohgflimdoebiaa
/- Contract: the journal's Scan. -/
namespace Go.Proofs.Ytohgflimdoebiaa
open Go.RowKit Go.Maps Go.Shelf
attribute [local go_sem] Oper.semAt_some
set_option linter.unusedVariables false
set_option linter.unusedSimpArgs false

theorem sd_nil (q : Int) : sd [] q = none := sd_no fun s h => by have := h.fit; have := h.pos; simp at *; omega
theorem rcs_nil : rcs 65535 [] 1 0 = [] := by rw [rcs, sd_nil]
set_option maxRecDepth 100000 in
set_option maxHeartbeats 2000000 in
theorem records1_nil (n : Nat) (hn : 1 ≤ n) (lo Bs : Nat) (J : List (Int × ByteArray) → World → Prop) (W : World) (hJ : AbidesFrom W.heap.size J)
    (hBs : W.cell? ⟨Bs, 0, none⟩ = some (.slice none 0 0)) (h0 : J [] W) :
    CallsIn Fence.wide n Try.prog 48 #[.func (.yield lo) #[] #[], .pointer (some ⟨Bs, 0, none⟩)] W fun e W' => (∃ v, e = .returned v) ∧ J [] W' := by
  have hst := standing_any none 0 [] 1 W (by simp) (RdS.nil _ _)
  rw [sdS_none (sd_nil _), sdN_none (sd_nil _)] at hst
  simp only [List.length_nil] at hst
  refine callsIn_of_wp Try.func48 rfl trivial ?_ rfl
  simp only [Try.ntmps48, List.size_toArray, List.length_cons, List.length_nil, Nat.reduceAdd, Nat.reduceSub, Array.replicate_succ, Array.replicate_zero, List.push_toArray, List.append_toArray, List.nil_append, List.cons_append]
  gi_wp2
  gi_loopw [3, 4] (fun x i wr => x = .int .i64 0 ∧ i = .int .i64 1 ∧ wr = W) (fun _ i _ => 0)
  case atStart => exact ⟨rfl, rfl, rfl⟩
  case round =>
    obtain ⟨rfl, rfl, rfl⟩ := hrel
    gi_wp2_with fail
    refine ⟨trivial, (callsIn_wide.2 hst).mono ?_⟩
    rintro e w3 ⟨rfl, hb3⟩
    have hJ3 : J [] w3 := hJ _ _ _ none h0 (grown_of hb3) (fun r e => by cases e)
    clear hst
    gi_wp2_with fail
    refine bodyPost_ret (results_none rfl _ _ _) rfl ?_
    exact ⟨⟨_, rfl⟩, hJ3⟩
theorem records_in (n : Nat) (a : Option Addr) (len cap : Nat) (w : World) :
    CallsIn Fence.wide n Try.prog 31 #[.slice a len cap] w fun e w' => e = .returned (.func (.func 48) #[] #[.pointer (some ⟨w.heap.size, 0, none⟩)]) ∧ w' = w.alloc (.cells #[.slice a len cap] 22) := by
  refine callsIn_of_wp Try.func31 rfl trivial ?_ rfl
  simp only [Try.ntmps31, List.size_toArray, List.length_cons, List.length_nil, Nat.reduceAdd, Nat.reduceSub, Array.replicate_succ, Array.replicate_zero, List.push_toArray, List.append_toArray, List.nil_append, List.cons_append]
  gi_wp2
  go_ret
  exact ⟨rfl, rfl⟩
/- A slice of texts, as an argument: nil, or somewhere below n0. -/
def Txs (n0 : Nat) (W : World) (a : Option Addr) (cap : Nat) (l : List ByteArray) : Prop :=
  (a = none ∧ cap = 0 ∧ l = []) ∨ ∃ b o, a = some ⟨b, o, none⟩ ∧ b < n0 ∧ l.length ≤ cap ∧ RdS W (some ⟨b, o, none⟩) l
theorem Txs.below {n0 : Nat} {W W' : World} {a : Option Addr} {cap : Nat} {l : List ByteArray} (h : Txs n0 W a cap l) (hb : Below n0 W W') : Txs n0 W' a cap l := by
  rcases h with h | ⟨b, o, e, h1, h2, h3⟩
  · exact .inl h
  · exact .inr ⟨b, o, e, h1, h2, rds_below hb h1 h3⟩
theorem records_stops (n : Nat) (hn : 1 ≤ n) (Bs n0 : Nat) (a : Option Addr) (cap : Nat) (l : List ByteArray) (hlen : l.length ≤ 8796093022208) (w : World) (hBs : Bs < w.heap.size) (hn0 : n0 ≤ w.heap.size)
    (hc : w.cell? ⟨Bs, 0, none⟩ = some (.slice a l.length cap)) (hA : Txs n0 w a cap l) :
    SeqStopsK Fence.wide n Try.prog 48 #[.pointer (some ⟨Bs, 0, none⟩)] (fun x : Int × ByteArray => #[Value.int .i64 x.1, Value.string x.2]) (KpR n0 Bs) (fun ys => ys = rcs 65535 l 1 0) (fun pre => pre <+: rcs 65535 l 1 0) 65535 w := fun lo J Jx W hW hJ _ hY h0 => by
  have hc' := (hW.cell (p := ⟨Bs, 0, none⟩) hBs).trans hc
  rcases hA.below (hW.mono hn0) with ⟨rfl, rfl, rfl⟩ | ⟨b, o, rfl, hb, hcap, hrd⟩
  · exact (records1_nil n hn lo Bs J W hJ hc' h0).mono fun e W' ⟨he, hj⟩ => ⟨he, .inl ⟨_, rcs_nil.symm, hj⟩⟩
  · exact records1_in n hn lo Bs n0 b o cap l hcap hlen hb J Jx W (Nat.le_trans hn0 hW.size) hJ hY hc' hrd h0
theorem kpR_b {n0 Bs : Nat} {w : World} (hn : n0 ≤ w.heap.size) (hB : Bs < w.heap.size) : ∀ (W : World) (l : Nat) (o o' : Obj), w.heap.size ≤ l → W.heap[l]? = some o → o.isCells = false → o.isWalk = false → KpR n0 Bs W (W.putObj l o') := fun W l o o' h1 h2 h3 h4 =>
  ⟨belowK_b hn W l o o' h1 h2 h3 h4, fun v hv => by
    have : (W.putObj l o').heap[Bs]? = W.heap[Bs]? := World.putObj_heap_other (by omega)
    unfold World.cell? at hv ⊢
    rw [this]
    exact hv⟩
def pay (pre : List (Int × ByteArray)) : List ByteArray := pre.map fun p => p.2
theorem pay_snoc (pre : List (Int × ByteArray)) (x : Int × ByteArray) : pay (pre ++ [x]) = pay pre ++ [x.2] := by simp [pay]
theorem pay_len (pre : List (Int × ByteArray)) : (pay pre).length = pre.length := by simp [pay]
theorem ScanP.of {l : List ByteArray} {w w' : World} {v : Value} {ys : List (Int × ByteArray)} (e : ys = rcs 65535 l 1 0) (hr : w'.ownsRow w.heap.size 9 1 v (pay ys).length (cellsS (pay ys))) : ScanP l w w' (.returned (.tuple #[v, .int .i64 (lastE 0 ys)])) := by
  subst e
  obtain ⟨h1, h2⟩ := rcs_sc 65535 l 1 0
  have h3 : pay (rcs 65535 l 1 0) = (sc 65535 l 1).1 := h1
  rw [h3] at hr
  refine ⟨v, ?_, hr⟩
  have h4 : lastE 0 (rcs 65535 l 1 0) = ((sc 65535 l 1).2 : Int) := by simpa using h2
  rw [h4]
theorem two_boxes {W : World} {A B : Nat} {t : TypeId} {u : Value} (hB : Boxed W B t u) (hne : A ≠ B) (v' : Value) : Boxed (W.setCell ⟨A, 0, none⟩ v') B t u := hB.kept (grownBy_setCell' W A v') (by simp; omega)
set_option maxRecDepth 100000 in
set_option maxHeartbeats 4000000 in
theorem scan_in (n : Nat) (hn : 3 ≤ n) (a : Option Addr) (cap : Nat) (l : List ByteArray) (w : World) (hlen : l.length ≤ 8796093022208) (hA : Txs w.heap.size w a cap l) :
    CallsIn Fence.wide n Try.prog 9 #[.slice a l.length cap] w fun e w' => ScanP l w w' e ∧ Below w.heap.size w w' := by
  have h1 : 1 ≤ n := by omega
  obtain ⟨i0, hi, hz0, hz1, hz2⟩ := info_parts infoS
  refine callsIn_of_wp_marks Try.func9 rfl trivial ?_ rfl
  simp only [Try.ntmps9, List.size_toArray, List.length_cons, List.length_nil, Nat.reduceAdd, Nat.reduceSub, Array.replicate_succ, Array.replicate_zero, List.push_toArray, List.append_toArray, List.nil_append, List.cons_append]
  gi_wp2_with fail
  refine ⟨trivial, (records_in (n - 1) _ _ _ _).mono ?_⟩
  rintro e w' ⟨rfl, rfl⟩
  have bP := Boxed.new w 22 (.slice none 0 0)
  have bE := Boxed.new (w.alloc (.cells #[.slice none 0 0] 22)) 3 (.int .i64 0)
  have bI := Boxed.new ((w.alloc (.cells #[.slice none 0 0] 22)).alloc (.cells #[.int .i64 0] 3)) 22 (.slice a l.length cap)
  simp only [World.size_alloc] at bE bI
  have hB0 : Below w.heap.size w (((w.alloc (.cells #[.slice none 0 0] 22)).alloc (.cells #[.int .i64 0] 3)).alloc (.cells #[.slice a l.length cap] 22)) := (((Below.refl _ w).alloc (Nat.le_refl _) _).alloc (by simp) _).alloc (by simp; omega) _
  gi_wp2_with fail
  refine wpIn_rangeFunc_ownG rfl h1 (gf := 48) (lb := #[.pointer (some ⟨w.heap.size + 1 + 1, 0, none⟩)]) (by simp [go_sem]) trivial (enters_of Try.func48 (by kernel_rfl) rfl)
    (records_stops (n - 1) (by omega) (w.heap.size + 1 + 1) w.heap.size a cap l hlen _ (by simp) (by simp; omega) bI.cell (hA.below hB0)) KpR.trans (kpR_b (by simp; omega) (by simp)) (Below.refl _ _) (fun _ => rfl)
    (fun pre W => ((∃ v, Boxed W w.heap.size 22 v ∧ W.ownsRow w.heap.size 9 1 v (pay pre).length (cellsS (pay pre)) ∧ True) ∧ Boxed W (w.heap.size + 1) 3 (.int .i64 (lastE 0 pre)) ∧ Boxed W (w.heap.size + 1 + 1) 22 (.slice a l.length cap)) ∧ Below w.heap.size w W)
    (fun _ _ _ => False)
    (OwnFrom.and (OwnFrom.and (Own.from (holdsRow_own w.heap.size w.heap.size 22 9 1 (fun pre => (pay pre).length) (fun pre => cellsS (pay pre)) (fun pre v => True)) _) (OwnFrom.and (Own.from (boxed_own _ _ _) _) (Own.from (boxed_own _ _ _) _))) (ownFrom_below (Nat.le_refl _) (by simp; omega)))
    (fun _ _ _ _ _ hs _ _ => hs)
    ⟨⟨⟨_, (bP.alloc _).alloc _, World.ownsRow_nil _ _ _ _, trivial⟩, bE.alloc _, bI⟩, hB0⟩
    (fun x => { tmps := #[.slice a l.length cap, undef, .slice none 0 0, .int .i64 0, .pointer (some ⟨w.heap.size, 0, none⟩), .pointer (some ⟨w.heap.size + 1, 0, none⟩), .int .i64 x.1, .string x.2, .slice a l.length cap, .func (.func 48) #[] #[.pointer (some ⟨w.heap.size + 1 + 1, 0, none⟩)], .int .i64 x.1, .string x.2, undef, undef, undef, undef, undef, undef, undef], defers := [] }) ?assign ?body ?done ?stop
  case assign =>
    intro lo x W K hK
    gi_wp2
    exact hK
  case body =>
    rintro lo pre x W ⟨⟨⟨v, hv, hrow, -⟩, hE, hI⟩, hB⟩ hlt
    have hc := hv.cell
    have hpl : (pay pre).length < 65535 := by rw [pay_len]; exact hlt
    gi_wp2_with (gi_at_builtin; refine wpListIn_append_own _ rfl _ _ 22 rfl w.heap.size 9 i0 _ 1 16 Try.underlying22 hi hz0 hz1 hz2 rfl (by decide) _ _ _ rfl (hrow.alloc _) ⟨W.heap.size, 0, none⟩ 1 1 [.string x.2] rfl rfl (cell_one_new _ _ _) (by simp [Value.oneCell']) (by unfold maxLen; omega) (by omega) (by have := hB.size; simp; omega) ?_; intro v' w1 hown' hgrow _; obtain ⟨g', cap', rfl⟩ := ownsRow_succ hown'; obtain ⟨hv1, hv2, hr2, hk2, hb2⟩ := hv.appended (by decide) hrow hB.size (Nat.le_refl _) hown' hgrow; have hc1 := hv1.cell; have hf1 := hv1.frozen; have hE1 := (hE.alloc _).kept hgrow (hE.not_row (by decide) hrow); have hc2 := hE1.cell; have hf2 := hE1.frozen; have hI1 := (hI.alloc _).kept hgrow (hI.not_row (by decide) hrow))
    have hE2 := two_boxes hE1 (A := w.heap.size) (by omega) (.slice (some ⟨g', 0, none⟩) ((pay pre).length + 1) cap')
    have hI2 := two_boxes (two_boxes hI1 (A := w.heap.size) (by omega) (.slice (some ⟨g', 0, none⟩) ((pay pre).length + 1) cap')) (A := w.heap.size + 1) (by omega) (.int .i64 x.1)
    have hb3 := hb2.setCell (p := ⟨w.heap.size + 1, 0, none⟩) (by show w.heap.size ≤ w.heap.size + 1; omega) (.int .i64 x.1)
    refine ⟨(hk2.trans (KeepsOthers.setCell _ _ _)).from _, ⟨hb3, fun u hu => ?_⟩, ⟨⟨_, two_boxes hv2 (by omega) _, ?_, trivial⟩, ?_, hI2⟩, hB.trans hb3⟩
    · rw [hI.cell] at hu
      rw [← hu]
      exact hI2.cell
    · rw [pay_snoc]
      have hr3 := hr2.kept (grownBy_setCell' _ (w.heap.size + 1) (.int .i64 x.1)) (.inr (hE2.not_row (by decide) hr2).symm)
      rw [cellsS_append, List.length_append]
      exact hr3
    · rw [lastE_snoc]
      exact hE2.set _
  case done =>
    rintro D ys W hD rfl ⟨⟨⟨v, hv, hrow, -⟩, hE, hI⟩, hB⟩ hK
    have hc := hv.cell
    have hc2 := hE.cell
    gi_wp2
    gi_region
    all_goals gi_wp2
    have hbd : Below W.heap.size W W.drew := ⟨rfl, rfl, rfl, Nat.le_refl _, fun _ _ => rfl⟩
    have hrd := row_later hrow hbd
    have hKd : W.drew.heap[D]? = some (.deferred (some [])) := hK
    have hBd : Below w.heap.size w W.drew := Below.then hB hbd
    obtain ⟨Wd, hWd⟩ : ∃ Wd, W.drew = Wd := ⟨_, rfl⟩
    rw [hWd] at hrd hKd hBd ⊢
    refine ⟨by simp, .inl ⟨_, _, rfl, run_takeDeferred hKd, ?_⟩⟩
    exact ⟨_, results_tmp2 rfl _ _ _, ScanP.of rfl (ownsRow_putObj hrd _ hKd rfl), hBd.trans (belowK_b (w := w) (Nat.le_refl _) Wd D _ _ (by simp at hD; omega) hKd rfl rfl)⟩
  case stop =>
    rintro D c pre W _ _ h _
    exact h.elim
theorem scan_any (a : Option Addr) (cap : Nat) (l : List ByteArray) (w : World) (hlen : l.length ≤ 8796093022208) (hA : Txs w.heap.size w a cap l) :
    Calls Try.prog 9 #[.slice a l.length cap] w fun e w' => ScanP l w w' e ∧ Below w.heap.size w w' := callsIn_wide.1 (scan_in 3 (by omega) a cap l w hlen hA)
end Go.Proofs.Ytohgflimdoebiaa
