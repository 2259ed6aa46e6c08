/- Contracts: the iterator over a set's slots. -/
import Derived.RangeFuncNested
import Derived.RangeFuncBound
import Derived.RangeFuncCalls
import Derived.RangeFuncLeaves
import Derived.RangeFuncBox
import Derived.Shelf.Abstract
import Derived.Shelf.RegionOpen
import Derived.Shelf.Spec.TrailingZeros
import Derived.WalkKit
import Derived.OwnWalkIn
import Derived.TacticsInMore
import Derived.LoopNIn
import Derived.LoopIn
import Derived.Maps.AppendAt
import Derived.Test.YtieagbjempndnabDoorShelf
import Derived.Test.YtieagbjempndnabDoorStA
namespace Go.Proofs.YtieagbjempndnabDoor
open Go.RowKit Go.Maps Go.Shelf
attribute [local go_sem] Oper.semAt_some
set_option linter.unusedVariables false
set_option linter.unusedSimpArgs false

/- The library's table stands. -/
def G64 : Nat := Tryd.lays7x29_ren.g 1
def Tb (w : World) : Prop := G64 < w.heap.size ∧ TabAt G64 Lib.deBruijn64tab w
theorem Tb.below {n : Nat} {W W' : World} (h : Tb W) (hb : Below n W W') (hn : G64 < n) : Tb W' :=
  ⟨Nat.lt_of_lt_of_le h.1 hb.size, fun j hj => (hb.cell (p := ⟨G64, j, none⟩) hn).trans (h.2 j hj)⟩
theorem Tb.later {W W' : World} (h : Tb W) (hb : Below W.heap.size W W') : Tb W' := h.below hb h.1
theorem tz_any (r : Nat) (hr : r < 18446744073709551616) (w : World) (h : Tb w) : Calls Tryd.prog 40 #[.int .u64 (r : Int)] w fun e w' => e = .returned (.int .i64 ((tz r : Nat) : Int)) ∧ w' = w :=
  Any7.bits_TrailingZeros64 Tryd.lays7x29 r hr w (fun _ => h.2)
theorem grown_of {W W' : World} (h : Below W.heap.size W W') : W.grownBy W' none := ⟨h.os, h.tape, h.output, h.size, fun k hk _ => h.block k hk⟩
set_option maxRecDepth 100000 in
set_option maxHeartbeats 2000000 in
theorem slots1_in (n : Nat) (hn : 1 ≤ n) (lo Bs n0 : Nat) (s : Nat) (hs : s < 18446744073709551616) (J Jx : List Nat → World → Prop) (W : World) (hn0 : n0 ≤ W.heap.size) (hG : G64 < n0) (hT : Tb W) (hJ : AbidesFrom W.heap.size J)
    (hY : ∀ pre x W1, J pre W1 → pre.length < 64 → x < 64 → YieldAt Fence.wide (n - 1) Tryd.prog lo #[.int .i64 ((x : Nat) : Int)] W1 fun e W' =>
      (e = .returned (.bool true) ∧ J (pre ++ [x]) W' ∧ Below n0 W1 W') ∨ (e = .returned (.bool false) ∧ Jx (pre ++ [x]) W'))
    (hBs : W.cell? ⟨Bs, 0, none⟩ = some (.int .u64 (s : Int))) (h0 : J [] W) :
    CallsIn Fence.wide n Tryd.prog 39 #[.func (.yield lo) #[] #[], .pointer (some ⟨Bs, 0, none⟩)] W fun e W' => (∃ v, e = .returned v) ∧
      ((∃ ys, ys = bl s ∧ J ys W') ∨ (∃ pre, pre <+: bl s ∧ Jx pre W')) := by
  refine callsIn_of_wp Tryd.func39 rfl trivial ?_ rfl
  simp only [Tryd.ntmps39, List.size_toArray, List.length_cons, List.length_nil, Nat.reduceAdd, Nat.reduceSub, Array.replicate_succ, Array.replicate_zero, List.push_toArray, List.append_toArray, List.nil_append, List.cons_append]
  gi_wp2
  gi_loopw [3] (fun x wr => ∃ (r : Nat) (pre : List Nat), r < 18446744073709551616 ∧ pre ++ bl r = bl s ∧ x = .int .u64 (r : Int) ∧ J pre wr ∧ Below n0 W wr) (fun x _ => (intOf x).toNat)
  case atStart => exact ⟨s, [], hs, rfl, rfl, h0, Below.refl _ _⟩
  case round =>
    obtain ⟨r, pre, hr, hp, rfl, hJp, hbw⟩ := hrel
    have HP : Hid (pre ++ bl r = bl s) := hp
    have HJP : Hid (J pre wr) := hJp
    have HBW : Hid (Below n0 W wr) := hbw
    have HT : Hid (Tb wr) := hT.below hbw hG
    clear hp hJp hbw
    by_cases hr0 : r = 0
    · subst hr0
      gi_wp2_with fail
      go_end0
      have e := HP.out
      rw [bl_zero, List.append_nil] at e
      exact ⟨⟨_, rfl⟩, .inl ⟨pre, e, HJP.out⟩⟩
    · have j0 : ¬ ((r : Int) = 0) := by omega
      have j1 : ((r : Int) == 0) = false := by simp; omega
      have hst := bl_step hr0 hr
      have hlt := and_lt hr0
      have hz := tz_any r hr wr HT.out
      have m1 : IntKind.u64.wrap ((r : Int) - 1) = ((r - 1 : Nat) : Int) := by rw [u64_fit _ (by omega) (by omega)]; omega
      have m2 := u64_and_nat r (r - 1) hr (by omega)
      obtain ⟨q, hq⟩ : ∃ q, r &&& (r - 1) = q := ⟨_, rfl⟩
      obtain ⟨k, hk⟩ : ∃ k, tz r = k := ⟨_, rfl⟩
      obtain ⟨r1, hr1⟩ : ∃ r1, r - 1 = r1 := ⟨_, rfl⟩
      rw [hq] at hst hlt m2
      have hk64 : k < 64 := by obtain ⟨_, _, h64⟩ := tz_spec hr0 hr; rw [hk] at h64; exact h64
      rw [hk] at hst hz
      rw [hr1] at m1 m2
      have he : (pre ++ [k]) ++ bl q = bl s := by
        have := HP.out
        rw [hst] at this
        simpa using this
      have HE : Hid ((pre ++ [k]) ++ bl q = bl s) := he
      clear he
      have hlen : pre.length < 64 := by
        have h1 := bl_len s
        rw [← HE.out] at h1
        simp at h1
        omega
      obtain ⟨fn, tmps, assign, body, hy, hR⟩ := hY pre k wr HJP.out hlen hk64
      have HLT : Hid (q < r) := hlt
      clear hst hq hk hr1 hlt hlen hk64
      gi_wp2_with fail
      refine ⟨trivial, (callsIn_wide.2 hz).mono ?_⟩
      rintro e w3 ⟨rfl, rfl⟩
      gi_wp2_with fail
      refine hR.mono ?_
      rintro e W4 (⟨rfl, hJ4, hk4⟩ | ⟨rfl, hJx4⟩)
      · gi_wp2_with fail
        go_roundw
        case rel => exact ⟨q, _, by have := HLT.out; omega, HE.out, rfl, hJ4, HBW.out.trans hk4⟩
        case measure => have := HLT.out; simp [intOf]; omega
      · gi_wp2_with fail
        refine bodyPost_ret (results_none rfl _ _ _) rfl ?_
        exact ⟨⟨_, rfl⟩, .inr ⟨_, ⟨_, HE.out⟩, hJx4⟩⟩
theorem slots_in (n : Nat) (s : Nat) (w : World) :
    CallsIn Fence.wide n Tryd.prog 35 #[.int .u64 (s : Int)] w fun e w' => e = .returned (.func (.func 39) #[] #[.pointer (some ⟨w.heap.size, 0, none⟩)]) ∧ w' = w.alloc (.cells #[.int .u64 (s : Int)] 52) := by
  refine callsIn_of_wp Tryd.func35 rfl trivial ?_ rfl
  simp only [Tryd.ntmps35, List.size_toArray, List.length_cons, List.length_nil, Nat.reduceAdd, Nat.reduceSub, Array.replicate_succ, Array.replicate_zero, List.push_toArray, List.append_toArray, List.nil_append, List.cons_append]
  gi_wp2
  go_ret
  exact ⟨rfl, rfl⟩
theorem slots_stops (n : Nat) (hn : 1 ≤ n) (Bs n0 : Nat) (s : Nat) (hs : s < 18446744073709551616) (w : World) (hBs : Bs < w.heap.size) (hn0 : n0 ≤ w.heap.size) (hG : G64 < n0) (hT : Tb w)
    (hc : w.cell? ⟨Bs, 0, none⟩ = some (.int .u64 (s : Int))) :
    SeqStopsK Fence.wide n Tryd.prog 39 #[.pointer (some ⟨Bs, 0, none⟩)] (fun x : Nat => #[Value.int .i64 (x : Int)]) (Below n0) (fun ys => ys = bl s) (fun pre => pre <+: bl s) 64 w := fun lo J Jx W hW hJ _ hY h0 =>
  slots1_in n hn lo Bs n0 s hs J Jx W (Nat.le_trans hn0 hW.size) hG (hT.later hW) hJ (fun pre x W1 h1 h2 _ => hY pre x W1 h1 h2) ((hW.cell (p := ⟨Bs, 0, none⟩) hBs).trans hc) h0
/- The same, where a round wants to know that its number is a slot. -/
def vals (l : List (Fin 64)) : List Nat := l.map Fin.val
theorem vals_snoc (l : List (Fin 64)) (k : Fin 64) : vals (l ++ [k]) = vals l ++ [k.1] := by simp [vals]
@[simp] theorem vals_length (l : List (Fin 64)) : (vals l).length = l.length := by simp [vals]
theorem slots_stopsF (n : Nat) (hn : 1 ≤ n) (Bs n0 : Nat) (s : Nat) (hs : s < 18446744073709551616) (w : World) (hBs : Bs < w.heap.size) (hn0 : n0 ≤ w.heap.size) (hG : G64 < n0) (hT : Tb w)
    (hc : w.cell? ⟨Bs, 0, none⟩ = some (.int .u64 (s : Int))) :
    SeqStopsK Fence.wide n Tryd.prog 39 #[.pointer (some ⟨Bs, 0, none⟩)] (fun x : Fin 64 => #[Value.int .i64 ((x.1 : Nat) : Int)]) (Below n0) (fun ys => vals ys = bl s) (fun pre => vals pre <+: bl s) 64 w := fun lo J Jx W hW hJ _ hY h0 => by
  refine (slots1_in n hn lo Bs n0 s hs (fun pre W => ∃ p, vals p = pre ∧ J p W) (fun pre W => ∃ p, vals p = pre ∧ Jx p W) W (Nat.le_trans hn0 hW.size) hG (hT.later hW)
    (fun pre A B row ⟨p, hp, hj⟩ hg hr => ⟨p, hp, hJ p A B row hj hg hr⟩) ?_ ((hW.cell (p := ⟨Bs, 0, none⟩) hBs).trans hc) ⟨[], rfl, h0⟩).mono ?_
  · rintro pre x W1 ⟨p, rfl, hj⟩ hlen hx
    obtain ⟨fn, tmps, assign, body, hy, hR⟩ := hY p ⟨x, hx⟩ W1 hj (by simpa using hlen)
    refine ⟨fn, tmps, assign, body, hy, hR.mono ?_⟩
    rintro e W' (⟨he, h1, h2⟩ | ⟨he, h1⟩)
    · exact .inl ⟨he, ⟨_, vals_snoc _ _, h1⟩, h2⟩
    · exact .inr ⟨he, ⟨_, vals_snoc _ _, h1⟩⟩
  · rintro e W' ⟨he, (⟨ys, rfl, p, hp, hj⟩ | ⟨pre, hpre, p, hp, hj⟩)⟩
    · exact ⟨he, .inl ⟨p, hp, hj⟩⟩
    · subst hp
      exact ⟨he, .inr ⟨p, hpre, hj⟩⟩
end Go.Proofs.YtieagbjempndnabDoor
