/- From, of both; one call, of any kind; Cut, of both. -/
import Derived.Test.YtifjihdanbbhkaaDkS
import Derived.Test.YtifjihdanbbhkaaDkS2
import Derived.Test.YtifjihdanbbhkaaDkS3
namespace Go.Proofs.Ytifjihdanbbhkaa
open Go.RowKit Go.Maps
set_option linter.unusedVariables false
set_option linter.unusedSimpArgs false

theorem fe_wide {l : List ByteArray} (h : 2048 < l.length) : fe l = 8 := by unfold fe; rw [if_pos h]
theorem fe_long {l : List ByteArray} (h : l.length ≤ 2048) (h2 : lng l = true) : fe l = 9 := by unfold fe; rw [if_neg (by omega), if_pos h2]
theorem fe_ok {l : List ByteArray} (h : l.length ≤ 2048) (h2 : lng l = false) : fe l = 0 := by unfold fe; rw [if_neg (by omega), if_neg (by rw [h2]; decide)]
theorem from_any (a : Option Addr) (c : Nat) (l : List ByteArray) (w : World) (hl : l.length ≤ 8796093022208) (hrd : RdS w a l) (hsz : ∀ t ∈ l, t.size ≤ 9223372036854775807) :
    Calls Try.prog 8 #[.slice a l.length c] w fun e w' => ∃ dv, e = .returned (.tuple #[.pointer dv, .int .i64 (fe l)]) ∧ Below w.heap.size w w' ∧ ((fe l ≠ 0 ∧ dv = none) ∨ (fe l = 0 ∧ ∃ p b m x, dv = some ⟨p, 0, none⟩ ∧ Dk w.heap.size w' p (st l) b m x)) := by
  by_cases h : 2048 < l.length
  · refine (from_wide a c l w hl h).mono ?_
    rintro e w' ⟨rfl, rfl⟩
    rw [fe_wide h]
    exact ⟨none, rfl, Below.refl _ _, .inl ⟨by decide, rfl⟩⟩
  · refine (from_some a c l w (by omega) hrd hsz).mono ?_
    rintro e w' ⟨⟨h2, rfl⟩ | ⟨h2, p, b, m, x, rfl, hd⟩, hb⟩
    · rw [fe_long (by omega) h2]
      exact ⟨none, rfl, hb, .inl ⟨by decide, rfl⟩⟩
    · rw [fe_ok (by omega) h2]
      exact ⟨_, rfl, hb, .inr ⟨rfl, p, b, m, x, rfl, hd⟩⟩
theorem rFrom_any (a : Option Addr) (c : Nat) (l : List ByteArray) (w : World) (hl : l.length ≤ 8796093022208) (hrd : RdS w a l) (hsz : ∀ t ∈ l, t.size ≤ 9223372036854775807) (hnil : a = none → c = 0) :
    Calls Try.prog 9 #[.slice a l.length c] w fun e w' => ∃ dv, e = .returned (.tuple #[.pointer dv, .int .i64 (fe l)]) ∧ Below w.heap.size w w' ∧ ((fe l ≠ 0 ∧ dv = none) ∨ (fe l = 0 ∧ ∃ p f y x, dv = some ⟨p, 0, none⟩ ∧ Rk w.heap.size w' p (st l) f y x)) := by
  by_cases h : 2048 < l.length
  · refine (rFrom_wide a c l w hl h).mono ?_
    rintro e w' ⟨rfl, rfl⟩
    rw [fe_wide h]
    exact ⟨none, rfl, Below.refl _ _, .inl ⟨by decide, rfl⟩⟩
  · refine (rFrom_some a c l w (by omega) hrd hsz hnil).mono ?_
    rintro e w' ⟨⟨h2, rfl⟩ | ⟨h2, p, f, y, x, rfl, hd⟩, hb⟩
    · rw [fe_long (by omega) h2]
      exact ⟨none, rfl, hb, .inl ⟨by decide, rfl⟩⟩
    · rw [fe_ok (by omega) h2]
      exact ⟨_, rfl, hb, .inr ⟨rfl, p, f, y, x, rfl, hd⟩⟩
theorem step_any (N : Nat) (w : World) (p q : Nat) (s : St) (h : Two N w p q s) (kd at' : Int) (t : ByteArray) (w2 : (Lit.int .i64 at').wf = true) (ht : t.size ≤ 9223372036854775807) (hl : s.log.length + 1 ≤ 5864062014805) (hN : N ≤ w.heap.size) :
    Calls Try.prog 12 #[.pointer (some ⟨p, 0, none⟩), .pointer (some ⟨q, 0, none⟩), .agg #[.int .i64 kd, .int .i64 at', .string t]] w fun e w' => e = .returned (.bool true) ∧ StepDone N w p q (stp s kd at' t) w' := by
  by_cases k1 : kd = 1
  · subst k1; exact step_write N w p q s h at' t w2 ht hl hN
  by_cases k2 : kd = 2
  · subst k2; exact step_read N w p q s h at' t w2 hN
  by_cases k3 : kd = 3
  · subst k3; exact step_up N w p q s h at' t w2 hN
  by_cases k4 : kd = 4
  · subst k4; exact step_off N w p q s h at' t hN
  have e : stp s kd at' t = s := by unfold stp; rw [if_neg k1, if_neg k3, if_neg k4]
  rw [e]
  by_cases k5 : kd = 5
  · subst k5; exact step_image N w p q s h at' t (by omega) hN
  · exact step_other N w p q s h kd at' t hN k1 k2 k3 k4 k5
theorem stp_log (s : St) (kd at' : Int) (t : ByteArray) : (stp s kd at' t).log.length ≤ s.log.length + 1 := by
  unfold stp
  split
  · unfold nx; split
    · simp
    · omega
  · split
    · simp
    · split
      · simp
      · omega
theorem two_on {N : Nat} {w : World} {p q : Nat} {s : St} (h : Two N w p q s) : Calls Try.prog 13 #[.pointer (some ⟨p, 0, none⟩)] w fun e w' => e = .returned (.bool (decide (s.left ≠ 0))) ∧ w' = w := by
  obtain ⟨b, m, x, f, y, z, hT⟩ := h
  exact on_any N w p s b m x hT.d
theorem two_rOn {N : Nat} {w : World} {p q : Nat} {s : St} (h : Two N w p q s) : Calls Try.prog 14 #[.pointer (some ⟨q, 0, none⟩)] w fun e w' => e = .returned (.bool (decide (s.left ≠ 0))) ∧ w' = w := by
  obtain ⟨b, m, x, f, y, z, hT⟩ := h
  exact rOn_any N w q s f y z hT.r
def DCut (W : World) (s : St) (p' : Nat) (W' : World) : Prop := (∃ b m x, Dk W.heap.size W' p' s b m x) ∧ Below W.heap.size W W'
def RCutt (W : World) (s : St) (q' : Nat) (W' : World) : Prop := (∃ f y z, Rk W.heap.size W' q' s f y z) ∧ Below W.heap.size W W'
theorem two_cut {N : Nat} {w : World} {p q : Nat} {s : St} (h : Two N w p q s) (hl : s.log.length ≤ 5864062014805) (n : Int) (hw : (Lit.int .i64 n).wf = true) : ∀ W, Below w.heap.size w W →
    Calls Try.prog 15 #[.pointer (some ⟨p, 0, none⟩), .int .i64 n] W fun e W' => ∃ p', e = .returned (.pointer (some ⟨p', 0, none⟩)) ∧ DCut W (ct s n.toNat) p' W' := fun W hb => by
  obtain ⟨b, m, x, f, y, z, hT⟩ := h
  refine (cut_any N W p s b m x (hT.d.later hb) hl n hw).mono ?_
  rintro e W' ⟨p', b', m', x', rfl, hd, hb'⟩
  exact ⟨p', rfl, ⟨b', m', x', hd⟩, hb'⟩
theorem two_rCut {N : Nat} {w : World} {p q : Nat} {s : St} (h : Two N w p q s) (hl : s.log.length ≤ 5864062014805) (n : Int) : ∀ W, Below w.heap.size w W →
    Calls Try.prog 16 #[.pointer (some ⟨q, 0, none⟩), .int .i64 n] W fun e W' => ∃ q', e = .returned (.pointer (some ⟨q', 0, none⟩)) ∧ RCutt W (ct s n.toNat) q' W' := fun W hb => by
  obtain ⟨b, m, x, f, y, z, hT⟩ := h
  refine (rCut_any N W q s f y z (hT.r.later hb) hl n).mono ?_
  rintro e W' ⟨⟨q', f', y', z', rfl, hr⟩, hb'⟩
  exact ⟨q', rfl, ⟨f', y', z', hr⟩, hb'⟩
theorem cut_dr {N : Nat} {W W1 W2 : World} {s : St} {p' q' : Nat} (hN : N ≤ W.heap.size) (h1 : DCut W s p' W1) (h2 : RCutt W1 s q' W2) : Two N W2 p' q' s ∧ Below W.heap.size W W2 := by
  obtain ⟨⟨b, m, x, hd⟩, hb1⟩ := h1
  obtain ⟨⟨f, y, z, hr⟩, hb2⟩ := h2
  have hs := hb1.size
  refine ⟨⟨b, m, x, f, y, z, (hd.later hb2).weak hN, hr.weak (by omega), fun k hk hF => ?_⟩, thenB hb1 hb2⟩
  have := (hd.inHeap k hk).1
  have := (hr.inHeap k hF).2
  omega
theorem cut_rd {N : Nat} {W W1 W2 : World} {s : St} {p' q' : Nat} (hN : N ≤ W.heap.size) (h1 : RCutt W s q' W1) (h2 : DCut W1 s p' W2) : Two N W2 p' q' s ∧ Below W.heap.size W W2 := by
  obtain ⟨⟨b, m, x, hd⟩, hb2⟩ := h2
  obtain ⟨⟨f, y, z, hr⟩, hb1⟩ := h1
  have hs := hb1.size
  refine ⟨⟨b, m, x, f, y, z, hd.weak (by omega), (hr.later hb2).weak hN, fun k hk hF => ?_⟩, thenB hb1 hb2⟩
  have := (hd.inHeap k hk).2
  have := (hr.inHeap k hF).1
  omega
theorem made_two {N : Nat} {W W1 W2 : World} {s : St} {p q : Nat} {b m : Nat} {x f y z : Value} (hN : N ≤ W.heap.size) (hd : Dk W.heap.size W1 p s b m x) (hb1 : Below W.heap.size W W1) (hr : Rk W1.heap.size W2 q s f y z) (hb2 : Below W1.heap.size W1 W2) : Two N W2 p q s := (cut_dr hN ⟨⟨b, m, x, hd⟩, hb1⟩ ⟨⟨f, y, z, hr⟩, hb2⟩).1
end Go.Proofs.Ytifjihdanbbhkaa
