/- Contracts: Append, Count, End. -/
import Derived.Test.YtohgflimdoebiaaJnB
import Derived.Deep.RegionHeld3
namespace Go.Proofs.Ytohgflimdoebiaa.Dk
open Go.RowKit Go.Maps
set_option linter.unusedVariables false
set_option maxRecDepth 4000
set_option linter.unusedSimpArgs false

section
variable {w w' : World} {j p c a : Nat} {d : Bool}
theorem Jn.c0 (h : Jn w j p c a d) : w.cell? ⟨j, 0, none⟩ = some (.pointer (some ⟨p, 0, none⟩)) := by unfold Jn at h; simp [World.cell?, h]
theorem Jn.c1 (h : Jn w j p c a d) : w.cell? ⟨j, 1, none⟩ = some (.int .i64 (c : Int)) := by unfold Jn at h; simp [World.cell?, h]
theorem Jn.c2 (h : Jn w j p c a d) : w.cell? ⟨j, 2, none⟩ = some (.int .i64 (a : Int)) := by unfold Jn at h; simp [World.cell?, h]
theorem Jn.c3 (h : Jn w j p c a d) : w.cell? ⟨j, 3, none⟩ = some (.bool d) := by unfold Jn at h; simp [World.cell?, h]
theorem Jn.fr (h : Jn w j p c a d) (i : Nat) : w.frozen? ⟨j, i, none⟩ = false := by unfold Jn at h; simp [World.frozen?, h]
theorem Jn.lt (h : Jn w j p c a d) : j < w.heap.size := (Array.getElem?_eq_some_iff.1 h).1
theorem Jn.kept (h : Jn w j p c a d) {F : Nat → Prop} (hk : Kept F w w') (hF : ¬ F j) : Jn w' j p c a d := (hk.block j h.lt hF).trans h
theorem Jn.later (h : Jn w j p c a d) (hb : Below w.heap.size w w') : Jn w' j p c a d := (hb.block j h.lt).trans h
theorem Jn.dead (h : Jn w j p c a d) (v : Bool) : Jn (w.setCell ⟨j, 3, none⟩ (.bool v)) j p c a v := by
  unfold Jn at h ⊢; rw [blk_set h]; rfl
theorem Jn.count (h : Jn w j p c a d) (n : Nat) : Jn (w.setCell ⟨j, 1, none⟩ (.int .i64 (n : Int))) j p n a d := by
  unfold Jn at h ⊢; rw [blk_set h]; rfl
theorem Jn.endd (h : Jn w j p c a d) (n : Nat) : Jn (w.setCell ⟨j, 2, none⟩ (.int .i64 (n : Int))) j p c n d := by
  unfold Jn at h ⊢; rw [blk_set h]; rfl
theorem Jn.out {N : Nat} {s : St} {b m : Nat} {x : Value} (h : Jn w j p c a d) {q : Nat} (hd : Dk N w q s b m x) : ¬ Fd q b m x j := hd.notT h (by decide) (by decide)
end
theorem count_any (w : World) (j p c a : Nat) (d : Bool) (h : Jn w j p c a d) : Calls Try.prog 19 #[.pointer (some ⟨j, 0, none⟩)] w fun e w' => e = .returned (.int .i64 (c : Int)) ∧ w' = w := by
  have c1 := h.c1
  clear h
  go_enter Try.func19, Try.ntmps19
  go_wp2_with fail
  go_ret
  exact ⟨rfl, rfl⟩
theorem end_any (w : World) (j p c a : Nat) (d : Bool) (h : Jn w j p c a d) : Calls Try.prog 20 #[.pointer (some ⟨j, 0, none⟩)] w fun e w' => e = .returned (.int .i64 (a : Int)) ∧ w' = w := by
  have c1 := h.c2
  clear h
  go_enter Try.func20, Try.ntmps20
  go_wp2_with fail
  go_ret
  exact ⟨rfl, rfl⟩
def JF (j p b m : Nat) (x : Value) (k : Nat) : Prop := k = j ∨ Fd p b m x k
/- Both behind a call: the journal, its disk. -/
def JWrote (N : Nat) (w : World) (j p : Nat) (s : St) (b m : Nat) (x : Value) (c a : Nat) (d : Bool) (w' : World) : Prop :=
  ∃ x', Dk N w' p s b m x' ∧ Jn w' j p c a d ∧ Kept (JF j p b m x) w w' ∧ (∀ k, Fd p b m x' k → Fd p b m x k ∨ w.heap.size ≤ k)
theorem JWrote.of {N : Nat} {w w' : World} {j p : Nat} {s : St} {b m : Nat} {x : Value} {c a : Nat} {d : Bool} (hj : Jn w' j p c a d) (h : Wrote N w p s b m x w') : JWrote N w j p s b m x c a d w' := by
  obtain ⟨x1, d1, k1, f1⟩ := h
  exact ⟨x1, d1, hj, k1.mono (fun i _ h => .inr h), f1⟩
/- A cell of the journal is set. -/
theorem JWrote.set {N : Nat} {w w' : World} {j p : Nat} {s : St} {b m : Nat} {x : Value} {c a : Nat} {d : Bool} (h : JWrote N w j p s b m x c a d w') (i : Nat) (v : Value) {c' a' : Nat} {d' : Bool} (hj : Jn (w'.setCell ⟨j, i, none⟩ v) j p c' a' d') : JWrote N w j p s b m x c' a' d' (w'.setCell ⟨j, i, none⟩ v) := by
  obtain ⟨x1, d1, j1, k1, f1⟩ := h
  refine ⟨x1, d1.kept ((Kept.refl (fun k => k = j) w').setCell (p := ⟨j, i, none⟩) (fun _ => rfl) v) (fun k hk e => ?_), hj, k1.setCell (p := ⟨j, i, none⟩) (fun _ => .inl rfl) v, f1⟩
  subst e
  exact j1.out d1 hk
def AppP (N : Nat) (w : World) (j p : Nat) (s : St) (b m : Nat) (x : Value) (c a : Nat) (d : Bool) (t : ByteArray) (e : Ending) (w' : World) : Prop :=
  e = .returned (.int .i64 (apE s c a d t)) ∧ JWrote N w j p (apS s c a d t) b m x (apC s c a d t) (apA s c a d t) (apD s c a d t) w'
theorem append_down (N : Nat) (w : World) (j p : Nat) (s : St) (b m : Nat) (x : Value) (c a : Nat) (d : Bool) (t : ByteArray) (h : Dk N w p s b m x) (hj : Jn w j p c a d) (h0 : d = true ∨ s.left = 0) :
    Calls Try.prog 26 #[.pointer (some ⟨j, 0, none⟩), .string t] w fun e w' => AppP N w j p s b m x c a d t e w' := by
  have hE : apE s c a d t = 11 := by unfold apE; rw [if_pos h0]
  have HP : Hid (∀ e, e = .returned (.int .i64 11) → AppP N w j p s b m x c a d t e (w.setCell ⟨j, 3, none⟩ (.bool true))) := fun e he => by
    have hS : apS s c a d t = s := by unfold apS; rw [if_pos h0]
    unfold AppP apC apA apD
    rw [hE, hS, if_neg (by decide), if_neg (by decide), if_pos rfl]
    exact ⟨he, (JWrote.of hj h.same).set 3 (.bool true) (hj.dead true)⟩
  have c0 := hj.c0
  have c3 := hj.c3
  have f3 := hj.fr 3
  cases d with
  | true =>
    clear h hj h0 hE
    go_enter Try.func26, Try.ntmps26
    go_wp2_with fail
    go_ret
    exact HP.out _ rfl
  | false =>
    have hz : s.left = 0 := by simpa using h0
    have hon := on_any N w p s b m x h
    have hb : decide (s.left ≠ 0) = false := by simp [hz]
    rw [hb] at hon
    clear h hj h0 hE hz hb
    go_enter Try.func26, Try.ntmps26
    go_wp2_with fail
    refine hon.mono ?_
    rintro e w1 ⟨rfl, rfl⟩
    go_wp2_with fail
    go_ret
    exact HP.out _ rfl
theorem append_long (N : Nat) (w : World) (j p : Nat) (s : St) (b m : Nat) (x : Value) (c a : Nat) (d : Bool) (t : ByteArray) (h : Dk N w p s b m x) (hj : Jn w j p c a d) (h0 : ¬ (d = true ∨ s.left = 0)) (ht : t.size ≤ 9223372036854775807) (hl : 5865 < t.size) :
    Calls Try.prog 26 #[.pointer (some ⟨j, 0, none⟩), .string t] w fun e w' => AppP N w j p s b m x c a d t e w' := by
  have HP : Hid (∀ e, e = .returned (.int .i64 9) → AppP N w j p s b m x c a d t e w) := fun e he => by
    have hE : apE s c a d t = 9 := by unfold apE; rw [if_neg h0, if_pos hl]
    have hS : apS s c a d t = s := by unfold apS; rw [if_neg h0, if_pos hl]
    unfold AppP apC apA apD
    rw [hE, hS, if_neg (by decide), if_neg (by decide), if_neg (by decide)]
    exact ⟨he, JWrote.of hj h.same⟩
  have c0 := hj.c0
  have c3 := hj.c3
  have hon := on_any N w p s b m x h
  obtain rfl : d = false := by cases d with | true => exact absurd (.inl rfl) h0 | false => rfl
  have hb : decide (s.left ≠ 0) = true := by simpa using h0
  rw [hb] at hon
  have hpt := parts_any (t.size : Int) (by omega) (by omega) w
  rw [pt_no t.size (by omega)] at hpt
  clear h hj h0 hb hl
  go_enter Try.func26, Try.ntmps26
  go_wp2_with fail
  refine hon.mono ?_
  rintro e w1 ⟨rfl, rfl⟩
  go_wp2_with fail
  refine hpt.mono ?_
  rintro e w2 ⟨rfl, rfl⟩
  go_wp2_with fail
  go_ret
  exact HP.out _ rfl
theorem append_full (N : Nat) (w : World) (j p : Nat) (s : St) (b m : Nat) (x : Value) (c a : Nat) (d : Bool) (t : ByteArray) (h : Dk N w p s b m x) (hj : Jn w j p c a d) (h0 : ¬ (d = true ∨ s.left = 0)) (hl : ¬ 5865 < t.size) (ha : a ≤ 2048) (hf : 2048 < a + np t.size ∨ 65535 ≤ c) :
    Calls Try.prog 26 #[.pointer (some ⟨j, 0, none⟩), .string t] w fun e w' => AppP N w j p s b m x c a d t e w' := by
  have HP : Hid (∀ e, e = .returned (.int .i64 10) → AppP N w j p s b m x c a d t e w) := fun e he => by
    have hE : apE s c a d t = 10 := by unfold apE; rw [if_neg h0, if_neg hl, if_pos hf]
    have hS : apS s c a d t = s := by unfold apS; rw [if_neg h0, if_neg hl, if_pos hf]
    unfold AppP apC apA apD
    rw [hE, hS, if_neg (by decide), if_neg (by decide), if_neg (by decide)]
    exact ⟨he, JWrote.of hj h.same⟩
  have c0 := hj.c0
  have c1 := hj.c1
  have c2 := hj.c2
  have c3 := hj.c3
  have hon := on_any N w p s b m x h
  obtain rfl : d = false := by cases d with | true => exact absurd (.inl rfl) h0 | false => rfl
  have hb : decide (s.left ≠ 0) = true := by simpa using h0
  rw [hb] at hon
  have hpt := parts_any (t.size : Int) (by omega) (by omega) w
  obtain ⟨n1, n2, n3, -, -⟩ := np_spec t.size (by omega)
  rw [n1] at hpt
  obtain ⟨n, hn⟩ : ∃ n, np t.size = n := ⟨_, rfl⟩
  rw [hn] at hpt n2 n3 hf
  have m0 : ((n : Int) == 0) = false := by simp; omega
  have m1 : IntKind.i64.wrap ((a : Int) + (n : Int)) = ((a + n : Nat) : Int) := by rw [← Int.natCast_add]; exact Bt.wrap_fit _ (by omega) (by omega)
  clear h hj h0 hb hl n1 hn
  go_enter Try.func26, Try.ntmps26
  go_wp2_with fail
  refine hon.mono ?_
  rintro e w1 ⟨rfl, rfl⟩
  go_wp2_with fail
  refine hpt.mono ?_
  rintro e w2 ⟨rfl, rfl⟩
  by_cases h1 : 2048 < a + n
  · have m2 : decide (2048 < ((a + n : Nat) : Int)) = true := by simp; omega
    obtain ⟨an, han⟩ : ∃ an, ((a + n : Nat) : Int) = an := ⟨_, rfl⟩
    rw [han] at m1 m2
    clear hf han h1
    go_wp2_with fail
    go_ret
    exact HP.out _ rfl
  · have m2 : decide (2048 < ((a + n : Nat) : Int)) = false := by simp; omega
    have m3 : decide (65535 ≤ (c : Int)) = true := by simp; omega
    obtain ⟨an, han⟩ : ∃ an, ((a + n : Nat) : Int) = an := ⟨_, rfl⟩
    rw [han] at m1 m2
    clear hf han h1
    go_wp2_with fail
    go_ret
    exact HP.out _ rfl
end Go.Proofs.Ytohgflimdoebiaa.Dk
