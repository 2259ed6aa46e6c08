/- JnR2, JnR3, joined. -/
import Derived.Test.YtohgflimdoebiaaJnR
import Derived.Test.YtohgflimdoebiaaJnC2
import Derived.Deep.RegionHeld3
import Derived.BigQuiet
import Derived.Deep.QuietTactic
/- Contract: the document's Append. -/
namespace Go.Proofs.Ytohgflimdoebiaa.Dk
open Go.RowKit Go.Maps
set_option linter.unusedVariables false
set_option maxRecDepth 4000
set_option linter.unusedSimpArgs false

section
variable {w w' : World} {j q c a : Nat} {d : Bool}
theorem Jr.c0 (h : Jr w j q c a d) : w.cell? ⟨j, 0, none⟩ = some (.pointer (some ⟨q, 0, none⟩)) := by unfold Jr at h; simp [World.cell?, h]
theorem Jr.c1 (h : Jr w j q c a d) : w.cell? ⟨j, 1, none⟩ = some (.int .i64 (c : Int)) := by unfold Jr at h; simp [World.cell?, h]
theorem Jr.c2 (h : Jr w j q c a d) : w.cell? ⟨j, 2, none⟩ = some (.int .i64 (a : Int)) := by unfold Jr at h; simp [World.cell?, h]
theorem Jr.c3 (h : Jr w j q c a d) : w.cell? ⟨j, 3, none⟩ = some (.bool d) := by unfold Jr at h; simp [World.cell?, h]
theorem Jr.fr (h : Jr w j q c a d) (i : Nat) : w.frozen? ⟨j, i, none⟩ = false := by unfold Jr at h; simp [World.frozen?, h]
theorem Jr.lt (h : Jr w j q c a d) : j < w.heap.size := (Array.getElem?_eq_some_iff.1 h).1
theorem Jr.kept (h : Jr w j q c a d) {F : Nat → Prop} (hk : Kept F w w') (hF : ¬ F j) : Jr w' j q c a d := (hk.block j h.lt hF).trans h
theorem Jr.later (h : Jr w j q c a d) (hb : Below w.heap.size w w') : Jr w' j q c a d := (hb.block j h.lt).trans h
theorem Jr.dead (h : Jr w j q c a d) (v : Bool) : Jr (w.setCell ⟨j, 3, none⟩ (.bool v)) j q c a v := by
  unfold Jr at h ⊢; rw [blk_set h]; rfl
theorem Jr.count (h : Jr w j q c a d) (n : Nat) : Jr (w.setCell ⟨j, 1, none⟩ (.int .i64 (n : Int))) j q n a d := by
  unfold Jr at h ⊢; rw [blk_set h]; rfl
theorem Jr.endd (h : Jr w j q c a d) (n : Nat) : Jr (w.setCell ⟨j, 2, none⟩ (.int .i64 (n : Int))) j q c n d := by
  unfold Jr at h ⊢; rw [blk_set h]; rfl
end
/- What isn't a block of a model disk's types isn't of it. -/
theorem Rk.notT {N : Nat} {w : World} {q : Nat} {s : St} {f y x : Value} (h : Rk N w q s f y x) {o : Nat} {cs : Array Value} {t : TypeId} {fz : Nat × Nat} (ho : w.heap[o]? = some (.cells cs t fz)) (h1 : t ≠ 53) (h2 : t ≠ 84) (h3 : t ≠ 9) : ¬ Fr q f y x o := fun e => by
  rcases e with rfl | e | e | e
  · have r := h.blk; rw [ho] at r; simp at r; exact h1 r.2.1
  · obtain ⟨-, -, cur, hh⟩ := row_type h.fst o e; rw [ho] at hh; cases hh; exact h3 rfl
  · obtain ⟨-, -, cur, hh⟩ := row_type h.blo o e; rw [ho] at hh; cases hh; exact h3 rfl
  · obtain ⟨-, -, cur, hh⟩ := row_type h.log o e; rw [ho] at hh; cases hh; exact h2 rfl
theorem Jr.out {N : Nat} {w : World} {j q p c a : Nat} {d : Bool} {s : St} {f y x : Value} (h : Jr w j q c a d) (hd : Rk N w p s f y x) : ¬ Fr p f y x j := hd.notT h (by decide) (by decide) (by decide)
def JFr (j q : Nat) (f y x : Value) (k : Nat) : Prop := k = j ∨ Fr q f y x k
def RJWrote (N : Nat) (w : World) (j q : Nat) (s : St) (f y x : Value) (c a : Nat) (d : Bool) (w' : World) : Prop :=
  ∃ x', Rk N w' q s f y x' ∧ Jr w' j q c a d ∧ Kept (JFr j q f y x) w w' ∧ (∀ k, Fr q f y x' k → Fr q f y x k ∨ w.heap.size ≤ k)
theorem RJWrote.of {N : Nat} {w w' : World} {j q : Nat} {s : St} {f y x : Value} {c a : Nat} {d : Bool} (hj : Jr w' j q c a d) (h : RWrote N w q s f y x w') : RJWrote N w j q s f y x c a d w' := by
  obtain ⟨x1, d1, k1, f1⟩ := h
  exact ⟨x1, d1, hj, k1.mono (fun i _ h => .inr h), f1⟩
theorem RJWrote.set {N : Nat} {w w' : World} {j q : Nat} {s : St} {f y x : Value} {c a : Nat} {d : Bool} (h : RJWrote N w j q s f y x c a d w') (i : Nat) (v : Value) {c' a' : Nat} {d' : Bool} (hj : Jr (w'.setCell ⟨j, i, none⟩ v) j q c' a' d') : RJWrote N w j q s f y x c' a' d' (w'.setCell ⟨j, i, none⟩ v) := by
  obtain ⟨x1, d1, j1, k1, f1⟩ := h
  refine ⟨x1, d1.kept ((Kept.refl (fun k => k = j) w').setCell (p := ⟨j, i, none⟩) (fun _ => rfl) v) (fun k hk e => ?_), hj, k1.setCell (p := ⟨j, i, none⟩) (fun _ => .inl rfl) v, f1⟩
  subst e
  exact j1.out d1 hk
def RAppP (N : Nat) (w : World) (j q : Nat) (s : St) (f y x : Value) (c a : Nat) (d : Bool) (t : ByteArray) (e : Ending) (w' : World) : Prop :=
  e = .returned (.int .i64 (apE s c a d t)) ∧ RJWrote N w j q (apS s c a d t) f y x (apC s c a d t) (apA s c a d t) (apD s c a d t) w'
theorem rAppend_down (N : Nat) (w : World) (j p : Nat) (s : St) (f y x : Value) (c a : Nat) (d : Bool) (t : ByteArray) (h : Rk N w p s f y x) (hj : Jr w j p c a d) (h0 : d = true ∨ s.left = 0) :
    Calls Try.prog 34 #[.pointer (some ⟨j, 0, none⟩), .string t] w fun e w' => RAppP N w j p s f y x c a d t e w' := by
  have hE : apE s c a d t = 11 := by unfold apE; rw [if_pos h0]
  have HP : Hid (∀ e, e = .returned (.int .i64 11) → RAppP N w j p s f y x c a d t e (w.setCell ⟨j, 3, none⟩ (.bool true))) := fun e he => by
    have hS : apS s c a d t = s := by unfold apS; rw [if_pos h0]
    unfold RAppP apC apA apD
    rw [hE, hS, if_neg (by decide), if_neg (by decide), if_pos rfl]
    exact ⟨he, (RJWrote.of hj h.same).set 3 (.bool true) (hj.dead true)⟩
  have c0 := hj.c0
  have c3 := hj.c3
  have f3 := hj.fr 3
  cases d with
  | true =>
    clear h hj h0 hE
    go_enter Try.func34, Try.ntmps34
    go_wp2_with fail
    go_ret
    exact HP.out _ rfl
  | false =>
    have hz : s.left = 0 := by simpa using h0
    have hon := rOn_any N w p s f y x h
    have hb : decide (s.left ≠ 0) = false := by simp [hz]
    rw [hb] at hon
    clear h hj h0 hE hz hb
    go_enter Try.func34, Try.ntmps34
    go_wp2_with fail
    refine hon.mono ?_
    rintro e w1 ⟨rfl, rfl⟩
    go_wp2_with fail
    go_ret
    exact HP.out _ rfl
theorem rAppend_long (N : Nat) (w : World) (j p : Nat) (s : St) (f y x : Value) (c a : Nat) (d : Bool) (t : ByteArray) (h : Rk N w p s f y x) (hj : Jr w j p c a d) (h0 : ¬ (d = true ∨ s.left = 0)) (hl : 5865 < t.size) :
    Calls Try.prog 34 #[.pointer (some ⟨j, 0, none⟩), .string t] w fun e w' => RAppP N w j p s f y x c a d t e w' := by
  have HP : Hid (∀ e, e = .returned (.int .i64 9) → RAppP N w j p s f y x c a d t e w) := fun e he => by
    have hE : apE s c a d t = 9 := by unfold apE; rw [if_neg h0, if_pos hl]
    have hS : apS s c a d t = s := by unfold apS; rw [if_neg h0, if_pos hl]
    unfold RAppP apC apA apD
    rw [hE, hS, if_neg (by decide), if_neg (by decide), if_neg (by decide)]
    exact ⟨he, RJWrote.of hj h.same⟩
  have c0 := hj.c0
  have c3 := hj.c3
  have hon := rOn_any N w p s f y x h
  obtain rfl : d = false := by cases d with | true => exact absurd (.inl rfl) h0 | false => rfl
  have hb : decide (s.left ≠ 0) = true := by simpa using h0
  rw [hb] at hon
  have s1 : decide (5865 < (t.size : Int)) = true := by simp; omega
  clear h hj h0 hb hl
  go_enter Try.func34, Try.ntmps34
  go_wp2_with fail
  refine hon.mono ?_
  rintro e w1 ⟨rfl, rfl⟩
  go_wp2_with fail
  go_ret
  exact HP.out _ rfl
theorem rk_drewN {N : Nat} {w : World} {q : Nat} {s : St} {f y x : Value} (h : Rk N w q s f y x) (n : Nat) : RWrote N w q s f y x (w.drewN n) := h.same.later (below_drewN (Below.refl _ _) n)
set_option maxHeartbeats 2000000 in
theorem rAppend_full (N : Nat) (w : World) (j p : Nat) (s : St) (f y x : Value) (c a : Nat) (d : Bool) (t : ByteArray) (h : Rk N w p s f y x) (hj : Jr w j p c a d) (h0 : ¬ (d = true ∨ s.left = 0)) (hl : ¬ 5865 < t.size) (ha : a ≤ 2048) (hc : c ≤ 65535) (hf : 2048 < a + np t.size ∨ 65535 ≤ c) :
    Calls Try.prog 34 #[.pointer (some ⟨j, 0, none⟩), .string t] w fun e w' => RAppP N w j p s f y x c a d t e w' := by
  have HP : Hid (∀ e n, e = .returned (.int .i64 10) → RAppP N w j p s f y x c a d t e (w.drewN n)) := fun e n he => by
    have hE : apE s c a d t = 10 := by unfold apE; rw [if_neg h0, if_neg hl, if_pos hf]
    have hS : apS s c a d t = s := by unfold apS; rw [if_neg h0, if_neg hl, if_pos hf]
    unfold RAppP apC apA apD
    rw [hE, hS, if_neg (by decide), if_neg (by decide), if_neg (by decide)]
    exact ⟨he, RJWrote.of (hj.later (below_drewN (Below.refl _ _) n)) (rk_drewN h n)⟩
  have c0 := hj.c0
  have c1 := hj.c1
  have c2 := hj.c2
  have c3 := hj.c3
  have hon := rOn_any N w p s f y x h
  obtain rfl : d = false := by cases d with | true => exact absurd (.inl rfl) h0 | false => rfl
  have hb : decide (s.left ≠ 0) = true := by simpa using h0
  rw [hb] at hon
  have hpt := fun W => rParts_any (t.size : Int) W
  obtain ⟨n1, n2, n3, -, -⟩ := np_spec t.size (by omega)
  simp only [n1] at hpt
  obtain ⟨n, hn⟩ : ∃ n, np t.size = n := ⟨_, rfl⟩
  rw [hn] at n2 n3 hf
  simp only [hn] at hpt
  have s1 : decide (5865 < (t.size : Int)) = false := by simp; omega
  have m1 : IntKind.i64.wrap (2048 - (a : Int)) = 2048 - (a : Int) := Bt.wrap_fit _ (by omega) (by omega)
  clear h hj h0 hb hl n1 hn
  go_enter Try.func34, Try.ntmps34
  go_wp2_with fail
  refine hon.mono ?_
  rintro e w1 ⟨rfl, rfl⟩
  by_cases h1 : 2048 < a + n
  · have m2 : decide (2048 - (a : Int) < (n : Int)) = true := by simp; omega
    clear hf h1
    go_wp2_with fail
    go_quiet (first | (go_at_call 27; exact Calls.quiet_of_same (hpt _)))
    go_wp2_with fail
    go_ret
    exact HP.out _ _ rfl
  · have m2 : decide (2048 - (a : Int) < (n : Int)) = false := by simp; omega
    have m3 : ((c : Int) == 65535) = true := by simp; omega
    clear hf h1
    go_wp2_with fail
    go_quiet (first | (go_at_call 27; exact Calls.quiet_of_same (hpt _)))
    go_wp2_with fail
    go_ret
    exact HP.out _ _ rfl
end Go.Proofs.Ytohgflimdoebiaa.Dk
/- Contract: the document's Append, where it writes. -/
namespace Go.Proofs.Ytohgflimdoebiaa.Dk
open Go.RowKit Go.Maps
set_option linter.unusedVariables false
set_option maxRecDepth 4000
set_option linter.unusedSimpArgs false

set_option maxHeartbeats 8000000 in
theorem rAppend_go (N : Nat) (w : World) (j p : Nat) (s : St) (f y x : Value) (c a : Nat) (d : Bool) (t : ByteArray) (h : Rk N w p s f y x) (hj : Jr w j p c a d) (h0 : ¬ (d = true ∨ s.left = 0)) (hl : ¬ 5865 < t.size) (hf : ¬ (2048 < a + np t.size ∨ 65535 ≤ c)) (hlog : s.log.length + 255 ≤ 5864062014805) (hN : N ≤ w.heap.size) :
    Calls Try.prog 34 #[.pointer (some ⟨j, 0, none⟩), .string t] w fun e w' => RAppP N w j p s f y x c a d t e w' := by
  obtain ⟨hS, hE⟩ := apE_go h0 hl hf
  have HD : Hid (Rk N w p s f y x) := h
  have HJ : Hid (Jr w j p c a d) := hj
  have HIH : Hid (∀ k, Fr p f y x k → k < w.heap.size ∧ N ≤ k) := h.inHeap
  have HB32 : Hid (∀ z ∈ blks ((c + 1 : Nat) : Int) t, z.size = 32) := blks_size (num_ok (c := c) (by omega)) (t := t) (by omega)
  have HJO : Hid (¬ Fr p f y x j) := hj.out h
  have c0 := hj.c0
  have c1 := hj.c1
  have c2 := hj.c2
  have c3 := hj.c3
  have hon := rOn_any N w p s f y x h
  obtain rfl : d = false := by cases d with | true => exact absurd (.inl rfl) h0 | false => rfl
  have hs0 : s.left ≠ 0 := by simpa using h0
  have hb : decide (s.left ≠ 0) = true := by simpa using h0
  rw [hb] at hon
  have hpt := fun W => rParts_any (t.size : Int) W
  obtain ⟨n1, n2, n3, -, -⟩ := np_spec t.size (by omega)
  simp only [n1] at hpt
  have hpk := fun W => rPack_yes ((c + 1 : Nat) : Int) t W (num_ok (by omega)) (by omega)
  obtain ⟨R, hR⟩ : ∃ R, wl (apW c a t) s = R := ⟨_, rfl⟩
  have HR : Hid (wl (plc (blks ((c + 1 : Nat) : Int) t) a) s = R) := hR
  have HYES : Hid (∀ w', R.2 = true → RJWrote N w j p R.1 f y x (c + 1) (a + np t.size) false w' → RAppP N w j p s f y x c a false t (.returned (.int .i64 0)) w') := fun w' h2 hw => by
    have hE' : apE s c a false t = 0 := by rw [hE, hR, if_pos h2]
    unfold RAppP apC apA apD
    rw [hE', if_pos rfl, if_pos rfl, if_neg (by decide), hS, hR]
    exact ⟨rfl, hw⟩
  have HNO : Hid (∀ w', R.2 = false → RJWrote N w j p R.1 f y x c a true w' → RAppP N w j p s f y x c a false t (.returned (.int .i64 11)) w') := fun w' h2 hw => by
    have hE' : apE s c a false t = 11 := by rw [hE, hR, if_neg (by rw [h2]; decide)]
    unfold RAppP apC apA apD
    rw [hE', if_neg (by decide), if_neg (by decide), if_pos rfl, hS, hR]
    exact ⟨rfl, hw⟩
  have HBL : Hid ((blks ((c + 1 : Nat) : Int) t).length = np t.size) := blks_length _ _
  obtain ⟨n, hn⟩ : ∃ n, np t.size = n := ⟨_, rfl⟩
  obtain ⟨B, hB⟩ : ∃ B, blks ((c + 1 : Nat) : Int) t = B := ⟨_, rfl⟩
  rw [hn] at n2 n3 hf HYES HBL
  simp only [hn] at hpt
  rw [hB] at HR HB32 HBL
  simp only [hB] at hpk
  have s1 : decide (5865 < (t.size : Int)) = false := by simp; omega
  have m1 : IntKind.i64.wrap (2048 - (a : Int)) = 2048 - (a : Int) := Bt.wrap_fit _ (by omega) (by omega)
  have m2 : decide (2048 - (a : Int) < (n : Int)) = false := by simp; omega
  have m3 : ((c : Int) == 65535) = false := by simp; omega
  have m4 : IntKind.i64.wrap ((c : Int) + 1) = ((c + 1 : Nat) : Int) := by rw [Bt.wrap_fit _ (by omega) (by omega)]; omega
  have m5 : IntKind.i64.wrap ((a : Int) + (n : Int)) = ((a + n : Nat) : Int) := by rw [← Int.natCast_add]; exact Bt.wrap_fit _ (by omega) (by omega)
  have HAN : Hid (a + n ≤ 2048) := by show _ ≤ _; omega
  obtain ⟨an, han⟩ : ∃ an, ((a + n : Nat) : Int) = an := ⟨_, rfl⟩
  obtain ⟨cn, hcn⟩ : ∃ cn, ((c + 1 : Nat) : Int) = cn := ⟨_, rfl⟩
  have HAE : Hid (((a + n : Nat) : Int) = an) := han
  have HCE : Hid (((c + 1 : Nat) : Int) = cn) := hcn
  rw [han] at m5
  rw [hcn] at m4
  simp only [hcn] at hpk
  clear h hj h0 hb hl hf n1 hn hB hS hE hR han hcn
  go_enter Try.func34, Try.ntmps34
  go_wp2_with fail
  refine hon.mono ?_
  rintro e w1 ⟨rfl, rfl⟩
  go_wp2_with fail
  go_quiet (first | (go_at_call 27; exact Calls.quiet_of_same (hpt _)))
  obtain ⟨wq, hwq⟩ : ∃ wq, w1.drewN nq = wq := ⟨_, rfl⟩
  have HBQ : Hid (Below w1.heap.size w1 wq) := by rw [← hwq]; exact below_drewN (Below.refl _ _) nq
  have cq1 := cell_later HBQ.out (Nat.le_refl _) c1
  rw [hwq]
  clear hwq c0 c1 c2 c3 hon
  go_wp2_with fail
  refine (hpk wq).mono ?_
  rintro e w3 ⟨v3, rfl, hr3, hb3⟩
  have hr3' : RwS w3 wq.heap.size v3 B := hr3
  obtain ⟨a3, cap3, e3⟩ := row_spell hr3'
  subst e3
  have HB3 : Hid (Below w1.heap.size w1 w3) := HBQ.out.trans (hb3.mono HBQ.out.size)
  have HRD : Hid (RdS w3 a3 B) := RwS.rd hr3'
  have HFAR : Hid (∀ g o, a3 = some ⟨g, o, none⟩ → ¬ Fr p f y x g) := fun g o ea hF => by
    have := (row_far hr3' g o ea).1
    have := (HIH.out g hF).1
    have := HBQ.out.size
    omega
  have HD3 : Hid (Rk N w3 p s f y x) := HD.out.later HB3.out
  have HJ3 : Hid (Jr w3 j p c a false) := HJ.out.later HB3.out
  have hs3 := HB3.out.size
  rw [HBL.out]
  clear hr3 hr3' hb3 hpk hpt cq1
  go_wp2_with fail
  go_loopw [56] (fun i wr => ∃ (k : Nat) (s' : St), k ≤ n ∧ i = .int .i64 (k : Int) ∧ RWrote N w3 p s' f y x wr ∧ ((s'.left ≠ 0 ∧ wl (plc (B.drop k) (a + k)) s' = R) ∨ (s'.left = 0 ∧ R = (s', false))) ∧ s'.log.length ≤ s.log.length + k) (fun i _ => n - (intOf i).toNat)
  case atStart => exact ⟨0, s, by omega, rfl, HD3.out.same, .inl ⟨hs0, HR.out⟩, by omega⟩
  case round =>
    obtain ⟨k, s', hk2, rfl, hW, hcase, hlg⟩ := hrel
    have HW : Hid (RWrote N w3 p s' f y x wr) := hW
    obtain ⟨x', d', kp, fp⟩ := hW
    have hsz := kp.size
    have hjr := HJ3.out.kept kp HJO.out
    have HJR : Hid (Jr wr j p c a false) := hjr
    have c0 := hjr.c0
    have c1 := hjr.c1
    have c2 := hjr.c2
    have f1 := hjr.fr 1
    have f2 := hjr.fr 2
    have f3 := hjr.fr 3
    by_cases hkn : k < n
    · obtain ⟨g, o, ea, cX⟩ := (HRD.out.kept kp HFAR.out) k (by rw [HBL.out]; exact hkn)
      subst ea
      have HPC : Hid (plc (B.drop k) (a + k) = (((a + k : Nat) : Int), B.getD k ⟨#[]⟩) :: plc (B.drop (k + 1)) (a + (k + 1))) := plc_cons (by rw [HBL.out]; exact hkn)
      have j1 : (0 : Int) ≤ (k : Int) := by omega
      have j2 : (k : Int) < (n : Int) := by omega
      have j3 : IntKind.i64.wrap ((a : Int) + (k : Int)) = ((a + k : Nat) : Int) := by rw [← Int.natCast_add]; exact Bt.wrap_fit _ (by have := HAN.out; omega) (by have := HAN.out; omega)
      have hX32 : (B.getD k ⟨#[]⟩).size ≤ 32 := by
        rw [HB32.out _ (by rw [getD_yes _ _ (by rw [HBL.out]; exact hkn)]; exact List.getElem_mem _)]
        decide
      obtain ⟨X, hXX⟩ : ∃ X, B.getD k ⟨#[]⟩ = X := ⟨_, rfl⟩
      rw [hXX] at cX hX32 HPC
      obtain ⟨ak, hak⟩ : ∃ ak, ((a + k : Nat) : Int) = ak := ⟨_, rfl⟩
      have hgp : Gp (ak, X) := ⟨by show (0 : Int) ≤ ak; omega, by show ak < 2048; have := HAN.out; omega, hX32⟩
      have hla := fun W (hW : Below wr.heap.size wr W) => rWrite_any N W p s' f y x' (d'.later hW) ak X (by omega) (by omega) (Nat.le_trans hN (Nat.le_trans hs3 (Nat.le_trans hsz hW.size)))
      rw [hak] at j3 HPC
      obtain ⟨s2, hs2⟩ : ∃ s2, nx s' ak X = s2 := ⟨_, rfl⟩
      have HLG : Hid ((nx s' ak X).log.length ≤ s'.log.length + 1) := nx_log _ _ _
      rw [hs2] at HLG
      have hla2 : ∀ W, Below wr.heap.size wr W → Calls Try.prog 50 #[.pointer (some ⟨p, 0, none⟩), .int .i64 ak, .string X] W fun e w' => e = .returned (.int .i64 (we s'.left ak X)) ∧ RWrote N w3 p s2 f y x w' ∧ Jr w' j p c a false := fun W hW => (hla W hW).mono fun e w' h9 => by
        rw [hs2] at h9
        have hW9 := RWrote.next (kp.trans (Kept.ofBelow (F := fun _ => False) hW) (fun _ _ h => h.elim)) (fun i hi => fp i hi) h9.2
        obtain ⟨x9, d9, k9, f9⟩ := hW9
        exact ⟨h9.1, ⟨x9, d9, k9, f9⟩, HJ3.out.kept k9 HJO.out⟩
      rcases hcase with ⟨q1, q2⟩ | ⟨q1, q2⟩
      · rw [we_good q1 hgp] at hla2
        have HNX : Hid ((s2.left ≠ 0 ∧ wl (plc (B.drop (k + 1)) (a + (k + 1))) s2 = R) ∨ (s2.left = 0 ∧ R = (s2, false))) := by
          rw [HPC.out] at q2
          by_cases hz : s2.left = 0
          · exact .inr ⟨hz, by rw [← q2, wl_off (by rw [hs2]; exact hz), hs2]⟩
          · exact .inl ⟨hz, by rw [← q2, wl_on (by rw [hs2]; exact hz), hs2]⟩
        clear hXX d' kp fp hs2 hla hjr hX32 hak q1 q2 hgp
        go_wp2_with fail
        go_region_held3 (fun w' => w'.cell? ⟨j, 0, none⟩ = some (.pointer (some ⟨p, 0, none⟩)) ∧ w'.cell? ⟨j, 2, none⟩ = some (.int .i64 (a : Int))) (first | exact ⟨hj4.c0, hj4.c2⟩ | exact ⟨c0, c2⟩) (first | (go_at_call 50; refine (hla2 _ (Below.drew (Below.refl _ wr))).mono ?_; rintro e w4 ⟨rfl, hW4, hj4⟩))
        go_wp2_with fail
        go_roundw
        case rel => exact ⟨k + 1, s2, by omega, by go_num, hW4, HNX.out, by have := HLG.out; omega⟩
        case measure => simp [intOf]; omega
      · rw [we_off q1] at hla2
        rw [nx_off q1] at hs2
        subst hs2
        have HE : Hid (R = (s', false)) := q2
        clear hXX d' kp fp hla hjr hX32 hak q1 q2 hgp
        go_wp2_with fail
        go_region_held3 (fun w' => w'.cell? ⟨j, 0, none⟩ = some (.pointer (some ⟨p, 0, none⟩)) ∧ w'.cell? ⟨j, 2, none⟩ = some (.int .i64 (a : Int))) (first | exact ⟨hj4.c0, hj4.c2⟩ | exact ⟨c0, c2⟩) (first | (go_at_call 50; refine (hla2 _ (Below.drew (Below.refl _ wr))).mono ?_; rintro e w4 ⟨rfl, hW4, hj4⟩))
        have HW4 : Hid (RWrote N w3 p s' f y x w4) := hW4
        have HJ4 : Hid (Jr w4 j p c a false) := hj4
        have c34 := hj4.c3
        have f34 := hj4.fr 3
        clear hW4 hj4 hla2
        go_wp2_with fail
        go_ret
        refine HNO.out _ (by rw [HE.out]) ?_
        rw [HE.out]
        exact (RJWrote.of HJ4.out (RWrote.first HB3.out HW4.out)).set 3 (.bool true) (HJ4.out.dead true)
    · have i2 : decide ((k : Int) < (n : Int)) = false := by simp; omega
      have hon2 := rOn_any N wr p s' f y x' d'
      rcases hcase with ⟨q1, q2⟩ | ⟨q1, q2⟩
      · have HE : Hid (R = (s', true)) := by
          show _ = _
          rw [← q2, List.drop_eq_nil_of_le (by rw [HBL.out]; omega), plc, wl]
        rw [show decide (s'.left ≠ 0) = true by simp [q1]] at hon2
        clear d' kp fp hjr q1 q2
        go_wp2_with fail
        refine hon2.mono ?_
        rintro e w5 ⟨rfl, rfl⟩
        go_wp2_with fail
        go_ret
        refine HYES.out _ (by rw [HE.out]) ?_
        rw [HE.out, ← HCE.out, ← HAE.out]
        exact ((RJWrote.of HJR.out (RWrote.first HB3.out HW.out)).set 1 (.int .i64 ((c + 1 : Nat) : Int)) (HJR.out.count (c + 1))).set 2 (.int .i64 ((a + n : Nat) : Int)) ((HJR.out.count (c + 1)).endd (a + n))
      · have HE : Hid (R = (s', false)) := q2
        rw [show decide (s'.left ≠ 0) = false by simp [q1]] at hon2
        have c3r := hjr.c3
        clear d' kp fp hjr q1 q2
        go_wp2_with fail
        refine hon2.mono ?_
        rintro e w5 ⟨rfl, rfl⟩
        go_wp2_with fail
        go_ret
        refine HNO.out _ (by rw [HE.out]) ?_
        rw [HE.out]
        exact (RJWrote.of HJR.out (RWrote.first HB3.out HW.out)).set 3 (.bool true) (HJR.out.dead true)
theorem rAppend_any (N : Nat) (w : World) (j p : Nat) (s : St) (f y x : Value) (c a : Nat) (d : Bool) (t : ByteArray) (h : Rk N w p s f y x) (hj : Jr w j p c a d) (ha : a ≤ 2048) (hc : c ≤ 65535) (hlog : s.log.length + 255 ≤ 5864062014805) (hN : N ≤ w.heap.size) :
    Calls Try.prog 34 #[.pointer (some ⟨j, 0, none⟩), .string t] w fun e w' => RAppP N w j p s f y x c a d t e w' := by
  by_cases h0 : d = true ∨ s.left = 0
  · exact rAppend_down N w j p s f y x c a d t h hj h0
  · by_cases hl : 5865 < t.size
    · exact rAppend_long N w j p s f y x c a d t h hj h0 hl
    · by_cases hf : 2048 < a + np t.size ∨ 65535 ≤ c
      · exact rAppend_full N w j p s f y x c a d t h hj h0 hl ha hc hf
      · exact rAppend_go N w j p s f y x c a d t h hj h0 hl hf hlog hN
end Go.Proofs.Ytohgflimdoebiaa.Dk
