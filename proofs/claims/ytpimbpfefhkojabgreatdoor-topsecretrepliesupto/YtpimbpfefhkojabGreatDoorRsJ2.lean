/- RsA, RsEq, RsB, RsC, joined. -/
import Derived.Test.YtpimbpfefhkojabGreatDoorRsJ1
import Derived.Test.YtpimbpfefhkojabGreatDoorStJ3
import Derived.Great.Walk
import Derived.ChangeKeysEq
import Derived.Test.YtpimbpfefhkojabGreatDoorStJ1
import Derived.Test.YtpimbpfefhkojabGreatDoorStJ2
import Derived.BigQuiet
import Derived.Deep.DeepCutAuto
namespace Go.Proofs.YtpimbpfefhkojabGreatDoor.Rs
open Go.RowKit
set_option linter.unusedVariables false
set_option linter.unusedSimpArgs false

theorem info25 : (Tryz.prog.info? 45).map (·.size) = some 192 := by kernel_rfl
/- A roster lies in a block. -/
def RoAt (w : World) (B : Nat) (f : Nat → En) : Prop := w.heap[B]? = some (.cells (rcs f) 45 (0, 0))
theorem RoAt.lt {w : World} {B : Nat} {f : Nat → En} (h : RoAt w B f) : B < w.heap.size := (Array.getElem?_eq_some_iff.1 h).1
theorem RoAt.below {n : Nat} {w w' : World} {B : Nat} {f : Nat → En} (h : RoAt w B f) (hb : Below n w w') (hn : B < n) : RoAt w' B f := (hb.block B hn).trans h
theorem RoAt.later {w w' : World} {B : Nat} {f : Nat → En} (h : RoAt w B f) (hb : Below w.heap.size w w') : RoAt w' B f := h.below hb h.lt
theorem RoAt.new (w : World) (f : Nat → En) : RoAt (w.alloc (.cells (rcs f) 45)) w.heap.size f := heap_alloc_last w _
theorem ld25 {ops : Array Oper} {rest : List Oper} {o : Oper} {a : Act} {w : World} {Q : Exit → Act → World → Prop} {B : Nat} {f : Nat → En} (h : RoAt w B f) (hgd : o.guard = none) (x : Operand) (ho : o.op = .load 45 x)
    (hx : a.eval x = .pointer (some ⟨B, 0, none⟩)) (k : wpList Tryz.prog ops Q rest (a.put o.dst (.agg (rcs f))) w) : wpList Tryz.prog ops Q (o :: rest) a w :=
  wpList_load_row hgd 45 x ho B hx 45 (rcs f) (0, 0) _ h Tryz.underlying45 rfl (by rw [rcs_size]; exact info25) k
theorem ext25 (f : Nat → En) (k : Nat) (hk : k < 64) : (rcs f).extract (k * 3) (k * 3 + 3) = #[.int .i64 (f k).who, .int .i64 (f k).bas, .int .i64 (f k).snc] := by
  obtain ⟨h0, h1, h2⟩ := rcs_get f k hk
  have hs := rcs_size f
  apply Array.ext
  · simp; omega
  · intro i h3 h4
    simp at h4
    rw [Array.getElem_extract]
    match i, h4 with
    | 0, _ => simpa using (Array.getElem?_eq_some_iff.1 h0).2
    | 1, _ => simpa using (Array.getElem?_eq_some_iff.1 h1).2
    | 2, _ => simpa using (Array.getElem?_eq_some_iff.1 h2).2
theorem idx25 (f : Nat → En) (k : Nat) (hk : k < 64) (W : World) : (Instr.index 45 (.agg (rcs f)) (.int .i64 (k : Int))).run Tryz.prog W = .ok (.agg #[.int .i64 (f k).who, .int .i64 (f k).bas, .int .i64 (f k).snc]) W := by
  have hk2 : (k : Int) < 64 := by omega
  have hk3 : (0 : Int) ≤ (k : Int) := by omega
  have e := ext25 f k hk
  have hs := rcs_size f
  generalize rcs f = c at *
  simp [Instr.index, asIntOf, hk2, hk3, part, go_sem, e]
  omega
theorem tkn_pos {e : En} (h : tkn e = true) : ¬ (e.bas = 0) := by simpa [tkn] using h
theorem tkn_neg {e : En} (h : tkn e = false) : e.bas = 0 := by simpa [tkn] using h
theorem isTaken_any (e : En) (w : World) : Calls Tryz.prog 93 #[.agg #[.int .i64 e.who, .int .i64 e.bas, .int .i64 e.snc]] w fun r w' => r = .returned (.bool (tkn e)) ∧ Below w.heap.size w w' := by
  have hB : Below w.heap.size w (w.alloc (.cells #[.int .i64 e.who, .int .i64 e.bas, .int .i64 e.snc] 43)) := (Below.refl _ w).alloc (Nat.le_refl _) _
  go_enter Tryz.func93, Tryz.ntmps93
  go_wp2
  go_ret
  exact ⟨ret_bool (by simp [tkn]; rfl), hB⟩
/- An entry lies in a block. -/
def EnAt (w : World) (B : Nat) (e : En) : Prop := w.heap[B]? = some (.cells #[.int .i64 e.who, .int .i64 e.bas, .int .i64 e.snc] 43 (0, 0))
theorem EnAt.lt {w : World} {B : Nat} {f : En} (h : EnAt w B f) : B < w.heap.size := (Array.getElem?_eq_some_iff.1 h).1
theorem EnAt.below {n : Nat} {w w' : World} {B : Nat} {f : En} (h : EnAt w B f) (hb : Below n w w') (hn : B < n) : EnAt w' B f := (hb.block B hn).trans h
theorem EnAt.later {w w' : World} {B : Nat} {f : En} (h : EnAt w B f) (hb : Below w.heap.size w w') : EnAt w' B f := h.below hb h.lt
theorem EnAt.new (w : World) (e : En) : EnAt (w.alloc (.cells #[.int .i64 e.who, .int .i64 e.bas, .int .i64 e.snc] 43)) w.heap.size e := heap_alloc_last w _
theorem EnAt.cells {w : World} {B : Nat} {e : En} (h : EnAt w B e) : w.cell? ⟨B, 0, none⟩ = some (.int .i64 e.who) ∧ w.cell? ⟨B, 1, none⟩ = some (.int .i64 e.bas) ∧ w.cell? ⟨B, 2, none⟩ = some (.int .i64 e.snc) :=
  ⟨cell_of_row w B 0 _ _ _ h, cell_of_row w B 1 _ _ _ h, cell_of_row w B 2 _ _ _ h⟩
theorem RoAt.cells {w : World} {B : Nat} {f : Nat → En} (h : RoAt w B f) (k : Nat) (hk : k < 64) : w.cell? ⟨B, k * 3, none⟩ = some (.int .i64 (f k).who) ∧ w.cell? ⟨B, k * 3 + 1, none⟩ = some (.int .i64 (f k).bas) ∧ w.cell? ⟨B, k * 3 + 2, none⟩ = some (.int .i64 (f k).snc) := by
  obtain ⟨h0, h1, h2⟩ := rcs_get f k hk
  exact ⟨(cell_of_row w B _ _ _ _ h).trans h0, (cell_of_row w B _ _ _ _ h).trans h1, (cell_of_row w B _ _ _ _ h).trans h2⟩
theorem alloc_en (w : World) (e : En) : Below w.heap.size w (w.alloc (.cells #[.int .i64 e.who, .int .i64 e.bas, .int .i64 e.snc] 43)) := (Below.refl _ w).alloc (Nat.le_refl _) _
theorem alloc_ro (w : World) (f : Nat → En) : Below w.heap.size w (w.alloc (.cells (rcs f) 45)) := (Below.refl _ w).alloc (Nat.le_refl _) _
theorem isWho_any (n : Int) (w : World) : Calls Tryz.prog 100 #[.int .i64 n] w fun e w' => e = .returned (.bool (wok n)) ∧ w' = w := by
  by_cases h0 : 0 ≤ n
  · by_cases h1 : n < 256
    · go_enter Tryz.func100, Tryz.ntmps100
      go_wp2
      go_ret
      exact ⟨ret_bool (by simp [wok, h0, h1]), rfl⟩
    · go_enter Tryz.func100, Tryz.ntmps100
      go_wp2
      go_ret
      exact ⟨ret_bool (by simp [wok, h0, h1]), rfl⟩
  · go_enter Tryz.func100, Tryz.ntmps100
    go_wp2
    go_ret
    exact ⟨ret_bool (by simp [wok]; omega), rfl⟩
theorem isEpoch_any (n : Int) (w : World) : Calls Tryz.prog 49 #[.int .i64 n] w fun e w' => e = .returned (.bool (eok n)) ∧ w' = w := by
  by_cases h0 : 1 ≤ n
  · by_cases h1 : n ≤ 200
    · go_enter Tryz.func49, Tryz.ntmps49
      go_wp2
      go_ret
      exact ⟨ret_bool (by simp [eok, h0, h1]), rfl⟩
    · go_enter Tryz.func49, Tryz.ntmps49
      go_wp2
      go_ret
      exact ⟨ret_bool (by simp [eok, h0, h1]), rfl⟩
  · go_enter Tryz.func49, Tryz.ntmps49
    go_wp2
    go_ret
    exact ⟨ret_bool (by simp [eok]; omega), rfl⟩
/- The document's test of an entry. -/
set_option maxHeartbeats 1000000 in
theorem rRight_any (e : En) (w : World) : Calls Tryz.prog 82 #[.agg #[.int .i64 e.who, .int .i64 e.bas, .int .i64 e.snc]] w fun r w' => r = .returned (.bool (rgt e)) ∧ Below w.heap.size w w' := by
  have hB := alloc_en w e
  have hE : rgt e = (decide (0 ≤ e.who) && decide (e.who < 256) && decide (1 ≤ e.bas) && decide (e.bas < 32768) && (decide (1 ≤ e.snc) && decide (e.snc ≤ 200))) := rfl
  obtain ⟨a, ha⟩ : ∃ a, e.who = a := ⟨_, rfl⟩
  obtain ⟨b, hb⟩ : ∃ b, e.bas = b := ⟨_, rfl⟩
  obtain ⟨c, hc⟩ : ∃ c, e.snc = c := ⟨_, rfl⟩
  rw [ha, hb, hc] at hB hE ⊢
  rw [hE]
  clear hE ha hb hc
  by_cases h0 : 0 ≤ a
  · by_cases h1 : a < 256
    · by_cases h2 : 1 ≤ b
      · by_cases h3 : b < 32768
        · by_cases h4 : 1 ≤ c
          · by_cases h5 : c ≤ 200
            · go_enter Tryz.func82, Tryz.ntmps82
              go_wp2
              go_ret
              exact ⟨ret_bool (by simp [*]; try omega), hB⟩
            · go_enter Tryz.func82, Tryz.ntmps82
              go_wp2
              go_ret
              exact ⟨ret_bool (by simp [*]; try omega), hB⟩
          · go_enter Tryz.func82, Tryz.ntmps82
            go_wp2
            go_ret
            exact ⟨ret_bool (by simp [*]; try omega), hB⟩
        · go_enter Tryz.func82, Tryz.ntmps82
          go_wp2
          go_ret
          exact ⟨ret_bool (by simp [*]; try omega), hB⟩
      · go_enter Tryz.func82, Tryz.ntmps82
        go_wp2
        go_ret
        exact ⟨ret_bool (by simp [*]; try omega), hB⟩
    · go_enter Tryz.func82, Tryz.ntmps82
      go_wp2
      go_ret
      exact ⟨ret_bool (by simp [*]; try omega), hB⟩
  · go_enter Tryz.func82, Tryz.ntmps82
    go_wp2
    go_ret
    exact ⟨ret_bool (by simp [*]; try omega), hB⟩
set_option maxHeartbeats 1000000 in
theorem isRight_any (e : En) (w : World) : Calls Tryz.prog 69 #[.agg #[.int .i64 e.who, .int .i64 e.bas, .int .i64 e.snc]] w fun r w' => r = .returned (.bool (rgp e)) ∧ Below w.heap.size w w' := by
  have hB := alloc_en w e
  have hN := EnAt.new w e
  have ht := isTaken_any e
  have hW := isWho_any e.who
  have hP := isEpoch_any e.snc
  have hE : rgp e = if tkn e then (wok e.who && decide (1 ≤ e.bas) && decide (e.bas < 32768) && eok e.snc) else (decide (e.who = 0) && decide (e.bas = 0) && decide (e.snc = 0)) := rfl
  go_enter Tryz.func69, Tryz.ntmps69
  go_wp2_with fail
  refine (ht _).mono ?_
  rintro r w2 ⟨rfl, hb2⟩
  have hN2 := hN.later hb2
  have HB : Hid (Below w.heap.size w w2) := hB.trans (hb2.mono hB.size)
  obtain ⟨c0, c1, c2⟩ := hN2.cells
  clear hN hN2 hb2 hB ht
  obtain ⟨a, ha⟩ : ∃ a, e.who = a := ⟨_, rfl⟩
  obtain ⟨b, hb⟩ : ∃ b, e.bas = b := ⟨_, rfl⟩
  obtain ⟨c, hc⟩ : ∃ c, e.snc = c := ⟨_, rfl⟩
  rw [ha] at c0 hW ⊢
  rw [hb] at c1 ⊢
  rw [hc] at c2 hP ⊢
  rw [ha, hb, hc] at hE
  have HE : Hid (rgp e = if tkn e then (wok a && decide (1 ≤ b) && decide (b < 32768) && eok c) else (decide (a = 0) && decide (b = 0) && decide (c = 0))) := hE
  clear hE
  cases hk : tkn e with
  | false =>
    have hb0 : b = 0 := by rw [← hb]; exact tkn_neg hk
    clear ha hb hc hW hP
    subst hb0
    go_wp2_with fail
    all_goals go_ret
    all_goals exact ⟨ret_bool (by rw [HE.out, hk]; simp; try omega), HB.out⟩
  | true =>
    clear ha hb hc
    cases hw : wok a with
    | false =>
      rw [hw] at hW
      go_wp2_with (first | (go_at_call 100; refine (hW _).mono ?_; rintro r w' ⟨rfl, rfl⟩))
      go_ret
      exact ⟨ret_bool (by rw [HE.out, hk, hw]; simp), HB.out⟩
    | true =>
      rw [hw] at hW
      by_cases h1 : 1 ≤ b
      · by_cases h2 : b < 32768
        · go_wp2_with (first | (go_at_call 100; refine (hW _).mono ?_; rintro r w' ⟨rfl, rfl⟩) | (go_at_call 49; refine (hP _).mono ?_; rintro r w' ⟨rfl, rfl⟩))
          go_ret
          exact ⟨ret_bool (by rw [HE.out, hk, hw]; simp [h1, h2]), HB.out⟩
        · go_wp2_with (first | (go_at_call 100; refine (hW _).mono ?_; rintro r w' ⟨rfl, rfl⟩))
          go_ret
          exact ⟨ret_bool (by rw [HE.out, hk, hw]; simp [h2]; try omega), HB.out⟩
      · go_wp2_with (first | (go_at_call 100; refine (hW _).mono ?_; rintro r w' ⟨rfl, rfl⟩))
        go_ret
        exact ⟨ret_bool (by rw [HE.out, hk, hw]; simp [h1]; try omega), HB.out⟩
set_option maxHeartbeats 1000000 in
theorem clashes_any (e d : En) (w : World) : Calls Tryz.prog 70 #[.agg #[.int .i64 e.who, .int .i64 e.bas, .int .i64 e.snc], .agg #[.int .i64 d.who, .int .i64 d.bas, .int .i64 d.snc]] w fun r w' => r = .returned (.bool (clh e d)) ∧ Below w.heap.size w w' := by
  have hB1 := alloc_en w e
  have hN1 := EnAt.new w e
  have hB2 := alloc_en (w.alloc (.cells #[.int .i64 e.who, .int .i64 e.bas, .int .i64 e.snc] 43)) d
  have hN2 := EnAt.new (w.alloc (.cells #[.int .i64 e.who, .int .i64 e.bas, .int .i64 e.snc] 43)) d
  have hN1' := hN1.later hB2
  have hB := hB1.trans (hB2.mono hB1.size)
  have ht := isTaken_any e
  have ht2 := isTaken_any d
  have hE : clh e d = (tkn e && tkn d && (decide (e.who = d.who) || decide (e.bas = d.bas))) := rfl
  go_enter Tryz.func70, Tryz.ntmps70
  go_wp2_with fail
  refine (ht _).mono ?_
  rintro r w2 ⟨rfl, hb2⟩
  have hP1 := hN1'.later hb2
  have hP2 := hN2.later hb2
  have hB3 := hB.trans (hb2.mono hB.size)
  simp only [World.size_alloc] at hP2
  obtain ⟨c0, c1, c2⟩ := hP1.cells
  obtain ⟨d0, d1, d2⟩ := hP2.cells
  clear hN1 hN1' hN2 hB1 hB2 hB hb2 ht
  have HE : Hid (clh e d = (tkn e && tkn d && (decide (e.who = d.who) || decide (e.bas = d.bas)))) := hE
  clear hE
  cases hk : tkn e with
  | false =>
    go_wp2_with fail
    go_ret
    exact ⟨ret_bool (by rw [HE.out, hk]; simp), hB3⟩
  | true =>
    go_wp2_with fail
    refine (ht2 _).mono ?_
    rintro r w3 ⟨rfl, hb3⟩
    have hP3 := hP1.later hb3
    have hP4 := hP2.later hb3
    have hB4 := hB3.trans (hb3.mono hB3.size)
    clear c0 c1 c2 d0 d1 d2 hP1 hP2 hB3 hb3 ht2
    obtain ⟨c0, c1, c2⟩ := hP3.cells
    obtain ⟨d0, d1, d2⟩ := hP4.cells
    cases hk2 : tkn d with
    | false =>
      go_wp2_with fail
      go_ret
      exact ⟨ret_bool (by rw [HE.out, hk, hk2]; simp), hB4⟩
    | true =>
      by_cases hw : e.who = d.who
      · go_wp2_with fail
        go_ret
        exact ⟨ret_bool (by rw [HE.out, hk, hk2]; simp [hw]), hB4⟩
      · have hw2 : (e.who == d.who) = false := by simp [hw]
        go_wp2_with fail
        go_ret
        exact ⟨ret_bool (by rw [HE.out, hk, hk2]; simp [hw]; rw [Bool.eq_iff_iff]; simp), hB4⟩
set_option maxRecDepth 100000 in
set_option maxHeartbeats 400000 in
theorem find_any (f : Nat → En) (x : Int) (w : World) : Calls Tryz.prog 72 #[.agg (rcs f), .int .i64 x] w fun r w' => r = .returned (.int .i64 (fnd f x)) ∧ Below w.heap.size w w' := by
  have hn := RoAt.new w f
  have hB1 := alloc_ro w f
  go_enter Tryz.func72, Tryz.ntmps72
  go_upto_region 1 with (fail)
  generalize w.alloc (.cells (rcs f) 45) = w1 at *
  refine wp_region_lit ?_
  refine ld25 hn rfl _ rfl rfl ?_
  obtain ⟨c, hc⟩ : ∃ c, rcs f = c := ⟨_, rfl⟩
  rw [hc]
  go_wp2_with fail
  go_loopw [8] (fun i wx => ∃ k : Nat, k ≤ 64 ∧ i = .int .i64 (k : Int) ∧ Below w1.heap.size w1 wx ∧ fnd f x = fd f x k (64 - k)) (fun i _ => 64 - (intOf i).toNat)
  case atStart => exact ⟨0, by omega, rfl, Below.refl _ _, rfl⟩
  case round =>
    obtain ⟨k, hk, rfl, hb, hf⟩ := hrel
    have HB : Hid (Below w.heap.size w wr) := hB1.trans (hb.mono hB1.size)
    have HBW : Hid (Below w1.heap.size w1 wr) := hb
    have HF : Hid (fnd f x = fd f x k (64 - k)) := hf
    clear hb hf
    by_cases hk8 : k < 64
    · have k8 : (k : Int) < 64 := by omega
      have ht := isTaken_any (f k)
      have hi := idx25 f k hk8
      rw [hc] at hi
      have hE := EnAt.new wr (f k)
      have hBE := alloc_en wr (f k)
      have HS : Hid (fnd f x = if at' f x k then (k : Int) else fd f x (k + 1) (64 - (k + 1))) := by rw [← fd_step f x hk8]; exact HF.out
      have hat : at' f x k = (tkn (f k) && decide ((f k).who = x)) := rfl
      rw [hat] at HS
      generalize f k = e at *
      clear hc hat HF
      go_wp2_with fail
      refine (ht _).mono ?_
      rintro r w2 ⟨rfl, hb2⟩
      obtain ⟨c0, c1, c2⟩ := (hE.later hb2).cells
      have HB2 : Hid (Below wr.heap.size wr w2) := hBE.trans (hb2.mono hBE.size)
      clear hE hBE hb2 ht hi
      cases hk : tkn e with
      | false =>
        go_wp2_with fail
        go_roundw
        case rel => exact ⟨k + 1, by omega, by go_num, HBW.out.trans (HB2.out.mono HBW.out.size), by rw [HS.out, hk]; rfl⟩
        case measure => simp [intOf]; omega
      | true =>
        by_cases hx : e.who = x
        · go_wp2_with fail
          go_ret
          exact ⟨ret_int (by rw [HS.out, hk, hx]; simp), HB.out.trans (HB2.out.mono HB.out.size)⟩
        · go_wp2_with fail
          go_roundw
          case rel => exact ⟨k + 1, by omega, by go_num, HBW.out.trans (HB2.out.mono HBW.out.size), by rw [HS.out, hk]; simp [hx]⟩
          case measure => simp [intOf]; omega
    · obtain rfl : k = 64 := by omega
      go_wp2_with fail
      go_ret
      exact ⟨ret_int (by rw [HF.out]; rfl), HB.out⟩
open Go.RowKit Go.Great

def eqE (a b : En) : Bool := decide (a.who = b.who) && decide (a.bas = b.bas) && decide (a.snc = b.snc)
theorem eqE_iff {a b : En} : eqE a b = true ↔ a = b := by
  simp only [eqE, Bool.and_eq_true, decide_eq_true_eq]
  exact ⟨fun h => En.ext' h.1.1 h.1.2 h.2, fun h => by subst h; simp⟩
theorem run_eqEn (d : Nat) (a b : En) (w : World) : (Op.equalIn (d + 2) 43 (.agg #[.int .i64 a.who, .int .i64 a.bas, .int .i64 a.snc]) (.agg #[.int .i64 b.who, .int .i64 b.bas, .int .i64 b.snc])).run Tryz.prog w = .ok (eqE a b) w := by
  have e1 : ∀ x y : Int, (x == y) = decide (x = y) := fun x y => by rw [Bool.eq_iff_iff]; simp
  rw [run_equalIn_agg w (d + 1) 43 _ _ (by kernel_rfl) (by kernel_rfl)]
  by_cases h1 : a.who = b.who <;> by_cases h2 : a.bas = b.bas <;> by_cases h3 : a.snc = b.snc <;> simp [eqE, go_sem, part, h1, h2, h3]
def eqB (f g : Nat → En) : Bool := (List.range 64).all fun i => eqE (f i) (g i)
theorem eqB_iff {f g : Nat → En} : eqB f g = true ↔ ∀ i, i < 64 → f i = g i := by
  unfold eqB
  rw [List.all_eq_true]
  exact ⟨fun h i hi => eqE_iff.1 (h i (List.mem_range.2 hi)), fun h i hi => eqE_iff.2 (h i (List.mem_range.1 hi))⟩
theorem eqB_refl (f : Nat → En) : eqB f f = true := eqB_iff.2 fun _ _ => rfl
theorem part25 (f : Nat → En) (i : Nat) (hi : i < 64) (w : World) : (part 43 (rcs f) (i * 3)).run Tryz.prog w = .ok (.agg #[.int .i64 (f i).who, .int .i64 (f i).bas, .int .i64 (f i).snc]) w := by
  have e := ext25 f i hi
  simp [part, go_sem, e]
theorem eqItems25 (f g : Nat → En) (d : Nat) (w : World) : ∀ l : List Nat, (∀ i ∈ l, i < 64) → (Op.eqItems (d + 2) 43 3 (rcs f) (rcs g) l).run Tryz.prog w = .ok (l.all fun i => eqE (f i) (g i)) w
  | [], _ => by simp [Op.eqItems]
  | i :: l, h => by
    have hi := h i (by simp)
    have ih := eqItems25 f g d w l fun j hj => h j (by simp [hj])
    cases he : eqE (f i) (g i) with
    | false => simp [Op.eqItems, Sem.run_bind, Sem.run_ite, part25 _ i hi, Result.andThen_ok, run_eqEn d, he]
    | true => simp [Op.eqItems, Sem.run_bind, Sem.run_ite, part25 _ i hi, Result.andThen_ok, run_eqEn d, he, ih]
theorem info_en : (Tryz.prog.info? 43).isSome = true := by kernel_rfl
theorem cells_en : Tryz.prog.cellsOf 43 = 3 := by kernel_rfl
theorem eq23 {ops : Array Oper} {rest : List Oper} {o : Oper} {a : Act} {w : World} {Q : Exit → Act → World → Prop} {e d : En} {b : Bool} (hb : eqE e d = b) (hgd : o.guard = none) (x y : Operand) (ho : o.op = .binOp .eql 43 x y 43)
    (hx : a.eval x = .agg #[.int .i64 e.who, .int .i64 e.bas, .int .i64 e.snc]) (hy : a.eval y = .agg #[.int .i64 d.who, .int .i64 d.bas, .int .i64 d.snc]) (k : wpList Tryz.prog ops Q rest (a.put o.dst (.bool b)) w) : wpList Tryz.prog ops Q (o :: rest) a w := by
  subst hb
  refine wpList_readTo hgd o.dst rfl (.bool (eqE e d)) ?_ k
  have h1 := run_eqGuard_agg (P := Tryz.prog) w .eql 43 x y #[.int .i64 e.who, .int .i64 e.bas, .int .i64 e.snc] #[.int .i64 d.who, .int .i64 d.bas, .int .i64 d.snc] Tryz.eqGuardType43
  have h2 := run_eql_struct (P := Tryz.prog) w 43 #[.int .i64 e.who, .int .i64 e.bas, .int .i64 e.snc] #[.int .i64 d.who, .int .i64 d.bas, .int .i64 d.snc]
  rw [run_eqEn 9998] at h2
  simp [execOp, ho, hx, hy, h1, h2, Sem.run_bind, Result.andThen]

set_option maxRecDepth 100000 in
set_option maxHeartbeats 400000 in
theorem rFind_any (f : Nat → En) (x : Int) (w : World) : Calls Tryz.prog 37 #[.agg (rcs f), .int .i64 x] w fun r w' => r = .returned (.int .i64 (fnd f x)) ∧ Below w.heap.size w w' := by
  have hn := RoAt.new w f
  have hB1 := alloc_ro w f
  go_enter Tryz.func37, Tryz.ntmps37
  go_upto_region 1 with (fail)
  generalize w.alloc (.cells (rcs f) 45) = w1 at *
  obtain ⟨c, hc⟩ : ∃ c, rcs f = c := ⟨_, rfl⟩
  rw [hc]
  clear hc
  go_wp2_with fail
  go_loop [5] (fun i => ∃ k : Nat, k ≤ 64 ∧ i = .int .i64 (k : Int) ∧ fnd f x = fd f x k (64 - k)) (fun i => 64 - (intOf i).toNat)
  case atStart => exact ⟨0, by omega, rfl, rfl⟩
  case round =>
    obtain ⟨k, hk, rfl, hf⟩ := hrel
    have HF : Hid (fnd f x = fd f x k (64 - k)) := hf
    clear hf
    by_cases hk8 : k < 64
    · have k8 : (k : Int) < 64 := by omega
      have HS : Hid (fnd f x = if at' f x k then (k : Int) else fd f x (k + 1) (64 - (k + 1))) := by rw [← fd_step f x hk8]; exact HF.out
      have hat : at' f x k = (tkn (f k) && decide ((f k).who = x)) := rfl
      obtain ⟨c0, c1, c2⟩ := hn.cells k hk8
      rw [hat] at HS
      generalize f k = e at *
      clear hat HF hn
      cases ht : tkn e with
      | false =>
        have hb0 := tkn_neg ht
        go_wp2_with fail
        go_round
        case rel => exact ⟨k + 1, by omega, by go_num, by rw [HS.out, ht]; rfl⟩
        case measure => simp [intOf]; omega
      | true =>
        have hb0 := tkn_pos ht
        by_cases hx : e.who = x
        · go_wp2_with fail
          go_ret
          exact ⟨ret_int (by rw [HS.out, ht, hx]; simp), hB1⟩
        · have q1 : (e.bas != 0) = true := by simp [hb0]
          have q2 : (e.who == x) = false := by simp [hx]
          go_wp2_with fail
          go_round
          case rel => exact ⟨k + 1, by omega, by go_num, by rw [HS.out, ht]; simp [hx]⟩
          case measure => simp [intOf]; omega
    · obtain rfl : k = 64 := by omega
      go_wp2_with fail
      go_ret
      exact ⟨ret_int (by rw [HF.out]; rfl), hB1⟩
set_option maxRecDepth 100000 in
set_option maxHeartbeats 400000 in
theorem taken_any (f : Nat → En) (w : World) : Calls Tryz.prog 60 #[.agg (rcs f)] w fun r w' => r = .returned (.int .u64 ((tk f : Nat) : Int)) ∧ Below w.heap.size w w' := by
  have hn := RoAt.new w f
  have hB1 := alloc_ro w f
  go_enter Tryz.func60, Tryz.ntmps60
  go_upto_region 2 with (fail)
  generalize w.alloc (.cells (rcs f) 45) = w1 at *
  refine wp_region_lit ?_
  refine ld25 hn rfl _ rfl rfl ?_
  obtain ⟨c, hc⟩ : ∃ c, rcs f = c := ⟨_, rfl⟩
  rw [hc]
  go_wp2_with fail
  go_loopw [3, 7] (fun t i wx => ∃ k : Nat, k ≤ 64 ∧ i = .int .i64 (k : Int) ∧ t = .int .u64 ((tkw f k : Nat) : Int) ∧ Below w1.heap.size w1 wx) (fun _ i _ => 64 - (intOf i).toNat)
  case atStart => exact ⟨0, by omega, rfl, rfl, Below.refl _ _⟩
  case round =>
    obtain ⟨k, hk, rfl, rfl, hb⟩ := hrel
    have HB : Hid (Below w.heap.size w wr) := hB1.trans (hb.mono hB1.size)
    have HBW : Hid (Below w1.heap.size w1 wr) := hb
    clear hb
    by_cases hk8 : k < 64
    · have k8 : (k : Int) < 64 := by omega
      have ht := isTaken_any (f k)
      have hi := idx25 f k hk8
      rw [hc] at hi
      have hBE := alloc_en wr (f k)
      have hp := put_any (tkw f k) (tkw_lt f k (by omega)) (k : Int)
      rw [putR_sl hk8] at hp
      have hst : tkw f (k + 1) = if tkn (f k) then put (tkw f k) k else tkw f k := rfl
      have HST : Hid (tkw f (k + 1) = if tkn (f k) then put (tkw f k) k else tkw f k) := hst
      generalize tkw f k = q at *
      clear hst
      generalize put q k = pq at *
      generalize f k = e at *
      clear hc
      go_wp2_with fail
      refine (ht _).mono ?_
      rintro r w2 ⟨rfl, hb2⟩
      have HB2 : Hid (Below wr.heap.size wr w2) := hBE.trans (hb2.mono hBE.size)
      clear hBE hb2 ht hi
      cases hkt : tkn e with
      | false =>
        go_wp2_with fail
        go_roundw
        case rel => exact ⟨k + 1, by omega, by go_num, by rw [HST.out, hkt]; rfl, HBW.out.trans (HB2.out.mono HBW.out.size)⟩
        case measure => simp [intOf]; omega
      | true =>
        go_wp2_with (go_at_call 53; refine (hp _).mono ?_; rintro r w3 ⟨rfl, rfl⟩)
        go_roundw
        case rel => exact ⟨k + 1, by omega, by go_num, by rw [HST.out, hkt]; rfl, HBW.out.trans (HB2.out.mono HBW.out.size)⟩
        case measure => simp [intOf]; omega
    · obtain rfl : k = 64 := by omega
      go_wp2_with fail
      go_ret
      exact ⟨rfl, HB.out⟩
/- The document's Taken. -/
def tks (f : Nat → En) (k : Nat) : Array Value := plf fun i => decide (i < k) && tkn (f i)
theorem tks_zero (f : Nat → En) : tks f 0 = plf fun _ => false := plf_congr fun i _ => by simp
theorem tks_all (f : Nat → En) : tks f 64 = plf fun i => tkn (f i) := plf_congr fun i hi => by simp [hi]
theorem tks_set (f : Nat → En) (k : Nat) (hk : k < 64) : (tks f k).setIfInBounds k (.bool (tkn (f k))) = tks f (k + 1) := by
  unfold tks
  rw [plf_set _ _ _ hk]
  apply plf_congr
  intro i hi
  by_cases h : i = k
  · subst h; simp
  · rw [if_neg h, show decide (i < k) = decide (i < k + 1) by simp; omega]
theorem tks_get (f : Nat → En) (k : Nat) (hk : k < 64) : (tks f k)[k]? = some (.bool false) := by
  unfold tks
  rw [plf_get _ _ hk]
  simp
@[simp] theorem tks_size (f : Nat → En) (k : Nat) : (tks f k).size = 64 := by simp [tks]
theorem cell_alloc_lt {w : World} {a : Addr} {v : Value} (h : w.cell? a = some v) (o : Obj) : (w.alloc o).cell? a = some v := cell_later ((Below.refl _ w).alloc (Nat.le_refl _) o) h
set_option maxRecDepth 100000 in
set_option maxHeartbeats 400000 in
theorem rTaken_any (f : Nat → En) (w : World) : Calls Tryz.prog 77 #[.agg (rcs f)] w fun r w' => r = .returned (.int .u64 ((tk f : Nat) : Int)) ∧ Below w.heap.size w w' := by
  have hn := RoAt.new w f
  have hB1 := alloc_ro w f
  go_enter Tryz.func77, Tryz.ntmps77
  go_upto_region 1 with (fail)
  have hsz : w.heap.size + 1 = (w.alloc (.cells (rcs f) 45)).heap.size := by simp
  generalize w.alloc (.cells (rcs f) 45) = w1 at *
  obtain ⟨c, hc⟩ : ∃ c, rcs f = c := ⟨_, rfl⟩
  rw [hc]
  clear hc hsz
  go_wp2_with fail
  rw [show (#[Value.bool false, Value.bool false, Value.bool false, Value.bool false, Value.bool false, Value.bool false, Value.bool false, Value.bool false, Value.bool false, Value.bool false, Value.bool false, Value.bool false, Value.bool false, Value.bool false, Value.bool false, Value.bool false, Value.bool false, Value.bool false, Value.bool false, Value.bool false, Value.bool false, Value.bool false, Value.bool false, Value.bool false, Value.bool false, Value.bool false, Value.bool false, Value.bool false, Value.bool false, Value.bool false, Value.bool false, Value.bool false, Value.bool false, Value.bool false, Value.bool false, Value.bool false, Value.bool false, Value.bool false, Value.bool false, Value.bool false, Value.bool false, Value.bool false, Value.bool false, Value.bool false, Value.bool false, Value.bool false, Value.bool false, Value.bool false, Value.bool false, Value.bool false, Value.bool false, Value.bool false, Value.bool false, Value.bool false, Value.bool false, Value.bool false, Value.bool false, Value.bool false, Value.bool false, Value.bool false, Value.bool false, Value.bool false, Value.bool false, Value.bool false] : Array Value) = plf (fun _ => false) from rfl, ← tks_zero f]
  go_loopw [4] (fun i wx => ∃ k : Nat, k ≤ 64 ∧ i = .int .i64 (k : Int) ∧ wx = w1.alloc (.cells (tks f k) 154)) (fun i _ => 64 - (intOf i).toNat)
  case atStart => exact ⟨0, by omega, rfl, rfl⟩
  case round =>
    obtain ⟨k, hk, rfl, rfl⟩ := hrel
    by_cases hk8 : k < 64
    · have k8 : (k : Int) < 64 := by omega
      have hget := tks_get f k hk8
      have hset := tks_set f k hk8
      obtain ⟨c0, c1, c2⟩ := hn.cells k hk8
      have d1 := fun o => cell_alloc_lt c1 o
      have HS : Hid ((tks f k).setIfInBounds k (.bool (tkn (f k))) = tks f (k + 1)) := hset
      clear hset c0 c1 c2 hn
      have htk : (!decide ((f k).bas = 0)) = tkn (f k) := rfl
      go_wp2_with fail
      go_roundw
      case rel =>
        refine ⟨k + 1, by omega, by go_num, ?_⟩
        have hb : ((f k).bas != 0) = tkn (f k) := by rw [← htk]; rfl
        rw [hb, HS.out]
      case measure => simp [intOf]; omega
    · obtain rfl : k = 64 := by omega
      have hP := heap_alloc_last w1 (.cells (tks f 64) 154)
      have hB2 : Below w.heap.size w (w1.alloc (.cells (tks f 64) 154)) := hB1.trans (((Below.refl _ w1).alloc (Nat.le_refl _) _).mono hB1.size)
      have hw := word_any (fun i => tkn (f i))
      rw [wd_tk, ← tks_all] at hw
      generalize w1.alloc (.cells (tks f 64) 154) = w2 at *
      go_upto_region 6 with (fail)
      refine wp_region_lit ?_
      refine wpList_load_row rfl 154 _ rfl w1.heap.size rfl 154 (tks f 64) (0, 0) _ hP Tryz.underlying154 rfl (by rw [tks_size]; exact info45) ?_
      generalize tks f 64 = c2 at *
      go_wp2_with fail
      refine (hw _).mono ?_
      rintro r w3 ⟨rfl, hb3⟩
      clear hw
      go_wp2_with fail
      go_ret
      exact ⟨rfl, hB2.trans (hb3.mono hB2.size)⟩

set_option maxRecDepth 100000 in
set_option maxHeartbeats 400000 in
theorem check_any (f : Nat → En) (w : World) : Calls Tryz.prog 30 #[.agg (rcs f)] w fun r w' => r = .returned (.int .i64 (chkE f)) ∧ Below w.heap.size w w' := by
  have hn := RoAt.new w f
  have hB1 := alloc_ro w f
  go_enter Tryz.func30, Tryz.ntmps30
  go_upto_region 1 with (fail)
  generalize w.alloc (.cells (rcs f) 45) = w1 at *
  refine wp_region_lit ?_
  refine ld25 hn rfl _ rfl rfl ?_
  obtain ⟨c, hc⟩ : ∃ c, rcs f = c := ⟨_, rfl⟩
  rw [hc]
  go_wp2_with fail
  go_loopw [8] (fun i wx => ∃ k : Nat, k ≤ 64 ∧ i = .int .i64 (k : Int) ∧ Below w1.heap.size w1 wx ∧ ∀ j, j < k → okp f j = true) (fun i _ => 64 - (intOf i).toNat)
  case atStart => exact ⟨0, by omega, rfl, Below.refl _ _, fun j hj => by omega⟩
  case round =>
    obtain ⟨k, hk, rfl, hb, hf⟩ := hrel
    have HB : Hid (Below w.heap.size w wr) := hB1.trans (hb.mono hB1.size)
    have HBW : Hid (Below w1.heap.size w1 wr) := hb
    have HF : Hid (∀ j, j < k → okp f j = true) := hf
    clear hb hf
    by_cases hk8 : k < 64
    · have k8 : (k : Int) < 64 := by omega
      have k9 : (k : Int) ≤ 64 := by omega
      have ht := isRight_any (f k)
      have hi := idx25 f k hk8
      rw [hc] at hi
      have hE := EnAt.new wr (f k)
      have hBE := alloc_en wr (f k)
      obtain ⟨e, he⟩ : ∃ e, f k = e := ⟨_, rfl⟩
      rw [he] at ht hi hE hBE
      have HE : Hid (f k = e) := he
      clear hc he
      go_wp2_with fail
      refine (ht _).mono ?_
      rintro r w2 ⟨rfl, hb2⟩
      have hE2 := hE.later hb2
      have HB2 : Hid (Below wr.heap.size wr w2) := hBE.trans (hb2.mono hBE.size)
      have hB12 : Below w1.heap.size w1 w2 := HBW.out.trans (HB2.out.mono HBW.out.size)
      have hR2 := hn.later hB12
      have HB3 : Hid (Below w.heap.size w w2) := HB.out.trans (HB2.out.mono HB.out.size)
      obtain ⟨Be, hBe⟩ : ∃ Be, wr.heap.size = Be := ⟨_, rfl⟩
      rw [hBe] at hE2 ⊢
      clear hE hBE hb2 ht hi HB HB2 HBW hBe
      cases hkt : rgp e with
      | false =>
        go_wp2_with fail
        go_ret
        exact ⟨ret_int (by rw [chkE_bad hk8 (by unfold okp; rw [HE.out, hkt]; rfl)]), HB3.out⟩
      | true =>
        go_wp2_with fail
        go_loopw [18] (fun i wx => ∃ j : Nat, j ≤ k ∧ i = .int .i64 (j : Int) ∧ Below w2.heap.size w2 wx ∧ ∀ m, m < j → clh (f m) e = false) (fun i _ => k - (intOf i).toNat)
        case atStart => exact ⟨0, by omega, rfl, Below.refl _ _, fun j hj => by omega⟩
        case round =>
          obtain ⟨j, hj, rfl, hb, hf⟩ := hrel
          have HBX : Hid (Below w2.heap.size w2 wr) := hb
          have HG : Hid (∀ m, m < j → clh (f m) e = false) := hf
          have hR := hR2.later hb
          have hE3 := hE2.later hb
          clear hf hb
          by_cases hjk : j < k
          · have j1 : (j : Int) < (k : Int) := by omega
            have j2 : (0 : Int) ≤ (j : Int) := by omega
            obtain ⟨c0, c1, c2⟩ := hR.cells j (by omega)
            obtain ⟨d0, d1, d2⟩ := hE3.cells
            have e0 := fun o => cell_alloc_lt d0 o
            have e1 := fun o => cell_alloc_lt d1 o
            have e2 := fun o => cell_alloc_lt d2 o
            have hcl := clashes_any (f j) e
            have hBE := alloc_en wr (f j)
            have HJ : Hid (clh (f j) e = clh (f j) e) := rfl
            clear d0 d1 d2 hR hE3
            obtain ⟨d, hd⟩ : ∃ d, f j = d := ⟨_, rfl⟩
            rw [hd] at c0 c1 c2 hcl hBE
            have HD : Hid (f j = d) := hd
            clear hd
            go_wp2_with fail
            refine (hcl _).mono ?_
            rintro r w3 ⟨rfl, hb3⟩
            have HB4 : Hid (Below wr.heap.size wr w3) := hBE.trans (hb3.mono hBE.size)
            clear hcl hBE hb3 c0 c1 c2 e0 e1 e2
            cases hcc : clh d e with
            | false =>
              go_wp2_with fail
              go_roundw
              case rel =>
                refine ⟨j + 1, by omega, by go_num, HBX.out.trans (HB4.out.mono HBX.out.size), fun m hm => ?_⟩
                rcases Nat.lt_or_ge m j with h | h
                · exact HG.out m h
                · obtain rfl : m = j := by omega
                  rw [HD.out]
                  exact hcc
              case measure => simp [intOf]; omega
            | true =>
              go_wp2_with fail
              go_ret
              have hbb := HB3.out.trans (HBX.out.mono HB3.out.size)
              exact ⟨ret_int (by rw [chkE_bad hk8 (by unfold okp; rw [HE.out, range_bad hjk (by rw [HD.out]; exact hcc)]; simp)]), hbb.trans (HB4.out.mono hbb.size)⟩
          · obtain rfl : j = k := by omega
            have j1 : ¬ ((j : Int) < (j : Int)) := by omega
            go_wp2_with fail
            go_roundw
            case rel =>
              refine ⟨j + 1, by omega, by go_num, hB12.trans (HBX.out.mono hB12.size), fun m hm => ?_⟩
              rcases Nat.lt_or_ge m j with h | h
              · exact HF.out m h
              · obtain rfl : m = j := by omega
                unfold okp
                rw [HE.out, hkt, range_good HG.out]
                rfl
            case measure => simp [intOf]; omega
    · obtain rfl : k = 64 := by omega
      go_wp2_with fail
      go_ret
      exact ⟨ret_int (by rw [chkE_good HF.out]), HB.out⟩
set_option maxRecDepth 100000 in
set_option maxHeartbeats 4000000 in
theorem rCheck_any (f : Nat → En) (w : World) : Calls Tryz.prog 42 #[.agg (rcs f)] w fun r w' => r = .returned (.int .i64 (chkE f)) ∧ Below w.heap.size w w' := by
  have hn := RoAt.new w f
  have hB1 := alloc_ro w f
  go_enter Tryz.func42, Tryz.ntmps42
  go_upto_region 1 with (fail)
  generalize w.alloc (.cells (rcs f) 45) = w1 at *
  obtain ⟨c, hc⟩ : ∃ c, rcs f = c := ⟨_, rfl⟩
  rw [hc]
  clear hc
  go_wp2_with fail
  go_loopw [3] (fun i wx => ∃ k : Nat, k ≤ 64 ∧ i = .int .i64 (k : Int) ∧ Below w1.heap.size w1 wx ∧ ∀ j, j < k → okr f j = true) (fun i _ => 64 - (intOf i).toNat)
  case atStart => exact ⟨0, by omega, rfl, Below.refl _ _, fun j hj => by omega⟩
  case round =>
    obtain ⟨k, hk, rfl, hb, hf⟩ := hrel
    have HB : Hid (Below w.heap.size w wr) := hB1.trans (hb.mono hB1.size)
    have HBW : Hid (Below w1.heap.size w1 wr) := hb
    have HF : Hid (∀ j, j < k → okr f j = true) := hf
    have hR := hn.later hb
    clear hb hf
    by_cases hk8 : k < 64
    · have k8 : (k : Int) < 64 := by omega
      obtain ⟨c0, c1, c2⟩ := hR.cells k hk8
      have ht := rRight_any (f k)
      have hz : isz (f k) = (decide ((f k).who = 0) && decide ((f k).bas = 0) && decide ((f k).snc = 0)) := rfl
      obtain ⟨e, he⟩ : ∃ e, f k = e := ⟨_, rfl⟩
      rw [he] at ht c0 c1 c2 hz
      have HE : Hid (f k = e) := he
      have HZ : Hid (isz e = (decide (e.who = 0) && decide (e.bas = 0) && decide (e.snc = 0))) := hz
      clear he hz
      cases hzz : isz e with
      | true =>
        clear ht
        have hzq : eqE e zE = true := hzz
        go_wp2_with (refine eq23 (e := e) (d := zE) hzq rfl _ _ rfl rfl rfl ?_)
        go_roundw
        case rel =>
          refine ⟨k + 1, by omega, by go_num, HBW.out, fun m hm => ?_⟩
          rcases Nat.lt_or_ge m k with h | h
          · exact HF.out m h
          · obtain rfl : m = k := by omega
            unfold okr
            rw [HE.out, hzz]
            rfl
        case measure => simp [intOf]; omega
      | false =>
        have hzq : eqE e zE = false := hzz
        go_wp2_with (refine eq23 (e := e) (d := zE) hzq rfl _ _ rfl rfl rfl ?_)
        refine (ht _).mono ?_
        rintro r w2 ⟨rfl, hb2⟩
        have hR2 := hR.later hb2
        have HB3 : Hid (Below w.heap.size w w2) := HB.out.trans (hb2.mono HB.out.size)
        have hB12 : Below w1.heap.size w1 w2 := HBW.out.trans (hb2.mono HBW.out.size)
        clear ht hb2 HB HBW hR
        cases hkt : rgt e with
        | false =>
          go_wp2_with fail
          go_ret
          exact ⟨ret_int (by rw [chkE_bad hk8 (by rw [okp_okr]; unfold okr; rw [HE.out, hkt, hzz]; rfl)]), HB3.out⟩
        | true =>
          clear c0 c1 c2
          go_wp2_with fail
          go_loopw [4] (fun i wx => ∃ j : Nat, j ≤ k ∧ i = .int .i64 (j : Int) ∧ Below w2.heap.size w2 wx ∧ ∀ m, m < j → (tkn (f m) && alike (f m) e) = false) (fun i _ => k - (intOf i).toNat)
          case atStart => exact ⟨0, by omega, rfl, Below.refl _ _, fun j hj => by omega⟩
          case round =>
            obtain ⟨j, hj, rfl, hbq, hf⟩ := hrel
            have HG : Hid (∀ m, m < j → (tkn (f m) && alike (f m) e) = false) := hf
            have hRq := hR2.later hbq
            have HBQ : Hid (Below w2.heap.size w2 wr) := hbq
            clear hf hbq
            by_cases hjk : j < k
            · have j1 : (j : Int) < (k : Int) := by omega
              have j2 : (j : Int) < 64 := by omega
              obtain ⟨c0, c1, c2⟩ := hRq.cells j (by omega)
              obtain ⟨d0, d1, d2⟩ := hRq.cells k hk8
              obtain ⟨d, hd⟩ : ∃ d, f j = d := ⟨_, rfl⟩
              rw [hd] at c0 c1 c2
              rw [HE.out] at d0 d1 d2
              have HD : Hid (f j = d) := hd
              have hal : alike d e = (decide (d.who = e.who) || decide (d.bas = e.bas)) := rfl
              have HAL : Hid (alike d e = (decide (d.who = e.who) || decide (d.bas = e.bas))) := hal
              clear hd hRq hal
              cases htk : tkn d with
              | false =>
                have hb0 := tkn_neg htk
                have q1 : (d.bas != 0) = false := by simp [hb0]
                go_wp2_with fail
                go_quiet (fail)
                go_wp2_with fail
                go_roundw
                case rel =>
                  refine ⟨j + 1, by omega, by go_num, HBQ.out.trans ((drewN_below _ _).mono HBQ.out.size), fun m hm => ?_⟩
                  rcases Nat.lt_or_ge m j with h | h
                  · exact HG.out m h
                  · obtain rfl : m = j := by omega
                    rw [HD.out, htk]
                    rfl
                case measure => simp [intOf]; omega
              | true =>
                have q1 : (d.bas != 0) = true := by simp [tkn_pos htk]
                by_cases hw : d.who = e.who
                · have q2 : (d.who == e.who) = true := by simp [hw]
                  have HW : Hid (d.who = e.who) := hw
                  clear hw
                  go_wp2_with fail
                  go_quiet (fail)
                  go_wp2_with fail
                  go_ret
                  have hbb := HB3.out.trans (HBQ.out.mono HB3.out.size)
                  exact ⟨ret_int (by rw [chkE_bad hk8 (by rw [okp_okr]; unfold okr; rw [HE.out, hzz, range_bad hjk (by rw [HD.out, htk, HAL.out]; simp [HW.out])]; simp)]), hbb.trans ((drewN_below _ _).mono hbb.size)⟩
                · have q2 : (d.who == e.who) = false := by simp [hw]
                  by_cases hbs : d.bas = e.bas
                  · have q3 : (d.bas == e.bas) = true := by simp [hbs]
                    have HW : Hid (d.bas = e.bas) := hbs
                    clear hbs
                    go_wp2_with fail
                    go_quiet (fail)
                    go_wp2_with fail
                    go_ret
                    have hbb := HB3.out.trans (HBQ.out.mono HB3.out.size)
                    exact ⟨ret_int (by rw [chkE_bad hk8 (by rw [okp_okr]; unfold okr; rw [HE.out, hzz, range_bad hjk (by rw [HD.out, htk, HAL.out]; simp [HW.out])]; simp)]), hbb.trans ((drewN_below _ _).mono hbb.size)⟩
                  · have q3 : (d.bas == e.bas) = false := by simp [hbs]
                    go_wp2_with fail
                    go_quiet (fail)
                    go_wp2_with fail
                    go_roundw
                    case rel =>
                      refine ⟨j + 1, by omega, by go_num, HBQ.out.trans ((drewN_below _ _).mono HBQ.out.size), fun m hm => ?_⟩
                      rcases Nat.lt_or_ge m j with h | h
                      · exact HG.out m h
                      · obtain rfl : m = j := by omega
                        rw [HD.out, htk, HAL.out]
                        simp [hw, hbs]
                    case measure => simp [intOf]; omega
            · obtain rfl : j = k := by omega
              have j1 : ¬ ((j : Int) < (j : Int)) := by omega
              go_wp2_with fail
              go_roundw
              case rel =>
                refine ⟨j + 1, by omega, by go_num, hB12.trans (HBQ.out.mono hB12.size), fun m hm => ?_⟩
                rcases Nat.lt_or_ge m j with h | h
                · exact HF.out m h
                · obtain rfl : m = j := by omega
                  unfold okr
                  rw [HE.out, hkt, hzz, range_good HG.out]
                  rfl
              case measure => simp [intOf]; omega
    · obtain rfl : k = 64 := by omega
      go_wp2_with fail
      go_ret
      exact ⟨ret_int (by rw [chkE_good fun j hj => by rw [okp_okr]; exact HF.out j hj]), HB.out⟩
end Go.Proofs.YtpimbpfefhkojabGreatDoor.Rs
