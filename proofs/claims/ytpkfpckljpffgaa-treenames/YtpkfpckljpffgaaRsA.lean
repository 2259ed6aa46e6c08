/- Contracts: an entry's tests; Find. -/
import Derived.Test.YtpkfpckljpffgaaRsMath
import Derived.Test.YtpkfpckljpffgaaStA
import Derived.Deep.WholeRow
import Derived.Deep.LoopGhost
import Derived.Deep.DeepCutAuto
import Derived.Laws.ResultCell
namespace Go.Proofs.Ytpkfpckljpffgaa.Rs
open Go.RowKit
set_option linter.unusedVariables false
set_option linter.unusedSimpArgs false

theorem info25 : (Try.prog.info? 29).map (·.size) = some 192 := by kernel_rfl
/- A roster lies in a block. -/
def RoAt (w : World) (B : Nat) (f : Nat → En) : Prop := w.heap[B]? = some (.cells (rcs f) 29 (0, 0))
theorem RoAt.lt {w : World} {B : Nat} {f : Nat → En} (h : RoAt w B f) : B < w.heap.size := (Array.getElem?_eq_some_iff.1 h).1
theorem RoAt.below {n : Nat} {w w' : World} {B : Nat} {f : Nat → En} (h : RoAt w B f) (hb : Below n w w') (hn : B < n) : RoAt w' B f := (hb.block B hn).trans h
theorem RoAt.later {w w' : World} {B : Nat} {f : Nat → En} (h : RoAt w B f) (hb : Below w.heap.size w w') : RoAt w' B f := h.below hb h.lt
theorem RoAt.new (w : World) (f : Nat → En) : RoAt (w.alloc (.cells (rcs f) 29)) w.heap.size f := heap_alloc_last w _
theorem ld25 {ops : Array Oper} {rest : List Oper} {o : Oper} {a : Act} {w : World} {Q : Exit → Act → World → Prop} {B : Nat} {f : Nat → En} (h : RoAt w B f) (hgd : o.guard = none) (x : Operand) (ho : o.op = .load 29 x)
    (hx : a.eval x = .pointer (some ⟨B, 0, none⟩)) (k : wpList Try.prog ops Q rest (a.put o.dst (.agg (rcs f))) w) : wpList Try.prog ops Q (o :: rest) a w :=
  wpList_load_row hgd 29 x ho B hx 29 (rcs f) (0, 0) _ h Try.underlying29 rfl (by rw [rcs_size]; exact info25) k
theorem ext25 (f : Nat → En) (k : Nat) (hk : k < 64) : (rcs f).extract (k * 3) (k * 3 + 3) = #[.int .i64 (f k).who, .int .i64 (f k).bas, .int .i64 (f k).snc] := by
  obtain ⟨h0, h1, h2⟩ := rcs_get f k hk
  have hs := rcs_size f
  apply Array.ext
  · simp; omega
  · intro i h3 h4
    simp at h4
    rw [Array.getElem_extract]
    match i, h4 with
    | 0, _ => simpa using (Array.getElem?_eq_some_iff.1 h0).2
    | 1, _ => simpa using (Array.getElem?_eq_some_iff.1 h1).2
    | 2, _ => simpa using (Array.getElem?_eq_some_iff.1 h2).2
theorem idx25 (f : Nat → En) (k : Nat) (hk : k < 64) (W : World) : (Instr.index 29 (.agg (rcs f)) (.int .i64 (k : Int))).run Try.prog W = .ok (.agg #[.int .i64 (f k).who, .int .i64 (f k).bas, .int .i64 (f k).snc]) W := by
  have hk2 : (k : Int) < 64 := by omega
  have hk3 : (0 : Int) ≤ (k : Int) := by omega
  have e := ext25 f k hk
  have hs := rcs_size f
  generalize rcs f = c at *
  simp [Instr.index, asIntOf, hk2, hk3, part, go_sem, e]
  omega
theorem tkn_pos {e : En} (h : tkn e = true) : ¬ (e.bas = 0) := by simpa [tkn] using h
theorem tkn_neg {e : En} (h : tkn e = false) : e.bas = 0 := by simpa [tkn] using h
theorem isTaken_any (e : En) (w : World) : Calls Try.prog 62 #[.agg #[.int .i64 e.who, .int .i64 e.bas, .int .i64 e.snc]] w fun r w' => r = .returned (.bool (tkn e)) ∧ Below w.heap.size w w' := by
  have hB : Below w.heap.size w (w.alloc (.cells #[.int .i64 e.who, .int .i64 e.bas, .int .i64 e.snc] 27)) := (Below.refl _ w).alloc (Nat.le_refl _) _
  go_enter Try.func62, Try.ntmps62
  go_wp2
  go_ret
  exact ⟨ret_bool (by simp [tkn]; rfl), hB⟩
/- An entry lies in a block. -/
def EnAt (w : World) (B : Nat) (e : En) : Prop := w.heap[B]? = some (.cells #[.int .i64 e.who, .int .i64 e.bas, .int .i64 e.snc] 27 (0, 0))
theorem EnAt.lt {w : World} {B : Nat} {f : En} (h : EnAt w B f) : B < w.heap.size := (Array.getElem?_eq_some_iff.1 h).1
theorem EnAt.below {n : Nat} {w w' : World} {B : Nat} {f : En} (h : EnAt w B f) (hb : Below n w w') (hn : B < n) : EnAt w' B f := (hb.block B hn).trans h
theorem EnAt.later {w w' : World} {B : Nat} {f : En} (h : EnAt w B f) (hb : Below w.heap.size w w') : EnAt w' B f := h.below hb h.lt
theorem EnAt.new (w : World) (e : En) : EnAt (w.alloc (.cells #[.int .i64 e.who, .int .i64 e.bas, .int .i64 e.snc] 27)) w.heap.size e := heap_alloc_last w _
theorem EnAt.cells {w : World} {B : Nat} {e : En} (h : EnAt w B e) : w.cell? ⟨B, 0, none⟩ = some (.int .i64 e.who) ∧ w.cell? ⟨B, 1, none⟩ = some (.int .i64 e.bas) ∧ w.cell? ⟨B, 2, none⟩ = some (.int .i64 e.snc) :=
  ⟨cell_of_row w B 0 _ _ _ h, cell_of_row w B 1 _ _ _ h, cell_of_row w B 2 _ _ _ h⟩
theorem RoAt.cells {w : World} {B : Nat} {f : Nat → En} (h : RoAt w B f) (k : Nat) (hk : k < 64) : w.cell? ⟨B, k * 3, none⟩ = some (.int .i64 (f k).who) ∧ w.cell? ⟨B, k * 3 + 1, none⟩ = some (.int .i64 (f k).bas) ∧ w.cell? ⟨B, k * 3 + 2, none⟩ = some (.int .i64 (f k).snc) := by
  obtain ⟨h0, h1, h2⟩ := rcs_get f k hk
  exact ⟨(cell_of_row w B _ _ _ _ h).trans h0, (cell_of_row w B _ _ _ _ h).trans h1, (cell_of_row w B _ _ _ _ h).trans h2⟩
theorem alloc_en (w : World) (e : En) : Below w.heap.size w (w.alloc (.cells #[.int .i64 e.who, .int .i64 e.bas, .int .i64 e.snc] 27)) := (Below.refl _ w).alloc (Nat.le_refl _) _
theorem alloc_ro (w : World) (f : Nat → En) : Below w.heap.size w (w.alloc (.cells (rcs f) 29)) := (Below.refl _ w).alloc (Nat.le_refl _) _
theorem isWho_any (n : Int) (w : World) : Calls Try.prog 66 #[.int .i64 n] w fun e w' => e = .returned (.bool (wok n)) ∧ w' = w := by
  by_cases h0 : 0 ≤ n
  · by_cases h1 : n < 256
    · go_enter Try.func66, Try.ntmps66
      go_wp2
      go_ret
      exact ⟨ret_bool (by simp [wok, h0, h1]), rfl⟩
    · go_enter Try.func66, Try.ntmps66
      go_wp2
      go_ret
      exact ⟨ret_bool (by simp [wok, h0, h1]), rfl⟩
  · go_enter Try.func66, Try.ntmps66
    go_wp2
    go_ret
    exact ⟨ret_bool (by simp [wok]; omega), rfl⟩
theorem isEpoch_any (n : Int) (w : World) : Calls Try.prog 67 #[.int .i64 n] w fun e w' => e = .returned (.bool (eok n)) ∧ w' = w := by
  by_cases h0 : 1 ≤ n
  · by_cases h1 : n ≤ 200
    · go_enter Try.func67, Try.ntmps67
      go_wp2
      go_ret
      exact ⟨ret_bool (by simp [eok, h0, h1]), rfl⟩
    · go_enter Try.func67, Try.ntmps67
      go_wp2
      go_ret
      exact ⟨ret_bool (by simp [eok, h0, h1]), rfl⟩
  · go_enter Try.func67, Try.ntmps67
    go_wp2
    go_ret
    exact ⟨ret_bool (by simp [eok]; omega), rfl⟩
/- The document's test of an entry. -/
set_option maxHeartbeats 1000000 in
theorem rRight_any (e : En) (w : World) : Calls Try.prog 54 #[.agg #[.int .i64 e.who, .int .i64 e.bas, .int .i64 e.snc]] w fun r w' => r = .returned (.bool (rgt e)) ∧ Below w.heap.size w w' := by
  have hB := alloc_en w e
  have hE : rgt e = (decide (0 ≤ e.who) && decide (e.who < 256) && decide (1 ≤ e.bas) && decide (e.bas < 32768) && (decide (1 ≤ e.snc) && decide (e.snc ≤ 200))) := rfl
  obtain ⟨a, ha⟩ : ∃ a, e.who = a := ⟨_, rfl⟩
  obtain ⟨b, hb⟩ : ∃ b, e.bas = b := ⟨_, rfl⟩
  obtain ⟨c, hc⟩ : ∃ c, e.snc = c := ⟨_, rfl⟩
  rw [ha, hb, hc] at hB hE ⊢
  rw [hE]
  clear hE ha hb hc
  by_cases h0 : 0 ≤ a
  · by_cases h1 : a < 256
    · by_cases h2 : 1 ≤ b
      · by_cases h3 : b < 32768
        · by_cases h4 : 1 ≤ c
          · by_cases h5 : c ≤ 200
            · go_enter Try.func54, Try.ntmps54
              go_wp2
              go_ret
              exact ⟨ret_bool (by simp [*]; try omega), hB⟩
            · go_enter Try.func54, Try.ntmps54
              go_wp2
              go_ret
              exact ⟨ret_bool (by simp [*]; try omega), hB⟩
          · go_enter Try.func54, Try.ntmps54
            go_wp2
            go_ret
            exact ⟨ret_bool (by simp [*]; try omega), hB⟩
        · go_enter Try.func54, Try.ntmps54
          go_wp2
          go_ret
          exact ⟨ret_bool (by simp [*]; try omega), hB⟩
      · go_enter Try.func54, Try.ntmps54
        go_wp2
        go_ret
        exact ⟨ret_bool (by simp [*]; try omega), hB⟩
    · go_enter Try.func54, Try.ntmps54
      go_wp2
      go_ret
      exact ⟨ret_bool (by simp [*]; try omega), hB⟩
  · go_enter Try.func54, Try.ntmps54
    go_wp2
    go_ret
    exact ⟨ret_bool (by simp [*]; try omega), hB⟩
set_option maxHeartbeats 1000000 in
theorem isRight_any (e : En) (w : World) : Calls Try.prog 50 #[.agg #[.int .i64 e.who, .int .i64 e.bas, .int .i64 e.snc]] w fun r w' => r = .returned (.bool (rgp e)) ∧ Below w.heap.size w w' := by
  have hB := alloc_en w e
  have hN := EnAt.new w e
  have ht := isTaken_any e
  have hW := isWho_any e.who
  have hP := isEpoch_any e.snc
  have hE : rgp e = if tkn e then (wok e.who && decide (1 ≤ e.bas) && decide (e.bas < 32768) && eok e.snc) else (decide (e.who = 0) && decide (e.bas = 0) && decide (e.snc = 0)) := rfl
  go_enter Try.func50, Try.ntmps50
  go_wp2_with fail
  refine (ht _).mono ?_
  rintro r w2 ⟨rfl, hb2⟩
  have hN2 := hN.later hb2
  have HB : Hid (Below w.heap.size w w2) := hB.trans (hb2.mono hB.size)
  obtain ⟨c0, c1, c2⟩ := hN2.cells
  clear hN hN2 hb2 hB ht
  obtain ⟨a, ha⟩ : ∃ a, e.who = a := ⟨_, rfl⟩
  obtain ⟨b, hb⟩ : ∃ b, e.bas = b := ⟨_, rfl⟩
  obtain ⟨c, hc⟩ : ∃ c, e.snc = c := ⟨_, rfl⟩
  rw [ha] at c0 hW ⊢
  rw [hb] at c1 ⊢
  rw [hc] at c2 hP ⊢
  rw [ha, hb, hc] at hE
  have HE : Hid (rgp e = if tkn e then (wok a && decide (1 ≤ b) && decide (b < 32768) && eok c) else (decide (a = 0) && decide (b = 0) && decide (c = 0))) := hE
  clear hE
  cases hk : tkn e with
  | false =>
    have hb0 : b = 0 := by rw [← hb]; exact tkn_neg hk
    clear ha hb hc hW hP
    subst hb0
    go_wp2_with fail
    all_goals go_ret
    all_goals exact ⟨ret_bool (by rw [HE.out, hk]; simp; try omega), HB.out⟩
  | true =>
    clear ha hb hc
    cases hw : wok a with
    | false =>
      rw [hw] at hW
      go_wp2_with (first | (go_at_call 66; refine (hW _).mono ?_; rintro r w' ⟨rfl, rfl⟩))
      go_ret
      exact ⟨ret_bool (by rw [HE.out, hk, hw]; simp), HB.out⟩
    | true =>
      rw [hw] at hW
      by_cases h1 : 1 ≤ b
      · by_cases h2 : b < 32768
        · go_wp2_with (first | (go_at_call 66; refine (hW _).mono ?_; rintro r w' ⟨rfl, rfl⟩) | (go_at_call 67; refine (hP _).mono ?_; rintro r w' ⟨rfl, rfl⟩))
          go_ret
          exact ⟨ret_bool (by rw [HE.out, hk, hw]; simp [h1, h2]), HB.out⟩
        · go_wp2_with (first | (go_at_call 66; refine (hW _).mono ?_; rintro r w' ⟨rfl, rfl⟩))
          go_ret
          exact ⟨ret_bool (by rw [HE.out, hk, hw]; simp [h2]; try omega), HB.out⟩
      · go_wp2_with (first | (go_at_call 66; refine (hW _).mono ?_; rintro r w' ⟨rfl, rfl⟩))
        go_ret
        exact ⟨ret_bool (by rw [HE.out, hk, hw]; simp [h1]; try omega), HB.out⟩
set_option maxHeartbeats 1000000 in
theorem clashes_any (e d : En) (w : World) : Calls Try.prog 51 #[.agg #[.int .i64 e.who, .int .i64 e.bas, .int .i64 e.snc], .agg #[.int .i64 d.who, .int .i64 d.bas, .int .i64 d.snc]] w fun r w' => r = .returned (.bool (clh e d)) ∧ Below w.heap.size w w' := by
  have hB1 := alloc_en w e
  have hN1 := EnAt.new w e
  have hB2 := alloc_en (w.alloc (.cells #[.int .i64 e.who, .int .i64 e.bas, .int .i64 e.snc] 27)) d
  have hN2 := EnAt.new (w.alloc (.cells #[.int .i64 e.who, .int .i64 e.bas, .int .i64 e.snc] 27)) d
  have hN1' := hN1.later hB2
  have hB := hB1.trans (hB2.mono hB1.size)
  have ht := isTaken_any e
  have ht2 := isTaken_any d
  have hE : clh e d = (tkn e && tkn d && (decide (e.who = d.who) || decide (e.bas = d.bas))) := rfl
  go_enter Try.func51, Try.ntmps51
  go_wp2_with fail
  refine (ht _).mono ?_
  rintro r w2 ⟨rfl, hb2⟩
  have hP1 := hN1'.later hb2
  have hP2 := hN2.later hb2
  have hB3 := hB.trans (hb2.mono hB.size)
  simp only [World.size_alloc] at hP2
  obtain ⟨c0, c1, c2⟩ := hP1.cells
  obtain ⟨d0, d1, d2⟩ := hP2.cells
  clear hN1 hN1' hN2 hB1 hB2 hB hb2 ht
  have HE : Hid (clh e d = (tkn e && tkn d && (decide (e.who = d.who) || decide (e.bas = d.bas)))) := hE
  clear hE
  cases hk : tkn e with
  | false =>
    go_wp2_with fail
    go_ret
    exact ⟨ret_bool (by rw [HE.out, hk]; simp), hB3⟩
  | true =>
    go_wp2_with fail
    refine (ht2 _).mono ?_
    rintro r w3 ⟨rfl, hb3⟩
    have hP3 := hP1.later hb3
    have hP4 := hP2.later hb3
    have hB4 := hB3.trans (hb3.mono hB3.size)
    clear c0 c1 c2 d0 d1 d2 hP1 hP2 hB3 hb3 ht2
    obtain ⟨c0, c1, c2⟩ := hP3.cells
    obtain ⟨d0, d1, d2⟩ := hP4.cells
    cases hk2 : tkn d with
    | false =>
      go_wp2_with fail
      go_ret
      exact ⟨ret_bool (by rw [HE.out, hk, hk2]; simp), hB4⟩
    | true =>
      by_cases hw : e.who = d.who
      · go_wp2_with fail
        go_ret
        exact ⟨ret_bool (by rw [HE.out, hk, hk2]; simp [hw]), hB4⟩
      · have hw2 : (e.who == d.who) = false := by simp [hw]
        go_wp2_with fail
        go_ret
        exact ⟨ret_bool (by rw [HE.out, hk, hk2]; simp [hw]; rw [Bool.eq_iff_iff]; simp), hB4⟩
set_option maxRecDepth 100000 in
set_option maxHeartbeats 400000 in
theorem find_any (f : Nat → En) (x : Int) (w : World) : Calls Try.prog 42 #[.agg (rcs f), .int .i64 x] w fun r w' => r = .returned (.int .i64 (fnd f x)) ∧ Below w.heap.size w w' := by
  have hn := RoAt.new w f
  have hB1 := alloc_ro w f
  go_enter Try.func42, Try.ntmps42
  go_upto_region 1 with (fail)
  generalize w.alloc (.cells (rcs f) 29) = w1 at *
  refine wp_region_lit ?_
  refine ld25 hn rfl _ rfl rfl ?_
  obtain ⟨c, hc⟩ : ∃ c, rcs f = c := ⟨_, rfl⟩
  rw [hc]
  go_wp2_with fail
  go_loopw [8] (fun i wx => ∃ k : Nat, k ≤ 64 ∧ i = .int .i64 (k : Int) ∧ Below w1.heap.size w1 wx ∧ fnd f x = fd f x k (64 - k)) (fun i _ => 64 - (intOf i).toNat)
  case atStart => exact ⟨0, by omega, rfl, Below.refl _ _, rfl⟩
  case round =>
    obtain ⟨k, hk, rfl, hb, hf⟩ := hrel
    have HB : Hid (Below w.heap.size w wr) := hB1.trans (hb.mono hB1.size)
    have HBW : Hid (Below w1.heap.size w1 wr) := hb
    have HF : Hid (fnd f x = fd f x k (64 - k)) := hf
    clear hb hf
    by_cases hk8 : k < 64
    · have k8 : (k : Int) < 64 := by omega
      have ht := isTaken_any (f k)
      have hi := idx25 f k hk8
      rw [hc] at hi
      have hE := EnAt.new wr (f k)
      have hBE := alloc_en wr (f k)
      have HS : Hid (fnd f x = if at' f x k then (k : Int) else fd f x (k + 1) (64 - (k + 1))) := by rw [← fd_step f x hk8]; exact HF.out
      have hat : at' f x k = (tkn (f k) && decide ((f k).who = x)) := rfl
      rw [hat] at HS
      generalize f k = e at *
      clear hc hat HF
      go_wp2_with fail
      refine (ht _).mono ?_
      rintro r w2 ⟨rfl, hb2⟩
      obtain ⟨c0, c1, c2⟩ := (hE.later hb2).cells
      have HB2 : Hid (Below wr.heap.size wr w2) := hBE.trans (hb2.mono hBE.size)
      clear hE hBE hb2 ht hi
      cases hk : tkn e with
      | false =>
        go_wp2_with fail
        go_roundw
        case rel => exact ⟨k + 1, by omega, by go_num, HBW.out.trans (HB2.out.mono HBW.out.size), by rw [HS.out, hk]; rfl⟩
        case measure => simp [intOf]; omega
      | true =>
        by_cases hx : e.who = x
        · go_wp2_with fail
          go_ret
          exact ⟨ret_int (by rw [HS.out, hk, hx]; simp), HB.out.trans (HB2.out.mono HB.out.size)⟩
        · go_wp2_with fail
          go_roundw
          case rel => exact ⟨k + 1, by omega, by go_num, HBW.out.trans (HB2.out.mono HBW.out.size), by rw [HS.out, hk]; simp [hx]⟩
          case measure => simp [intOf]; omega
    · obtain rfl : k = 64 := by omega
      go_wp2_with fail
      go_ret
      exact ⟨ret_int (by rw [HF.out]; rfl), HB.out⟩
end Go.Proofs.Ytpkfpckljpffgaa.Rs
