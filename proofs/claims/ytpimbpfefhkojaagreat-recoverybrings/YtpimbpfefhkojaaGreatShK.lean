/- ShpE, ShpF, ShpEq, ShpG, ShpH, ShpJ, joined. -/
import Derived.Test.YtpimbpfefhkojaaGreatShJ
import Derived.Below
import Derived.Test.YtpimbpfefhkojaaGreatChecked
import Derived.WalkKit
import Derived.ChangeKeysEq
/- Contracts: digits and paths. -/
namespace Go.Proofs.YtpimbpfefhkojaaGreat.Sh
open Go.RowKit

set_option maxHeartbeats 400000 in
theorem digits_yes (s : Int) (h0 : 0 ≤ s) (h1 : s < 64) (w : World) :
    Calls Tryz.prog 94 #[.int .i64 s] w fun e w' => e = .returned (.tuple #[.agg #[.int .u8 (s / 16), .int .u8 (s / 4 % 4), .int .u8 (s % 4)], .bool true]) ∧ Below w.heap.size w w' := by
  go_enter Tryz.func94, Tryz.ntmps94
  go_wp2_with (go_at_call 93; refine (isSlot_yes _ (by omega) (by omega) _).mono ?_; rintro e w' ⟨rfl, rfl⟩)
  refine wp_loop_rounds 4 ?_
  rw [rounds_succ]; go_wp2
  rw [rounds_succ]; go_wp2
  rw [rounds_succ]; go_wp2
  rw [rounds_succ]; go_wp2
  refine bodyPost_ret (v := .tuple #[.agg #[.int .u8 (s / 16), .int .u8 (s / 4 % 4), .int .u8 (s % 4)], .bool true]) ?_ rfl ⟨rfl, ?_⟩
  · simp [results, Tryz.results94, go_sem, and3u _ (show 0 ≤ s / 16 by omega) (show s / 16 < 64 by omega), and3u _ (show 0 ≤ s / 4 by omega) (show s / 4 < 64 by omega), and3u _ h0 h1]
    omega
  · exact ((Below.refl _ _).alloc (Nat.le_refl _) _).alloc (by simp) _
theorem digits_no (s : Int) (h : s < 0 ∨ 64 ≤ s) (w : World) :
    Calls Tryz.prog 94 #[.int .i64 s] w fun e w' => e = .returned (.tuple #[.agg #[.int .u8 0, .int .u8 0, .int .u8 0], .bool false]) ∧ Below w.heap.size w w' := by
  go_enter Tryz.func94, Tryz.ntmps94
  go_wp2_with (go_at_call 93; refine (isSlot_no _ (by omega) _).mono ?_; rintro e w' ⟨rfl, rfl⟩)
  exact bodyPost_ret (v := .tuple #[.agg #[.int .u8 0, .int .u8 0, .int .u8 0], .bool false]) (by simp [results, Tryz.results94, go_sem]) rfl ⟨rfl, (Below.refl _ _).alloc (Nat.le_refl _) _⟩

theorem child_yes (v i : Int) (h0 : 0 ≤ v) (h1 : v < 21) (h2 : 0 ≤ i) (h3 : i < 4) (w : World) :
    Calls Tryz.prog 95 #[.int .i64 v, .int .i64 i] w fun e w' => e = .returned (.int .i64 (4 * v + 1 + i)) ∧ w' = w := by
  rw [← chd_yes h0 h1 h2 h3]; exact child_any v i w
theorem idx0 (x y z : Value) (w : World) : (Instr.index 145 (.agg #[x, y, z]) (.int .i64 0)).run Tryz.prog w = .ok x w := by kernel_rfl
theorem idx1 (x y z : Value) (w : World) : (Instr.index 145 (.agg #[x, y, z]) (.int .i64 1)).run Tryz.prog w = .ok y w := by kernel_rfl
theorem idx2 (x y z : Value) (w : World) : (Instr.index 145 (.agg #[x, y, z]) (.int .i64 2)).run Tryz.prog w = .ok z w := by kernel_rfl
theorem bcell {W w1 : World} (hb : Below W.heap.size W w1) : (∀ b o, b < W.heap.size → w1.cell? ⟨b, o, none⟩ = W.cell? ⟨b, o, none⟩) ∧ (∀ b o, b < W.heap.size → w1.frozen? ⟨b, o, none⟩ = W.frozen? ⟨b, o, none⟩) :=
  ⟨fun b o h => hb.cell (p := ⟨b, o, none⟩) h, fun b o h => hb.frozen (p := ⟨b, o, none⟩) h⟩

set_option maxHeartbeats 1000000 in
theorem path_yes (s : Int) (h0 : 0 ≤ s) (h1 : s < 64) (w : World) :
    Calls Tryz.prog 74 #[.int .i64 s] w fun e w' => e = .returned (.tuple #[.agg #[.int .i64 (5 + s / 4), .int .i64 (1 + s / 16), .int .i64 0], .bool true]) ∧ Below w.heap.size w w' := by
  go_enter Tryz.func74, Tryz.ntmps74
  go_wp2_with fail
  refine (digits_yes _ h0 h1 _).mono ?_
  rintro e w1 ⟨rfl, hb⟩
  obtain ⟨hc, hf⟩ := bcell hb
  have hz : w.heap.size < w1.heap.size := by have := hb.size; simp at this; omega
  have i0 := fun w => idx0 (.int .u8 (s / 16)) (.int .u8 (s / 4 % 4)) (.int .u8 (s % 4)) w
  have i1 := fun w => idx1 (.int .u8 (s / 16)) (.int .u8 (s / 4 % 4)) (.int .u8 (s % 4)) w
  have i2 := fun w => idx2 (.int .u8 (s / 16)) (.int .u8 (s / 4 % 4)) (.int .u8 (s % 4)) w
  go_wp2_with fail
  refine wp_loop_rounds 4 ?_
  rw [rounds_succ]; go_wp2_with (go_at_call 95; refine (child_yes _ _ (by omega) (by omega) (by omega) (by omega) _).mono ?_; rintro e w' ⟨rfl, rfl⟩)
  rw [rounds_succ]; go_wp2_with (go_at_call 95; refine (child_yes _ _ (by omega) (by omega) (by omega) (by omega) _).mono ?_; rintro e w' ⟨rfl, rfl⟩)
  rw [rounds_succ]; go_wp2_with (go_at_call 95; refine (child_yes _ _ (by omega) (by omega) (by omega) (by omega) _).mono ?_; rintro e w' ⟨rfl, rfl⟩)
  rw [rounds_succ]; go_wp2
  refine bodyPost_ret (v := .tuple #[.agg #[.int .i64 (5 + s / 4), .int .i64 (1 + s / 16), .int .i64 0], .bool true]) ?_ rfl ⟨rfl, ?_⟩
  · simp [results, Tryz.results74, go_sem, hc, hz]
    omega
  · have hb0 : Below w.heap.size w w1 := ((Below.refl _ _).alloc (Nat.le_refl _) _).trans (hb.mono (by simp))
    exact ((((hb0.setCell (by simp) _).setCell (by simp) _).setCell (by simp) _).alloc (by simp; omega) _).alloc (by simp; omega) _

theorem path_no (s : Int) (h : s < 0 ∨ 64 ≤ s) (w : World) :
    Calls Tryz.prog 74 #[.int .i64 s] w fun e w' => e = .returned (.tuple #[.agg #[.int .i64 0, .int .i64 0, .int .i64 0], .bool false]) ∧ Below w.heap.size w w' := by
  go_enter Tryz.func74, Tryz.ntmps74
  go_wp2_with fail
  refine (digits_no _ h _).mono ?_
  rintro e w1 ⟨rfl, hb⟩
  obtain ⟨hc, hf⟩ := bcell hb
  have hz : w.heap.size < w1.heap.size := by have := hb.size; simp at this; omega
  go_wp2
  refine bodyPost_ret (v := .tuple #[.agg #[.int .i64 0, .int .i64 0, .int .i64 0], .bool false]) ?_ rfl ⟨rfl, ?_⟩
  · simp [results, Tryz.results74, go_sem, hc, hz]
  · have hb0 : Below w.heap.size w w1 := ((Below.refl _ _).alloc (Nat.le_refl _) _).trans (hb.mono (by simp))
    exact ((((hb0.setCell (by simp) _).setCell (by simp) _).setCell (by simp) _).alloc (by simp; omega) _)

end Go.Proofs.YtpimbpfefhkojaaGreat.Sh
/- Contracts of the document's answers: digits and paths. -/
namespace Go.Proofs.YtpimbpfefhkojaaGreat.Sh
open Go.RowKit

theorem rParent_yes (v : Int) (h0 : 1 ≤ v) (h1 : v < 85) (w : World) :
    Calls Tryz.prog 31 #[.int .i64 v] w fun e w' => e = .returned (.int .i64 ((v - 1) / 4)) ∧ w' = w := by
  rw [← par_yes h0 h1]; exact rParent_any v w
theorem rLeaf_yes (v : Int) (h0 : 0 ≤ v) (h1 : v < 64) (w : World) :
    Calls Tryz.prog 30 #[.int .i64 v] w fun e w' => e = .returned (.int .i64 (21 + v)) ∧ w' = w := by
  rw [← lef_yes h0 h1]; exact rLeaf_any v w
theorem rLeaf_no (v : Int) (h : v < 0 ∨ 64 ≤ v) (w : World) :
    Calls Tryz.prog 30 #[.int .i64 v] w fun e w' => e = .returned (.int .i64 (-1)) ∧ w' = w := by
  rw [← lef_no h]; exact rLeaf_any v w

theorem rPath_yes (s : Int) (h0 : 0 ≤ s) (h1 : s < 64) (w : World) :
    Calls Tryz.prog 13 #[.int .i64 s] w fun e w' => e = .returned (.tuple #[.agg #[.int .i64 (5 + s / 4), .int .i64 (1 + s / 16), .int .i64 0], .bool true]) ∧ Below w.heap.size w w' := by
  go_enter Tryz.func13, Tryz.ntmps13
  go_wp2_with (go_at_call 30; refine (rLeaf_yes _ (by omega) (by omega) _).mono ?_; rintro e w' ⟨rfl, rfl⟩)
  refine wp_loop_rounds 4 ?_
  rw [rounds_succ]; go_wp2_with (go_at_call 31; refine (rParent_yes _ (by omega) (by omega) _).mono ?_; rintro e w' ⟨rfl, rfl⟩)
  rw [rounds_succ]; go_wp2_with (go_at_call 31; refine (rParent_yes _ (by omega) (by omega) _).mono ?_; rintro e w' ⟨rfl, rfl⟩)
  rw [rounds_succ]; go_wp2_with (go_at_call 31; refine (rParent_yes _ (by omega) (by omega) _).mono ?_; rintro e w' ⟨rfl, rfl⟩)
  rw [rounds_succ]; go_wp2
  refine bodyPost_ret (v := .tuple #[.agg #[.int .i64 (5 + s / 4), .int .i64 (1 + s / 16), .int .i64 0], .bool true]) ?_ rfl ⟨rfl, ?_⟩
  · simp [results, Tryz.results13, go_sem]
    omega
  · exact ((Below.refl _ _).alloc (Nat.le_refl _) _).alloc (by simp) _
theorem rPath_no (s : Int) (h : s < 0 ∨ 64 ≤ s) (w : World) :
    Calls Tryz.prog 13 #[.int .i64 s] w fun e w' => e = .returned (.tuple #[.agg #[.int .i64 0, .int .i64 0, .int .i64 0], .bool false]) ∧ Below w.heap.size w w' := by
  go_enter Tryz.func13, Tryz.ntmps13
  go_wp2_with (go_at_call 30; refine (rLeaf_no _ h _).mono ?_; rintro e w' ⟨rfl, rfl⟩)
  exact bodyPost_ret (v := .tuple #[.agg #[.int .i64 0, .int .i64 0, .int .i64 0], .bool false]) (by simp [results, Tryz.results13, go_sem]) rfl ⟨rfl, ((Below.refl _ _).alloc (Nat.le_refl _) _).alloc (by simp) _⟩

end Go.Proofs.YtpimbpfefhkojaaGreat.Sh
/- What '==' says of two arrays of three numbers. -/
namespace Go.Proofs.YtpimbpfefhkojaaGreat.Sh
open Go.RowKit

set_option maxRecDepth 20000
theorem eqItems3 {P : Program} {e : TypeId} {k : IntKind} {d : Nat} (he : P.underlying e = some (.int k))
    (p0 : ∀ (x y z : Value) (w : World), (part e #[x, y, z] 0).run P w = .ok x w)
    (p1 : ∀ (x y z : Value) (w : World), (part e #[x, y, z] (P.cellsOf e)).run P w = .ok y w)
    (p2 : ∀ (x y z : Value) (w : World), (part e #[x, y, z] (2 * P.cellsOf e)).run P w = .ok z w)
    (a b c a' b' c' : Int) (w : World) :
    (Op.eqItems (d + 1) e (P.cellsOf e) #[.int k a, .int k b, .int k c] #[.int k a', .int k b', .int k c'] [0, 1, 2]).run P w = .ok (a == a' && (b == b' && c == c')) w := by
  cases h1 : (a == a') <;> cases h2 : (b == b') <;> cases h3 : (c == c') <;>
    simp [Op.eqItems, Sem.run_bind, Sem.run_ite, p0, p1, p2, Result.andThen_ok, run_equalIn_int _ d e k k _ _ he, h1, h2, h3]
theorem part0 (x y z : Value) (w : World) : (part 3 #[x, y, z] 0).run Tryz.prog w = .ok x w := by kernel_rfl
theorem part1 (x y z : Value) (w : World) : (part 3 #[x, y, z] (Tryz.prog.cellsOf 3)).run Tryz.prog w = .ok y w := by kernel_rfl
theorem part2 (x y z : Value) (w : World) : (part 3 #[x, y, z] (2 * Tryz.prog.cellsOf 3)).run Tryz.prog w = .ok z w := by kernel_rfl
theorem info_int : (Tryz.prog.info? 3).isSome = true := by kernel_rfl
theorem eqArr3 (a b c a' b' c' : Int) (w : World) :
    (Op.equalIn 10000 69 (.agg #[.int .i64 a, .int .i64 b, .int .i64 c]) (.agg #[.int .i64 a', .int .i64 b', .int .i64 c'])).run Tryz.prog w = .ok (a == a' && (b == b' && c == c')) w := by
  obtain ⟨i, hi⟩ := Option.isSome_iff_exists.mp info_int
  rw [run_equalIn_array w 9999 _ _ Tryz.underlying69 hi]
  exact eqItems3 (d := 9998) Tryz.underlying3 part0 part1 part2 a b c a' b' c' w
theorem upart0 (x y z : Value) (w : World) : (part 5 #[x, y, z] 0).run Tryz.prog w = .ok x w := by kernel_rfl
theorem upart1 (x y z : Value) (w : World) : (part 5 #[x, y, z] (Tryz.prog.cellsOf 5)).run Tryz.prog w = .ok y w := by kernel_rfl
theorem upart2 (x y z : Value) (w : World) : (part 5 #[x, y, z] (2 * Tryz.prog.cellsOf 5)).run Tryz.prog w = .ok z w := by kernel_rfl
theorem info_u8 : (Tryz.prog.info? 5).isSome = true := by kernel_rfl
theorem eqArr3u (a b c a' b' c' : Int) (w : World) :
    (Op.equalIn 10000 145 (.agg #[.int .u8 a, .int .u8 b, .int .u8 c]) (.agg #[.int .u8 a', .int .u8 b', .int .u8 c'])).run Tryz.prog w = .ok (a == a' && (b == b' && c == c')) w := by
  obtain ⟨i, hi⟩ := Option.isSome_iff_exists.mp info_u8
  rw [run_equalIn_array w 9999 _ _ Tryz.underlying145 hi]
  exact eqItems3 (d := 9998) Tryz.underlying5 upart0 upart1 upart2 a b c a' b' c' w
end Go.Proofs.YtpimbpfefhkojaaGreat.Sh
/- Contracts: masks, where two nodes meet; the fixed answer that every statement asks first. -/
namespace Go.Proofs.YtpimbpfefhkojaaGreat.Sh
open Go.RowKit

theorem level_of {v k : Int} (h : lev v = k) (w : World) :
    Calls Tryz.prog 90 #[.int .i64 v] w fun e w' => e = .returned (.int .i64 k) ∧ w' = w := by rw [← h]; exact level_any v w
theorem first0 (w : World) : Calls Tryz.prog 106 #[.int .i64 0] w fun e w' => e = .returned (.int .i64 0) ∧ w' = w := first_any 0 (by omega) w
theorem first1 (w : World) : Calls Tryz.prog 106 #[.int .i64 1] w fun e w' => e = .returned (.int .i64 1) ∧ w' = w := first_any 1 (by omega) w
theorem first2 (w : World) : Calls Tryz.prog 106 #[.int .i64 2] w fun e w' => e = .returned (.int .i64 5) ∧ w' = w := first_any 2 (by omega) w
theorem first3 (w : World) : Calls Tryz.prog 106 #[.int .i64 3] w fun e w' => e = .returned (.int .i64 21) ∧ w' = w := first_any 3 (by omega) w

theorem path_37 (w : World) : Calls Tryz.prog 74 #[.int .i64 37] w fun e w' => e = .returned (.tuple #[.agg #[.int .i64 14, .int .i64 3, .int .i64 0], .bool true]) ∧ Below w.heap.size w w' :=
  path_yes 37 (by omega) (by omega) w

end Go.Proofs.YtpimbpfefhkojaaGreat.Sh
/- Contracts: the document's Below, Mask, Has and Above; the program's Above. -/
namespace Go.Proofs.YtpimbpfefhkojaaGreat.Sh
open Go.RowKit

theorem rBelow_any (v u : Int) (w : World) :
    Calls Tryz.prog 61 #[.int .i64 v, .int .i64 u] w fun e w' => e = .returned (.bool (belB v u)) ∧ w' = w := by
  by_cases h : 0 ≤ v ∧ v < 85
  · obtain ⟨h0, h1⟩ := h
    by_cases h : 0 ≤ u ∧ u < 85
    · obtain ⟨h2, h3⟩ := h
      go_enter Tryz.func61, Tryz.ntmps61
      go_wp2_with (go_at_call 54; refine (rNode_yes _ (by omega) (by omega) _).mono ?_; rintro e w' ⟨rfl, rfl⟩)
      go_loop [1] (fun b => ∃ x : Int, 0 ≤ x ∧ x < 85 ∧ Hid (belB v x = belB v u) ∧ b = .int .i64 x) (fun b => (intOf b).toNat)
      case atStart => exact ⟨u, h2, h3, rfl, rfl⟩
      case round =>
        obtain ⟨x, hx0, hx1, hm, rfl⟩ := hrel
        by_cases hlt : v < x
        · have hp := par_bd (v := x) (by omega) hx1
          have hq : Hid (belB v (par x) = belB v u) := by show belB v (par x) = belB v u; rw [← belB_up h0 hlt hx1, hm.out]
          go_wp2_with (go_at_call 31; refine (rParent_any _ _).mono ?_; rintro e w' ⟨rfl, rfl⟩)
          go_round
          case rel => exact ⟨par x, by omega, by omega, hq, rfl⟩
          case measure => simp [intOf]; omega
        · have hq : Hid ((x == v) = belB v u) := by show (x == v) = belB v u; rw [← hm.out, belB_at hx0 (by omega) h1]
          go_wp2
          go_ret
          exact ⟨ret_bool hq.out, rfl⟩
    · have hp : Hid (belB v u = false) := belB_no' (nodeB_no (by omega))
      have hN : Hid (∀ w, Calls Tryz.prog 54 #[.int .i64 u] w fun e w' => e = .returned (.bool false) ∧ w' = w) := rNode_no u (by omega)
      clear h
      go_enter Tryz.func61, Tryz.ntmps61
      go_wp2_with fail
      refine (rNode_yes _ h0 h1 _).mono ?_
      rintro e w' ⟨rfl, rfl⟩
      go_wp2_with fail
      refine (hN.out _).mono ?_
      rintro e w' ⟨rfl, rfl⟩
      go_wp2
      go_ret
      exact ⟨ret_bool hp.out.symm, rfl⟩
  · have hp : Hid (belB v u = false) := belB_no (nodeB_no (by omega))
    go_enter Tryz.func61, Tryz.ntmps61
    go_wp2_with (go_at_call 54; refine (rNode_no _ (by omega) _).mono ?_; rintro e w' ⟨rfl, rfl⟩)
    go_ret
    exact ⟨ret_bool hp.out.symm, rfl⟩

theorem rLeaf_in (v : Int) (h0 : 0 ≤ v) (h1 : v < 64) (w : World) :
    Calls Tryz.prog 30 #[.int .i64 v] w fun e w' => e = .returned (.int .i64 (21 + v)) ∧ w' = w := by
  rw [← lef_yes h0 h1]; exact rLeaf_any v w
theorem rBelow_is {v u : Int} {b : Bool} (h : belB v u = b) (w : World) :
    Calls Tryz.prog 61 #[.int .i64 v, .int .i64 u] w fun e w' => e = .returned (.bool b) ∧ w' = w := by
  rw [← h]; exact rBelow_any v u w

end Go.Proofs.YtpimbpfefhkojaaGreat.Sh
/- Contract: the program's Above. -/
namespace Go.Proofs.YtpimbpfefhkojaaGreat.Sh
open Go.RowKit

end Go.Proofs.YtpimbpfefhkojaaGreat.Sh
