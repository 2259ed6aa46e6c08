/- Contracts: goodRekey, goodRequest, goodReply, goodSealed. -/
import Derived.Test.YtdkfifnhmfbagaaWiB
import Derived.Test.YtdkfifnhmfbagaaWiE
namespace Go.Proofs.Ytdkfifnhmfbagaa.Wi
open Go.RowKit Go.Maps
open Rt (gd)
set_option linter.unusedVariables false
set_option linter.unusedSimpArgs false

theorem c4 {w : World} {B : Nat} {a b c d : Value} {t : TypeId} (h : w.heap[B]? = some (.cells #[a, b, c, d] t (0, 0))) : w.cell? ⟨B, 0, none⟩ = some a ∧ w.cell? ⟨B, 1, none⟩ = some b ∧ w.cell? ⟨B, 2, none⟩ = some c ∧ w.cell? ⟨B, 3, none⟩ = some d :=
  ⟨cell_of_row w B 0 _ _ _ h, cell_of_row w B 1 _ _ _ h, cell_of_row w B 2 _ _ _ h, cell_of_row w B 3 _ _ _ h⟩
set_option maxRecDepth 100000 in
theorem goodRekey_any (r : Int × (List (Int × Int) × (List (Int × Int) × List ((Int × Int) × ((Int × Int) × (Int × Int)))))) (aL aJ aI : Option Addr) (cL cJ cI : Nat) (w : World) (rL : RdV stl 2 w aL r.2.1) (rJ : RdV stl 2 w aJ r.2.2.1) (rI : RdV itl 6 w aI r.2.2.2) (nL : r.2.1.length < 4611686018427387904) (nJ : r.2.2.1.length < 4611686018427387904) (nI : r.2.2.2.length < 4611686018427387904) :
    Calls Try.prog 27 #[.agg (rkl r.1 (.slice aL r.2.1.length cL) (.slice aJ r.2.2.1.length cJ) (.slice aI r.2.2.2.length cI)).toArray] w fun e w' => e = .returned (.bool (gR r)) ∧ Below w.heap.size w w' := by
  obtain ⟨e, L, J, I⟩ := r
  dsimp only at *
  have HG : Hid (gR (e, L, J, I) = (gE e && ((decide (L.length ≤ 64) && L.all gS) && ((decide (J.length ≤ 64) && J.all gS) && (decide (I.length ≤ 1536) && I.all gI))))) := rfl
  have hE := goodEpoch_any e
  have h1 : ∀ W, Below w.heap.size w W → Calls Try.prog 58 #[.slice aL L.length cL, .int .i64 64, .func (.func 59) #[] #[] ] W fun e w' => e = .returned (.bool (decide (L.length ≤ 64) && L.all gS)) ∧ Below W.heap.size W w' := fun W hb => allS_any aL cL 64 L W (rL.later hb) nL (by omega)
  have h2 : ∀ W, Below w.heap.size w W → Calls Try.prog 58 #[.slice aJ J.length cJ, .int .i64 64, .func (.func 59) #[] #[] ] W fun e w' => e = .returned (.bool (decide (J.length ≤ 64) && J.all gS)) ∧ Below W.heap.size W w' := fun W hb => allS_any aJ cJ 64 J W (rJ.later hb) nJ (by omega)
  have h3 : ∀ W, Below w.heap.size w W → Calls Try.prog 60 #[.slice aI I.length cI, .int .i64 1536, .func (.func 61) #[] #[] ] W fun e w' => e = .returned (.bool (decide (I.length ≤ 1536) && I.all gI)) ∧ Below W.heap.size W w' := fun W hb => allI_any aI cI 1536 I W (rI.later hb) nI (by omega)
  obtain ⟨b1, e1⟩ : ∃ b, (decide (L.length ≤ 64) && L.all gS) = b := ⟨_, rfl⟩
  obtain ⟨b2, e2⟩ : ∃ b, (decide (J.length ≤ 64) && J.all gS) = b := ⟨_, rfl⟩
  obtain ⟨b3, e3⟩ : ∃ b, (decide (I.length ≤ 1536) && I.all gI) = b := ⟨_, rfl⟩
  obtain ⟨b0, e0⟩ : ∃ b, gE e = b := ⟨_, rfl⟩
  simp only [e0, e1, e2, e3] at HG h1 h2 h3 hE
  rw [HG.out]
  clear HG e0 e1 e2 e3 rL rJ rI
  generalize L.length = n1 at *
  generalize J.length = n2 at *
  generalize I.length = n3 at *
  unfold rkl
  have hR := heap_alloc_last w (.cells #[.int .i64 e, .slice aL n1 cL, .slice aJ n2 cJ, .slice aI n3 cI] 25)
  have hB := below_alloc w (.cells #[.int .i64 e, .slice aL n1 cL, .slice aJ n2 cJ, .slice aI n3 cI] 25)
  go_enter Try.func27, Try.ntmps27
  go_upto_region 1 with (fail)
  generalize w.alloc (.cells #[.int .i64 e, .slice aL n1 cL, .slice aJ n2 cJ, .slice aI n3 cI] 25) = w1 at *
  obtain ⟨B, hBe⟩ : ∃ B, w.heap.size = B := ⟨_, rfl⟩
  rw [hBe] at hR ⊢
  clear hBe
  obtain ⟨c0, c1, c2, c3⟩ := c4 hR
  have HB : Hid (Below w.heap.size w w1) := hB
  clear hB
  go_wp2_with fail
  refine (hE _).mono ?_
  rintro q w2 ⟨rfl, rfl⟩
  cases b0 with
  | false =>
    go_wp2_with fail
    go_ret
    exact ⟨rfl, HB.out⟩
  | true =>
    go_wp2_with fail
    refine (h1 _ HB.out).mono ?_
    rintro q w2 ⟨rfl, hb2⟩
    have hR2 := row_later hR hb2
    have HB2 : Hid (Below w.heap.size w w2) := Below.join HB.out hb2
    clear c0 c1 c2 c3 hb2 hR HB h1
    obtain ⟨c0, c1, c2, c3⟩ := c4 hR2
    cases b1 with
    | false =>
      go_wp2_with fail
      go_ret
      exact ⟨rfl, HB2.out⟩
    | true =>
      go_wp2_with fail
      refine (h2 _ HB2.out).mono ?_
      rintro q w3 ⟨rfl, hb3⟩
      have hR3 := row_later hR2 hb3
      have HB3 : Hid (Below w.heap.size w w3) := Below.join HB2.out hb3
      clear c0 c1 c2 c3 hb3 hR2 HB2 h2
      obtain ⟨c0, c1, c2, c3⟩ := c4 hR3
      cases b2 with
      | false =>
        go_wp2_with fail
        go_ret
        exact ⟨rfl, HB3.out⟩
      | true =>
        go_wp2_with fail
        refine (h3 _ HB3.out).mono ?_
        rintro q w4 ⟨rfl, hb4⟩
        have HB4 : Hid (Below w.heap.size w w4) := Below.join HB3.out hb4
        clear c0 c1 c2 c3 hb4 hR3 HB3 h3
        go_wp2_with fail
        go_ret
        exact ⟨by cases b3 <;> rfl, HB4.out⟩
theorem goodRequest_any (q : Int × Int) (w : World) : Calls Try.prog 28 #[.agg (stl q).toArray] w fun e w' => e = .returned (.bool (gQ q)) ∧ Below w.heap.size w w' := by
  obtain ⟨a, b⟩ := q
  unfold stl
  dsimp only
  have HG : Hid (gQ (a, b) = (gW a && gE b)) := rfl
  rw [HG.out]
  have h1 := goodWho_any a
  have h2 := goodEpoch_any b
  generalize gW a = x at *
  generalize gE b = y at *
  clear HG
  cases x with
  | false =>
    go_enter Try.func28, Try.ntmps28
    go_wp2_with (go_at_call 62; refine (h1 _).mono ?_; rintro r w' ⟨rfl, rfl⟩)
    go_ret
    exact ⟨rfl, below_alloc _ _⟩
  | true =>
    go_enter Try.func28, Try.ntmps28
    go_wp2_with (first | (go_at_call 62; refine (h1 _).mono ?_; rintro r w' ⟨rfl, rfl⟩) | (go_at_call 57; refine (h2 _).mono ?_; rintro r w' ⟨rfl, rfl⟩))
    go_ret
    exact ⟨by cases y <;> rfl, below_alloc _ _⟩
set_option maxRecDepth 100000 in
theorem goodSealed_any (d : Int × ((Int × Int) × ByteArray)) (w : World) (hn : d.2.2.size < 4611686018427387904) : Calls Try.prog 30 #[.agg (sdl d).toArray] w fun e w' => e = .returned (.bool (gD d)) ∧ Below w.heap.size w w' := by
  obtain ⟨a, ⟨b, c⟩, s⟩ := d
  unfold sdl
  dsimp only at *
  have HG : Hid (gD (a, (b, c), s) = (gE a && (gd b c && decide (s.size ≤ 64)))) := rfl
  rw [HG.out]
  have h1 := goodEpoch_any a
  have h2 := Rt.good_any b c
  generalize gE a = x at *
  generalize gd b c = y at *
  clear HG
  obtain ⟨n, hne⟩ : ∃ n, s.size = n := ⟨_, rfl⟩
  rw [hne] at hn
  rw [hne]
  have HN : Hid (s.size = n) := hne
  cases x with
  | false =>
    go_enter Try.func30, Try.ntmps30
    go_wp2_with (go_at_call 57; refine (h1 _).mono ?_; rintro r w' ⟨rfl, rfl⟩)
    go_ret
    exact ⟨rfl, below_alloc _ _⟩
  | true =>
    cases y with
    | false =>
      go_enter Try.func30, Try.ntmps30
      go_wp2_with (first | (go_at_call 57; refine (h1 _).mono ?_; rintro r w' ⟨rfl, rfl⟩) | (go_at_call 65; refine (h2 _).mono ?_; rintro r w' ⟨rfl, rfl⟩))
      go_ret
      exact ⟨rfl, Below.plus (below_alloc _ _) _⟩
    | true =>
      by_cases h64 : n ≤ 64
      · have d1 : (n : Int) ≤ 64 := by omega
        go_enter Try.func30, Try.ntmps30
        go_wp2_with (first | (go_at_call 57; refine (h1 _).mono ?_; rintro r w' ⟨rfl, rfl⟩) | (go_at_call 65; refine (h2 _).mono ?_; rintro r w' ⟨rfl, rfl⟩))
        go_ret
        exact ⟨by simp [h64], Below.plus (below_alloc _ _) _⟩
      · have d1 : decide ((n : Int) ≤ 64) = false := by simp; omega
        go_enter Try.func30, Try.ntmps30
        go_wp2_with (first | (go_at_call 57; refine (h1 _).mono ?_; rintro r w' ⟨rfl, rfl⟩) | (go_at_call 65; refine (h2 _).mono ?_; rintro r w' ⟨rfl, rfl⟩))
        go_ret
        exact ⟨by simp [h64] <;> omega, Below.plus (below_alloc _ _) _⟩
def rpq (a b c : Int) (x y z : (Int × Int) × (Int × Int)) : List Value := [.int .i64 a, .int .i64 b, .int .i64 c] ++ pal x y z
theorem rd_path {w : World} {B : Nat} {a b c : Int} {t : TypeId} {x y z : (Int × Int) × (Int × Int)} (h : w.heap[B]? = some (.cells (rpq a b c x y z).toArray t (0, 0))) : RdV bxl 4 w (some ⟨B, 3, none⟩) [x, y, z] := by
  intro i hi
  refine ⟨B, 3, rfl, ?_⟩
  match i, hi with
  | 0, _ => exact ra_of h 3 (bxl x) rfl
  | 1, _ => exact ra_of h 7 (bxl y) rfl
  | 2, _ => exact ra_of h 11 (bxl z) rfl
set_option maxRecDepth 100000 in
theorem goodReply_any (p : (Int × Int) × (Int × (((Int × Int) × (Int × Int)) × (((Int × Int) × (Int × Int)) × ((Int × Int) × (Int × Int)))))) (w : World) : Calls Try.prog 29 #[.agg (rpl p).toArray] w fun e w' => e = .returned (.bool (gP p)) ∧ Below w.heap.size w w' := by
  obtain ⟨⟨a, b⟩, c, x, y, z⟩ := p
  have HG : Hid (gP ((a, b), c, x, y, z) = (gS (a, b) && (gE c && (decide ([x, y, z].length ≤ 3) && [x, y, z].all gB)))) := by
    unfold Hid gP
    simp
  rw [HG.out]
  have h1 := goodSeat_any (a, b)
  have h2 := goodEpoch_any c
  have hR := heap_alloc_last w (.cells (rpq a b c x y z).toArray 34)
  have hB := below_alloc w (.cells (rpq a b c x y z).toArray 34)
  have h3 : ∀ W, Below (w.alloc (.cells (rpq a b c x y z).toArray 34)).heap.size (w.alloc (.cells (rpq a b c x y z).toArray 34)) W → Calls Try.prog 63 #[.slice (some ⟨w.heap.size, 3, none⟩) 3 3, .int .i64 3, .func (.func 64) #[] #[] ] W fun e w' => e = .returned (.bool (decide ([x, y, z].length ≤ 3) && [x, y, z].all gB)) ∧ Below W.heap.size W w' := fun W hb => allB_any (some ⟨w.heap.size, 3, none⟩) 3 3 [x, y, z] W (rd_path (row_later hR hb)) (by simp) (by omega)
  have e0 : (rpl ((a, b), c, x, y, z)).toArray = (rpq a b c x y z).toArray := rfl
  rw [e0]
  clear e0
  dsimp only at h1
  generalize (decide ([x, y, z].length ≤ 3) && [x, y, z].all gB) = g3 at *
  generalize gS (a, b) = g1 at *
  generalize gE c = g2 at *
  clear HG
  have q0 : (rpq a b c x y z)[0]? = some (.int .i64 a) := rfl
  have q1 : (rpq a b c x y z)[1]? = some (.int .i64 b) := rfl
  have q2 : (rpq a b c x y z)[2]? = some (.int .i64 c) := rfl
  obtain ⟨cs, hcs⟩ : ∃ cs, (rpq a b c x y z).toArray = cs := ⟨_, rfl⟩
  have r0 : cs[0]? = some (.int .i64 a) := by rw [← hcs]; simpa using q0
  have r1 : cs[1]? = some (.int .i64 b) := by rw [← hcs]; simpa using q1
  have r2 : cs[2]? = some (.int .i64 c) := by rw [← hcs]; simpa using q2
  rw [hcs] at hR hB h3
  rw [hcs]
  clear hcs q0 q1 q2
  go_enter Try.func29, Try.ntmps29
  go_upto_region 1 with (fail)
  generalize w.alloc (.cells cs 34) = w1 at *
  obtain ⟨B, hBe⟩ : ∃ B, w.heap.size = B := ⟨_, rfl⟩
  rw [hBe] at hR h3 ⊢
  clear hBe
  have c0 := (cell_of_row w1 B 0 _ _ _ hR).trans r0
  have c1 := (cell_of_row w1 B 1 _ _ _ hR).trans r1
  have HB : Hid (Below w.heap.size w w1) := hB
  clear hB
  go_wp2_with fail
  refine (h1 _).mono ?_
  rintro q w2 ⟨rfl, hb2⟩
  have hR2 := row_later hR hb2
  have HB2 : Hid (Below w.heap.size w w2) := Below.join HB.out hb2
  have c2 := (cell_of_row w2 B 2 _ _ _ hR2).trans r2
  have HL : Hid (Below w1.heap.size w1 w2) := hb2
  clear hb2 hR2 c0 c1
  cases g1 with
  | false =>
    go_wp2_with fail
    go_ret
    exact ⟨rfl, HB2.out⟩
  | true =>
    go_wp2_with fail
    refine (h2 _).mono ?_
    rintro q w3 ⟨rfl, rfl⟩
    cases g2 with
    | false =>
      go_wp2_with fail
      go_ret
      exact ⟨rfl, HB2.out⟩
    | true =>
      go_wp2_with fail
      refine (h3 _ HL.out).mono ?_
      rintro q w4 ⟨rfl, hb4⟩
      have HB4 : Hid (Below w.heap.size w w4) := Below.join HB2.out hb4
      clear hb4
      go_wp2_with fail
      go_ret
      exact ⟨by cases g3 <;> rfl, HB4.out⟩
end Go.Proofs.Ytdkfifnhmfbagaa.Wi
