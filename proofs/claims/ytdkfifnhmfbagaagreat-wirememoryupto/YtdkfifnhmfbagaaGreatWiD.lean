/- Contracts: noParts, Good. -/
import Derived.Test.YtdkfifnhmfbagaaGreatWiJ1
namespace Go.Proofs.YtdkfifnhmfbagaaGreat.Wi
open Go.RowKit Go.Maps
open Bt (tx)
open Rt (gd)
set_option linter.unusedVariables false
set_option linter.unusedSimpArgs false

theorem upd_mid : ∀ (vs old A Z : List Value), old.length = vs.length → upd (A ++ (old ++ Z)).toArray A.length vs = (A ++ (vs ++ Z)).toArray
  | [], old, A, Z, h => by
    have : old = [] := List.length_eq_zero_iff.1 h
    subst this
    rfl
  | v :: vs, [], A, Z, h => by cases h
  | v :: vs, o :: old, A, Z, h => by
    have ih := upd_mid vs old (A ++ [v]) Z (by simpa using h)
    rw [upd]
    have e : (A ++ (o :: old ++ Z)).toArray.setIfInBounds A.length v = (A ++ [v] ++ (old ++ Z)).toArray := by simp
    rw [e]
    rw [List.length_append] at ih
    rw [show A.length + 1 = A.length + [v].length from rfl, ih]
    simp
/- A message in a block. -/
def MgAt (w : World) (B : Nat) (m : Msg) (vL vJ vI : Value) : Prop := w.heap[B]? = some (.cells (mgl m vL vJ vI).toArray 38 (0, 0))
section
variable {w w' : World} {B : Nat} {m : Msg} {vL vJ vI : Value}
theorem MgAt.later (h : MgAt w B m vL vJ vI) (hb : Below w.heap.size w w') : MgAt w' B m vL vJ vI := row_later h hb
theorem MgAt.kind (h : MgAt w B m vL vJ vI) : w.cell? ⟨B, 0, none⟩ = some (.int .i64 m.kd) := (cell_of_row w B 0 _ _ _ h).trans rfl
theorem MgAt.rk (h : MgAt w B m vL vJ vI) : w.rangeAt B 1 (rkl m.rk.1 vL vJ vI) := ra_of h 1 _ rfl
theorem MgAt.rq (h : MgAt w B m vL vJ vI) : w.rangeAt B 5 (stl m.rq) := ra_of h 5 _ rfl
theorem MgAt.rp (h : MgAt w B m vL vJ vI) : w.rangeAt B 7 (rpl m.rp) := ra_of h 7 _ rfl
theorem MgAt.sd (h : MgAt w B m vL vJ vI) : w.rangeAt B 22 (sdl m.sd) := ra_of h 22 _ rfl
theorem MgAt.all (h : MgAt w B m vL vJ vI) : w.rangeAt B 0 (mgl m vL vJ vI) := ra_of h 0 _ rfl
theorem MgAt.there (h : MgAt w B m vL vJ vI) (o n : Nat) (e : o + n ≤ 26) : w.there B o n := th_of h o n e
theorem MgAt.setR (h : MgAt w B m vL vJ vI) (r : Int × (List (Int × Int) × (List (Int × Int) × List ((Int × Int) × ((Int × Int) × (Int × Int)))))) (xL xJ xI : Value) : MgAt (w.setCells B 1 (rkl r.1 xL xJ xI)) B ⟨m.kd, r, m.rq, m.rp, m.sd⟩ xL xJ xI := (row_upd _ 1 h).trans (congrArg (fun c => some (Obj.cells c 38 (0, 0))) (upd_mid (rkl r.1 xL xJ xI) (rkl m.rk.1 vL vJ vI) [.int .i64 m.kd] (stl m.rq ++ (rpl m.rp ++ sdl m.sd)) rfl))
theorem MgAt.setQ (h : MgAt w B m vL vJ vI) (q : Int × Int) : MgAt (w.setCells B 5 (stl q)) B ⟨m.kd, m.rk, q, m.rp, m.sd⟩ vL vJ vI := (row_upd _ 5 h).trans (congrArg (fun c => some (Obj.cells c 38 (0, 0))) (upd_mid (stl q) (stl m.rq) ([.int .i64 m.kd] ++ rkl m.rk.1 vL vJ vI) (rpl m.rp ++ sdl m.sd) rfl))
theorem MgAt.setP (h : MgAt w B m vL vJ vI) (p : (Int × Int) × (Int × (((Int × Int) × (Int × Int)) × (((Int × Int) × (Int × Int)) × ((Int × Int) × (Int × Int)))))) : MgAt (w.setCells B 7 (rpl p)) B ⟨m.kd, m.rk, m.rq, p, m.sd⟩ vL vJ vI := by
  have h' := row_upd (rpl p) 7 h
  have e := upd_mid (rpl p) (rpl m.rp) ([.int .i64 m.kd] ++ rkl m.rk.1 vL vJ vI ++ stl m.rq) (sdl m.sd) rfl
  have l : ([.int .i64 m.kd] ++ rkl m.rk.1 vL vJ vI ++ stl m.rq : List Value).length = 7 := rfl
  have e1 : ([.int .i64 m.kd] ++ rkl m.rk.1 vL vJ vI ++ stl m.rq : List Value) ++ (rpl m.rp ++ sdl m.sd) = mgl m vL vJ vI := by simp [mgl]
  have e2 : ([.int .i64 m.kd] ++ rkl m.rk.1 vL vJ vI ++ stl m.rq : List Value) ++ (rpl p ++ sdl m.sd) = mgl ⟨m.kd, m.rk, m.rq, p, m.sd⟩ vL vJ vI := by simp [mgl]
  rw [l, e1, e2] at e
  unfold MgAt
  rw [h', e]
theorem MgAt.setD (h : MgAt w B m vL vJ vI) (d : Int × ((Int × Int) × ByteArray)) : MgAt (w.setCells B 22 (sdl d)) B ⟨m.kd, m.rk, m.rq, m.rp, d⟩ vL vJ vI := (row_upd _ 22 h).trans (congrArg (fun c => some (Obj.cells c 38 (0, 0))) (by have := upd_mid (sdl d) (sdl m.sd) ([.int .i64 m.kd] ++ rkl m.rk.1 vL vJ vI ++ stl m.rq ++ rpl m.rp) [] rfl; simp only [List.append_nil] at this; exact this))
end
def nP (m : Msg) : Bool := nR m.rk && (decide (m.rq = zQ) && (decide (m.rp = zP) && decide (m.sd = zD)))
set_option maxRecDepth 100000 in
set_option maxHeartbeats 1000000 in
theorem noParts_any (m : Msg) (aL aJ aI : Option Addr) (cL cJ cI : Nat) (w : World) (nL : m.rk.2.1.length < 4611686018427387904) (nJ : m.rk.2.2.1.length < 4611686018427387904) (nI : m.rk.2.2.2.length < 4611686018427387904) :
    Calls Tryz.prog 22 #[.agg (mgl m (.slice aL m.rk.2.1.length cL) (.slice aJ m.rk.2.2.1.length cJ) (.slice aI m.rk.2.2.2.length cI)).toArray] w fun e w' => e = .returned (.bool (nP m)) ∧ Below w.heap.size w w' := by
  have HG : Hid (nP m = ((decide (m.rk.1 = 0) && (decide (m.rk.2.1.length = 0) && (decide (m.rk.2.2.1.length = 0) && decide (m.rk.2.2.2.length = 0)))) && (decide (m.rq = zQ) && (decide (m.rp = zP) && decide (m.sd = zD))))) := rfl
  rw [HG.out]
  clear HG
  have hM : MgAt (w.alloc (.cells (mgl m (.slice aL m.rk.2.1.length cL) (.slice aJ m.rk.2.2.1.length cJ) (.slice aI m.rk.2.2.2.length cI)).toArray 38)) w.heap.size m (.slice aL m.rk.2.1.length cL) (.slice aJ m.rk.2.2.1.length cJ) (.slice aI m.rk.2.2.2.length cI) := heap_alloc_last w _
  have hB := below_alloc w (.cells (mgl m (.slice aL m.rk.2.1.length cL) (.slice aJ m.rk.2.2.1.length cJ) (.slice aI m.rk.2.2.2.length cI)).toArray 38)
  have eq1 := fun W => run_eqPr 27 (w := W) 9998 m.rq zQ (.inr (.inr rfl))
  have eq2 := fun W => run_eqRp (w := W) 9995 m.rp zP
  have eq3 := fun W => run_eqSd (w := W) 9997 m.sd zD
  generalize decide (m.rq = zQ) = g1 at *
  generalize decide (m.rp = zP) = g2 at *
  generalize decide (m.sd = zD) = g3 at *
  generalize m.rk.2.1.length = n1 at *
  generalize m.rk.2.2.1.length = n2 at *
  generalize m.rk.2.2.2.length = n3 at *
  obtain ⟨ct, hct⟩ : ∃ c, (mgl m (.slice aL n1 cL) (.slice aJ n2 cJ) (.slice aI n3 cI)).toArray = c := ⟨_, rfl⟩
  rw [hct] at hB
  rw [hct]
  have hM' := hM
  rw [hct] at hM'
  clear hM
  clear hct
  have hrk := hM'.rk
  obtain ⟨e, hee⟩ : ∃ e, m.rk.1 = e := ⟨_, rfl⟩
  rw [hee] at hrk
  rw [hee]
  clear hee
  have HM : Hid (MgAt (w.alloc (.cells ct 38)) w.heap.size m (.slice aL n1 cL) (.slice aJ n2 cJ) (.slice aI n3 cI)) := hM'
  unfold rkl at hrk
  clear hM'
  go_enter Tryz.func22, Tryz.ntmps22
  go_upto_region 1 with (fail)
  generalize w.alloc (.cells ct 38) = w1 at *
  obtain ⟨B, hBe⟩ : ∃ B, w.heap.size = B := ⟨_, rfl⟩
  rw [hBe] at hrk HM ⊢
  clear hBe
  have HB : Hid (Below w.heap.size w w1) := hB
  clear hB
  go_upto_region 2 with (refine ldM hrk Tryz.underlying25 rfl szRk _ rfl rfl rfl ?_)
  have hR := heap_alloc_last w1 (.cells #[.int .i64 e, .slice aL n1 cL, .slice aJ n2 cJ, .slice aI n3 cI] 25)
  have HB2 : Hid (Below w.heap.size w (w1.alloc (.cells #[.int .i64 e, .slice aL n1 cL, .slice aJ n2 cJ, .slice aI n3 cI] 25))) := Below.plus HB.out _
  have hM2 := HM.out.later (below_alloc w1 (.cells #[.int .i64 e, .slice aL n1 cL, .slice aJ n2 cJ, .slice aI n3 cI] 25))
  generalize w1.alloc (.cells #[.int .i64 e, .slice aL n1 cL, .slice aJ n2 cJ, .slice aI n3 cI] 25) = w2 at *
  generalize w1.heap.size = C at *
  obtain ⟨c0, c1, c2, c3⟩ := c4 hR
  have HQ : Hid (w2.rangeAt B 5 (stl m.rq)) := hM2.rq
  have HP : Hid (w2.rangeAt B 7 (rpl m.rp)) := hM2.rp
  have HD : Hid (w2.rangeAt B 22 (sdl m.sd)) := hM2.sd
  clear HM HB hrk hR hM2
  have eq1 := eq1 w2
  have eq2 := eq2 w2
  have eq3 := eq3 w2
  by_cases he : e = 0
  · subst he
    have f1 : decide ((0 : Int) = 0) = true := by simp
    by_cases h1 : n1 = 0
    · subst h1
      by_cases h2 : n2 = 0
      · subst h2
        by_cases h3 : n3 = 0
        · subst h3
          cases g1 with
          | false =>
            go_wp2_with (first | (refine ldM HQ.out Tryz.underlying27 rfl szRq _ rfl rfl rfl ?_) | (refine eqX eq1 Tryz.eqGuardType27 _ _ rfl rfl rfl rfl ?_))
            go_ret
            exact ⟨rfl, HB2.out⟩
          | true =>
            cases g2 with
            | false =>
              go_wp2_with (first | (refine ldM HQ.out Tryz.underlying27 rfl szRq _ rfl rfl rfl ?_) | (refine eqX eq1 Tryz.eqGuardType27 _ _ rfl rfl rfl rfl ?_) | (refine ldM HP.out Tryz.underlying34 rfl szRp _ rfl rfl rfl ?_) | (refine eqX eq2 Tryz.eqGuardType34 _ _ rfl rfl rfl rfl ?_))
              go_ret
              exact ⟨rfl, HB2.out⟩
            | true =>
              go_wp2_with (first | (refine ldM HQ.out Tryz.underlying27 rfl szRq _ rfl rfl rfl ?_) | (refine eqX eq1 Tryz.eqGuardType27 _ _ rfl rfl rfl rfl ?_) | (refine ldM HP.out Tryz.underlying34 rfl szRp _ rfl rfl rfl ?_) | (refine eqX eq2 Tryz.eqGuardType34 _ _ rfl rfl rfl rfl ?_) | (refine ldM HD.out Tryz.underlying36 rfl szSd _ rfl rfl rfl ?_) | (refine eqX eq3 Tryz.eqGuardType36 _ _ rfl rfl rfl rfl ?_))
              go_ret
              exact ⟨by cases g3 <;> rfl, HB2.out⟩
        · have d1 : decide ((n3 : Int) = 0) = false := by simp; omega
          have d2 : ((n3 : Int) == 0) = false := by simp; omega
          have d3 : ¬ (n3 : Int) = 0 := by omega
          go_wp2_with fail
          go_ret
          exact ⟨by simp [h3], HB2.out⟩
      · have d1 : decide ((n2 : Int) = 0) = false := by simp; omega
        have d2 : ((n2 : Int) == 0) = false := by simp; omega
        have d3 : ¬ (n2 : Int) = 0 := by omega
        go_wp2_with fail
        go_ret
        exact ⟨by simp [h2], HB2.out⟩
    · have d1 : decide ((n1 : Int) = 0) = false := by simp; omega
      have d2 : ((n1 : Int) == 0) = false := by simp; omega
      have d3 : ¬ (n1 : Int) = 0 := by omega
      go_wp2_with fail
      go_ret
      exact ⟨by simp [h1], HB2.out⟩
  · have d1 : decide (e = 0) = false := by simp; omega
    have d2 : (e == 0) = false := by simp; omega
    go_wp2_with fail
    go_ret
    exact ⟨by simp [he], HB2.out⟩
theorem gM_1 {m : Msg} (h : m.kd = 1) : gM m = (gR m.rk && nP ⟨m.kd, zR, m.rq, m.rp, m.sd⟩) := by
  have e : nR zR = true := nR_iff.2 rfl
  unfold gM nP
  rw [if_pos h]
  dsimp only
  rw [e, Bool.true_and]
theorem gM_2 {m : Msg} (h : m.kd = 2) : gM m = (gQ m.rq && nP ⟨m.kd, m.rk, zQ, m.rp, m.sd⟩) := by
  unfold gM nP
  rw [if_neg (by omega), if_pos h]
  dsimp only
  rw [decide_eq_true rfl, Bool.true_and]
  cases nR m.rk <;> cases gQ m.rq <;> rfl
theorem gM_3 {m : Msg} (h : m.kd = 3) : gM m = (gP m.rp && nP ⟨m.kd, m.rk, m.rq, zP, m.sd⟩) := by
  unfold gM nP
  rw [if_neg (by omega), if_neg (by omega), if_pos h]
  dsimp only
  rw [decide_eq_true rfl, Bool.true_and]
  cases nR m.rk <;> cases decide (m.rq = zQ) <;> cases gP m.rp <;> rfl
theorem gM_4 {m : Msg} (h : m.kd = 4) : gM m = (gD m.sd && nP ⟨m.kd, m.rk, m.rq, m.rp, zD⟩) := by
  unfold gM nP
  rw [if_neg (by omega), if_neg (by omega), if_neg (by omega), if_pos h]
  dsimp only
  have e : decide (zD = zD) = true := decide_eq_true rfl
  rw [e, Bool.and_true]
  cases nR m.rk <;> cases decide (m.rq = zQ) <;> cases decide (m.rp = zP) <;> cases gD m.sd <;> rfl
theorem gM_0 {m : Msg} (h1 : m.kd ≠ 1) (h2 : m.kd ≠ 2) (h3 : m.kd ≠ 3) (h4 : m.kd ≠ 4) : gM m = false := by
  unfold gM
  rw [if_neg h1, if_neg h2, if_neg h3, if_neg h4]
/- What can be read of a message. -/
structure MR (w : World) (m : Msg) (aL aJ aI : Option Addr) : Prop where
  l : RdV stl 2 w aL m.rk.2.1
  j : RdV stl 2 w aJ m.rk.2.2.1
  i : RdV itl 6 w aI m.rk.2.2.2
  nl : m.rk.2.1.length < 4611686018427387904
  nj : m.rk.2.2.1.length < 4611686018427387904
  ni : m.rk.2.2.2.length < 4611686018427387904
  ns : m.sd.2.2.size < 4611686018427387904
theorem MR.later {w w' : World} {m : Msg} {aL aJ aI : Option Addr} (h : MR w m aL aJ aI) (hb : Below w.heap.size w w') : MR w' m aL aJ aI := ⟨h.l.later hb, h.j.later hb, h.i.later hb, h.nl, h.nj, h.ni, h.ns⟩
/- A message as a value. -/
def mgv (m : Msg) (aL aJ aI : Option Addr) (cL cJ cI : Nat) : List Value := mgl m (.slice aL m.rk.2.1.length cL) (.slice aJ m.rk.2.2.1.length cJ) (.slice aI m.rk.2.2.2.length cI)
theorem mgl_len (m : Msg) (x y z : Value) : (mgl m x y z).length = 26 := rfl
theorem one_mgl (m : Msg) (a b c : Option Addr) (i j k i' j' k' : Nat) : (mgl m (.slice a i i') (.slice b j j') (.slice c k k')).all (·.oneCell') = true := rfl
end Go.Proofs.YtdkfifnhmfbagaaGreat.Wi
