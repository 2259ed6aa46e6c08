/- For every keys, every three nodes and every number: so many turns that replace nothing advance all keys by it, and a path followed by it is the path behind them: RatchetRuns, with no condition. -/
import Derived.Test.YtgfegolignhefaaRows
import Derived.Test.YtgfegolignhefaaOpenRt
import Derived.Test.YtgfegolignhefaaOpen
import Derived.Test.YtgfegolignhefaaRtJ
namespace Go.Proofs.Ytgfegolignhefaa.ratchetRuns
open Go.ChangeShapes Go.WideShapes Go.ChangeAt Go.RowKit
set_option linter.unusedVariables false
set_option linter.unusedSimpArgs false

def um (m : Nat) (z : Int) : Nat := (z % 18446744073709551616).toNat % m
theorem um_lt (m : Nat) (z : Int) (h : 0 < m) : um m z < m := Nat.mod_lt _ h
theorem um_conv (m : Nat) (z : Int) (h : 0 < m) (h2 : m ≤ 40) : (IntKind.u64.wrap z).tmod (m : Int) = ((um m z : Nat) : Int) ∧ IntKind.i64.wrap ((um m z : Nat) : Int) = ((um m z : Nat) : Int) := by
  have h0 : 0 ≤ IntKind.u64.wrap z := by simp only [IntKind.wrap_u64]; omega
  have h1 := um_lt m z h
  refine ⟨?_, i64_fit _ (by omega) (by omega)⟩
  rw [Int.tmod_eq_emod_of_nonneg h0]
  unfold um
  simp only [IntKind.wrap_u64]
  have h3 : 0 ≤ z % 18446744073709551616 := Int.emod_nonneg _ (by decide)
  rw [Int.natCast_emod, Int.toNat_of_nonneg h3]
structure RN (w W : World) (f : Nat → Ky) (a : Nat → Int) (Bp Bv : Nat) (p : Nat → Ky) (u : Nat → Int) : Prop where
  ks : KsAt W w.heap.size f
  ia : IaAt W (w.heap.size + 1) a
  pa : PaAt W Bp p
  vv : IaAt W Bv u
  bel : Below w.heap.size w W
  o1 : w.heap.size + 2 ≤ Bp
  o2 : Bp < Bv
section
variable {w W W' : World} {f : Nat → Ky} {a : Nat → Int} {Bp Bv : Nat} {p : Nat → Ky} {u : Nat → Int}
theorem RN.later (h : RN w W f a Bp Bv p u) (hb : Below W.heap.size W W') : RN w W' f a Bp Bv p u := ⟨h.ks.later hb, h.ia.later hb, h.pa.later hb, h.vv.later hb, h.bel.trans (hb.mono h.bel.size), h.o1, h.o2⟩
theorem RN.setv (h : RN w W f a Bp Bv p u) (k : Nat) (x : Int) : RN w (W.setCell ⟨Bv, k, none⟩ (.int .i64 x)) f a Bp Bv p (iup u k x) := by
  have h1 := h.o1
  have h2 := h.o2
  exact ⟨(other_setCell (by omega) _ _).trans h.ks, (other_setCell (by omega) _ _).trans h.ia, (other_setCell (by omega) _ _).trans h.pa, h.vv.set k x, h.bel.setCell (p := ⟨Bv, k, none⟩) (by show w.heap.size ≤ Bv; omega) _, h1, h2⟩
theorem RN.setp (h : RN w W f a Bp Bv p u) (k : Nat) (hk : k < 3) (x y : Int) : RN w ((W.setCell ⟨Bp, k * 2, none⟩ (.int .i64 x)).setCell ⟨Bp, k * 2 + 1, none⟩ (.int .i64 y)) f a Bp Bv (kup p k ⟨x, y⟩) u := by
  have h1 := h.o1
  have h2 := h.o2
  exact ⟨(set2_other (by omega) _ _ _ _).trans h.ks, (set2_other (by omega) _ _ _ _).trans h.ia, h.pa.set2 k hk x y, (set2_other (by omega) _ _ _ _).trans h.vv, set2_below h.bel (by omega) _ _ _ _, h1, h2⟩
theorem RN.row (h : RN w W f a Bp Bv p u) {B : Nat} (hB : Bv < B) (cs : Array Value) : RN w (W.setRow B cs) f a Bp Bv p u := by
  have h1 := h.o1
  have h2 := h.o2
  exact ⟨(row_other (by omega) _).trans h.ks, (row_other (by omega) _).trans h.ia, (row_other (by omega) _).trans h.pa, (row_other (by omega) _).trans h.vv, setRow_below (by omega) h.bel _, h1, h2⟩
end
/- The first j nodes and their keys. -/
def uS (v : Nat → Nat) (j : Nat) : Nat → Int := fun i => if i < j then ((v i : Nat) : Int) else 0
def pS (f : Nat → Ky) (v : Nat → Nat) (j : Nat) : Nat → Ky := fun i => if i < j then f (v i) else zK
theorem uS_step (v : Nat → Nat) (j : Nat) : uS v (j + 1) = iup (uS v j) j ((v j : Nat) : Int) := by
  funext i
  show (if i < j + 1 then ((v i : Nat) : Int) else 0) = if i = j then ((v j : Nat) : Int) else (if i < j then ((v i : Nat) : Int) else 0)
  by_cases h : i = j
  · subst h
    rw [if_pos (by omega), if_pos rfl]
  · rw [if_neg h]
    by_cases c : i < j
    · rw [if_pos (by omega), if_pos c]
    · rw [if_neg (by omega), if_neg c]
theorem pS_step (f : Nat → Ky) (v : Nat → Nat) (j : Nat) : pS f v (j + 1) = kup (pS f v j) j (f (v j)) := by
  funext i
  show (if i < j + 1 then f (v i) else zK) = if i = j then f (v j) else (if i < j then f (v i) else zK)
  by_cases h : i = j
  · subst h
    rw [if_pos (by omega), if_pos rfl]
  · rw [if_neg h]
    by_cases c : i < j
    · rw [if_pos (by omega), if_pos c]
    · rw [if_neg (by omega), if_neg c]
theorem uS_zero (v : Nat → Nat) : ics (uS v 0) = ics fun _ => 0 := ics_congr fun i _ => if_neg (by omega)
theorem pS_zero (f : Nat → Ky) (v : Nat → Nat) : pcs (pS f v 0) = pcs fun _ => zK := pcs_congr fun i _ => if_neg (by omega)
theorem uS_all (v : Nat → Nat) {i : Nat} (h : i < 3) : uS v 3 i = ((v i : Nat) : Int) := if_pos h
theorem pS_all (f : Nat → Ky) (v : Nat → Nat) : pcs (pS f v 3) = pcs fun i => f (v i) := pcs_congr fun i h => if_pos h
def at3 (x y z : Int) : Nat → Int := fun i => if i = 0 then x else if i = 1 then y else z
theorem at3_lit (x y z : Int) : (#[Value.int .i64 x, Value.int .i64 y, Value.int .i64 z] : Array Value) = ics (at3 x y z) := rfl
set_option maxRecDepth 100000 in
set_option maxHeartbeats 4000000 in
theorem walk (f : Nat → Ky) (x y z : Int) (n : Int) (wf : ∀ i, i < 21 → KyWf (f i)) (w0 : (Lit.int .i64 x).wf = true) (w1 : (Lit.int .i64 y).wf = true) (w2 : (Lit.int .i64 z).wf = true) (w3 : (Lit.int .i64 n).wf = true) (w : World) :
    Calls Try.prog 8 #[.agg (kcs f), .agg #[.int .i64 x, .int .i64 y, .int .i64 z], .int .i64 n] w fun e w' => e = .returned (.bool true) ∧ Below w.heap.size w w' := by
  clear wf w0 w1 w2 w3
  rw [at3_lit]
  generalize at3 x y z = a
  obtain ⟨v, hv⟩ : ∃ v : Nat → Nat, v = fun i => um 21 (a i) := ⟨_, rfl⟩
  have HV : Hid (∀ i, v i < 21) := by intro i; rw [hv]; exact um_lt 21 _ (by decide)
  have HVC : Hid (∀ i, (IntKind.u64.wrap (a i)).tmod 21 = ((v i : Nat) : Int) ∧ IntKind.i64.wrap ((v i : Nat) : Int) = ((v i : Nat) : Int)) := by intro i; rw [hv]; exact um_conv 21 _ (by decide) (by decide)
  clear hv
  obtain ⟨c, hc⟩ : ∃ c, um 40 n = c := ⟨_, rfl⟩
  have hcc := um_conv 40 n (by decide) (by decide)
  have hcl := um_lt 40 n (by decide)
  rw [hc] at hcc hcl
  obtain ⟨hc1, hc2⟩ := hcc
  have hc3 : (IntKind.u64.wrap n).tmod 40 = (c : Int) := hc1
  clear hc hc1
  have hK1 := KsAt.new w f
  have hb1 := alloc_ks w f
  have hI2 := IaAt.new (w.alloc (.cells (kcs f) 25)) a
  have hb2 := alloc_ia (w.alloc (.cells (kcs f) 25)) a
  rw [World.size_alloc] at hI2
  have hK2 := hK1.later hb2
  have hB2 := hb1.trans (hb2.mono hb1.size)
  clear hK1 hb1 hb2
  go_enter Try.func8, Try.ntmps8
  go_upto_region 1 with (fail)
  generalize (w.alloc (.cells (kcs f) 25)).alloc (.cells (ics a) 45) = wa at *
  obtain ⟨cf, hcf⟩ : ∃ cf, kcs f = cf := ⟨_, rfl⟩
  obtain ⟨ca, hca⟩ : ∃ ca, ics a = ca := ⟨_, rfl⟩
  rw [hcf, hca]
  clear hcf hca
  go_wp2_with fail
  refine (lives_any _).mono ?_
  rintro e wb ⟨rfl, hbb⟩
  have hK3 := hK2.later hbb
  have hI3 := hI2.later hbb
  have hB3 := hB2.trans (hbb.mono hB2.size)
  clear hK2 hI2 hB2 hbb
  go_upto_region 6 with (fail)
  rw [zero6, zero3]
  have hp := PaAt.new wb (fun _ => zK)
  have hbp := alloc_pa wb (fun _ => zK)
  have hi := IaAt.new (wb.alloc (.cells (pcs fun _ => zK) 40)) (fun _ => 0)
  have hbi := alloc_ia (wb.alloc (.cells (pcs fun _ => zK) 40)) (fun _ => 0)
  have hR : RN w ((wb.alloc (.cells (pcs fun _ => zK) 40)).alloc (.cells (ics fun _ => 0) 45)) f a wb.heap.size (wb.heap.size + 1) (pS f v 0) (uS v 0) :=
    ⟨(hK3.later hbp).later hbi, (hI3.later hbp).later hbi, (hp.later hbi).congr (pS_zero f v).symm, by rw [World.size_alloc] at hi; exact hi.congr (uS_zero v).symm, (hB3.trans (hbp.mono hB3.size)).trans (hbi.mono (by have := hB3.size; simp; omega)), hI3.lt, by omega⟩
  clear hp hbp hi hbi hK3 hI3 hB3
  generalize (wb.alloc (.cells (pcs fun _ => zK) 40)).alloc (.cells (ics fun _ => 0) 45) = wc at *
  obtain ⟨Bv, hBv⟩ : ∃ Bv, wb.heap.size + 1 = Bv := ⟨_, rfl⟩
  rw [hBv] at hR ⊢
  clear hBv
  generalize wb.heap.size = Bp at *
  have HR : Hid (RN w wc f a Bp Bv (pS f v 0) (uS v 0)) := hR
  clear hR
  go_wp2_with fail
  go_loopw [10] (fun i wx => ∃ j : Nat, j ≤ 3 ∧ i = .int .i64 (j : Int) ∧ RN w wx f a Bp Bv (pS f v j) (uS v j)) (fun i _ => 3 - (intOf i).toNat)
  case atStart => exact ⟨0, by omega, rfl, HR.out⟩
  case round =>
    obtain ⟨j, hj, rfl, hR⟩ := hrel
    clear HR
    have HR : Hid (RN w wr f a Bp Bv (pS f v j) (uS v j)) := hR
    clear hR
    by_cases hj8 : j < 3
    · have j0 : (0 : Int) ≤ (j : Int) := by omega
      have j1 : (j : Int) < 3 := by omega
      have hac := HR.out.ia.cell j hj8
      have hvc := HR.out.vv.cell j hj8
      have hfz := row_frozen HR.out.vv j
      obtain ⟨m1, m2⟩ := HVC.out j
      have hvj := HV.out j
      have HS1 : Hid (RN w (wr.setCell ⟨Bv, j, none⟩ (.int .i64 ((v j : Nat) : Int))) f a Bp Bv (pS f v j) (uS v (j + 1))) := by have := HR.out.setv j ((v j : Nat) : Int); rw [uS_step]; exact this
      have HUJ : Hid (uS v (j + 1) j = ((v j : Nat) : Int)) := if_pos (by omega)
      have HPJ : Hid (pS f v (j + 1) = kup (pS f v j) j (f (v j))) := pS_step f v j
      obtain ⟨q, hq⟩ : ∃ q, v j = q := ⟨_, rfl⟩
      rw [hq] at m1 m2 hvj HS1 HUJ HPJ
      clear hq
      have q0 : (0 : Int) ≤ (q : Int) := by omega
      have q1 : (q : Int) < 21 := by omega
      go_upto_region 10 with (fail)
      have hS1 := HS1.out
      clear hac hvc hfz HS1 HR
      generalize wr.setCell ⟨Bv, j, none⟩ (.int .i64 (q : Int)) = wd at *
      have hvc := hS1.vv.cell j hj8
      rw [HUJ.out] at hvc
      obtain ⟨d0, d1⟩ := hS1.ks.cells q hvj
      obtain ⟨c0, c1⟩ := hS1.pa.cells j hj8
      have f0 := row_frozen hS1.pa (j * 2)
      have f1 := row_frozen hS1.pa (j * 2 + 1)
      have HS2 : Hid (RN w ((wd.setCell ⟨Bp, j * 2, none⟩ (.int .i64 (f q).bas)).setCell ⟨Bp, j * 2 + 1, none⟩ (.int .i64 (f q).stp)) f a Bp Bv (pS f v (j + 1)) (uS v (j + 1))) := by rw [HPJ.out]; exact hS1.setp j hj8 _ _
      clear hS1
      go_wp2_with fail
      go_roundw
      case rel => exact ⟨j + 1, by omega, by go_num, HS2.out⟩
      case measure => simp [intOf]; omega
    · obtain rfl : j = 3 := by omega
      rw [show ((3 : Nat) : Int) = 3 from rfl]
      clear hj hj8
      go_upto_region 11 with (fail)
      refine wp_region_lit ?_
      refine ldK HR.out.ks rfl _ rfl rfl ?_
      have hz := new_zeroK wr
      go_upto_region 12 with (refine stK (g := f) hz rfl _ _ rfl rfl rfl ?_)
      rw [alloc_zeroK, World.setRow_alloc_new]
      have hR2 := HR.out.later (alloc_ks wr f)
      have hX : KsAt (wr.alloc (.cells (kcs f) 25)) wr.heap.size (adv f 0) := by rw [adv_zero]; exact KsAt.new wr f
      have hBX := HR.out.vv.lt
      clear hz HR
      generalize wr.alloc (.cells (kcs f) 25) = we at *
      generalize wr.heap.size = Bx at *
      obtain ⟨cf2, hcf2⟩ : ∃ cf, kcs f = cf := ⟨_, rfl⟩
      rw [hcf2]
      clear hcf2
      have HR2 : Hid (RN w we f a Bp Bv (pS f v 3) (uS v 3)) := hR2
      have HX : Hid (KsAt we Bx (adv f 0)) := hX
      clear hR2 hX
      go_wp2_with fail
      go_loopw [12] (fun i wx => ∃ j : Nat, j ≤ c ∧ i = .int .i64 (j : Int) ∧ RN w wx f a Bp Bv (pS f v 3) (uS v 3) ∧ KsAt wx Bx (adv f j) ∧ Ran f j) (fun i _ => c - (intOf i).toNat)
      case atStart => exact ⟨0, by omega, rfl, HR2.out, HX.out, Or.inl rfl⟩
      case round =>
        obtain ⟨j, hj, rfl, hR, hX, hRan⟩ := hrel
        clear HR2 HX
        by_cases hjc : j < c
        · have j1 : (j : Int) < (c : Int) := by omega
          have ht : ∀ W, Calls Try.prog 12 #[.agg (kcs (adv f j)), .int .u32 0, .int .i64 (j : Int)] W fun e w' => e = TurnA (adv f j) 0 (j : Int) ∧ Below W.heap.size W w' := fun W => turn_any (adv f j) 0 (by decide) (j : Int) W
          unfold TurnA at ht
          have hkr := rCheck_any f
          go_upto_region 15 with (fail)
          refine wp_region_lit ?_
          refine ldK hX rfl _ rfl rfl ?_
          go_wp2_with fail
          refine (ht _).mono ?_
          rintro e wf ⟨rfl, hbf⟩
          have hR2 := hR.later hbf
          have hX2 := hX.later hbf
          have hzf := new_zeroK wf
          clear ht hbf hR hX
          rcases run_cases f j (j : Int) hRan with ⟨h1, h2, h3, h4⟩ | ⟨h1, h2⟩ | ⟨h1, h2⟩
          · rw [h1, h2, h3]
            go_upto_region 16 with (refine stK (g := adv f (j + 1)) hzf rfl _ _ rfl rfl rfl ?_)
            rw [alloc_zeroK, World.setRow_alloc_new]
            have hR3 := hR2.later (alloc_ks wf (adv f (j + 1)))
            have hX3 := hX2.later (alloc_ks wf (adv f (j + 1)))
            have hY3 := KsAt.new wf (adv f (j + 1))
            clear hzf hR2 hX2 h1 h2 h3 hkr
            generalize wf.alloc (.cells (kcs (adv f (j + 1))) 25) = wg at *
            generalize wf.heap.size = By at *
            go_upto_region 20 with (fail)
            refine wp_region_lit ?_
            refine ldK hY3 rfl _ rfl rfl ?_
            have hR4 := hR3.row hBX (kcs (adv f (j + 1)))
            have hX4 := hX3.row (adv f (j + 1))
            have HR4 : Hid (RN w (wg.setRow Bx (kcs (adv f (j + 1)))) f a Bp Bv (pS f v 3) (uS v 3)) := hR4
            have HX4 : Hid (KsAt (wg.setRow Bx (kcs (adv f (j + 1)))) Bx (adv f (j + 1))) := hX4
            have HRN : Hid (Ran f (j + 1)) := h4
            clear hR4 hX4 h4
            refine stK (g := adv f (j + 1)) hX3 rfl _ _ rfl rfl rfl ?_
            generalize wg.setRow Bx (kcs (adv f (j + 1))) = wh at *
            go_wp2_with fail
            go_roundw
            case rel => exact ⟨j + 1, by omega, by go_num, HR4.out, HX4.out, HRN.out⟩
            case measure => simp [intOf]; omega
          · rw [h1]
            generalize trA (adv f j) 0 (j : Int) = g at *
            generalize trN (adv f j) 0 (j : Int) = m at *
            go_upto_region 16 with (refine stK (g := g) hzf rfl _ _ rfl rfl rfl ?_)
            rw [alloc_zeroK, World.setRow_alloc_new]
            have hR3 := hR2.later (alloc_ks wf g)
            clear hzf hR2 hX2 h1
            generalize wf.alloc (.cells (kcs g) 25) = wg at *
            generalize wf.heap.size = By at *
            have hk2 := hkr wg
            rw [h2] at hk2
            clear h2 hkr
            go_wp2_with (refine ldK hR3.ks rfl _ rfl rfl ?_)
            refine hk2.mono ?_
            rintro e wi ⟨rfl, hbi⟩
            go_wp2_with fail
            go_ret
            exact ⟨rfl, hR3.bel.trans (hbi.mono hR3.bel.size)⟩
          · rw [h1]
            generalize trA (adv f j) 0 (j : Int) = g at *
            generalize trN (adv f j) 0 (j : Int) = m at *
            go_upto_region 16 with (refine stK (g := g) hzf rfl _ _ rfl rfl rfl ?_)
            rw [alloc_zeroK, World.setRow_alloc_new]
            have hR3 := hR2.later (alloc_ks wf g)
            clear hzf hR2 hX2 h1
            generalize wf.alloc (.cells (kcs g) 25) = wg at *
            generalize wf.heap.size = By at *
            have hk2 := hkr wg
            rw [h2] at hk2
            clear h2 hkr
            go_wp2_with (refine ldK hR3.ks rfl _ rfl rfl ?_)
            refine hk2.mono ?_
            rintro e wi ⟨rfl, hbi⟩
            go_wp2_with fail
            go_ret
            exact ⟨rfl, hR3.bel.trans (hbi.mono hR3.bel.size)⟩
        · obtain rfl : c = j := by omega
          have hjj : decide ((c : Int) < (c : Int)) = false := by simp
          have hkr := rCheck_any f wr
          cases hk : kchk f with
          | false =>
            rw [kchkE_ff hk] at hkr
            have hc0 : c = 0 := by
              rcases hRan with h | ⟨h, _⟩
              · exact h
              · rw [h] at hk; cases hk
            subst hc0
            go_wp2_with (refine ldK hR.ks rfl _ rfl rfl ?_)
            refine hkr.mono ?_
            rintro e wi ⟨rfl, hbi⟩
            go_wp2_with fail
            go_ret
            exact ⟨rfl, hR.bel.trans (hbi.mono hR.bel.size)⟩
          | true =>
            rw [kchkE_tt hk] at hkr
            go_wp2_with (refine ldK hR.ks rfl _ rfl rfl ?_)
            refine hkr.mono ?_
            rintro e wi ⟨rfl, hbi⟩
            have hR2 := hR.later hbi
            have hX2 := hX.later hbi
            have hP2 := hR2.pa.congr (pS_all f v)
            clear hkr hbi hR hX
            have hfl := follow_any (fun i => f (v i)) (c : Int)
            have HE0 : Hid (flE (fun i => f (v i)) (c : Int) = 0) := run_path (fun i _ => HV.out i) hRan hk
            have hfl2 : ∀ W, Calls Try.prog 17 #[.agg (pcs fun i => f (v i)), .int .i64 (c : Int)] W fun e w' => e = .returned (.tuple #[.agg (pcs (flK (fun i => f (v i)) (c : Int))), .int .i64 0]) ∧ Below W.heap.size W w' := fun W => by have h := hfl W; rw [← FollowA.yes HE0.out] at h; exact h
            clear hfl HE0
            go_upto_region 23 with (fail)
            refine wp_region_lit ?_
            refine ldP hP2 rfl _ rfl rfl ?_
            go_wp2_with fail
            refine (hfl2 _).mono ?_
            rintro e wk ⟨rfl, hbk⟩
            have hR3 := hR2.later hbk
            have hX3 := hX2.later hbk
            have hP3 := hP2.later hbk
            have hzk := new_zeroP wk
            obtain ⟨g, hg⟩ : ∃ g, flK (fun i => f (v i)) (c : Int) = g := ⟨_, rfl⟩
            rw [hg]
            have HG : Hid (∀ i, g i = adv f c (v i)) := by intro i; rw [← hg]; rfl
            clear hg hfl2 hbk hR2 hX2 hP2
            go_upto_region 24 with (refine stP (g := g) hzk rfl _ _ rfl rfl rfl ?_)
            rw [alloc_zeroP, World.setRow_alloc_new]
            have hR4 := hR3.later (alloc_pa wk g)
            have hX4 := hX3.later (alloc_pa wk g)
            have hP4 := hP3.later (alloc_pa wk g)
            have hQ4 := PaAt.new wk g
            clear hzk hR3 hX3 hP3
            generalize wk.alloc (.cells (pcs g) 40) = wl at *
            generalize wk.heap.size = Bq at *
            obtain ⟨cp, hcp⟩ : ∃ cp, pcs (fun i => f (v i)) = cp := ⟨_, rfl⟩
            obtain ⟨cg, hcg⟩ : ∃ cg, pcs g = cg := ⟨_, rfl⟩
            rw [hcp, hcg]
            clear hcp hcg
            have HRR : Hid (RN w wl f a Bp Bv (pS f v 3) (uS v 3)) := hR4
            have HX : Hid (KsAt wl Bx (adv f c)) := hX4
            have HP : Hid (PaAt wl Bp fun i => f (v i)) := hP4
            have HQ : Hid (PaAt wl Bq g) := hQ4
            clear hR4 hX4 hP4 hQ4
            go_wp2_with fail
            go_loopw [18] (fun i wx => ∃ k : Nat, k ≤ 3 ∧ i = .int .i64 (k : Int) ∧ RN w wx f a Bp Bv (pS f v 3) (uS v 3) ∧ KsAt wx Bx (adv f c) ∧ (PaAt wx Bp fun i => f (v i)) ∧ PaAt wx Bq g) (fun i _ => 3 - (intOf i).toNat)
            case atStart => exact ⟨0, by omega, rfl, HRR.out, HX.out, HP.out, HQ.out⟩
            case round =>
              obtain ⟨k, hk3, rfl, hR, hX, hP, hQ⟩ := hrel
              clear HRR HX HP HQ
              by_cases hk8 : k < 3
              · have k0 : (0 : Int) ≤ (k : Int) := by omega
                have k1 : (k : Int) < 3 := by omega
                have hvk := HV.out k
                have c0 := hR.vv.cell k hk8
                rw [uS_all v hk8] at c0
                obtain ⟨d0, d1⟩ := hX.cells (v k) hvk
                obtain ⟨e0, e1⟩ := hP.cells k hk8
                obtain ⟨g0, g1⟩ := hQ.cells k hk8
                rw [HG.out k] at g0 g1
                rw [show (adv f c (v k)).bas = (f (v k)).bas from rfl] at d0 g0
                rw [show (adv f c (v k)).stp = (f (v k)).stp + (c : Int) from rfl] at d1 g1
                obtain ⟨hgd, _⟩ := (kchk_iff.1 hk).1 (v k) hvk
                have hs3 := hgd.2.2.1
                have hs4 := hgd.2.2.2
                have hsub : IntKind.i64.wrap ((f (v k)).stp + (c : Int) - (c : Int)) = (f (v k)).stp := by rw [Int.add_sub_cancel]; exact i64_fit _ (by omega) (by omega)
                have HRR : Hid (RN w wr f a Bp Bv (pS f v 3) (uS v 3)) := hR
                have HX : Hid (KsAt wr Bx (adv f c)) := hX
                have HP : Hid (PaAt wr Bp fun i => f (v i)) := hP
                have HQ : Hid (PaAt wr Bq g) := hQ
                clear hR hX hP hQ hgd
                generalize (f (v k)).stp = S at *
                generalize (f (v k)).bas = b at *
                generalize v k = q at *
                have q0 : (0 : Int) ≤ (q : Int) := by omega
                have q1 : (q : Int) < 21 := by omega
                go_upto_region 29 with (fail)
                go_quiet (fail)
                go_wp2_with fail
                go_roundw
                case rel => exact ⟨k + 1, by omega, by go_num, HRR.out.later (dn_below _ _), HX.out.later (dn_below _ _), HP.out.later (dn_below _ _), HQ.out.later (dn_below _ _)⟩
                case measure => simp [intOf]; omega
              · obtain rfl : k = 3 := by omega
                go_wp2_with fail
                go_ret
                exact ⟨rfl, hR.bel⟩
theorem own : ownKnob Try.prog.godebug = none := by kernel_rfl
theorem laidOut : laidOutB Try.prog = true := by kernel_rfl
set_option maxRecDepth 100000 in
theorem lifted (os : Os) (started : os.Started) (H : Type) (enc : TypeId × Value → H) :
    ReturnsInHanded {} Try.checked os 8 .any (Rows.ratchetRunsSpec.pre6 enc Try.prog Try.f8 Rows.ratchetRunsRow.domain false) (Rows.ratchetRunsSpec.post enc Try.prog Try.f8 false true false false) := by
  refine returnsInHanded_of_change (C := Try.checked) own started (by kernel_rfl) Try.func8
    (ChangeSpec.witness6 (enc := enc) (C := Try.checked) false ⟨#[], #[.agg #[.int .i64 0, .int .i64 0, .int .i64 0, .int .i64 0, .int .i64 0, .int .i64 0, .int .i64 0, .int .i64 0, .int .i64 0, .int .i64 0, .int .i64 0, .int .i64 0, .int .i64 0, .int .i64 0, .int .i64 0, .int .i64 0, .int .i64 0, .int .i64 0, .int .i64 0, .int .i64 0, .int .i64 0, .int .i64 0, .int .i64 0, .int .i64 0, .int .i64 0, .int .i64 0, .int .i64 0, .int .i64 0, .int .i64 0, .int .i64 0, .int .i64 0, .int .i64 0, .int .i64 0, .int .i64 0, .int .i64 0, .int .i64 0, .int .i64 0, .int .i64 0, .int .i64 0, .int .i64 0, .int .i64 0, .int .i64 0], .agg #[.int .i64 0, .int .i64 0, .int .i64 0], .int .i64 0], []⟩ 8 (by kernel_rfl) (by kernel_rfl) (by kernel_rfl) (by kernel_rfl)) ?_
  intro W base args ds gs before hval0 hW hcnd _
  have hval : ∀ (j : Nat) t v, Try.f8.params[j]? = some t → args[j]? = some v → Value.okWide Try.prog W .any base t v := hval0
  have hW' := hW
  obtain ⟨p, q, hA0, hV, rfl, hfz, hnd⟩ := hW
  have hA : DataW.TrodAll enc Try.prog W 0 (fun _ => true) true Try.f8.params.toList args.toList ds p := hA0
  rw [Try.params8] at hA hval
  obtain ⟨v0, vs0, d0, ds0, p0, q0, hargs, rfl, rfl, h0, r0⟩ := trodAll_cons hA
  obtain ⟨v1, vs1, d1, ds1, p1, q1, rfl, rfl, rfl, h1, r1⟩ := trodAll_cons r0
  obtain ⟨v2, vs2, d2, ds2, p2, q2, rfl, rfl, rfl, h2, r2⟩ := trodAll_cons r1
  obtain ⟨rfl, rfl, rfl⟩ := trodAll_nil r2
  obtain rfl : args = #[v0, v1, v2] := by cases args; simp_all
  obtain ⟨rfl, rfl⟩ := trodVars_none hV
  have k0 := h0
  have lt0 : ∀ x ∈ p0, x.block < W.heap.size := by obtain ⟨m, hm⟩ := k0; exact DataW.trod_lt m _ _ _ hm
  obtain ⟨f0, rfl, wf0⟩ := open_ks (hval 0 25 v0 rfl rfl) h0
  have k1 := h1
  have lt1 : ∀ x ∈ p1, x.block < W.heap.size := by obtain ⟨m, hm⟩ := k1; exact DataW.trod_lt m _ _ _ hm
  obtain ⟨a1_0, a1_1, a1_2, rfl, w1_0, w1_1, w1_2⟩ := open_arr3 Try.underlying45 Try.underlying3 (by kernel_rfl) (by kernel_rfl) (hval 1 45 v1 rfl rfl) h1
  obtain ⟨a2, rfl, rfl, rfl, w2⟩ := open_int Try.underlying3 (hval 2 3 v2 rfl rfl) h2
  clear hA0 hval0
  refine (walk f0 a1_0 a1_1 a1_2 a2 wf0 w1_0 w1_1 w1_2 w2 W).mono fun e W' ⟨he, bel⟩ => ?_
  subst he
  exact ⟨_, rfl, _, _, _, [], _, [], hW', trodAll_mk1 (shut_bool Try.underlying4 _), (trodAll_cons_mk (Below.trod laidOut (by kernel_rfl) (of_decide_eq_true (by kernel_rfl)) k0 bel lt0) (trodAll_cons_mk (Below.trod laidOut (by kernel_rfl) (of_decide_eq_true (by kernel_rfl)) k1 bel lt1) (trodAll_cons_mk (shut_int Try.underlying3 w2) trodAll_mk0))), rfl, bel.frame _, fun h => by cases h⟩
theorem over : Rows.ratchetRunsRow.holds Try.pinned (OpenSpec.ofChange Rows.ratchetRunsSpec) :=
  OpenClaim.holds_of_wide 8 Try.f8 rfl rfl rfl rfl rfl rfl rfl ⟨rfl, rfl, rfl, rfl, rfl⟩ rfl rfl rfl rfl rfl (by kernel_rfl) Try.func8 (by kernel_rfl)
    (of_decide_eq_true (by kernel_rfl)) (by unfold Func.isWrapper; first | (rw [if_pos (by decide +kernel)]; kernel_rfl) | (rw [if_neg (by decide +kernel)]; exact ⟨rfl, rfl⟩))
    (fun os started H enc _ => lifted os started H enc)
end Go.Proofs.Ytgfegolignhefaa.ratchetRuns
namespace Go.Proofs.Ytgfegolignhefaa
theorem ratchetRuns_holds : Rows.RatchetRunsSaid := ratchetRuns.over
#print axioms ratchetRuns_holds
end Go.Proofs.Ytgfegolignhefaa
