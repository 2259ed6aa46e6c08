/- For every keys, every mask and every number: behind a Turn of package ratchet old keys give just their own advanced ones, and no new key gives an old one: RatchetOneWay, with no condition. -/
import Derived.Test.YtgfegolignhefaaRows
import Derived.Test.YtgfegolignhefaaOpenRt
import Derived.Test.YtgfegolignhefaaKeyC
namespace Go.Proofs.Ytgfegolignhefaa.ratchetOneWay
open Go.ChangeShapes Go.WideShapes Go.ChangeAt Go.RowKit
set_option linter.unusedVariables false
set_option linter.unusedSimpArgs false

theorem gv_base {a b : Ky} (h : a.bas ≠ b.bas) : gv a.bas a.stp b.bas b.stp = false := by
  unfold gv
  rw [show (a.bas == b.bas) = false by simp [h], Bool.false_and, Bool.and_false, Bool.and_false]
theorem gv_step {a b : Ky} (h : b.stp < a.stp) : gv a.bas a.stp b.bas b.stp = false := by
  unfold gv
  rw [decide_eq_false (by omega), Bool.and_false, Bool.and_false, Bool.and_false]
section
variable {f : Nat → Ky} {r : Nat} {n : Int}
theorem ow1 (h : trE f r n = 0) {v : Nat} (hv : v < 21) : gv (f v).bas (f v).stp (trK f r n v).bas (trK f r n v).stp = !r.testBit v := by
  cases hb : r.testBit v with
  | true => exact gv_base fun e => trK_fresh h hv hv hb e.symm
  | false =>
    have h1 := ((kchk_iff.1 (trE_good h).1).1 v hv).1
    have h2 := (trK_gd h hv).1
    rw [trK_old hb] at h2 ⊢
    unfold gv
    dsimp only at h2 ⊢
    rw [gd_yes h1, gd_yes h2]
    simp
    omega
theorem ow3 (h : trE f r n = 0) {v w : Nat} (hv : v < 21) (hw : w < 21) : gv (trK f r n w).bas (trK f r n w).stp (f v).bas (f v).stp = false := by
  cases hb : r.testBit w with
  | true => exact gv_base (trK_fresh h hw hv hb)
  | false =>
    by_cases hvw : w = v
    · subst hvw
      rw [trK_old hb]
      exact gv_step (a := ⟨(f w).bas, (f w).stp + 1⟩) (b := f w) (by dsimp only; omega)
    · rw [trK_old hb]
      exact gv_base (a := ⟨(f w).bas, (f w).stp + 1⟩) (b := f v) (kchk_ne (trE_good h).1 hw hv hvw)
theorem ow4 (h : trE f r n = 0) {v w : Nat} (hv : v < 21) (hw : w < 21) (hvw : w ≠ v) : gv (f w).bas (f w).stp (trK f r n v).bas (trK f r n v).stp = false := by
  cases hb : r.testBit v with
  | true => exact gv_base fun e => trK_fresh h hv hw hb e.symm
  | false =>
    rw [trK_old hb]
    exact gv_base (a := f w) (b := ⟨(f v).bas, (f v).stp + 1⟩) (kchk_ne (trE_good h).1 hw hv hvw)
end
structure OW (w W : World) (f g : Nat → Ky) (B : Nat) : Prop where
  ks : KsAt W w.heap.size f
  nx : KsAt W B g
  bel : Below w.heap.size w W
theorem OW.later {w W W' : World} {f g : Nat → Ky} {B : Nat} (h : OW w W f g B) (hb : Below W.heap.size W W') : OW w W' f g B := ⟨h.ks.later hb, h.nx.later hb, h.bel.trans (hb.mono h.bel.size)⟩
theorem eqA_zero {f : Nat → Ky} {r : Nat} {n : Int} (h : ¬ trE f r n = 0) : eqA (trA f r n) (fun _ => zK) = true := by unfold trA; rw [if_neg h]; exact eqA_refl _
set_option maxRecDepth 100000 in
set_option maxHeartbeats 2000000 in
theorem walk (f : Nat → Ky) (a1 : Int) (n : Int) (wf : ∀ i, i < 21 → KyWf (f i)) (w1 : (Lit.int .u32 a1).wf = true) (w2 : (Lit.int .i64 n).wf = true) (w : World) :
    Calls Try.prog 6 #[.agg (kcs f), .int .u32 a1, .int .i64 n] w fun e w' => e = .returned (.bool true) ∧ Below w.heap.size w w' := by
  obtain ⟨r, rfl, hr⟩ : ∃ r : Nat, a1 = (r : Int) ∧ r < 4294967296 := u32_nat w1
  clear wf w1 w2
  have hK := KsAt.new w f
  have hB := alloc_ks w f
  have ht1 := turn_any f r hr n
  unfold TurnA at ht1
  go_enter Try.func6, Try.ntmps6
  go_upto_region 1 with (fail)
  generalize w.alloc (.cells (kcs f) 25) = wa at *
  obtain ⟨cf, hcf⟩ : ∃ cf, kcs f = cf := ⟨_, rfl⟩
  rw [hcf]
  have HCF : Hid (kcs f = cf) := hcf
  clear hcf
  go_wp2_with fail
  refine (lives_any _).mono ?_
  rintro e w3 ⟨rfl, hb3⟩
  have hK3 := hK.later hb3
  have hB3 := hB.trans (hb3.mono hB.size)
  clear hK hB hb3
  go_upto_region 3 with (fail)
  refine wp_region_lit ?_
  refine ldK hK3 rfl _ rfl rfl ?_
  go_wp2_with fail
  refine (ht1 _).mono ?_
  rintro e w6 ⟨rfl, hb6⟩
  have hK6 := hK3.later hb6
  have hB6 := hB3.trans (hb6.mono hB3.size)
  have hz6 := new_zeroK w6
  clear ht1 hb6 hK3 hB3
  obtain ⟨g, hg⟩ : ∃ g, trA f r n = g := ⟨_, rfl⟩
  rw [hg]
  have HG : Hid (trA f r n = g) := hg
  clear hg
  obtain ⟨m, hm⟩ : ∃ m, trN f r n = m := ⟨_, rfl⟩
  rw [hm]
  have HM : Hid (trN f r n = m) := hm
  clear hm
  go_upto_region 4 with (refine stK (g := g) hz6 rfl _ _ rfl rfl rfl ?_)
  rw [alloc_zeroK, World.setRow_alloc_new]
  have hO7 : OW w (w6.alloc (.cells (kcs g) 25)) f g w6.heap.size := ⟨hK6.later (alloc_ks w6 g), KsAt.new w6 g, hB6.trans ((alloc_ks w6 g).mono hB6.size)⟩
  clear hz6 hB6 hK6
  generalize w6.alloc (.cells (kcs g) 25) = w7 at *
  generalize w6.heap.size = B7 at *
  obtain ⟨cg, hcg⟩ : ∃ cg, kcs g = cg := ⟨_, rfl⟩
  rw [hcg]
  clear hcg
  rw [HCF.out]
  clear HCF
  by_cases hE0 : trE f r n = 0
  · rw [hE0]
    have hG : trK f r n = g := by have h := HG.out; unfold trA at h; rw [if_pos hE0] at h; exact h
    have HO1 : Hid (∀ v, v < 21 → gv (f v).bas (f v).stp (g v).bas (g v).stp = !r.testBit v) := by intro v hv; rw [← hG]; exact ow1 hE0 hv
    have HO2 : Hid (∀ v, v < 21 → r.testBit v = true → (g v).stp = 0) := by intro v hv hb; rw [← hG, trK_new hb]
    have HO3 : Hid (∀ v x, v < 21 → x < 21 → gv (g x).bas (g x).stp (f v).bas (f v).stp = false) := by intro v x hv hx; rw [← hG]; exact ow3 hE0 hv hx
    have HO4 : Hid (∀ v x, v < 21 → x < 21 → x ≠ v → gv (f x).bas (f x).stp (g v).bas (g v).stp = false) := by intro v x hv hx hvx; rw [← hG]; exact ow4 hE0 hv hx hvx
    have HO7 : Hid (OW w w7 f g B7) := hO7
    clear hE0 HG HM hG hO7
    go_wp2_with fail
    go_loopw [10] (fun i wx => ∃ v : Nat, v ≤ 21 ∧ i = .int .i64 (v : Int) ∧ OW w wx f g B7) (fun i _ => 21 - (intOf i).toNat)
    case atStart => exact ⟨0, by omega, rfl, HO7.out⟩
    case round =>
      obtain ⟨v, hv, rfl, hO⟩ := hrel
      clear HO7
      have HO : Hid (OW w wr f g B7) := hO
      clear hO
      by_cases hv8 : v < 21
      · have v0 : (0 : Int) ≤ (v : Int) := by omega
        have v1 : (v : Int) < 21 := by omega
        have vw : IntKind.u64.wrap (v : Int) = (v : Int) := by rw [IntKind.wrap_u64]; omega
        have hand := and1 r v hr
        have hgi := rGives_any (f v).bas (f v).stp (g v).bas (g v).stp
        rw [HO1.out v hv8] at hgi
        have hstp := HO2.out v hv8
        cases hb : r.testBit v with
        | true =>
          rw [hb] at hand hgi
          have HST : Hid ((g v).stp = 0) := hstp hb
          clear hstp
          go_upto_region 10 with (fail)
          have hS0 : OW w wr.drew f g B7 := HO.out.later (drew_below _)
          refine wp_region_held_drew (S := fun W => OW w W f g B7) (by kernel_rfl) hS0 (fun hHeld => ?_)
          refine wpAnyH_take (i := 0) (oi := { dst := some 42, op := Op.move (Operand.tmp 10), type := _, pos := _, after := _, guard := none }) (v := .int .i64 (v : Int)) rfl (by kernel_rfl) (by kernel_rfl) (by kernel_rfl) (fun _ _ _ h => h) (Or.inl ⟨by rfl, fun w hSw => by (try dsimp only at hSw); go_simp⟩) (by assumption) ?_
          simp only [Act.put, List.setIfInBounds_toArray, List.set_cons_zero, List.set_cons_succ]
          refine wpAnyH_take (i := 1) (oi := { dst := some 43, op := Op.indexAddr 25 (Operand.tmp 3) (Operand.tmp 42), type := _, pos := _, after := _, guard := none }) (v := .pointer (some ⟨w.heap.size, v * 2, none⟩)) rfl (by kernel_rfl) (by kernel_rfl) (by kernel_rfl) (fun _ _ _ h => h) (Or.inl ⟨by rfl, fun w hSw => by (try dsimp only at hSw); go_simp⟩) (by assumption) ?_
          simp only [Act.put, List.setIfInBounds_toArray, List.set_cons_zero, List.set_cons_succ]
          refine wpAnyH_take (i := 2) (oi := { dst := some 44, op := Op.load 23 (Operand.tmp 43), type := _, pos := _, after := _, guard := none }) (v := .agg #[.int .i64 (f v).bas, .int .i64 (f v).stp]) rfl (by kernel_rfl) (by kernel_rfl) (by kernel_rfl) (fun _ _ _ h => h) (Or.inl ⟨by rfl, fun w hSw => by obtain ⟨c0, c1⟩ := hSw.ks.cells v hv8; clear hSw; go_simp⟩) (by assumption) ?_
          simp only [Act.put, List.setIfInBounds_toArray, List.set_cons_zero, List.set_cons_succ]
          refine wpAnyH_take (i := 3) (oi := { dst := some 45, op := Op.move (Operand.tmp 10), type := _, pos := _, after := _, guard := none }) (v := .int .i64 (v : Int)) rfl (by kernel_rfl) (by kernel_rfl) (by kernel_rfl) (fun _ _ _ h => h) (Or.inl ⟨by rfl, fun w hSw => by (try dsimp only at hSw); go_simp⟩) (by assumption) ?_
          simp only [Act.put, List.setIfInBounds_toArray, List.set_cons_zero, List.set_cons_succ]
          refine wpAnyH_take (i := 4) (oi := { dst := some 46, op := Op.indexAddr 25 (Operand.tmp 7) (Operand.tmp 45), type := _, pos := _, after := _, guard := none }) (v := .pointer (some ⟨B7, v * 2, none⟩)) rfl (by kernel_rfl) (by kernel_rfl) (by kernel_rfl) (fun _ _ _ h => h) (Or.inl ⟨by rfl, fun w hSw => by (try dsimp only at hSw); go_simp⟩) (by assumption) ?_
          simp only [Act.put, List.setIfInBounds_toArray, List.set_cons_zero, List.set_cons_succ]
          refine wpAnyH_take (i := 5) (oi := { dst := some 47, op := Op.load 23 (Operand.tmp 46), type := _, pos := _, after := _, guard := none }) (v := .agg #[.int .i64 (g v).bas, .int .i64 (g v).stp]) rfl (by kernel_rfl) (by kernel_rfl) (by kernel_rfl) (fun _ _ _ h => h) (Or.inl ⟨by rfl, fun w hSw => by obtain ⟨c0, c1⟩ := hSw.nx.cells v hv8; clear hSw; go_simp⟩) (by assumption) ?_
          simp only [Act.put, List.setIfInBounds_toArray, List.set_cons_zero, List.set_cons_succ]
          refine wpAnyH_take (i := 7) (oi := { dst := some 49, op := Op.move (Operand.tmp 11), type := _, pos := _, after := _, guard := none }) (v := .bool true) rfl (by kernel_rfl) (by kernel_rfl) (by kernel_rfl) (fun _ _ _ h => h) (Or.inl ⟨by rfl, fun w hSw => by (try dsimp only at hSw); go_simp⟩) (by assumption) ?_
          simp only [Act.put, List.setIfInBounds_toArray, List.set_cons_zero, List.set_cons_succ]
          refine wpAnyH_ready (rs := [6]) (by kernel_rfl) (by simp) ?_
          refine AllReadyH.cons rfl (fun K hK => ?_) AllReadyH.nil
          go_simp
          refine (hgi _).mono ?_
          rintro e w8 ⟨rfl, hb8⟩
          go_wp2_with fail
          refine hK.out _ _ (hHeld.later hb8) (fun hHeld2 => ?_)
          clear hHeld hb8
          clear hK K
          try simp only [Act.put, List.setIfInBounds_toArray, List.set_cons_zero, List.set_cons_succ]
          refine wpAnyH_take (i := 8) (oi := { dst := some 50, op := Op.binOp BinOp.eql 4 (Operand.tmp 48) (Operand.tmp 49) 4, type := _, pos := _, after := _, guard := none }) (v := .bool false) rfl (by kernel_rfl) (by kernel_rfl) (by kernel_rfl) (fun _ _ _ h => h) (Or.inl ⟨by rfl, fun w hSw => by (try dsimp only at hSw); go_simp⟩) (by assumption) ?_
          simp only [Act.put, List.setIfInBounds_toArray, List.set_cons_zero, List.set_cons_succ]
          refine wpAnyH_take (i := 9) (oi := { dst := some 51, op := Op.move (Operand.tmp 50), type := _, pos := _, after := _, guard := none }) (v := .bool false) rfl (by kernel_rfl) (by kernel_rfl) (by kernel_rfl) (fun _ _ _ h => h) (Or.inl ⟨by rfl, fun w hSw => by (try dsimp only at hSw); go_simp⟩) (by assumption) ?_
          simp only [Act.put, List.setIfInBounds_toArray, List.set_cons_zero, List.set_cons_succ]
          refine wpAnyH_take (i := 10) (oi := { dst := some 52, op := Op.move (Operand.tmp 11), type := _, pos := _, after := _, guard := some (9, false) }) (v := .bool true) rfl (by kernel_rfl) (by kernel_rfl) (by kernel_rfl) (fun _ _ _ h => h) (Or.inl ⟨by rfl, fun w hSw => by (try dsimp only at hSw); go_simp⟩) (by assumption) ?_
          simp only [Act.put, List.setIfInBounds_toArray, List.set_cons_zero, List.set_cons_succ]
          refine wpAnyH_take (i := 11) (oi := { dst := some 53, op := Op.move (Operand.tmp 52), type := _, pos := _, after := _, guard := some (9, false) }) (v := .bool true) rfl (by kernel_rfl) (by kernel_rfl) (by kernel_rfl) (fun _ _ _ h => h) (Or.inl ⟨by rfl, fun w hSw => by (try dsimp only at hSw); go_simp⟩) (by assumption) ?_
          simp only [Act.put, List.setIfInBounds_toArray, List.set_cons_zero, List.set_cons_succ]
          refine wpAnyH_take (i := 12) (oi := { dst := some 54, op := Op.move (Operand.tmp 10), type := _, pos := _, after := _, guard := some (11, true) }) (v := .int .i64 (v : Int)) rfl (by kernel_rfl) (by kernel_rfl) (by kernel_rfl) (fun _ _ _ h => h) (Or.inl ⟨by rfl, fun w hSw => by (try dsimp only at hSw); go_simp⟩) (by assumption) ?_
          simp only [Act.put, List.setIfInBounds_toArray, List.set_cons_zero, List.set_cons_succ]
          refine wpAnyH_take (i := 13) (oi := { dst := some 55, op := Op.indexAddr 25 (Operand.tmp 7) (Operand.tmp 54), type := _, pos := _, after := _, guard := some (11, true) }) (v := .pointer (some ⟨B7, v * 2, none⟩)) rfl (by kernel_rfl) (by kernel_rfl) (by kernel_rfl) (fun _ _ _ h => h) (Or.inl ⟨by rfl, fun w hSw => by (try dsimp only at hSw); go_simp⟩) (by assumption) ?_
          simp only [Act.put, List.setIfInBounds_toArray, List.set_cons_zero, List.set_cons_succ]
          refine wpAnyH_take (i := 14) (oi := { dst := some 56, op := Op.fieldAddr 23 (Operand.tmp 55) 1, type := _, pos := _, after := _, guard := some (11, true) }) (v := .pointer (some ⟨B7, v * 2 + 1, none⟩)) rfl (by kernel_rfl) (by kernel_rfl) (by kernel_rfl) (fun _ _ _ h => h) (Or.inl ⟨by rfl, fun w hSw => by (try dsimp only at hSw); go_simp⟩) (by assumption) ?_
          simp only [Act.put, List.setIfInBounds_toArray, List.set_cons_zero, List.set_cons_succ]
          refine wpAnyH_take (i := 15) (oi := { dst := some 57, op := Op.load 3 (Operand.tmp 56), type := _, pos := _, after := _, guard := some (11, true) }) (v := .int .i64 0) rfl (by kernel_rfl) (by kernel_rfl) (by kernel_rfl) (fun _ _ _ h => h) (Or.inl ⟨by rfl, fun w hSw => by obtain ⟨c0, c1⟩ := hSw.nx.cells v hv8; rw [HST.out] at c1; clear hSw; go_simp⟩) (by assumption) ?_
          simp only [Act.put, List.setIfInBounds_toArray, List.set_cons_zero, List.set_cons_succ]
          refine wpAnyH_take (i := 16) (oi := { dst := some 58, op := Op.binOp BinOp.neq 3 (Operand.tmp 57) (Operand.const (Value.int IntKind.i64 0)) 3, type := _, pos := _, after := _, guard := some (11, true) }) (v := .bool false) rfl (by kernel_rfl) (by kernel_rfl) (by kernel_rfl) (fun _ _ _ h => h) (Or.inl ⟨by rfl, fun w hSw => by (try dsimp only at hSw); go_simp⟩) (by assumption) ?_
          simp only [Act.put, List.setIfInBounds_toArray, List.set_cons_zero, List.set_cons_succ]
          refine wpAnyH_take (i := 17) (oi := { dst := some 59, op := Op.pick (Operand.tmp 53) (Operand.tmp 58) (Operand.const (Value.bool false)), type := _, pos := _, after := _, guard := some (9, false) }) (v := .bool false) rfl (by kernel_rfl) (by kernel_rfl) (by kernel_rfl) (fun _ _ _ h => h) (Or.inl ⟨by rfl, fun w hSw => by (try dsimp only at hSw); go_simp⟩) (by assumption) ?_
          simp only [Act.put, List.setIfInBounds_toArray, List.set_cons_zero, List.set_cons_succ]
          refine wpAnyH_take (i := 18) (oi := { dst := some 60, op := Op.pick (Operand.tmp 51) (Operand.const (Value.bool true)) (Operand.tmp 59), type := _, pos := _, after := _, guard := none }) (v := .bool false) rfl (by kernel_rfl) (by kernel_rfl) (by kernel_rfl) (fun _ _ _ h => h) (Or.inl ⟨by rfl, fun w hSw => by (try dsimp only at hSw); go_simp⟩) (by assumption) ?_
          simp only [Act.put, List.setIfInBounds_toArray, List.set_cons_zero, List.set_cons_succ]
          refine wpAnyH_done (by kernel_rfl) ?_ _
          clear hS0 HO hgi
          have HH : Hid (OW w w8 f g B7) := hHeld2
          clear hHeld2
          go_wp2_with fail
          go_loopw [12] (fun i wx => ∃ x : Nat, x ≤ 21 ∧ i = .int .i64 (x : Int) ∧ OW w wx f g B7) (fun i _ => 21 - (intOf i).toNat)
          case atStart => exact ⟨0, by omega, rfl, HH.out⟩
          case round =>
            obtain ⟨x, hx, rfl, hO⟩ := hrel
            clear HH
            have HO : Hid (OW w wr f g B7) := hO
            clear hO
            by_cases hx8 : x < 21
            · have x0 : (0 : Int) ≤ (x : Int) := by omega
              have x1 : (x : Int) < 21 := by omega
              have hg1 := rGives_any (g x).bas (g x).stp (f v).bas (f v).stp
              rw [HO3.out v x hv8 hx8] at hg1
              have hS0 : OW w wr.drew f g B7 := HO.out.later (drew_below _)
              by_cases hxv : x = v
              · have hxv2 : ((x : Int) == (v : Int)) = true := by simp [hxv]
                have HXV : Hid (x = v) := hxv
                clear hxv
                go_upto_region 15 with (fail)
                refine wp_region_held_drew (S := fun W => OW w W f g B7) (by kernel_rfl) hS0 (fun hHeld => ?_)
                refine wpAnyH_take (i := 0) (oi := { dst := some 65, op := Op.move (Operand.tmp 12), type := _, pos := _, after := _, guard := none }) (v := .int .i64 (x : Int)) rfl (by kernel_rfl) (by kernel_rfl) (by kernel_rfl) (fun _ _ _ h => h) (Or.inl ⟨by rfl, fun w hSw => by (try dsimp only at hSw); go_simp⟩) (by assumption) ?_
                simp only [Act.put, List.setIfInBounds_toArray, List.set_cons_zero, List.set_cons_succ]
                refine wpAnyH_take (i := 1) (oi := { dst := some 66, op := Op.indexAddr 25 (Operand.tmp 7) (Operand.tmp 65), type := _, pos := _, after := _, guard := none }) (v := .pointer (some ⟨B7, x * 2, none⟩)) rfl (by kernel_rfl) (by kernel_rfl) (by kernel_rfl) (fun _ _ _ h => h) (Or.inl ⟨by rfl, fun w hSw => by (try dsimp only at hSw); go_simp⟩) (by assumption) ?_
                simp only [Act.put, List.setIfInBounds_toArray, List.set_cons_zero, List.set_cons_succ]
                refine wpAnyH_take (i := 2) (oi := { dst := some 67, op := Op.load 23 (Operand.tmp 66), type := _, pos := _, after := _, guard := none }) (v := .agg #[.int .i64 (g x).bas, .int .i64 (g x).stp]) rfl (by kernel_rfl) (by kernel_rfl) (by kernel_rfl) (fun _ _ _ h => h) (Or.inl ⟨by rfl, fun w hSw => by obtain ⟨c0, c1⟩ := hSw.nx.cells x hx8; clear hSw; go_simp⟩) (by assumption) ?_
                simp only [Act.put, List.setIfInBounds_toArray, List.set_cons_zero, List.set_cons_succ]
                refine wpAnyH_take (i := 3) (oi := { dst := some 68, op := Op.move (Operand.tmp 10), type := _, pos := _, after := _, guard := none }) (v := .int .i64 (v : Int)) rfl (by kernel_rfl) (by kernel_rfl) (by kernel_rfl) (fun _ _ _ h => h) (Or.inl ⟨by rfl, fun w hSw => by (try dsimp only at hSw); go_simp⟩) (by assumption) ?_
                simp only [Act.put, List.setIfInBounds_toArray, List.set_cons_zero, List.set_cons_succ]
                refine wpAnyH_take (i := 4) (oi := { dst := some 69, op := Op.indexAddr 25 (Operand.tmp 3) (Operand.tmp 68), type := _, pos := _, after := _, guard := none }) (v := .pointer (some ⟨w.heap.size, v * 2, none⟩)) rfl (by kernel_rfl) (by kernel_rfl) (by kernel_rfl) (fun _ _ _ h => h) (Or.inl ⟨by rfl, fun w hSw => by (try dsimp only at hSw); go_simp⟩) (by assumption) ?_
                simp only [Act.put, List.setIfInBounds_toArray, List.set_cons_zero, List.set_cons_succ]
                refine wpAnyH_take (i := 5) (oi := { dst := some 70, op := Op.load 23 (Operand.tmp 69), type := _, pos := _, after := _, guard := none }) (v := .agg #[.int .i64 (f v).bas, .int .i64 (f v).stp]) rfl (by kernel_rfl) (by kernel_rfl) (by kernel_rfl) (fun _ _ _ h => h) (Or.inl ⟨by rfl, fun w hSw => by obtain ⟨c0, c1⟩ := hSw.ks.cells v hv8; clear hSw; go_simp⟩) (by assumption) ?_
                simp only [Act.put, List.setIfInBounds_toArray, List.set_cons_zero, List.set_cons_succ]
                refine wpAnyH_ready (rs := [6]) (by kernel_rfl) (by simp) ?_
                refine AllReadyH.cons rfl (fun K hK => ?_) AllReadyH.nil
                go_simp
                refine (hg1 _).mono ?_
                rintro e w9 ⟨rfl, hb9⟩
                go_wp2_with fail
                refine hK.out _ _ (hHeld.later hb9) (fun hHeld2 => ?_)
                clear hHeld hb9
                clear hK K
                try simp only [Act.put, List.setIfInBounds_toArray, List.set_cons_zero, List.set_cons_succ]
                refine wpAnyH_take (i := 7) (oi := { dst := some 72, op := Op.move (Operand.tmp 71), type := _, pos := _, after := _, guard := none }) (v := .bool false) rfl (by kernel_rfl) (by kernel_rfl) (by kernel_rfl) (fun _ _ _ h => h) (Or.inl ⟨by rfl, fun w hSw => by (try dsimp only at hSw); go_simp⟩) (by assumption) ?_
                simp only [Act.put, List.setIfInBounds_toArray, List.set_cons_zero, List.set_cons_succ]
                refine wpAnyH_take (i := 8) (oi := { dst := some 73, op := Op.move (Operand.tmp 12), type := _, pos := _, after := _, guard := some (7, false) }) (v := .int .i64 (x : Int)) rfl (by kernel_rfl) (by kernel_rfl) (by kernel_rfl) (fun _ _ _ h => h) (Or.inl ⟨by rfl, fun w hSw => by (try dsimp only at hSw); go_simp⟩) (by assumption) ?_
                simp only [Act.put, List.setIfInBounds_toArray, List.set_cons_zero, List.set_cons_succ]
                refine wpAnyH_take (i := 9) (oi := { dst := some 74, op := Op.move (Operand.tmp 10), type := _, pos := _, after := _, guard := some (7, false) }) (v := .int .i64 (v : Int)) rfl (by kernel_rfl) (by kernel_rfl) (by kernel_rfl) (fun _ _ _ h => h) (Or.inl ⟨by rfl, fun w hSw => by (try dsimp only at hSw); go_simp⟩) (by assumption) ?_
                simp only [Act.put, List.setIfInBounds_toArray, List.set_cons_zero, List.set_cons_succ]
                refine wpAnyH_take (i := 10) (oi := { dst := some 75, op := Op.binOp BinOp.neq 3 (Operand.tmp 73) (Operand.tmp 74) 3, type := _, pos := _, after := _, guard := some (7, false) }) (v := .bool false) rfl (by kernel_rfl) (by kernel_rfl) (by kernel_rfl) (fun _ _ _ h => h) (Or.inl ⟨by rfl, fun w hSw => by go_simp; have := HXV.out; omega⟩) (by assumption) ?_
                simp only [Act.put, List.setIfInBounds_toArray, List.set_cons_zero, List.set_cons_succ]
                refine wpAnyH_take (i := 11) (oi := { dst := some 76, op := Op.move (Operand.tmp 75), type := _, pos := _, after := _, guard := some (7, false) }) (v := .bool false) rfl (by kernel_rfl) (by kernel_rfl) (by kernel_rfl) (fun _ _ _ h => h) (Or.inl ⟨by rfl, fun w hSw => by (try dsimp only at hSw); go_simp⟩) (by assumption) ?_
                simp only [Act.put, List.setIfInBounds_toArray, List.set_cons_zero, List.set_cons_succ]
                refine wpAnyH_take (i := 12) (oi := { dst := some 77, op := Op.move (Operand.tmp 12), type := _, pos := _, after := _, guard := some (11, true) }) (v := undef) rfl (by kernel_rfl) (by kernel_rfl) (by kernel_rfl) (fun _ _ _ h => h) (Or.inr ⟨by rfl, rfl⟩) (by assumption) ?_
                simp only [Act.put, List.setIfInBounds_toArray, List.set_cons_zero, List.set_cons_succ]
                refine wpAnyH_take (i := 13) (oi := { dst := some 78, op := Op.indexAddr 25 (Operand.tmp 3) (Operand.tmp 77), type := _, pos := _, after := _, guard := some (11, true) }) (v := undef) rfl (by kernel_rfl) (by kernel_rfl) (by kernel_rfl) (fun _ _ _ h => h) (Or.inr ⟨by rfl, rfl⟩) (by assumption) ?_
                simp only [Act.put, List.setIfInBounds_toArray, List.set_cons_zero, List.set_cons_succ]
                refine wpAnyH_take (i := 14) (oi := { dst := some 79, op := Op.load 23 (Operand.tmp 78), type := _, pos := _, after := _, guard := some (11, true) }) (v := undef) rfl (by kernel_rfl) (by kernel_rfl) (by kernel_rfl) (fun _ _ _ h => h) (Or.inr ⟨by rfl, rfl⟩) (by assumption) ?_
                simp only [Act.put, List.setIfInBounds_toArray, List.set_cons_zero, List.set_cons_succ]
                refine wpAnyH_take (i := 15) (oi := { dst := some 80, op := Op.move (Operand.tmp 10), type := _, pos := _, after := _, guard := some (11, true) }) (v := undef) rfl (by kernel_rfl) (by kernel_rfl) (by kernel_rfl) (fun _ _ _ h => h) (Or.inr ⟨by rfl, rfl⟩) (by assumption) ?_
                simp only [Act.put, List.setIfInBounds_toArray, List.set_cons_zero, List.set_cons_succ]
                refine wpAnyH_take (i := 16) (oi := { dst := some 81, op := Op.indexAddr 25 (Operand.tmp 7) (Operand.tmp 80), type := _, pos := _, after := _, guard := some (11, true) }) (v := undef) rfl (by kernel_rfl) (by kernel_rfl) (by kernel_rfl) (fun _ _ _ h => h) (Or.inr ⟨by rfl, rfl⟩) (by assumption) ?_
                simp only [Act.put, List.setIfInBounds_toArray, List.set_cons_zero, List.set_cons_succ]
                refine wpAnyH_take (i := 17) (oi := { dst := some 82, op := Op.load 23 (Operand.tmp 81), type := _, pos := _, after := _, guard := some (11, true) }) (v := undef) rfl (by kernel_rfl) (by kernel_rfl) (by kernel_rfl) (fun _ _ _ h => h) (Or.inr ⟨by rfl, rfl⟩) (by assumption) ?_
                simp only [Act.put, List.setIfInBounds_toArray, List.set_cons_zero, List.set_cons_succ]
                refine wpAnyH_take (i := 18) (oi := { dst := some 83, op := Op.call { callee := Callee.value (Operand.func 16), args := #[(Operand.tmp 79), (Operand.tmp 82)], argTypes := #[23, 23] }, type := _, pos := _, after := _, guard := some (11, true) }) (v := undef) rfl (by kernel_rfl) (by kernel_rfl) (by kernel_rfl) (fun _ _ _ h => h) (Or.inr ⟨by rfl, rfl⟩) (by assumption) ?_
                simp only [Act.put, List.setIfInBounds_toArray, List.set_cons_zero, List.set_cons_succ]
                refine wpAnyH_take (i := 19) (oi := { dst := some 84, op := Op.pick (Operand.tmp 76) (Operand.tmp 83) (Operand.const (Value.bool false)), type := _, pos := _, after := _, guard := some (7, false) }) (v := .bool false) rfl (by kernel_rfl) (by kernel_rfl) (by kernel_rfl) (fun _ _ _ h => h) (Or.inl ⟨by rfl, fun w hSw => by (try dsimp only at hSw); go_simp⟩) (by assumption) ?_
                simp only [Act.put, List.setIfInBounds_toArray, List.set_cons_zero, List.set_cons_succ]
                refine wpAnyH_take (i := 20) (oi := { dst := some 85, op := Op.pick (Operand.tmp 72) (Operand.const (Value.bool true)) (Operand.tmp 84), type := _, pos := _, after := _, guard := none }) (v := .bool false) rfl (by kernel_rfl) (by kernel_rfl) (by kernel_rfl) (fun _ _ _ h => h) (Or.inl ⟨by rfl, fun w hSw => by (try dsimp only at hSw); go_simp⟩) (by assumption) ?_
                simp only [Act.put, List.setIfInBounds_toArray, List.set_cons_zero, List.set_cons_succ]
                refine wpAnyH_done (by kernel_rfl) ?_ _
                have HH : Hid (OW w w9 f g B7) := hHeld2
                clear hHeld2
                go_wp2_with fail
                go_roundw
                case rel => exact ⟨x + 1, by omega, by go_num, HH.out⟩
                case measure => simp [intOf]; omega
              · have hxv2 : ((x : Int) == (v : Int)) = false := by simp; omega
                have hg2 := rGives_any (f x).bas (f x).stp (g v).bas (g v).stp
                rw [HO4.out v x hv8 hx8 hxv] at hg2
                go_upto_region 15 with (fail)
                refine wp_region_held_drew (S := fun W => OW w W f g B7) (by kernel_rfl) hS0 (fun hHeld => ?_)
                refine wpAnyH_take (i := 0) (oi := { dst := some 65, op := Op.move (Operand.tmp 12), type := _, pos := _, after := _, guard := none }) (v := .int .i64 (x : Int)) rfl (by kernel_rfl) (by kernel_rfl) (by kernel_rfl) (fun _ _ _ h => h) (Or.inl ⟨by rfl, fun w hSw => by (try dsimp only at hSw); go_simp⟩) (by assumption) ?_
                simp only [Act.put, List.setIfInBounds_toArray, List.set_cons_zero, List.set_cons_succ]
                refine wpAnyH_take (i := 1) (oi := { dst := some 66, op := Op.indexAddr 25 (Operand.tmp 7) (Operand.tmp 65), type := _, pos := _, after := _, guard := none }) (v := .pointer (some ⟨B7, x * 2, none⟩)) rfl (by kernel_rfl) (by kernel_rfl) (by kernel_rfl) (fun _ _ _ h => h) (Or.inl ⟨by rfl, fun w hSw => by (try dsimp only at hSw); go_simp⟩) (by assumption) ?_
                simp only [Act.put, List.setIfInBounds_toArray, List.set_cons_zero, List.set_cons_succ]
                refine wpAnyH_take (i := 2) (oi := { dst := some 67, op := Op.load 23 (Operand.tmp 66), type := _, pos := _, after := _, guard := none }) (v := .agg #[.int .i64 (g x).bas, .int .i64 (g x).stp]) rfl (by kernel_rfl) (by kernel_rfl) (by kernel_rfl) (fun _ _ _ h => h) (Or.inl ⟨by rfl, fun w hSw => by obtain ⟨c0, c1⟩ := hSw.nx.cells x hx8; clear hSw; go_simp⟩) (by assumption) ?_
                simp only [Act.put, List.setIfInBounds_toArray, List.set_cons_zero, List.set_cons_succ]
                refine wpAnyH_take (i := 3) (oi := { dst := some 68, op := Op.move (Operand.tmp 10), type := _, pos := _, after := _, guard := none }) (v := .int .i64 (v : Int)) rfl (by kernel_rfl) (by kernel_rfl) (by kernel_rfl) (fun _ _ _ h => h) (Or.inl ⟨by rfl, fun w hSw => by (try dsimp only at hSw); go_simp⟩) (by assumption) ?_
                simp only [Act.put, List.setIfInBounds_toArray, List.set_cons_zero, List.set_cons_succ]
                refine wpAnyH_take (i := 4) (oi := { dst := some 69, op := Op.indexAddr 25 (Operand.tmp 3) (Operand.tmp 68), type := _, pos := _, after := _, guard := none }) (v := .pointer (some ⟨w.heap.size, v * 2, none⟩)) rfl (by kernel_rfl) (by kernel_rfl) (by kernel_rfl) (fun _ _ _ h => h) (Or.inl ⟨by rfl, fun w hSw => by (try dsimp only at hSw); go_simp⟩) (by assumption) ?_
                simp only [Act.put, List.setIfInBounds_toArray, List.set_cons_zero, List.set_cons_succ]
                refine wpAnyH_take (i := 5) (oi := { dst := some 70, op := Op.load 23 (Operand.tmp 69), type := _, pos := _, after := _, guard := none }) (v := .agg #[.int .i64 (f v).bas, .int .i64 (f v).stp]) rfl (by kernel_rfl) (by kernel_rfl) (by kernel_rfl) (fun _ _ _ h => h) (Or.inl ⟨by rfl, fun w hSw => by obtain ⟨c0, c1⟩ := hSw.ks.cells v hv8; clear hSw; go_simp⟩) (by assumption) ?_
                simp only [Act.put, List.setIfInBounds_toArray, List.set_cons_zero, List.set_cons_succ]
                refine wpAnyH_ready (rs := [6]) (by kernel_rfl) (by simp) ?_
                refine AllReadyH.cons rfl (fun K hK => ?_) AllReadyH.nil
                go_simp
                refine (hg1 _).mono ?_
                rintro e w9 ⟨rfl, hb9⟩
                go_wp2_with fail
                refine hK.out _ _ (hHeld.later hb9) (fun hHeld2 => ?_)
                clear hHeld hb9
                clear hK K
                try simp only [Act.put, List.setIfInBounds_toArray, List.set_cons_zero, List.set_cons_succ]
                refine wpAnyH_take (i := 7) (oi := { dst := some 72, op := Op.move (Operand.tmp 71), type := _, pos := _, after := _, guard := none }) (v := .bool false) rfl (by kernel_rfl) (by kernel_rfl) (by kernel_rfl) (fun _ _ _ h => h) (Or.inl ⟨by rfl, fun w hSw => by (try dsimp only at hSw); go_simp⟩) (by assumption) ?_
                simp only [Act.put, List.setIfInBounds_toArray, List.set_cons_zero, List.set_cons_succ]
                refine wpAnyH_take (i := 8) (oi := { dst := some 73, op := Op.move (Operand.tmp 12), type := _, pos := _, after := _, guard := some (7, false) }) (v := .int .i64 (x : Int)) rfl (by kernel_rfl) (by kernel_rfl) (by kernel_rfl) (fun _ _ _ h => h) (Or.inl ⟨by rfl, fun w hSw => by (try dsimp only at hSw); go_simp⟩) (by assumption) ?_
                simp only [Act.put, List.setIfInBounds_toArray, List.set_cons_zero, List.set_cons_succ]
                refine wpAnyH_take (i := 9) (oi := { dst := some 74, op := Op.move (Operand.tmp 10), type := _, pos := _, after := _, guard := some (7, false) }) (v := .int .i64 (v : Int)) rfl (by kernel_rfl) (by kernel_rfl) (by kernel_rfl) (fun _ _ _ h => h) (Or.inl ⟨by rfl, fun w hSw => by (try dsimp only at hSw); go_simp⟩) (by assumption) ?_
                simp only [Act.put, List.setIfInBounds_toArray, List.set_cons_zero, List.set_cons_succ]
                refine wpAnyH_take (i := 10) (oi := { dst := some 75, op := Op.binOp BinOp.neq 3 (Operand.tmp 73) (Operand.tmp 74) 3, type := _, pos := _, after := _, guard := some (7, false) }) (v := .bool true) rfl (by kernel_rfl) (by kernel_rfl) (by kernel_rfl) (fun _ _ _ h => h) (Or.inl ⟨by rfl, fun w hSw => by go_simp; omega⟩) (by assumption) ?_
                simp only [Act.put, List.setIfInBounds_toArray, List.set_cons_zero, List.set_cons_succ]
                refine wpAnyH_take (i := 11) (oi := { dst := some 76, op := Op.move (Operand.tmp 75), type := _, pos := _, after := _, guard := some (7, false) }) (v := .bool true) rfl (by kernel_rfl) (by kernel_rfl) (by kernel_rfl) (fun _ _ _ h => h) (Or.inl ⟨by rfl, fun w hSw => by (try dsimp only at hSw); go_simp⟩) (by assumption) ?_
                simp only [Act.put, List.setIfInBounds_toArray, List.set_cons_zero, List.set_cons_succ]
                refine wpAnyH_take (i := 12) (oi := { dst := some 77, op := Op.move (Operand.tmp 12), type := _, pos := _, after := _, guard := some (11, true) }) (v := .int .i64 (x : Int)) rfl (by kernel_rfl) (by kernel_rfl) (by kernel_rfl) (fun _ _ _ h => h) (Or.inl ⟨by rfl, fun w hSw => by (try dsimp only at hSw); go_simp⟩) (by assumption) ?_
                simp only [Act.put, List.setIfInBounds_toArray, List.set_cons_zero, List.set_cons_succ]
                refine wpAnyH_take (i := 13) (oi := { dst := some 78, op := Op.indexAddr 25 (Operand.tmp 3) (Operand.tmp 77), type := _, pos := _, after := _, guard := some (11, true) }) (v := .pointer (some ⟨w.heap.size, x * 2, none⟩)) rfl (by kernel_rfl) (by kernel_rfl) (by kernel_rfl) (fun _ _ _ h => h) (Or.inl ⟨by rfl, fun w hSw => by (try dsimp only at hSw); go_simp⟩) (by assumption) ?_
                simp only [Act.put, List.setIfInBounds_toArray, List.set_cons_zero, List.set_cons_succ]
                refine wpAnyH_take (i := 14) (oi := { dst := some 79, op := Op.load 23 (Operand.tmp 78), type := _, pos := _, after := _, guard := some (11, true) }) (v := .agg #[.int .i64 (f x).bas, .int .i64 (f x).stp]) rfl (by kernel_rfl) (by kernel_rfl) (by kernel_rfl) (fun _ _ _ h => h) (Or.inl ⟨by rfl, fun w hSw => by obtain ⟨c0, c1⟩ := hSw.ks.cells x hx8; clear hSw; go_simp⟩) (by assumption) ?_
                simp only [Act.put, List.setIfInBounds_toArray, List.set_cons_zero, List.set_cons_succ]
                refine wpAnyH_take (i := 15) (oi := { dst := some 80, op := Op.move (Operand.tmp 10), type := _, pos := _, after := _, guard := some (11, true) }) (v := .int .i64 (v : Int)) rfl (by kernel_rfl) (by kernel_rfl) (by kernel_rfl) (fun _ _ _ h => h) (Or.inl ⟨by rfl, fun w hSw => by (try dsimp only at hSw); go_simp⟩) (by assumption) ?_
                simp only [Act.put, List.setIfInBounds_toArray, List.set_cons_zero, List.set_cons_succ]
                refine wpAnyH_take (i := 16) (oi := { dst := some 81, op := Op.indexAddr 25 (Operand.tmp 7) (Operand.tmp 80), type := _, pos := _, after := _, guard := some (11, true) }) (v := .pointer (some ⟨B7, v * 2, none⟩)) rfl (by kernel_rfl) (by kernel_rfl) (by kernel_rfl) (fun _ _ _ h => h) (Or.inl ⟨by rfl, fun w hSw => by (try dsimp only at hSw); go_simp⟩) (by assumption) ?_
                simp only [Act.put, List.setIfInBounds_toArray, List.set_cons_zero, List.set_cons_succ]
                refine wpAnyH_take (i := 17) (oi := { dst := some 82, op := Op.load 23 (Operand.tmp 81), type := _, pos := _, after := _, guard := some (11, true) }) (v := .agg #[.int .i64 (g v).bas, .int .i64 (g v).stp]) rfl (by kernel_rfl) (by kernel_rfl) (by kernel_rfl) (fun _ _ _ h => h) (Or.inl ⟨by rfl, fun w hSw => by obtain ⟨c0, c1⟩ := hSw.nx.cells v hv8; clear hSw; go_simp⟩) (by assumption) ?_
                simp only [Act.put, List.setIfInBounds_toArray, List.set_cons_zero, List.set_cons_succ]
                refine wpAnyH_ready (rs := [18]) (by kernel_rfl) (by simp) ?_
                refine AllReadyH.cons rfl (fun K hK => ?_) AllReadyH.nil
                go_simp
                refine (hg2 _).mono ?_
                rintro e w10 ⟨rfl, hb10⟩
                go_wp2_with fail
                refine hK.out _ _ (hHeld2.later hb10) (fun hHeld3 => ?_)
                clear hHeld2 hb10
                clear hK K
                try simp only [Act.put, List.setIfInBounds_toArray, List.set_cons_zero, List.set_cons_succ]
                refine wpAnyH_take (i := 19) (oi := { dst := some 84, op := Op.pick (Operand.tmp 76) (Operand.tmp 83) (Operand.const (Value.bool false)), type := _, pos := _, after := _, guard := some (7, false) }) (v := .bool false) rfl (by kernel_rfl) (by kernel_rfl) (by kernel_rfl) (fun _ _ _ h => h) (Or.inl ⟨by rfl, fun w hSw => by (try dsimp only at hSw); go_simp⟩) (by assumption) ?_
                simp only [Act.put, List.setIfInBounds_toArray, List.set_cons_zero, List.set_cons_succ]
                refine wpAnyH_take (i := 20) (oi := { dst := some 85, op := Op.pick (Operand.tmp 72) (Operand.const (Value.bool true)) (Operand.tmp 84), type := _, pos := _, after := _, guard := none }) (v := .bool false) rfl (by kernel_rfl) (by kernel_rfl) (by kernel_rfl) (fun _ _ _ h => h) (Or.inl ⟨by rfl, fun w hSw => by (try dsimp only at hSw); go_simp⟩) (by assumption) ?_
                simp only [Act.put, List.setIfInBounds_toArray, List.set_cons_zero, List.set_cons_succ]
                refine wpAnyH_done (by kernel_rfl) ?_ _
                have HH : Hid (OW w w10 f g B7) := hHeld3
                clear hHeld3
                go_wp2_with fail
                go_roundw
                case rel => exact ⟨x + 1, by omega, by go_num, HH.out⟩
                case measure => simp [intOf]; omega
            · obtain rfl : x = 21 := by omega
              go_wp2_with fail
              go_roundw
              case rel => exact ⟨v + 1, by omega, by go_num, HO.out⟩
              case measure => simp [intOf]; omega
        | false =>
          rw [hb] at hand hgi
          clear hstp
          go_upto_region 10 with (fail)
          have hS0 : OW w wr.drew f g B7 := HO.out.later (drew_below _)
          refine wp_region_held_drew (S := fun W => OW w W f g B7) (by kernel_rfl) hS0 (fun hHeld => ?_)
          refine wpAnyH_take (i := 0) (oi := { dst := some 42, op := Op.move (Operand.tmp 10), type := _, pos := _, after := _, guard := none }) (v := .int .i64 (v : Int)) rfl (by kernel_rfl) (by kernel_rfl) (by kernel_rfl) (fun _ _ _ h => h) (Or.inl ⟨by rfl, fun w hSw => by (try dsimp only at hSw); go_simp⟩) (by assumption) ?_
          simp only [Act.put, List.setIfInBounds_toArray, List.set_cons_zero, List.set_cons_succ]
          refine wpAnyH_take (i := 1) (oi := { dst := some 43, op := Op.indexAddr 25 (Operand.tmp 3) (Operand.tmp 42), type := _, pos := _, after := _, guard := none }) (v := .pointer (some ⟨w.heap.size, v * 2, none⟩)) rfl (by kernel_rfl) (by kernel_rfl) (by kernel_rfl) (fun _ _ _ h => h) (Or.inl ⟨by rfl, fun w hSw => by (try dsimp only at hSw); go_simp⟩) (by assumption) ?_
          simp only [Act.put, List.setIfInBounds_toArray, List.set_cons_zero, List.set_cons_succ]
          refine wpAnyH_take (i := 2) (oi := { dst := some 44, op := Op.load 23 (Operand.tmp 43), type := _, pos := _, after := _, guard := none }) (v := .agg #[.int .i64 (f v).bas, .int .i64 (f v).stp]) rfl (by kernel_rfl) (by kernel_rfl) (by kernel_rfl) (fun _ _ _ h => h) (Or.inl ⟨by rfl, fun w hSw => by obtain ⟨c0, c1⟩ := hSw.ks.cells v hv8; clear hSw; go_simp⟩) (by assumption) ?_
          simp only [Act.put, List.setIfInBounds_toArray, List.set_cons_zero, List.set_cons_succ]
          refine wpAnyH_take (i := 3) (oi := { dst := some 45, op := Op.move (Operand.tmp 10), type := _, pos := _, after := _, guard := none }) (v := .int .i64 (v : Int)) rfl (by kernel_rfl) (by kernel_rfl) (by kernel_rfl) (fun _ _ _ h => h) (Or.inl ⟨by rfl, fun w hSw => by (try dsimp only at hSw); go_simp⟩) (by assumption) ?_
          simp only [Act.put, List.setIfInBounds_toArray, List.set_cons_zero, List.set_cons_succ]
          refine wpAnyH_take (i := 4) (oi := { dst := some 46, op := Op.indexAddr 25 (Operand.tmp 7) (Operand.tmp 45), type := _, pos := _, after := _, guard := none }) (v := .pointer (some ⟨B7, v * 2, none⟩)) rfl (by kernel_rfl) (by kernel_rfl) (by kernel_rfl) (fun _ _ _ h => h) (Or.inl ⟨by rfl, fun w hSw => by (try dsimp only at hSw); go_simp⟩) (by assumption) ?_
          simp only [Act.put, List.setIfInBounds_toArray, List.set_cons_zero, List.set_cons_succ]
          refine wpAnyH_take (i := 5) (oi := { dst := some 47, op := Op.load 23 (Operand.tmp 46), type := _, pos := _, after := _, guard := none }) (v := .agg #[.int .i64 (g v).bas, .int .i64 (g v).stp]) rfl (by kernel_rfl) (by kernel_rfl) (by kernel_rfl) (fun _ _ _ h => h) (Or.inl ⟨by rfl, fun w hSw => by obtain ⟨c0, c1⟩ := hSw.nx.cells v hv8; clear hSw; go_simp⟩) (by assumption) ?_
          simp only [Act.put, List.setIfInBounds_toArray, List.set_cons_zero, List.set_cons_succ]
          refine wpAnyH_take (i := 7) (oi := { dst := some 49, op := Op.move (Operand.tmp 11), type := _, pos := _, after := _, guard := none }) (v := .bool false) rfl (by kernel_rfl) (by kernel_rfl) (by kernel_rfl) (fun _ _ _ h => h) (Or.inl ⟨by rfl, fun w hSw => by (try dsimp only at hSw); go_simp⟩) (by assumption) ?_
          simp only [Act.put, List.setIfInBounds_toArray, List.set_cons_zero, List.set_cons_succ]
          refine wpAnyH_ready (rs := [6]) (by kernel_rfl) (by simp) ?_
          refine AllReadyH.cons rfl (fun K hK => ?_) AllReadyH.nil
          go_simp
          refine (hgi _).mono ?_
          rintro e w8 ⟨rfl, hb8⟩
          go_wp2_with fail
          refine hK.out _ _ (hHeld.later hb8) (fun hHeld2 => ?_)
          clear hHeld hb8
          clear hK K
          try simp only [Act.put, List.setIfInBounds_toArray, List.set_cons_zero, List.set_cons_succ]
          refine wpAnyH_take (i := 8) (oi := { dst := some 50, op := Op.binOp BinOp.eql 4 (Operand.tmp 48) (Operand.tmp 49) 4, type := _, pos := _, after := _, guard := none }) (v := .bool false) rfl (by kernel_rfl) (by kernel_rfl) (by kernel_rfl) (fun _ _ _ h => h) (Or.inl ⟨by rfl, fun w hSw => by (try dsimp only at hSw); go_simp⟩) (by assumption) ?_
          simp only [Act.put, List.setIfInBounds_toArray, List.set_cons_zero, List.set_cons_succ]
          refine wpAnyH_take (i := 9) (oi := { dst := some 51, op := Op.move (Operand.tmp 50), type := _, pos := _, after := _, guard := none }) (v := .bool false) rfl (by kernel_rfl) (by kernel_rfl) (by kernel_rfl) (fun _ _ _ h => h) (Or.inl ⟨by rfl, fun w hSw => by (try dsimp only at hSw); go_simp⟩) (by assumption) ?_
          simp only [Act.put, List.setIfInBounds_toArray, List.set_cons_zero, List.set_cons_succ]
          refine wpAnyH_take (i := 10) (oi := { dst := some 52, op := Op.move (Operand.tmp 11), type := _, pos := _, after := _, guard := some (9, false) }) (v := .bool false) rfl (by kernel_rfl) (by kernel_rfl) (by kernel_rfl) (fun _ _ _ h => h) (Or.inl ⟨by rfl, fun w hSw => by (try dsimp only at hSw); go_simp⟩) (by assumption) ?_
          simp only [Act.put, List.setIfInBounds_toArray, List.set_cons_zero, List.set_cons_succ]
          refine wpAnyH_take (i := 11) (oi := { dst := some 53, op := Op.move (Operand.tmp 52), type := _, pos := _, after := _, guard := some (9, false) }) (v := .bool false) rfl (by kernel_rfl) (by kernel_rfl) (by kernel_rfl) (fun _ _ _ h => h) (Or.inl ⟨by rfl, fun w hSw => by (try dsimp only at hSw); go_simp⟩) (by assumption) ?_
          simp only [Act.put, List.setIfInBounds_toArray, List.set_cons_zero, List.set_cons_succ]
          refine wpAnyH_take (i := 12) (oi := { dst := some 54, op := Op.move (Operand.tmp 10), type := _, pos := _, after := _, guard := some (11, true) }) (v := undef) rfl (by kernel_rfl) (by kernel_rfl) (by kernel_rfl) (fun _ _ _ h => h) (Or.inr ⟨by rfl, rfl⟩) (by assumption) ?_
          simp only [Act.put, List.setIfInBounds_toArray, List.set_cons_zero, List.set_cons_succ]
          refine wpAnyH_take (i := 13) (oi := { dst := some 55, op := Op.indexAddr 25 (Operand.tmp 7) (Operand.tmp 54), type := _, pos := _, after := _, guard := some (11, true) }) (v := undef) rfl (by kernel_rfl) (by kernel_rfl) (by kernel_rfl) (fun _ _ _ h => h) (Or.inr ⟨by rfl, rfl⟩) (by assumption) ?_
          simp only [Act.put, List.setIfInBounds_toArray, List.set_cons_zero, List.set_cons_succ]
          refine wpAnyH_take (i := 14) (oi := { dst := some 56, op := Op.fieldAddr 23 (Operand.tmp 55) 1, type := _, pos := _, after := _, guard := some (11, true) }) (v := undef) rfl (by kernel_rfl) (by kernel_rfl) (by kernel_rfl) (fun _ _ _ h => h) (Or.inr ⟨by rfl, rfl⟩) (by assumption) ?_
          simp only [Act.put, List.setIfInBounds_toArray, List.set_cons_zero, List.set_cons_succ]
          refine wpAnyH_take (i := 15) (oi := { dst := some 57, op := Op.load 3 (Operand.tmp 56), type := _, pos := _, after := _, guard := some (11, true) }) (v := undef) rfl (by kernel_rfl) (by kernel_rfl) (by kernel_rfl) (fun _ _ _ h => h) (Or.inr ⟨by rfl, rfl⟩) (by assumption) ?_
          simp only [Act.put, List.setIfInBounds_toArray, List.set_cons_zero, List.set_cons_succ]
          refine wpAnyH_take (i := 16) (oi := { dst := some 58, op := Op.binOp BinOp.neq 3 (Operand.tmp 57) (Operand.const (Value.int IntKind.i64 0)) 3, type := _, pos := _, after := _, guard := some (11, true) }) (v := undef) rfl (by kernel_rfl) (by kernel_rfl) (by kernel_rfl) (fun _ _ _ h => h) (Or.inr ⟨by rfl, rfl⟩) (by assumption) ?_
          simp only [Act.put, List.setIfInBounds_toArray, List.set_cons_zero, List.set_cons_succ]
          refine wpAnyH_take (i := 17) (oi := { dst := some 59, op := Op.pick (Operand.tmp 53) (Operand.tmp 58) (Operand.const (Value.bool false)), type := _, pos := _, after := _, guard := some (9, false) }) (v := .bool false) rfl (by kernel_rfl) (by kernel_rfl) (by kernel_rfl) (fun _ _ _ h => h) (Or.inl ⟨by rfl, fun w hSw => by (try dsimp only at hSw); go_simp⟩) (by assumption) ?_
          simp only [Act.put, List.setIfInBounds_toArray, List.set_cons_zero, List.set_cons_succ]
          refine wpAnyH_take (i := 18) (oi := { dst := some 60, op := Op.pick (Operand.tmp 51) (Operand.const (Value.bool true)) (Operand.tmp 59), type := _, pos := _, after := _, guard := none }) (v := .bool false) rfl (by kernel_rfl) (by kernel_rfl) (by kernel_rfl) (fun _ _ _ h => h) (Or.inl ⟨by rfl, fun w hSw => by (try dsimp only at hSw); go_simp⟩) (by assumption) ?_
          simp only [Act.put, List.setIfInBounds_toArray, List.set_cons_zero, List.set_cons_succ]
          refine wpAnyH_done (by kernel_rfl) ?_ _
          clear hS0 HO hgi
          have HH : Hid (OW w w8 f g B7) := hHeld2
          clear hHeld2
          go_wp2_with fail
          go_loopw [12] (fun i wx => ∃ x : Nat, x ≤ 21 ∧ i = .int .i64 (x : Int) ∧ OW w wx f g B7) (fun i _ => 21 - (intOf i).toNat)
          case atStart => exact ⟨0, by omega, rfl, HH.out⟩
          case round =>
            obtain ⟨x, hx, rfl, hO⟩ := hrel
            clear HH
            have HO : Hid (OW w wr f g B7) := hO
            clear hO
            by_cases hx8 : x < 21
            · have x0 : (0 : Int) ≤ (x : Int) := by omega
              have x1 : (x : Int) < 21 := by omega
              have hg1 := rGives_any (g x).bas (g x).stp (f v).bas (f v).stp
              rw [HO3.out v x hv8 hx8] at hg1
              have hS0 : OW w wr.drew f g B7 := HO.out.later (drew_below _)
              by_cases hxv : x = v
              · have hxv2 : ((x : Int) == (v : Int)) = true := by simp [hxv]
                have HXV : Hid (x = v) := hxv
                clear hxv
                go_upto_region 15 with (fail)
                refine wp_region_held_drew (S := fun W => OW w W f g B7) (by kernel_rfl) hS0 (fun hHeld => ?_)
                refine wpAnyH_take (i := 0) (oi := { dst := some 65, op := Op.move (Operand.tmp 12), type := _, pos := _, after := _, guard := none }) (v := .int .i64 (x : Int)) rfl (by kernel_rfl) (by kernel_rfl) (by kernel_rfl) (fun _ _ _ h => h) (Or.inl ⟨by rfl, fun w hSw => by (try dsimp only at hSw); go_simp⟩) (by assumption) ?_
                simp only [Act.put, List.setIfInBounds_toArray, List.set_cons_zero, List.set_cons_succ]
                refine wpAnyH_take (i := 1) (oi := { dst := some 66, op := Op.indexAddr 25 (Operand.tmp 7) (Operand.tmp 65), type := _, pos := _, after := _, guard := none }) (v := .pointer (some ⟨B7, x * 2, none⟩)) rfl (by kernel_rfl) (by kernel_rfl) (by kernel_rfl) (fun _ _ _ h => h) (Or.inl ⟨by rfl, fun w hSw => by (try dsimp only at hSw); go_simp⟩) (by assumption) ?_
                simp only [Act.put, List.setIfInBounds_toArray, List.set_cons_zero, List.set_cons_succ]
                refine wpAnyH_take (i := 2) (oi := { dst := some 67, op := Op.load 23 (Operand.tmp 66), type := _, pos := _, after := _, guard := none }) (v := .agg #[.int .i64 (g x).bas, .int .i64 (g x).stp]) rfl (by kernel_rfl) (by kernel_rfl) (by kernel_rfl) (fun _ _ _ h => h) (Or.inl ⟨by rfl, fun w hSw => by obtain ⟨c0, c1⟩ := hSw.nx.cells x hx8; clear hSw; go_simp⟩) (by assumption) ?_
                simp only [Act.put, List.setIfInBounds_toArray, List.set_cons_zero, List.set_cons_succ]
                refine wpAnyH_take (i := 3) (oi := { dst := some 68, op := Op.move (Operand.tmp 10), type := _, pos := _, after := _, guard := none }) (v := .int .i64 (v : Int)) rfl (by kernel_rfl) (by kernel_rfl) (by kernel_rfl) (fun _ _ _ h => h) (Or.inl ⟨by rfl, fun w hSw => by (try dsimp only at hSw); go_simp⟩) (by assumption) ?_
                simp only [Act.put, List.setIfInBounds_toArray, List.set_cons_zero, List.set_cons_succ]
                refine wpAnyH_take (i := 4) (oi := { dst := some 69, op := Op.indexAddr 25 (Operand.tmp 3) (Operand.tmp 68), type := _, pos := _, after := _, guard := none }) (v := .pointer (some ⟨w.heap.size, v * 2, none⟩)) rfl (by kernel_rfl) (by kernel_rfl) (by kernel_rfl) (fun _ _ _ h => h) (Or.inl ⟨by rfl, fun w hSw => by (try dsimp only at hSw); go_simp⟩) (by assumption) ?_
                simp only [Act.put, List.setIfInBounds_toArray, List.set_cons_zero, List.set_cons_succ]
                refine wpAnyH_take (i := 5) (oi := { dst := some 70, op := Op.load 23 (Operand.tmp 69), type := _, pos := _, after := _, guard := none }) (v := .agg #[.int .i64 (f v).bas, .int .i64 (f v).stp]) rfl (by kernel_rfl) (by kernel_rfl) (by kernel_rfl) (fun _ _ _ h => h) (Or.inl ⟨by rfl, fun w hSw => by obtain ⟨c0, c1⟩ := hSw.ks.cells v hv8; clear hSw; go_simp⟩) (by assumption) ?_
                simp only [Act.put, List.setIfInBounds_toArray, List.set_cons_zero, List.set_cons_succ]
                refine wpAnyH_ready (rs := [6]) (by kernel_rfl) (by simp) ?_
                refine AllReadyH.cons rfl (fun K hK => ?_) AllReadyH.nil
                go_simp
                refine (hg1 _).mono ?_
                rintro e w9 ⟨rfl, hb9⟩
                go_wp2_with fail
                refine hK.out _ _ (hHeld.later hb9) (fun hHeld2 => ?_)
                clear hHeld hb9
                clear hK K
                try simp only [Act.put, List.setIfInBounds_toArray, List.set_cons_zero, List.set_cons_succ]
                refine wpAnyH_take (i := 7) (oi := { dst := some 72, op := Op.move (Operand.tmp 71), type := _, pos := _, after := _, guard := none }) (v := .bool false) rfl (by kernel_rfl) (by kernel_rfl) (by kernel_rfl) (fun _ _ _ h => h) (Or.inl ⟨by rfl, fun w hSw => by (try dsimp only at hSw); go_simp⟩) (by assumption) ?_
                simp only [Act.put, List.setIfInBounds_toArray, List.set_cons_zero, List.set_cons_succ]
                refine wpAnyH_take (i := 8) (oi := { dst := some 73, op := Op.move (Operand.tmp 12), type := _, pos := _, after := _, guard := some (7, false) }) (v := .int .i64 (x : Int)) rfl (by kernel_rfl) (by kernel_rfl) (by kernel_rfl) (fun _ _ _ h => h) (Or.inl ⟨by rfl, fun w hSw => by (try dsimp only at hSw); go_simp⟩) (by assumption) ?_
                simp only [Act.put, List.setIfInBounds_toArray, List.set_cons_zero, List.set_cons_succ]
                refine wpAnyH_take (i := 9) (oi := { dst := some 74, op := Op.move (Operand.tmp 10), type := _, pos := _, after := _, guard := some (7, false) }) (v := .int .i64 (v : Int)) rfl (by kernel_rfl) (by kernel_rfl) (by kernel_rfl) (fun _ _ _ h => h) (Or.inl ⟨by rfl, fun w hSw => by (try dsimp only at hSw); go_simp⟩) (by assumption) ?_
                simp only [Act.put, List.setIfInBounds_toArray, List.set_cons_zero, List.set_cons_succ]
                refine wpAnyH_take (i := 10) (oi := { dst := some 75, op := Op.binOp BinOp.neq 3 (Operand.tmp 73) (Operand.tmp 74) 3, type := _, pos := _, after := _, guard := some (7, false) }) (v := .bool false) rfl (by kernel_rfl) (by kernel_rfl) (by kernel_rfl) (fun _ _ _ h => h) (Or.inl ⟨by rfl, fun w hSw => by go_simp; have := HXV.out; omega⟩) (by assumption) ?_
                simp only [Act.put, List.setIfInBounds_toArray, List.set_cons_zero, List.set_cons_succ]
                refine wpAnyH_take (i := 11) (oi := { dst := some 76, op := Op.move (Operand.tmp 75), type := _, pos := _, after := _, guard := some (7, false) }) (v := .bool false) rfl (by kernel_rfl) (by kernel_rfl) (by kernel_rfl) (fun _ _ _ h => h) (Or.inl ⟨by rfl, fun w hSw => by (try dsimp only at hSw); go_simp⟩) (by assumption) ?_
                simp only [Act.put, List.setIfInBounds_toArray, List.set_cons_zero, List.set_cons_succ]
                refine wpAnyH_take (i := 12) (oi := { dst := some 77, op := Op.move (Operand.tmp 12), type := _, pos := _, after := _, guard := some (11, true) }) (v := undef) rfl (by kernel_rfl) (by kernel_rfl) (by kernel_rfl) (fun _ _ _ h => h) (Or.inr ⟨by rfl, rfl⟩) (by assumption) ?_
                simp only [Act.put, List.setIfInBounds_toArray, List.set_cons_zero, List.set_cons_succ]
                refine wpAnyH_take (i := 13) (oi := { dst := some 78, op := Op.indexAddr 25 (Operand.tmp 3) (Operand.tmp 77), type := _, pos := _, after := _, guard := some (11, true) }) (v := undef) rfl (by kernel_rfl) (by kernel_rfl) (by kernel_rfl) (fun _ _ _ h => h) (Or.inr ⟨by rfl, rfl⟩) (by assumption) ?_
                simp only [Act.put, List.setIfInBounds_toArray, List.set_cons_zero, List.set_cons_succ]
                refine wpAnyH_take (i := 14) (oi := { dst := some 79, op := Op.load 23 (Operand.tmp 78), type := _, pos := _, after := _, guard := some (11, true) }) (v := undef) rfl (by kernel_rfl) (by kernel_rfl) (by kernel_rfl) (fun _ _ _ h => h) (Or.inr ⟨by rfl, rfl⟩) (by assumption) ?_
                simp only [Act.put, List.setIfInBounds_toArray, List.set_cons_zero, List.set_cons_succ]
                refine wpAnyH_take (i := 15) (oi := { dst := some 80, op := Op.move (Operand.tmp 10), type := _, pos := _, after := _, guard := some (11, true) }) (v := undef) rfl (by kernel_rfl) (by kernel_rfl) (by kernel_rfl) (fun _ _ _ h => h) (Or.inr ⟨by rfl, rfl⟩) (by assumption) ?_
                simp only [Act.put, List.setIfInBounds_toArray, List.set_cons_zero, List.set_cons_succ]
                refine wpAnyH_take (i := 16) (oi := { dst := some 81, op := Op.indexAddr 25 (Operand.tmp 7) (Operand.tmp 80), type := _, pos := _, after := _, guard := some (11, true) }) (v := undef) rfl (by kernel_rfl) (by kernel_rfl) (by kernel_rfl) (fun _ _ _ h => h) (Or.inr ⟨by rfl, rfl⟩) (by assumption) ?_
                simp only [Act.put, List.setIfInBounds_toArray, List.set_cons_zero, List.set_cons_succ]
                refine wpAnyH_take (i := 17) (oi := { dst := some 82, op := Op.load 23 (Operand.tmp 81), type := _, pos := _, after := _, guard := some (11, true) }) (v := undef) rfl (by kernel_rfl) (by kernel_rfl) (by kernel_rfl) (fun _ _ _ h => h) (Or.inr ⟨by rfl, rfl⟩) (by assumption) ?_
                simp only [Act.put, List.setIfInBounds_toArray, List.set_cons_zero, List.set_cons_succ]
                refine wpAnyH_take (i := 18) (oi := { dst := some 83, op := Op.call { callee := Callee.value (Operand.func 16), args := #[(Operand.tmp 79), (Operand.tmp 82)], argTypes := #[23, 23] }, type := _, pos := _, after := _, guard := some (11, true) }) (v := undef) rfl (by kernel_rfl) (by kernel_rfl) (by kernel_rfl) (fun _ _ _ h => h) (Or.inr ⟨by rfl, rfl⟩) (by assumption) ?_
                simp only [Act.put, List.setIfInBounds_toArray, List.set_cons_zero, List.set_cons_succ]
                refine wpAnyH_take (i := 19) (oi := { dst := some 84, op := Op.pick (Operand.tmp 76) (Operand.tmp 83) (Operand.const (Value.bool false)), type := _, pos := _, after := _, guard := some (7, false) }) (v := .bool false) rfl (by kernel_rfl) (by kernel_rfl) (by kernel_rfl) (fun _ _ _ h => h) (Or.inl ⟨by rfl, fun w hSw => by (try dsimp only at hSw); go_simp⟩) (by assumption) ?_
                simp only [Act.put, List.setIfInBounds_toArray, List.set_cons_zero, List.set_cons_succ]
                refine wpAnyH_take (i := 20) (oi := { dst := some 85, op := Op.pick (Operand.tmp 72) (Operand.const (Value.bool true)) (Operand.tmp 84), type := _, pos := _, after := _, guard := none }) (v := .bool false) rfl (by kernel_rfl) (by kernel_rfl) (by kernel_rfl) (fun _ _ _ h => h) (Or.inl ⟨by rfl, fun w hSw => by (try dsimp only at hSw); go_simp⟩) (by assumption) ?_
                simp only [Act.put, List.setIfInBounds_toArray, List.set_cons_zero, List.set_cons_succ]
                refine wpAnyH_done (by kernel_rfl) ?_ _
                have HH : Hid (OW w w9 f g B7) := hHeld2
                clear hHeld2
                go_wp2_with fail
                go_roundw
                case rel => exact ⟨x + 1, by omega, by go_num, HH.out⟩
                case measure => simp [intOf]; omega
              · have hxv2 : ((x : Int) == (v : Int)) = false := by simp; omega
                have hg2 := rGives_any (f x).bas (f x).stp (g v).bas (g v).stp
                rw [HO4.out v x hv8 hx8 hxv] at hg2
                go_upto_region 15 with (fail)
                refine wp_region_held_drew (S := fun W => OW w W f g B7) (by kernel_rfl) hS0 (fun hHeld => ?_)
                refine wpAnyH_take (i := 0) (oi := { dst := some 65, op := Op.move (Operand.tmp 12), type := _, pos := _, after := _, guard := none }) (v := .int .i64 (x : Int)) rfl (by kernel_rfl) (by kernel_rfl) (by kernel_rfl) (fun _ _ _ h => h) (Or.inl ⟨by rfl, fun w hSw => by (try dsimp only at hSw); go_simp⟩) (by assumption) ?_
                simp only [Act.put, List.setIfInBounds_toArray, List.set_cons_zero, List.set_cons_succ]
                refine wpAnyH_take (i := 1) (oi := { dst := some 66, op := Op.indexAddr 25 (Operand.tmp 7) (Operand.tmp 65), type := _, pos := _, after := _, guard := none }) (v := .pointer (some ⟨B7, x * 2, none⟩)) rfl (by kernel_rfl) (by kernel_rfl) (by kernel_rfl) (fun _ _ _ h => h) (Or.inl ⟨by rfl, fun w hSw => by (try dsimp only at hSw); go_simp⟩) (by assumption) ?_
                simp only [Act.put, List.setIfInBounds_toArray, List.set_cons_zero, List.set_cons_succ]
                refine wpAnyH_take (i := 2) (oi := { dst := some 67, op := Op.load 23 (Operand.tmp 66), type := _, pos := _, after := _, guard := none }) (v := .agg #[.int .i64 (g x).bas, .int .i64 (g x).stp]) rfl (by kernel_rfl) (by kernel_rfl) (by kernel_rfl) (fun _ _ _ h => h) (Or.inl ⟨by rfl, fun w hSw => by obtain ⟨c0, c1⟩ := hSw.nx.cells x hx8; clear hSw; go_simp⟩) (by assumption) ?_
                simp only [Act.put, List.setIfInBounds_toArray, List.set_cons_zero, List.set_cons_succ]
                refine wpAnyH_take (i := 3) (oi := { dst := some 68, op := Op.move (Operand.tmp 10), type := _, pos := _, after := _, guard := none }) (v := .int .i64 (v : Int)) rfl (by kernel_rfl) (by kernel_rfl) (by kernel_rfl) (fun _ _ _ h => h) (Or.inl ⟨by rfl, fun w hSw => by (try dsimp only at hSw); go_simp⟩) (by assumption) ?_
                simp only [Act.put, List.setIfInBounds_toArray, List.set_cons_zero, List.set_cons_succ]
                refine wpAnyH_take (i := 4) (oi := { dst := some 69, op := Op.indexAddr 25 (Operand.tmp 3) (Operand.tmp 68), type := _, pos := _, after := _, guard := none }) (v := .pointer (some ⟨w.heap.size, v * 2, none⟩)) rfl (by kernel_rfl) (by kernel_rfl) (by kernel_rfl) (fun _ _ _ h => h) (Or.inl ⟨by rfl, fun w hSw => by (try dsimp only at hSw); go_simp⟩) (by assumption) ?_
                simp only [Act.put, List.setIfInBounds_toArray, List.set_cons_zero, List.set_cons_succ]
                refine wpAnyH_take (i := 5) (oi := { dst := some 70, op := Op.load 23 (Operand.tmp 69), type := _, pos := _, after := _, guard := none }) (v := .agg #[.int .i64 (f v).bas, .int .i64 (f v).stp]) rfl (by kernel_rfl) (by kernel_rfl) (by kernel_rfl) (fun _ _ _ h => h) (Or.inl ⟨by rfl, fun w hSw => by obtain ⟨c0, c1⟩ := hSw.ks.cells v hv8; clear hSw; go_simp⟩) (by assumption) ?_
                simp only [Act.put, List.setIfInBounds_toArray, List.set_cons_zero, List.set_cons_succ]
                refine wpAnyH_ready (rs := [6]) (by kernel_rfl) (by simp) ?_
                refine AllReadyH.cons rfl (fun K hK => ?_) AllReadyH.nil
                go_simp
                refine (hg1 _).mono ?_
                rintro e w9 ⟨rfl, hb9⟩
                go_wp2_with fail
                refine hK.out _ _ (hHeld.later hb9) (fun hHeld2 => ?_)
                clear hHeld hb9
                clear hK K
                try simp only [Act.put, List.setIfInBounds_toArray, List.set_cons_zero, List.set_cons_succ]
                refine wpAnyH_take (i := 7) (oi := { dst := some 72, op := Op.move (Operand.tmp 71), type := _, pos := _, after := _, guard := none }) (v := .bool false) rfl (by kernel_rfl) (by kernel_rfl) (by kernel_rfl) (fun _ _ _ h => h) (Or.inl ⟨by rfl, fun w hSw => by (try dsimp only at hSw); go_simp⟩) (by assumption) ?_
                simp only [Act.put, List.setIfInBounds_toArray, List.set_cons_zero, List.set_cons_succ]
                refine wpAnyH_take (i := 8) (oi := { dst := some 73, op := Op.move (Operand.tmp 12), type := _, pos := _, after := _, guard := some (7, false) }) (v := .int .i64 (x : Int)) rfl (by kernel_rfl) (by kernel_rfl) (by kernel_rfl) (fun _ _ _ h => h) (Or.inl ⟨by rfl, fun w hSw => by (try dsimp only at hSw); go_simp⟩) (by assumption) ?_
                simp only [Act.put, List.setIfInBounds_toArray, List.set_cons_zero, List.set_cons_succ]
                refine wpAnyH_take (i := 9) (oi := { dst := some 74, op := Op.move (Operand.tmp 10), type := _, pos := _, after := _, guard := some (7, false) }) (v := .int .i64 (v : Int)) rfl (by kernel_rfl) (by kernel_rfl) (by kernel_rfl) (fun _ _ _ h => h) (Or.inl ⟨by rfl, fun w hSw => by (try dsimp only at hSw); go_simp⟩) (by assumption) ?_
                simp only [Act.put, List.setIfInBounds_toArray, List.set_cons_zero, List.set_cons_succ]
                refine wpAnyH_take (i := 10) (oi := { dst := some 75, op := Op.binOp BinOp.neq 3 (Operand.tmp 73) (Operand.tmp 74) 3, type := _, pos := _, after := _, guard := some (7, false) }) (v := .bool true) rfl (by kernel_rfl) (by kernel_rfl) (by kernel_rfl) (fun _ _ _ h => h) (Or.inl ⟨by rfl, fun w hSw => by go_simp; omega⟩) (by assumption) ?_
                simp only [Act.put, List.setIfInBounds_toArray, List.set_cons_zero, List.set_cons_succ]
                refine wpAnyH_take (i := 11) (oi := { dst := some 76, op := Op.move (Operand.tmp 75), type := _, pos := _, after := _, guard := some (7, false) }) (v := .bool true) rfl (by kernel_rfl) (by kernel_rfl) (by kernel_rfl) (fun _ _ _ h => h) (Or.inl ⟨by rfl, fun w hSw => by (try dsimp only at hSw); go_simp⟩) (by assumption) ?_
                simp only [Act.put, List.setIfInBounds_toArray, List.set_cons_zero, List.set_cons_succ]
                refine wpAnyH_take (i := 12) (oi := { dst := some 77, op := Op.move (Operand.tmp 12), type := _, pos := _, after := _, guard := some (11, true) }) (v := .int .i64 (x : Int)) rfl (by kernel_rfl) (by kernel_rfl) (by kernel_rfl) (fun _ _ _ h => h) (Or.inl ⟨by rfl, fun w hSw => by (try dsimp only at hSw); go_simp⟩) (by assumption) ?_
                simp only [Act.put, List.setIfInBounds_toArray, List.set_cons_zero, List.set_cons_succ]
                refine wpAnyH_take (i := 13) (oi := { dst := some 78, op := Op.indexAddr 25 (Operand.tmp 3) (Operand.tmp 77), type := _, pos := _, after := _, guard := some (11, true) }) (v := .pointer (some ⟨w.heap.size, x * 2, none⟩)) rfl (by kernel_rfl) (by kernel_rfl) (by kernel_rfl) (fun _ _ _ h => h) (Or.inl ⟨by rfl, fun w hSw => by (try dsimp only at hSw); go_simp⟩) (by assumption) ?_
                simp only [Act.put, List.setIfInBounds_toArray, List.set_cons_zero, List.set_cons_succ]
                refine wpAnyH_take (i := 14) (oi := { dst := some 79, op := Op.load 23 (Operand.tmp 78), type := _, pos := _, after := _, guard := some (11, true) }) (v := .agg #[.int .i64 (f x).bas, .int .i64 (f x).stp]) rfl (by kernel_rfl) (by kernel_rfl) (by kernel_rfl) (fun _ _ _ h => h) (Or.inl ⟨by rfl, fun w hSw => by obtain ⟨c0, c1⟩ := hSw.ks.cells x hx8; clear hSw; go_simp⟩) (by assumption) ?_
                simp only [Act.put, List.setIfInBounds_toArray, List.set_cons_zero, List.set_cons_succ]
                refine wpAnyH_take (i := 15) (oi := { dst := some 80, op := Op.move (Operand.tmp 10), type := _, pos := _, after := _, guard := some (11, true) }) (v := .int .i64 (v : Int)) rfl (by kernel_rfl) (by kernel_rfl) (by kernel_rfl) (fun _ _ _ h => h) (Or.inl ⟨by rfl, fun w hSw => by (try dsimp only at hSw); go_simp⟩) (by assumption) ?_
                simp only [Act.put, List.setIfInBounds_toArray, List.set_cons_zero, List.set_cons_succ]
                refine wpAnyH_take (i := 16) (oi := { dst := some 81, op := Op.indexAddr 25 (Operand.tmp 7) (Operand.tmp 80), type := _, pos := _, after := _, guard := some (11, true) }) (v := .pointer (some ⟨B7, v * 2, none⟩)) rfl (by kernel_rfl) (by kernel_rfl) (by kernel_rfl) (fun _ _ _ h => h) (Or.inl ⟨by rfl, fun w hSw => by (try dsimp only at hSw); go_simp⟩) (by assumption) ?_
                simp only [Act.put, List.setIfInBounds_toArray, List.set_cons_zero, List.set_cons_succ]
                refine wpAnyH_take (i := 17) (oi := { dst := some 82, op := Op.load 23 (Operand.tmp 81), type := _, pos := _, after := _, guard := some (11, true) }) (v := .agg #[.int .i64 (g v).bas, .int .i64 (g v).stp]) rfl (by kernel_rfl) (by kernel_rfl) (by kernel_rfl) (fun _ _ _ h => h) (Or.inl ⟨by rfl, fun w hSw => by obtain ⟨c0, c1⟩ := hSw.nx.cells v hv8; clear hSw; go_simp⟩) (by assumption) ?_
                simp only [Act.put, List.setIfInBounds_toArray, List.set_cons_zero, List.set_cons_succ]
                refine wpAnyH_ready (rs := [18]) (by kernel_rfl) (by simp) ?_
                refine AllReadyH.cons rfl (fun K hK => ?_) AllReadyH.nil
                go_simp
                refine (hg2 _).mono ?_
                rintro e w10 ⟨rfl, hb10⟩
                go_wp2_with fail
                refine hK.out _ _ (hHeld2.later hb10) (fun hHeld3 => ?_)
                clear hHeld2 hb10
                clear hK K
                try simp only [Act.put, List.setIfInBounds_toArray, List.set_cons_zero, List.set_cons_succ]
                refine wpAnyH_take (i := 19) (oi := { dst := some 84, op := Op.pick (Operand.tmp 76) (Operand.tmp 83) (Operand.const (Value.bool false)), type := _, pos := _, after := _, guard := some (7, false) }) (v := .bool false) rfl (by kernel_rfl) (by kernel_rfl) (by kernel_rfl) (fun _ _ _ h => h) (Or.inl ⟨by rfl, fun w hSw => by (try dsimp only at hSw); go_simp⟩) (by assumption) ?_
                simp only [Act.put, List.setIfInBounds_toArray, List.set_cons_zero, List.set_cons_succ]
                refine wpAnyH_take (i := 20) (oi := { dst := some 85, op := Op.pick (Operand.tmp 72) (Operand.const (Value.bool true)) (Operand.tmp 84), type := _, pos := _, after := _, guard := none }) (v := .bool false) rfl (by kernel_rfl) (by kernel_rfl) (by kernel_rfl) (fun _ _ _ h => h) (Or.inl ⟨by rfl, fun w hSw => by (try dsimp only at hSw); go_simp⟩) (by assumption) ?_
                simp only [Act.put, List.setIfInBounds_toArray, List.set_cons_zero, List.set_cons_succ]
                refine wpAnyH_done (by kernel_rfl) ?_ _
                have HH : Hid (OW w w10 f g B7) := hHeld3
                clear hHeld3
                go_wp2_with fail
                go_roundw
                case rel => exact ⟨x + 1, by omega, by go_num, HH.out⟩
                case measure => simp [intOf]; omega
            · obtain rfl : x = 21 := by omega
              go_wp2_with fail
              go_roundw
              case rel => exact ⟨v + 1, by omega, by go_num, HO.out⟩
              case measure => simp [intOf]; omega
      · obtain rfl : v = 21 := by omega
        have HOB := HO.out.bel
        go_wp2_with fail
        go_ret
        exact ⟨rfl, HOB⟩
  · have hE1 : (trE f r n == 0) = false := by simp [hE0]
    have HEQ : eqA g (fun _ => zK) = true := by rw [← HG.out]; exact eqA_zero hE0
    have hm0 : m = 0 := by rw [← HM.out]; unfold trN; rw [if_neg hE0]
    subst hm0
    obtain ⟨E, hE⟩ : ∃ E, trE f r n = E := ⟨_, rfl⟩
    rw [hE] at hE0 hE1 ⊢
    clear hE HG HM
    go_upto_region 5 with (fail)
    refine wp_region_lit ?_
    refine ldK hO7.nx rfl _ rfl rfl ?_
    go_wp2_with (refine eqK (f := g) (g := fun _ => zK) HEQ rfl _ _ rfl rfl zero42' ?_)
    go_ret
    exact ⟨rfl, hO7.bel⟩
theorem own : ownKnob Try.prog.godebug = none := by kernel_rfl
theorem laidOut : laidOutB Try.prog = true := by kernel_rfl
set_option maxRecDepth 100000 in
theorem lifted (os : Os) (started : os.Started) (H : Type) (enc : TypeId × Value → H) :
    ReturnsInHanded {} Try.checked os 6 .any (Rows.ratchetOneWaySpec.pre6 enc Try.prog Try.f6 Rows.ratchetOneWayRow.domain false) (Rows.ratchetOneWaySpec.post enc Try.prog Try.f6 false true false false) := by
  refine returnsInHanded_of_change (C := Try.checked) own started (by kernel_rfl) Try.func6
    (ChangeSpec.witness6 (enc := enc) (C := Try.checked) false ⟨#[], #[.agg #[.int .i64 0, .int .i64 0, .int .i64 0, .int .i64 0, .int .i64 0, .int .i64 0, .int .i64 0, .int .i64 0, .int .i64 0, .int .i64 0, .int .i64 0, .int .i64 0, .int .i64 0, .int .i64 0, .int .i64 0, .int .i64 0, .int .i64 0, .int .i64 0, .int .i64 0, .int .i64 0, .int .i64 0, .int .i64 0, .int .i64 0, .int .i64 0, .int .i64 0, .int .i64 0, .int .i64 0, .int .i64 0, .int .i64 0, .int .i64 0, .int .i64 0, .int .i64 0, .int .i64 0, .int .i64 0, .int .i64 0, .int .i64 0, .int .i64 0, .int .i64 0, .int .i64 0, .int .i64 0, .int .i64 0, .int .i64 0], .int .u32 0, .int .i64 0], []⟩ 8 (by kernel_rfl) (by kernel_rfl) (by kernel_rfl) (by kernel_rfl)) ?_
  intro W base args ds gs before hval0 hW hcnd _
  have hval : ∀ (j : Nat) t v, Try.f6.params[j]? = some t → args[j]? = some v → Value.okWide Try.prog W .any base t v := hval0
  have hW' := hW
  obtain ⟨p, q, hA0, hV, rfl, hfz, hnd⟩ := hW
  have hA : DataW.TrodAll enc Try.prog W 0 (fun _ => true) true Try.f6.params.toList args.toList ds p := hA0
  rw [Try.params6] at hA hval
  obtain ⟨v0, vs0, d0, ds0, p0, q0, hargs, rfl, rfl, h0, r0⟩ := trodAll_cons hA
  obtain ⟨v1, vs1, d1, ds1, p1, q1, rfl, rfl, rfl, h1, r1⟩ := trodAll_cons r0
  obtain ⟨v2, vs2, d2, ds2, p2, q2, rfl, rfl, rfl, h2, r2⟩ := trodAll_cons r1
  obtain ⟨rfl, rfl, rfl⟩ := trodAll_nil r2
  obtain rfl : args = #[v0, v1, v2] := by cases args; simp_all
  obtain ⟨rfl, rfl⟩ := trodVars_none hV
  have k0 := h0
  have lt0 : ∀ x ∈ p0, x.block < W.heap.size := by obtain ⟨m, hm⟩ := k0; exact DataW.trod_lt m _ _ _ hm
  obtain ⟨f0, rfl, wf0⟩ := open_ks (hval 0 25 v0 rfl rfl) h0
  obtain ⟨a1, rfl, rfl, rfl, w1⟩ := open_int Try.underlying26 (hval 1 26 v1 rfl rfl) h1
  obtain ⟨a2, rfl, rfl, rfl, w2⟩ := open_int Try.underlying3 (hval 2 3 v2 rfl rfl) h2
  clear hA0 hval0
  refine (walk f0 a1 a2 wf0 w1 w2 W).mono fun e W' ⟨he, bel⟩ => ?_
  subst he
  exact ⟨_, rfl, _, _, _, [], _, [], hW', trodAll_mk1 (shut_bool Try.underlying4 _), (trodAll_cons_mk (Below.trod laidOut (by kernel_rfl) (of_decide_eq_true (by kernel_rfl)) k0 bel lt0) (trodAll_cons_mk (shut_int Try.underlying26 w1) (trodAll_cons_mk (shut_int Try.underlying3 w2) trodAll_mk0))), rfl, bel.frame _, fun h => by cases h⟩
theorem over : Rows.ratchetOneWayRow.holds Try.pinned (OpenSpec.ofChange Rows.ratchetOneWaySpec) :=
  OpenClaim.holds_of_wide 6 Try.f6 rfl rfl rfl rfl rfl rfl rfl ⟨rfl, rfl, rfl, rfl, rfl⟩ rfl rfl rfl rfl rfl (by kernel_rfl) Try.func6 (by kernel_rfl)
    (of_decide_eq_true (by kernel_rfl)) (by unfold Func.isWrapper; first | (rw [if_pos (by decide +kernel)]; kernel_rfl) | (rw [if_neg (by decide +kernel)]; exact ⟨rfl, rfl⟩))
    (fun os started H enc _ => lifted os started H enc)
end Go.Proofs.Ytgfegolignhefaa.ratchetOneWay
namespace Go.Proofs.Ytgfegolignhefaa
theorem ratchetOneWay_holds : Rows.RatchetOneWaySaid := ratchetOneWay.over
#print axioms ratchetOneWay_holds
end Go.Proofs.Ytgfegolignhefaa
