/- Contract of the document's answer: Encode, at a rekey. -/
import Derived.Test.YtdkfifnhmfbagaaGreatWiJ3
namespace Go.Proofs.YtdkfifnhmfbagaaGreat.Wi
open Go.RowKit Go.Maps
open Bt (Kept tb bys RdF pkS pkE okF)
set_option linter.unusedVariables false
set_option linter.unusedSimpArgs false

theorem nn_I {i : (Int × Int) × ((Int × Int) × (Int × Int))} (h : gI i = true) : (nn i.1.1 ∧ nn i.1.2) ∧ (nn i.2.1.1 ∧ nn i.2.1.2) ∧ (nn i.2.2.1 ∧ nn i.2.2.2) := by
  obtain ⟨⟨a, b⟩, c, d⟩ := gI_fit h
  have a2 : i.1.1 < 32 := a.2
  have b2 : i.1.2 < 128 := b.2
  exact ⟨⟨⟨a.1, by omega⟩, ⟨b.1, by omega⟩⟩, nn_gd c, nn_gd d⟩
theorem putLG {L : List (Int × Int)} {aL : Option Addr} {cL : Nat} {vL : Value} (hv : Value.slice aL L.length cL = vL) (hg : ∀ x ∈ L, nn x.1 ∧ nn x.2) (hn : L.length ≤ 64) {w0 w : World} {v : Value} {l : List (Nat × Int)} (rd : RdV stl 2 w0 aL L) (hG : GR w0 w (.slice none 0 0) v l) (hl : l.length ≤ 10000) :
    Calls Tryz.prog 36 #[v, vL] w fun e w' => ∃ v', e = .returned v' ∧ GR w0 w' (.slice none 0 0) v' (l ++ fL L) := by
  subst hv
  exact rPutL_any L aL cL hg hn rd hG hl
set_option maxRecDepth 100000 in
set_option maxHeartbeats 2000000 in
theorem rEnc_1 (m : Msg) (aL aJ aI : Option Addr) (cL cJ cI : Nat) (w : World) (hr : MR w m aL aJ aI) (hg : gM m = true) (hk : m.kd = 1) :
    Calls Tryz.prog 9 #[.agg (mgv m aL aJ aI cL cJ cI).toArray] w fun e w' => e = .returned (.tuple #[.string (enS m), .int .i64 0]) ∧ Below w.heap.size w w' := by
  have hb1 := below_alloc w (.cells (mgv m aL aJ aI cL cJ cI).toArray 38)
  have h2 := rGood_any m aL aJ aI cL cJ cI _ (hr.later hb1)
  rw [hg] at h2
  have hM : MgAt _ w.heap.size m (.slice aL m.rk.2.1.length cL) (.slice aJ m.rk.2.2.1.length cJ) (.slice aI m.rk.2.2.2.length cI) := heap_alloc_last w (.cells (mgv m aL aJ aI cL cJ cI).toArray 38)
  have HGM : Hid (gM m = true) := hg
  have HR : Hid (MR w m aL aJ aI) := hr
  have HK : Hid (m.kd = 1) := hk
  obtain ⟨vL, hvL⟩ : ∃ x, Value.slice aL m.rk.2.1.length cL = x := ⟨_, rfl⟩
  obtain ⟨vJ, hvJ⟩ : ∃ x, Value.slice aJ m.rk.2.2.1.length cJ = x := ⟨_, rfl⟩
  obtain ⟨vI, hvI⟩ : ∃ x, Value.slice aI m.rk.2.2.2.length cI = x := ⟨_, rfl⟩
  rw [hvL, hvJ, hvI] at hM
  have HVV : Hid (Value.slice aL m.rk.2.1.length cL = vL ∧ Value.slice aJ m.rk.2.2.1.length cJ = vJ ∧ Value.slice aI m.rk.2.2.2.length cI = vI) := ⟨hvL, hvJ, hvI⟩
  have HCT : Hid (mgv m aL aJ aI cL cJ cI = mgl m vL vJ vI) := by unfold Hid mgv; rw [hvL, hvJ, hvI]
  clear hvL hvJ hvI hr hg
  obtain ⟨ct, hct⟩ : ∃ c, (mgv m aL aJ aI cL cJ cI) = c := ⟨_, rfl⟩
  have HS : Hid ((Tryz.prog.info? 38).map (·.size) = some ct.length) := by unfold Hid; rw [← hct]; exact szMg
  rw [hct] at hM hb1 h2 HCT
  rw [hct]
  clear hct
  go_enter Tryz.func9, Tryz.ntmps9
  go_upto_region 1 with (fail)
  have HA : Hid (_ < _) := (Array.getElem?_eq_some_iff.1 hM).1
  have HRA : Hid ((w.alloc (.cells ct.toArray 38)).rangeAt w.heap.size 0 ct) := MB.all (MB.new w ct)
  generalize w.alloc (.cells ct.toArray 38) = w1 at *
  obtain ⟨A, hAe⟩ : ∃ A, w.heap.size = A := ⟨_, rfl⟩
  rw [hAe] at hM HRA HA ⊢
  clear hAe
  have HM1 : Hid (MgAt w1 A m vL vJ vI) := hM
  have HB1 : Hid (Below w.heap.size w w1) := hb1
  clear hM hb1
  go_wp2_with (refine ldM HRA.out Tryz.underlying38 rfl HS.out _ rfl rfl rfl ?_)
  refine h2.mono ?_
  rintro e w0 ⟨rfl, hb2⟩
  have HB0 : Hid (Below w.heap.size w w0) := Below.join HB1.out hb2
  have HM0 : Hid (MgAt w0 A m vL vJ vI) := HM1.out.later hb2
  clear h2 hb2 HM1 HB1 HRA HA HS HCT
  have ck := HM0.out.kind
  rw [HK.out] at ck
  have hG0 : GR w0 w0 (.slice none 0 0) (.slice none 0 0) [] := GR.refl (World.ownsRow_nil _ _ _ _)
  have hq := putG 0 2 ⟨by omega, by omega⟩ hG0 (by simp)
  clear hG0
  go_wp2_with fail
  refine hq.mono ?_
  rintro e w2 ⟨v0, rfl, g2⟩
  have HG0 : Hid (GR w0 w2 (.slice none 0 0) v0 ([] ++ [((0 : Int).toNat, 2)])) := g2
  have hM2 := HM0.out.later g2.below
  clear hq g2 ck
  have ck := hM2.kind
  rw [HK.out] at ck
  have HQ : Hid (nn m.rk.1 ∧ (m.rk.2.1.length ≤ 64 ∧ ∀ x ∈ m.rk.2.1, nn x.1 ∧ nn x.2) ∧ (m.rk.2.2.1.length ≤ 64 ∧ ∀ x ∈ m.rk.2.2.1, nn x.1 ∧ nn x.2) ∧ m.rk.2.2.2.length ≤ 1536 ∧ ∀ x ∈ m.rk.2.2.2, (nn x.1.1 ∧ nn x.1.2) ∧ (nn x.2.1.1 ∧ nn x.2.1.2) ∧ (nn x.2.2.1 ∧ nn x.2.2.2)) := by
    rcases gM_cases HGM.out with ⟨a, e⟩ | ⟨a, e⟩ | ⟨a, e⟩ | ⟨a, e⟩
    · simp only [gR, Bool.and_eq_true, decide_eq_true_eq, List.all_eq_true] at a
      exact ⟨nn_E a.1, ⟨a.2.1.1, fun x hx => nn_S (a.2.1.2 x hx)⟩, ⟨a.2.2.1.1, fun x hx => nn_S (a.2.2.1.2 x hx)⟩, a.2.2.2.1, fun x hx => nn_I (a.2.2.2.2 x hx)⟩
    · have := HK.out; rw [e] at this; simp [mR, mQ, mP, mD] at this
    · have := HK.out; rw [e] at this; simp [mR, mQ, mP, mD] at this
    · have := HK.out; rw [e] at this; simp [mR, mQ, mP, mD] at this
  have c1 := MgAt.cell hM2 1 _ rfl
  have hq := putG m.rk.1 8 HQ.out.1 HG0.out (by simp)
  go_wp2_with fail
  refine hq.mono ?_
  rintro e w3 ⟨va, rfl, g3⟩
  have HGa : Hid (GR w0 w3 (.slice none 0 0) va ([] ++ [((0 : Int).toNat, 2)] ++ [(m.rk.1.toNat, 8)])) := g3
  have HM0' : Hid (MgAt w0 A m vL vJ vI) := HM0.out
  have HLL : Hid (Value.slice aL m.rk.2.1.length cL = vL ∧ Value.slice aJ m.rk.2.2.1.length cJ = vJ) := ⟨HVV.out.1, HVV.out.2.1⟩
  have HR0 : Hid (MR w0 m aL aJ aI) := HR.out.later HB0.out
  have HLE : Hid (∀ l : List (Int × Int), l.length ≤ 64 → (fL l).length ≤ 129) := by
    intro l h
    unfold fL
    rw [List.length_append, flat_ln fS 2 (fun _ => rfl)]
    simp
    omega
  clear hq g3 ck c1 hM2 HG0
  go_upto_region 7 with (fail)
  have HGd : Hid (GR w0 w3.drew (.slice none 0 0) va ([] ++ [((0 : Int).toNat, 2)] ++ [(m.rk.1.toNat, 8)])) := HGa.out.later (drew_below w3)
  have hq0 := putLG HLL.out.1 HQ.out.2.1.2 HQ.out.2.1.1 HR0.out.l HGd.out (by simp)
  refine wp_region_held_drew (S := fun W => MgAt W A m vL vJ vI) (by kernel_rfl) (HM0.out.later HGd.out.below) (fun hHeld => ?_)
  refine wpAnyH_take (i := 0) (oi := { dst := some 27, op := Op.move (Operand.tmp 4), type := _, pos := _, after := _, guard := none }) (v := va) rfl (by kernel_rfl) (by kernel_rfl) (by kernel_rfl) (fun _ _ _ h => h) (Or.inl ⟨by rfl, fun w hSw => by (try dsimp only at hSw); go_simp⟩) (by assumption) ?_
  simp only [Act.put, List.setIfInBounds_toArray, List.set_cons_zero, List.set_cons_succ]
  refine wpAnyH_take (i := 1) (oi := { dst := some 28, op := Op.fieldAddr 38 (Operand.tmp 1) 1, type := _, pos := _, after := _, guard := none }) (v := .pointer (some ⟨A, 1, none⟩)) rfl (by kernel_rfl) (by kernel_rfl) (by kernel_rfl) (fun _ _ _ h => h) (Or.inl ⟨by rfl, fun w hSw => by (try dsimp only at hSw); go_simp⟩) (by assumption) ?_
  simp only [Act.put, List.setIfInBounds_toArray, List.set_cons_zero, List.set_cons_succ]
  refine wpAnyH_take (i := 2) (oi := { dst := some 29, op := Op.fieldAddr 25 (Operand.tmp 28) 1, type := _, pos := _, after := _, guard := none }) (v := .pointer (some ⟨A, 2, none⟩)) rfl (by kernel_rfl) (by kernel_rfl) (by kernel_rfl) (fun _ _ _ h => h) (Or.inl ⟨by rfl, fun w hSw => by (try dsimp only at hSw); go_simp⟩) (by assumption) ?_
  simp only [Act.put, List.setIfInBounds_toArray, List.set_cons_zero, List.set_cons_succ]
  refine wpAnyH_take (i := 3) (oi := { dst := some 30, op := Op.load 22 (Operand.tmp 29), type := _, pos := _, after := _, guard := none }) (v := vL) rfl (by kernel_rfl) (by kernel_rfl) (by kernel_rfl) (fun _ _ _ h => h) (Or.inl ⟨by rfl, fun w hSw => by have z := MgAt.cell hSw 2 _ rfl; clear hSw; go_simp⟩) (by assumption) ?_
  simp only [Act.put, List.setIfInBounds_toArray, List.set_cons_zero, List.set_cons_succ]
  refine wpAnyH_take (i := 5) (oi := { dst := some 32, op := Op.fieldAddr 38 (Operand.tmp 1) 1, type := _, pos := _, after := _, guard := none }) (v := .pointer (some ⟨A, 1, none⟩)) rfl (by kernel_rfl) (by kernel_rfl) (by kernel_rfl) (fun _ _ _ h => h) (Or.inl ⟨by rfl, fun w hSw => by (try dsimp only at hSw); go_simp⟩) (by assumption) ?_
  simp only [Act.put, List.setIfInBounds_toArray, List.set_cons_zero, List.set_cons_succ]
  refine wpAnyH_take (i := 6) (oi := { dst := some 33, op := Op.fieldAddr 25 (Operand.tmp 32) 2, type := _, pos := _, after := _, guard := none }) (v := .pointer (some ⟨A, 3, none⟩)) rfl (by kernel_rfl) (by kernel_rfl) (by kernel_rfl) (fun _ _ _ h => h) (Or.inl ⟨by rfl, fun w hSw => by (try dsimp only at hSw); go_simp⟩) (by assumption) ?_
  simp only [Act.put, List.setIfInBounds_toArray, List.set_cons_zero, List.set_cons_succ]
  refine wpAnyH_take (i := 7) (oi := { dst := some 34, op := Op.load 22 (Operand.tmp 33), type := _, pos := _, after := _, guard := none }) (v := vJ) rfl (by kernel_rfl) (by kernel_rfl) (by kernel_rfl) (fun _ _ _ h => h) (Or.inl ⟨by rfl, fun w hSw => by have z := MgAt.cell hSw 3 _ rfl; clear hSw; go_simp⟩) (by assumption) ?_
  simp only [Act.put, List.setIfInBounds_toArray, List.set_cons_zero, List.set_cons_succ]
  refine wpAnyH_ready (rs := [4]) (by kernel_rfl) (by simp) ?_
  refine AllReadyH.cons rfl (fun K hK => ?_) AllReadyH.nil
  go_simp
  refine hq0.mono ?_
  rintro e x1 ⟨v1, rfl, g2⟩
  have HG1 : Hid (GR w0 x1 (.slice none 0 0) v1 ([] ++ [((0 : Int).toNat, 2)] ++ [(m.rk.1.toNat, 8)] ++ fL m.rk.2.1)) := g2
  have hS1 := HM0.out.later g2.below
  clear hq0 g2
  have hq1 := putLG HLL.out.2 HQ.out.2.2.1.2 HQ.out.2.2.1.1 HR0.out.j HG1.out (by have := HLE.out _ HQ.out.2.1.1; simp; omega)
  go_wp2_with fail
  refine hK.out _ _ hS1 (fun hHeld2 => ?_)
  clear hHeld hS1
  clear hK K
  try simp only [Act.put, List.setIfInBounds_toArray, List.set_cons_zero, List.set_cons_succ]
  refine wpAnyH_ready (rs := [8]) (by kernel_rfl) (by simp) ?_
  refine AllReadyH.cons rfl (fun K hK => ?_) AllReadyH.nil
  go_simp
  refine hq1.mono ?_
  rintro e x2 ⟨v2, rfl, g2⟩
  have HG2 : Hid (GR w0 x2 (.slice none 0 0) v2 ([] ++ [((0 : Int).toNat, 2)] ++ [(m.rk.1.toNat, 8)] ++ fL m.rk.2.1 ++ fL m.rk.2.2.1)) := g2
  have hS2 := HM0.out.later g2.below
  clear hq1 g2
  go_wp2_with fail
  refine hK.out _ _ hS2 (fun hHeld3 => ?_)
  clear hHeld2 hS2
  clear hK K
  try simp only [Act.put, List.setIfInBounds_toArray, List.set_cons_zero, List.set_cons_succ]
  refine wpAnyH_take (i := 9) (oi := { dst := some 4, op := Op.assign (Operand.tmp 35), type := _, pos := _, after := _, guard := none }) (v := v2) rfl (by kernel_rfl) (by kernel_rfl) (by kernel_rfl) (fun _ _ _ h => h) (Or.inl ⟨by rfl, fun w hSw => by (try dsimp only at hSw); go_simp⟩) (by assumption) ?_
  simp only [Act.put, List.setIfInBounds_toArray, List.set_cons_zero, List.set_cons_succ]
  refine wpAnyH_done (by kernel_rfl) ?_ _
  have HMx : Hid (MgAt x2 A m vL vJ vI) := HM0.out.later HG2.out.below
  obtain ⟨n, hn⟩ : ∃ n, m.rk.2.2.2.length = n := ⟨_, rfl⟩
  have HN : Hid (m.rk.2.2.2.length = n) := hn
  have hn15 : n ≤ 1536 := by rw [← hn]; exact HQ.out.2.2.2.1
  have HVI : Hid (Value.slice aI n cI = vI) := by have h := HVV.out.2.2; rw [hn] at h; exact h
  have HLB : Hid (([] ++ [((0 : Int).toNat, 2)] ++ [(m.rk.1.toNat, 8)] ++ fL m.rk.2.1 ++ fL m.rk.2.2.1).length ≤ 300) := by
    have h1 := HLE.out _ HQ.out.2.1.1
    have h2 := HLE.out _ HQ.out.2.2.1.1
    unfold Hid
    simp
    omega
  clear hn
  have c4 := MgAt.cell HMx.out 4 _ rfl
  rw [← HVI.out] at c4
  have hq := putG (n : Int) 11 ⟨by omega, by omega⟩ HG2.out (by have := HLB.out; omega)
  clear HG1 HGd HGa
  go_wp2_with fail
  refine hq.mono ?_
  rintro e w4 ⟨vb, rfl, g4⟩
  have HG4 : Hid (GR w0 w4 (.slice none 0 0) vb ([] ++ [((0 : Int).toNat, 2)] ++ [(m.rk.1.toNat, 8)] ++ fL m.rk.2.1 ++ fL m.rk.2.2.1 ++ [((n : Int).toNat, 11)])) := g4
  have HL4 : Hid (([] ++ [((0 : Int).toNat, 2)] ++ [(m.rk.1.toNat, 8)] ++ fL m.rk.2.1 ++ fL m.rk.2.2.1 ++ [((n : Int).toNat, 11)]).length ≤ 400) := by have := HLB.out; unfold Hid; rw [List.length_append]; simp at this ⊢; omega
  clear hq g4 c4 HMx HG2
  have c4 := MgAt.cell (HM0.out.later HG4.out.below) 4 _ rfl
  rw [← HVI.out] at c4
  obtain ⟨lb, hlb⟩ : ∃ x, [] ++ [((0 : Int).toNat, 2)] ++ [(m.rk.1.toNat, 8)] ++ fL m.rk.2.1 ++ fL m.rk.2.2.1 ++ [((n : Int).toNat, 11)] = x := ⟨_, rfl⟩
  have HLBB : Hid ([] ++ [((0 : Int).toNat, 2)] ++ [(m.rk.1.toNat, 8)] ++ fL m.rk.2.1 ++ fL m.rk.2.2.1 ++ [((n : Int).toNat, 11)] = lb) := hlb
  rw [hlb] at HG4 HL4
  clear hlb
  have HRI : Hid (RdV itl 6 w0 aI m.rk.2.2.2) := HR0.out.i
  have HGI : Hid (∀ x ∈ m.rk.2.2.2, (nn x.1.1 ∧ nn x.1.2) ∧ (nn x.2.1.1 ∧ nn x.2.1.2) ∧ (nn x.2.2.1 ∧ nn x.2.2.2)) := HQ.out.2.2.2.2
  obtain ⟨I, hI⟩ : ∃ I, m.rk.2.2.2 = I := ⟨_, rfl⟩
  have HI : Hid (m.rk.2.2.2 = I) := hI
  rw [hI] at HN HRI HGI
  clear hI
  go_wp2_with fail
  go_loopw [4, 46] (fun x i wr => ∃ k : Nat, k ≤ n ∧ i = .int .i64 (k : Int) ∧ GR w0 wr (.slice none 0 0) x (lb ++ (I.take k).flatMap fI)) (fun _ i _ => n - (intOf i).toNat)
  case atStart => exact ⟨0, by omega, rfl, by simpa using HG4.out⟩
  case round =>
    obtain ⟨k, hk, rfl, hG⟩ := hrel
    have HG : Hid (GR w0 wr (.slice none 0 0) u4 (lb ++ (I.take k).flatMap fI)) := hG
    clear hG HG4 c4
    by_cases hkn : k < n
    · have hkl : k < I.length := by rw [HN.out]; exact hkn
      obtain ⟨b, o, he, hr⟩ := HRI.out k hkl
      subst he
      have hr := ra_later hr HG.out.below
      unfold itl at hr
      have i1 : (0 : Int) ≤ (k : Int) := by omega
      have i2 : (k : Int) < (n : Int) := by omega
      have HNX : Hid ((I.take (k + 1)).flatMap fI = (I.take k).flatMap fI ++ fI I[k]) := flat_nx fI hkl
      have HLN : Hid ((lb ++ (I.take k).flatMap fI).length ≤ 11000) := by
        have := HL4.out
        unfold Hid
        rw [List.length_append, flat_ln fI 6 (fun _ => rfl), List.length_take]
        omega
      have HGK := HGI.out _ (List.getElem_mem hkl)
      generalize I[k] = p at *
      obtain ⟨⟨pv, pf⟩, ⟨⟨pa, pb⟩, ⟨pc, pd⟩⟩⟩ := p
      dsimp only at *
      clear hkl
      obtain ⟨lk, hlk⟩ : ∃ x, lb ++ (I.take k).flatMap fI = x := ⟨_, rfl⟩
      have HLK : Hid (lb ++ (I.take k).flatMap fI = lk) := hlk
      rw [hlk] at HG HLN
      clear hlk
      have HGK : Hid ((nn pv ∧ nn pf) ∧ (nn pa ∧ nn pb) ∧ (nn pc ∧ nn pd)) := HGK
      go_upto_region 12 with (refine ldM hr Tryz.underlying53 rfl szItem _ rfl rfl rfl ?_)
      have hE := heap_alloc_last wr (.cells #[.int .i64 pv, .int .i64 pf, .int .i64 pa, .int .i64 pb, .int .i64 pc, .int .i64 pd] 53)
      have hB1 := below_alloc wr (.cells #[.int .i64 pv, .int .i64 pf, .int .i64 pa, .int .i64 pb, .int .i64 pc, .int .i64 pd] 53)
      have HR1 : Hid _ := owns_later HG.out.row hB1
      have HEl : Hid (wr.heap.size < (wr.alloc (.cells #[.int .i64 pv, .int .i64 pf, .int .i64 pa, .int .i64 pb, .int .i64 pc, .int .i64 pd] 53)).heap.size ∧ u4.ownBlock ≠ some wr.heap.size) := ⟨by simp, own_ne HG.out.row⟩
      have HGa : Hid (GR w0 (wr.alloc (.cells #[.int .i64 pv, .int .i64 pf, .int .i64 pa, .int .i64 pb, .int .i64 pc, .int .i64 pd] 53)) (.slice none 0 0) u4 lk) := HG.out.later hB1
      clear hB1 hr
      generalize wr.alloc (.cells #[.int .i64 pv, .int .i64 pf, .int .i64 pa, .int .i64 pb, .int .i64 pc, .int .i64 pd] 53) = w1 at *
      obtain ⟨E, hEe⟩ : ∃ E, wr.heap.size = E := ⟨_, rfl⟩
      rw [hEe] at hE HEl ⊢
      clear hEe
      have hE : w1.drew.heap[E]? = some (.cells #[.int .i64 pv, .int .i64 pf, .int .i64 pa, .int .i64 pb, .int .i64 pc, .int .i64 pd] 53 (0, 0)) := hE
      have hq0 := rPut_any pv 5 HGK.out.1.1.1 HGK.out.1.1.2 (w := w1.drew) (v := u4) (l := lk) HR1.out (by have := HLN.out; omega)
      refine wp_region_held_drew (S := fun W => W.cell? ⟨E, 0, none⟩ = some (.int .i64 pv) ∧ W.cell? ⟨E, 1, none⟩ = some (.int .i64 pf) ∧ W.cell? ⟨E, 2, none⟩ = some (.int .i64 pa) ∧ W.cell? ⟨E, 3, none⟩ = some (.int .i64 pb) ∧ W.cell? ⟨E, 4, none⟩ = some (.int .i64 pc) ∧ W.cell? ⟨E, 5, none⟩ = some (.int .i64 pd)) (by kernel_rfl) (c6 hE) (fun hHeld => ?_)
      refine wpAnyH_take (i := 0) (oi := { dst := some 50, op := Op.move (Operand.tmp 4), type := _, pos := _, after := _, guard := none }) (v := u4) rfl (by kernel_rfl) (by kernel_rfl) (by kernel_rfl) (fun _ _ _ h => h) (Or.inl ⟨by rfl, fun w hSw => by (try dsimp only at hSw); go_simp⟩) (by assumption) ?_
      simp only [Act.put, List.setIfInBounds_toArray, List.set_cons_zero, List.set_cons_succ]
      refine wpAnyH_take (i := 1) (oi := { dst := some 51, op := Op.fieldAddr 53 (Operand.tmp 6) 0, type := _, pos := _, after := _, guard := none }) (v := .pointer (some ⟨E, 0, none⟩)) rfl (by kernel_rfl) (by kernel_rfl) (by kernel_rfl) (fun _ _ _ h => h) (Or.inl ⟨by rfl, fun w hSw => by (try dsimp only at hSw); go_simp⟩) (by assumption) ?_
      simp only [Act.put, List.setIfInBounds_toArray, List.set_cons_zero, List.set_cons_succ]
      refine wpAnyH_take (i := 2) (oi := { dst := some 52, op := Op.load 3 (Operand.tmp 51), type := _, pos := _, after := _, guard := none }) (v := .int .i64 pv) rfl (by kernel_rfl) (by kernel_rfl) (by kernel_rfl) (fun _ _ _ h => h) (Or.inl ⟨by rfl, fun w hSw => by (try dsimp only at hSw); go_simp⟩) (by assumption) ?_
      simp only [Act.put, List.setIfInBounds_toArray, List.set_cons_zero, List.set_cons_succ]
      refine wpAnyH_take (i := 4) (oi := { dst := some 54, op := Op.fieldAddr 53 (Operand.tmp 6) 1, type := _, pos := _, after := _, guard := none }) (v := .pointer (some ⟨E, 1, none⟩)) rfl (by kernel_rfl) (by kernel_rfl) (by kernel_rfl) (fun _ _ _ h => h) (Or.inl ⟨by rfl, fun w hSw => by (try dsimp only at hSw); go_simp⟩) (by assumption) ?_
      simp only [Act.put, List.setIfInBounds_toArray, List.set_cons_zero, List.set_cons_succ]
      refine wpAnyH_take (i := 5) (oi := { dst := some 55, op := Op.load 3 (Operand.tmp 54), type := _, pos := _, after := _, guard := none }) (v := .int .i64 pf) rfl (by kernel_rfl) (by kernel_rfl) (by kernel_rfl) (fun _ _ _ h => h) (Or.inl ⟨by rfl, fun w hSw => by (try dsimp only at hSw); go_simp⟩) (by assumption) ?_
      simp only [Act.put, List.setIfInBounds_toArray, List.set_cons_zero, List.set_cons_succ]
      refine wpAnyH_take (i := 7) (oi := { dst := some 57, op := Op.fieldAddr 53 (Operand.tmp 6) 2, type := _, pos := _, after := _, guard := none }) (v := .pointer (some ⟨E, 2, none⟩)) rfl (by kernel_rfl) (by kernel_rfl) (by kernel_rfl) (fun _ _ _ h => h) (Or.inl ⟨by rfl, fun w hSw => by (try dsimp only at hSw); go_simp⟩) (by assumption) ?_
      simp only [Act.put, List.setIfInBounds_toArray, List.set_cons_zero, List.set_cons_succ]
      refine wpAnyH_take (i := 8) (oi := { dst := some 58, op := Op.load 31 (Operand.tmp 57), type := _, pos := _, after := _, guard := none }) (v := .agg #[.int .i64 pa, .int .i64 pb, .int .i64 pc, .int .i64 pd]) rfl (by kernel_rfl) (by kernel_rfl) (by kernel_rfl) (fun _ _ _ h => h) (Or.inl ⟨by rfl, fun w hSw => by (try dsimp only at hSw); go_simp⟩) (by assumption) ?_
      simp only [Act.put, List.setIfInBounds_toArray, List.set_cons_zero, List.set_cons_succ]
      refine wpAnyH_ready (rs := [3]) (by kernel_rfl) (by simp) ?_
      refine AllReadyH.cons rfl (fun K hK => ?_) AllReadyH.nil
      go_simp
      refine hq0.mono ?_
      rintro e x1 ⟨v1, rfl, g2⟩
      have HE1 : Hid (x1.heap[E]? = some (.cells #[.int .i64 pv, .int .i64 pf, .int .i64 pa, .int .i64 pb, .int .i64 pc, .int .i64 pd] 53 (0, 0))) := (g2.block (HEl.out.1) (HEl.out.2)).trans hE
      have HN1 : Hid (v1.ownBlock ≠ some E ∧ E < x1.heap.size) := ⟨g2.ne (HEl.out.1) (HEl.out.2), Nat.lt_of_lt_of_le (HEl.out.1) g2.kp.size⟩
      have HG1 : Hid (GR w1.drew x1 u4 v1 (lk ++ [(pv.toNat, 5)])) := g2
      clear hq0 g2
      have hq1 := rPut_any pf 7 HGK.out.1.2.1 HGK.out.1.2.2 (w := x1) (v := v1) HG1.out.row (by have := HLN.out; simp; omega)
      go_wp2_with fail
      refine hK.out _ _ (c6 HE1.out) (fun hHeld2 => ?_)
      clear hHeld
      clear hK K
      try simp only [Act.put, List.setIfInBounds_toArray, List.set_cons_zero, List.set_cons_succ]
      refine wpAnyH_ready (rs := [6]) (by kernel_rfl) (by simp) ?_
      refine AllReadyH.cons rfl (fun K hK => ?_) AllReadyH.nil
      go_simp
      refine hq1.mono ?_
      rintro e x2 ⟨v2, rfl, g2⟩
      have HE2 : Hid (x2.heap[E]? = some (.cells #[.int .i64 pv, .int .i64 pf, .int .i64 pa, .int .i64 pb, .int .i64 pc, .int .i64 pd] 53 (0, 0))) := (g2.block (HN1.out.2) (HN1.out.1)).trans HE1.out
      have HN2 : Hid (v2.ownBlock ≠ some E ∧ E < x2.heap.size) := ⟨g2.ne (HN1.out.2) (HN1.out.1), Nat.lt_of_lt_of_le (HN1.out.2) g2.kp.size⟩
      have HG2 : Hid (GR w1.drew x2 u4 v2 (lk ++ [(pv.toNat, 5)] ++ [(pf.toNat, 7)])) := HG1.out.trans g2
      clear hq1 g2
      have hq2 := rPutB_any pa pb pc pd HGK.out.2.1 HGK.out.2.2 (w := x2) (v := v2) HG2.out.row (by have := HLN.out; simp; omega)
      go_wp2_with fail
      refine hK.out _ _ (c6 HE2.out) (fun hHeld3 => ?_)
      clear hHeld2
      clear hK K
      try simp only [Act.put, List.setIfInBounds_toArray, List.set_cons_zero, List.set_cons_succ]
      refine wpAnyH_ready (rs := [9]) (by kernel_rfl) (by simp) ?_
      refine AllReadyH.cons rfl (fun K hK => ?_) AllReadyH.nil
      go_simp
      refine hq2.mono ?_
      rintro e x3 ⟨v3, rfl, g2⟩
      have HE3 : Hid (x3.heap[E]? = some (.cells #[.int .i64 pv, .int .i64 pf, .int .i64 pa, .int .i64 pb, .int .i64 pc, .int .i64 pd] 53 (0, 0))) := (g2.block (HN2.out.2) (HN2.out.1)).trans HE2.out
      have HN3 : Hid (v3.ownBlock ≠ some E ∧ E < x3.heap.size) := ⟨g2.ne (HN2.out.2) (HN2.out.1), Nat.lt_of_lt_of_le (HN2.out.2) g2.kp.size⟩
      have HG3 : Hid (GR w1.drew x3 u4 v3 (lk ++ [(pv.toNat, 5)] ++ [(pf.toNat, 7)] ++ fB ((pa, pb), (pc, pd)))) := HG2.out.trans g2
      clear hq2 g2
      go_wp2_with fail
      refine hK.out _ _ (c6 HE3.out) (fun hHeld4 => ?_)
      clear hHeld3
      clear hK K
      try simp only [Act.put, List.setIfInBounds_toArray, List.set_cons_zero, List.set_cons_succ]
      refine wpAnyH_take (i := 10) (oi := { dst := some 4, op := Op.assign (Operand.tmp 59), type := _, pos := _, after := _, guard := none }) (v := v3) rfl (by kernel_rfl) (by kernel_rfl) (by kernel_rfl) (fun _ _ _ h => h) (Or.inl ⟨by rfl, fun w hSw => by (try dsimp only at hSw); go_simp⟩) (by assumption) ?_
      simp only [Act.put, List.setIfInBounds_toArray, List.set_cons_zero, List.set_cons_succ]
      refine wpAnyH_done (by kernel_rfl) ?_ _
      go_wp2_with fail
      go_roundw
      case rel =>
        refine ⟨k + 1, by omega, by go_num, ?_⟩
        rw [HNX.out, ← List.append_assoc, HLK.out]
        have e : lk ++ fI ((pv, pf), ((pa, pb), (pc, pd))) = lk ++ [(pv.toNat, 5)] ++ [(pf.toNat, 7)] ++ fB ((pa, pb), (pc, pd)) := by simp [fI]
        rw [e]
        exact (HGa.out.later (drew_below w1)).trans HG3.out
      case measure => simp [intOf]; omega
    · have hkn' : decide ((k : Int) < (n : Int)) = false := by simp; omega
      have et : I.take k = I := List.take_of_length_le (by rw [HN.out]; omega)
      rw [et] at HG
      have HGE : Hid (GR w0 wr (.slice none 0 0) u4 (lb ++ I.flatMap fI)) := HG.out
      obtain ⟨aF, cF, hvF⟩ := owns_slice HGE.out.row
      have HF : Hid ((lb ++ I.flatMap fI) = fM m) := by
        unfold Hid fM
        rw [HK.out]
        rw [← HLBB.out]
        have e1 := HI.out
        have e2 := HN.out
        simp [fR, e1, e2]
      rw [HF.out] at HGE hvF
      subst hvF
      have hp := rPack_of HGM.out HGE.out
      go_wp2_with fail
      refine hp.mono ?_
      rintro e wz ⟨rfl, hbz⟩
      have HBz : Hid (Below w.heap.size w wz) := Below.join (Below.join HB0.out HGE.out.below) hbz
      clear hp hbz
      go_wp2_with fail
      go_ret2
      exact ⟨rfl, HBz.out⟩
end Go.Proofs.YtdkfifnhmfbagaaGreat.Wi
