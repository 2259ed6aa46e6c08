/- WiPb, WiPc, joined. -/
import Derived.Test.YtdkfifnhmfbagaaGreatWiPa
import Derived.Test.YtdkfifnhmfbagaaGreatBtJ3
/- Contract of the document's answer: putSeats. -/
namespace Go.Proofs.YtdkfifnhmfbagaaGreat.Wi
open Go.RowKit Go.Maps
open Bt (Kept tb bys RdF pkS pkE okF)
set_option linter.unusedVariables false
set_option linter.unusedSimpArgs false

theorem flat_nx {α β : Type} (f : α → List β) {l : List α} {k : Nat} (h : k < l.length) : (l.take (k + 1)).flatMap f = (l.take k).flatMap f ++ f l[k] := by
  rw [List.take_succ_eq_append_getElem h, List.flatMap_append]
  simp
theorem flat_ln {α β : Type} (f : α → List β) (n : Nat) (h : ∀ x, (f x).length = n) : ∀ l : List α, (l.flatMap f).length = l.length * n
  | [] => by simp
  | x :: l => by rw [List.flatMap_cons, List.length_append, h, flat_ln f n h l, List.length_cons]; rw [Nat.succ_mul]; omega
set_option maxRecDepth 100000 in
set_option maxHeartbeats 1000000 in
theorem rPutL_any (L : List (Int × Int)) (aL : Option Addr) (cL : Nat) (hg : ∀ x ∈ L, nn x.1 ∧ nn x.2) (hn : L.length ≤ 64) {w0 w : World} {v : Value} {l : List (Nat × Int)} (rd : RdV stl 2 w0 aL L) (hG : GR w0 w (.slice none 0 0) v l) (hl : l.length ≤ 10000) :
    Calls Tryz.prog 36 #[v, .slice aL L.length cL] w fun e w' => ∃ v', e = .returned v' ∧ GR w0 w' (.slice none 0 0) v' (l ++ fL L) := by
  obtain ⟨n, hnn⟩ : ∃ n, L.length = n := ⟨_, rfl⟩
  have HN : Hid (L.length = n) := hnn
  have HF : Hid (l ++ fL L = l ++ [(n, 7)] ++ L.flatMap fS) := by unfold Hid fL; rw [hnn]; simp
  rw [HF.out]
  rw [hnn] at hn ⊢
  clear hnn
  have hq := rPut_any (n : Int) 7 (by omega) (by omega) hG.row (by omega)
  rw [Int.toNat_natCast] at hq
  have HG0 : Hid (GR w0 w (.slice none 0 0) v l) := hG
  clear hG
  go_enter Tryz.func36, Tryz.ntmps36
  go_wp2_with fail
  refine hq.mono ?_
  rintro e w2 ⟨v2, rfl, g2⟩
  have HG2 : Hid (GR w0 w2 (.slice none 0 0) v2 (l ++ [(n, 7)])) := HG0.out.trans g2
  clear hq g2 HG0
  go_wp2_with fail
  go_loopw [0, 13] (fun x i wr => ∃ k : Nat, k ≤ n ∧ i = .int .i64 (k : Int) ∧ GR w0 wr (.slice none 0 0) x (l ++ [(n, 7)] ++ (L.take k).flatMap fS)) (fun _ i _ => n - (intOf i).toNat)
  case atStart => exact ⟨0, by omega, rfl, by simpa using HG2.out⟩
  case round =>
    obtain ⟨k, hk, rfl, hG⟩ := hrel
    have HG : Hid (GR w0 wr (.slice none 0 0) u0 (l ++ [(n, 7)] ++ (L.take k).flatMap fS)) := hG
    clear hG HG2
    by_cases hkn : k < n
    · have hkl : k < L.length := by rw [HN.out]; exact hkn
      obtain ⟨b, o, rfl, hr⟩ := rd k hkl
      have hr := ra_later hr HG.out.below
      unfold stl at hr
      have i1 : (0 : Int) ≤ (k : Int) := by omega
      have i2 : (k : Int) < (n : Int) := by omega
      have HNX : Hid ((L.take (k + 1)).flatMap fS = (L.take k).flatMap fS ++ fS L[k]) := flat_nx fS hkl
      have HLN : Hid ((l ++ [(n, 7)] ++ (L.take k).flatMap fS).length ≤ 11000) := by
        unfold Hid
        rw [List.length_append, List.length_append, flat_ln fS 2 (fun _ => rfl), List.length_take]
        simp
        omega
      have HGK : Hid (nn L[k].1 ∧ nn L[k].2) := hg _ (List.getElem_mem hkl)
      generalize L[k] = p at *
      obtain ⟨pw, pl⟩ := p
      dsimp only at *
      clear hkl
      obtain ⟨lk, hlk⟩ : ∃ x, l ++ [(n, 7)] ++ (L.take k).flatMap fS = x := ⟨_, rfl⟩
      have HLK : Hid (l ++ [(n, 7)] ++ (L.take k).flatMap fS = lk) := hlk
      rw [hlk] at HG HLN
      clear hlk
      go_upto_region 5 with (refine ldM hr Tryz.underlying55 rfl szSeat _ rfl rfl rfl ?_)
      have hE := heap_alloc_last wr (.cells #[.int .i64 pw, .int .i64 pl] 55)
      have hB1 := below_alloc wr (.cells #[.int .i64 pw, .int .i64 pl] 55)
      have HR1 : Hid _ := owns_later HG.out.row hB1
      have HEl : Hid (wr.heap.size < (wr.alloc (.cells #[.int .i64 pw, .int .i64 pl] 55)).heap.size ∧ u0.ownBlock ≠ some wr.heap.size) := ⟨by simp, own_ne HG.out.row⟩
      have HB1 : Hid _ := hB1
      have HGa : Hid (GR w0 (wr.alloc (.cells #[.int .i64 pw, .int .i64 pl] 55)) (.slice none 0 0) u0 lk) := HG.out.later hB1
      clear hB1 hr
      generalize wr.alloc (.cells #[.int .i64 pw, .int .i64 pl] 55) = w1 at *
      obtain ⟨E, hEe⟩ : ∃ E, wr.heap.size = E := ⟨_, rfl⟩
      rw [hEe] at hE HEl ⊢
      clear hEe
      have hE : w1.drew.heap[E]? = some (.cells #[.int .i64 pw, .int .i64 pl] 55 (0, 0)) := hE
      have hq0 := rPut_any pw 8 HGK.out.1.1 HGK.out.1.2 (w := w1.drew) (v := u0) (l := lk) HR1.out (by have := HLN.out; omega)
      refine wp_region_held_drew (S := fun W => W.cell? ⟨E, 0, none⟩ = some (.int .i64 pw) ∧ W.cell? ⟨E, 1, none⟩ = some (.int .i64 pl)) (by kernel_rfl) (two_cells hE) (fun hHeld => ?_)
      refine wpAnyH_take (i := 0) (oi := { dst := some 17, op := Op.move (Operand.tmp 0), type := _, pos := _, after := _, guard := none }) (v := u0) rfl (by kernel_rfl) (by kernel_rfl) (by kernel_rfl) (fun _ _ _ h => h) (Or.inl ⟨by rfl, fun w hSw => by (try dsimp only at hSw); go_simp⟩) (by assumption) ?_
      simp only [Act.put, List.setIfInBounds_toArray, List.set_cons_zero, List.set_cons_succ]
      refine wpAnyH_take (i := 1) (oi := { dst := some 18, op := Op.fieldAddr 55 (Operand.tmp 6) 0, type := _, pos := _, after := _, guard := none }) (v := .pointer (some ⟨E, 0, none⟩)) rfl (by kernel_rfl) (by kernel_rfl) (by kernel_rfl) (fun _ _ _ h => h) (Or.inl ⟨by rfl, fun w hSw => by (try dsimp only at hSw); go_simp⟩) (by assumption) ?_
      simp only [Act.put, List.setIfInBounds_toArray, List.set_cons_zero, List.set_cons_succ]
      refine wpAnyH_take (i := 2) (oi := { dst := some 19, op := Op.load 3 (Operand.tmp 18), type := _, pos := _, after := _, guard := none }) (v := .int .i64 pw) rfl (by kernel_rfl) (by kernel_rfl) (by kernel_rfl) (fun _ _ _ h => h) (Or.inl ⟨by rfl, fun w hSw => by (try dsimp only at hSw); go_simp⟩) (by assumption) ?_
      simp only [Act.put, List.setIfInBounds_toArray, List.set_cons_zero, List.set_cons_succ]
      refine wpAnyH_take (i := 4) (oi := { dst := some 21, op := Op.fieldAddr 55 (Operand.tmp 6) 1, type := _, pos := _, after := _, guard := none }) (v := .pointer (some ⟨E, 1, none⟩)) rfl (by kernel_rfl) (by kernel_rfl) (by kernel_rfl) (fun _ _ _ h => h) (Or.inl ⟨by rfl, fun w hSw => by (try dsimp only at hSw); go_simp⟩) (by assumption) ?_
      simp only [Act.put, List.setIfInBounds_toArray, List.set_cons_zero, List.set_cons_succ]
      refine wpAnyH_take (i := 5) (oi := { dst := some 22, op := Op.load 3 (Operand.tmp 21), type := _, pos := _, after := _, guard := none }) (v := .int .i64 pl) rfl (by kernel_rfl) (by kernel_rfl) (by kernel_rfl) (fun _ _ _ h => h) (Or.inl ⟨by rfl, fun w hSw => by (try dsimp only at hSw); go_simp⟩) (by assumption) ?_
      simp only [Act.put, List.setIfInBounds_toArray, List.set_cons_zero, List.set_cons_succ]
      refine wpAnyH_ready (rs := [3]) (by kernel_rfl) (by simp) ?_
      refine AllReadyH.cons rfl (fun K hK => ?_) AllReadyH.nil
      go_simp
      refine hq0.mono ?_
      rintro e x1 ⟨v1, rfl, g2⟩
      have HE1 : Hid (x1.heap[E]? = some (.cells #[.int .i64 pw, .int .i64 pl] 55 (0, 0))) := (g2.block (HEl.out.1) (HEl.out.2)).trans hE
      have HN1 : Hid (v1.ownBlock ≠ some E ∧ E < x1.heap.size) := ⟨g2.ne (HEl.out.1) (HEl.out.2), Nat.lt_of_lt_of_le (HEl.out.1) g2.kp.size⟩
      have HG1 : Hid (GR w1.drew x1 u0 v1 (lk ++ [(pw.toNat, 8)])) := g2
      clear hq0 g2
      have hq1 := rPut_any pl 6 HGK.out.2.1 HGK.out.2.2 (w := x1) (v := v1) HG1.out.row (by have := HLN.out; simp; omega)
      go_wp2_with fail
      refine hK.out _ _ (two_cells HE1.out) (fun hHeld2 => ?_)
      clear hHeld
      clear hK K
      try simp only [Act.put, List.setIfInBounds_toArray, List.set_cons_zero, List.set_cons_succ]
      refine wpAnyH_ready (rs := [6]) (by kernel_rfl) (by simp) ?_
      refine AllReadyH.cons rfl (fun K hK => ?_) AllReadyH.nil
      go_simp
      refine hq1.mono ?_
      rintro e x2 ⟨v2, rfl, g2⟩
      have HE2 : Hid (x2.heap[E]? = some (.cells #[.int .i64 pw, .int .i64 pl] 55 (0, 0))) := (g2.block (HN1.out.2) (HN1.out.1)).trans HE1.out
      have HN2 : Hid (v2.ownBlock ≠ some E ∧ E < x2.heap.size) := ⟨g2.ne (HN1.out.2) (HN1.out.1), Nat.lt_of_lt_of_le (HN1.out.2) g2.kp.size⟩
      have HG2 : Hid (GR w1.drew x2 u0 v2 (lk ++ [(pw.toNat, 8)] ++ [(pl.toNat, 6)])) := HG1.out.trans g2
      clear hq1 g2
      go_wp2_with fail
      refine hK.out _ _ (two_cells HE2.out) (fun hHeld3 => ?_)
      clear hHeld2
      clear hK K
      try simp only [Act.put, List.setIfInBounds_toArray, List.set_cons_zero, List.set_cons_succ]
      refine wpAnyH_take (i := 7) (oi := { dst := some 0, op := Op.assign (Operand.tmp 23), type := _, pos := _, after := _, guard := none }) (v := v2) rfl (by kernel_rfl) (by kernel_rfl) (by kernel_rfl) (fun _ _ _ h => h) (Or.inl ⟨by rfl, fun w hSw => by (try dsimp only at hSw); go_simp⟩) (by assumption) ?_
      simp only [Act.put, List.setIfInBounds_toArray, List.set_cons_zero, List.set_cons_succ]
      refine wpAnyH_done (by kernel_rfl) ?_ _
      go_wp2_with fail
      go_roundw
      case rel =>
        refine ⟨k + 1, by omega, by go_num, ?_⟩
        rw [HNX.out, ← List.append_assoc, HLK.out]
        have e : lk ++ fS (pw, pl) = lk ++ [(pw.toNat, 8)] ++ [(pl.toNat, 6)] := by simp [fS]
        rw [e]
        exact (HGa.out.later (drew_below w1)).trans HG2.out
      case measure => simp [intOf]; omega
    · have hkn' : decide ((k : Int) < (n : Int)) = false := by simp; omega
      have e : L.take k = L := List.take_of_length_le (by rw [HN.out]; omega)
      rw [e] at HG
      go_wp2_with fail
      go_ret
      exact ⟨_, rfl, HG.out⟩
end Go.Proofs.YtdkfifnhmfbagaaGreat.Wi
/- Contract of the document's answer: Encode. -/
namespace Go.Proofs.YtdkfifnhmfbagaaGreat.Wi
open Go.RowKit Go.Maps
open Bt (Kept tb bys RdF pkS pkE okF)
set_option linter.unusedVariables false
set_option linter.unusedSimpArgs false

section
variable {w0 w : World} {v : Value} {l : List (Nat × Int)}
theorem putG (x q : Int) (h : nn x) (hG : GR w0 w (.slice none 0 0) v l) (hl : l.length ≤ 20000) : Calls Tryz.prog 35 #[v, .int .i64 x, .int .i64 q] w fun e w' => ∃ v', e = .returned v' ∧ GR w0 w' (.slice none 0 0) v' (l ++ [(x.toNat, q)]) := by
  refine (rPut_any x q h.1 h.2 hG.row hl).mono ?_
  rintro e w' ⟨v', he, g⟩
  exact ⟨v', he, hG.trans g⟩
theorem putKG (kb ks : Int) (hb : nn kb) (hs : nn ks) (hG : GR w0 w (.slice none 0 0) v l) (hl : l.length ≤ 19900) : Calls Tryz.prog 38 #[v, .agg #[.int .i64 kb, .int .i64 ks] ] w fun e w' => ∃ v', e = .returned v' ∧ GR w0 w' (.slice none 0 0) v' (l ++ fK (kb, ks)) := by
  refine (rPutK_any kb ks hb hs hG.row hl).mono ?_
  rintro e w' ⟨v', he, g⟩
  exact ⟨v', he, hG.trans g⟩
theorem putBG (kb ks lb ls : Int) (hb : nn kb ∧ nn ks) (hs : nn lb ∧ nn ls) (hG : GR w0 w (.slice none 0 0) v l) (hl : l.length ≤ 19800) : Calls Tryz.prog 37 #[v, .agg #[.int .i64 kb, .int .i64 ks, .int .i64 lb, .int .i64 ls] ] w fun e w' => ∃ v', e = .returned v' ∧ GR w0 w' (.slice none 0 0) v' (l ++ fB ((kb, ks), (lb, ls))) := by
  refine (rPutB_any kb ks lb ls hb hs hG.row hl).mono ?_
  rintro e w' ⟨v', he, g⟩
  exact ⟨v', he, hG.trans g⟩
end
theorem MgAt.cell {w : World} {B : Nat} {m : Msg} {vL vJ vI : Value} (h : MgAt w B m vL vJ vI) (o : Nat) (v : Value) (e : (mgl m vL vJ vI)[o]? = some v) : w.cell? ⟨B, o, none⟩ = some v := (cell_of_row w B o _ _ _ h).trans (by simpa using e)
theorem nn_gd {k : Int × Int} (h : gK k = true) : nn k.1 ∧ nn k.2 := by
  have h := h
  unfold gK Rt.gd at h
  simp only [Bool.and_eq_true, decide_eq_true_eq] at h
  unfold nn
  omega
theorem nn_gB {b : (Int × Int) × (Int × Int)} (h : gB b = true) : (nn b.1.1 ∧ nn b.1.2) ∧ (nn b.2.1 ∧ nn b.2.2) := by
  have h := gB_iff.1 h
  exact ⟨nn_gd h.1, nn_gd h.2⟩
theorem nn_W {x : Int} (h : gW x = true) : nn x := by
  unfold gW at h
  simp only [Bool.and_eq_true, decide_eq_true_eq] at h
  unfold nn
  omega
theorem nn_E {x : Int} (h : gE x = true) : nn x := by
  unfold gE at h
  simp only [Bool.and_eq_true, decide_eq_true_eq] at h
  unfold nn
  omega
theorem nn_S {s : Int × Int} (h : gS s = true) : nn s.1 ∧ nn s.2 := by
  unfold gS at h
  simp only [Bool.and_eq_true, decide_eq_true_eq] at h
  refine ⟨nn_W h.1, ?_⟩
  unfold nn
  omega
theorem okF_lt {x : Nat × Int} (h : okF x = true) : x.1 < 18446744073709551616 := by
  unfold okF Bt.gw at h
  simp only [Bool.and_eq_true, decide_eq_true_eq] at h
  have h2 : 2 ^ x.2.toNat ≤ 2 ^ 64 := Nat.pow_le_pow_right (by decide) (by omega)
  have h3 : (2 : Nat) ^ 64 = 18446744073709551616 := by decide
  omega
theorem rPack_of {w0 w : World} {a : Option Addr} {c : Nat} {m : Msg} (hg : gM m = true) (hG : GR w0 w (.slice none 0 0) (.slice a (fM m).length c) (fM m)) : Calls Tryz.prog 39 #[.slice a (fM m).length c] w fun e w' => e = .returned (.tuple #[.string (enS m), .int .i64 0]) ∧ Below w.heap.size w w' := by
  have h := Bt.rPack_any a c (fM m).length (fM m) rfl w (by have := fM_len hg; omega) (rdF_of hG.row (fun x hx => by
    have := all_M hg x hx
    exact okF_lt this))
  rw [(en_pk hg).1, (en_pk hg).2] at h
  exact h
set_option maxRecDepth 100000 in
set_option maxHeartbeats 2000000 in
theorem rEnc_2 (m : Msg) (aL aJ aI : Option Addr) (cL cJ cI : Nat) (w : World) (hr : MR w m aL aJ aI) (hg : gM m = true) (hk : m.kd = 2) :
    Calls Tryz.prog 9 #[.agg (mgv m aL aJ aI cL cJ cI).toArray] w fun e w' => e = .returned (.tuple #[.string (enS m), .int .i64 0]) ∧ Below w.heap.size w w' := by
  have hb1 := below_alloc w (.cells (mgv m aL aJ aI cL cJ cI).toArray 38)
  have h2 := rGood_any m aL aJ aI cL cJ cI _ (hr.later hb1)
  rw [hg] at h2
  have hM : MgAt _ w.heap.size m (.slice aL m.rk.2.1.length cL) (.slice aJ m.rk.2.2.1.length cJ) (.slice aI m.rk.2.2.2.length cI) := heap_alloc_last w (.cells (mgv m aL aJ aI cL cJ cI).toArray 38)
  have HGM : Hid (gM m = true) := hg
  have HR : Hid (MR w m aL aJ aI) := hr
  have HK : Hid (m.kd = 2) := hk
  obtain ⟨vL, hvL⟩ : ∃ x, Value.slice aL m.rk.2.1.length cL = x := ⟨_, rfl⟩
  obtain ⟨vJ, hvJ⟩ : ∃ x, Value.slice aJ m.rk.2.2.1.length cJ = x := ⟨_, rfl⟩
  obtain ⟨vI, hvI⟩ : ∃ x, Value.slice aI m.rk.2.2.2.length cI = x := ⟨_, rfl⟩
  rw [hvL, hvJ, hvI] at hM
  have HVV : Hid (Value.slice aL m.rk.2.1.length cL = vL ∧ Value.slice aJ m.rk.2.2.1.length cJ = vJ ∧ Value.slice aI m.rk.2.2.2.length cI = vI) := ⟨hvL, hvJ, hvI⟩
  have HCT : Hid (mgv m aL aJ aI cL cJ cI = mgl m vL vJ vI) := by unfold Hid mgv; rw [hvL, hvJ, hvI]
  clear hvL hvJ hvI hr hg
  obtain ⟨ct, hct⟩ : ∃ c, (mgv m aL aJ aI cL cJ cI) = c := ⟨_, rfl⟩
  have HS : Hid ((Tryz.prog.info? 38).map (·.size) = some ct.length) := by unfold Hid; rw [← hct]; exact szMg
  rw [hct] at hM hb1 h2 HCT
  rw [hct]
  clear hct
  go_enter Tryz.func9, Tryz.ntmps9
  go_upto_region 1 with (fail)
  have HA : Hid (_ < _) := (Array.getElem?_eq_some_iff.1 hM).1
  have HRA : Hid ((w.alloc (.cells ct.toArray 38)).rangeAt w.heap.size 0 ct) := MB.all (MB.new w ct)
  generalize w.alloc (.cells ct.toArray 38) = w1 at *
  obtain ⟨A, hAe⟩ : ∃ A, w.heap.size = A := ⟨_, rfl⟩
  rw [hAe] at hM HRA HA ⊢
  clear hAe
  have HM1 : Hid (MgAt w1 A m vL vJ vI) := hM
  have HB1 : Hid (Below w.heap.size w w1) := hb1
  clear hM hb1
  go_wp2_with (refine ldM HRA.out Tryz.underlying38 rfl HS.out _ rfl rfl rfl ?_)
  refine h2.mono ?_
  rintro e w0 ⟨rfl, hb2⟩
  have HB0 : Hid (Below w.heap.size w w0) := Below.join HB1.out hb2
  have HM0 : Hid (MgAt w0 A m vL vJ vI) := HM1.out.later hb2
  clear h2 hb2 HM1 HB1 HRA HA HS HCT
  have ck := HM0.out.kind
  rw [HK.out] at ck
  have hG0 : GR w0 w0 (.slice none 0 0) (.slice none 0 0) [] := GR.refl (World.ownsRow_nil _ _ _ _)
  have hq := putG 1 2 ⟨by omega, by omega⟩ hG0 (by simp)
  clear hG0
  go_wp2_with fail
  refine hq.mono ?_
  rintro e w2 ⟨v0, rfl, g2⟩
  have HG0 : Hid (GR w0 w2 (.slice none 0 0) v0 ([] ++ [((1 : Int).toNat, 2)])) := g2
  have hM2 := HM0.out.later g2.below
  clear hq g2 ck
  have ck := hM2.kind
  rw [HK.out] at ck
  have HQ : Hid (nn m.rq.1 ∧ nn m.rq.2) := by
    rcases gM_cases HGM.out with ⟨a, e⟩ | ⟨a, e⟩ | ⟨a, e⟩ | ⟨a, e⟩
    · have := HK.out; rw [e] at this; simp [mR, mQ, mP, mD] at this
    · simp only [gQ, Bool.and_eq_true] at a
      exact ⟨nn_W a.1, nn_E a.2⟩
    · have := HK.out; rw [e] at this; simp [mR, mQ, mP, mD] at this
    · have := HK.out; rw [e] at this; simp [mR, mQ, mP, mD] at this
  go_upto_region 15 with (fail)
  have HGd : Hid (GR w0 w2.drew (.slice none 0 0) v0 ([] ++ [((1 : Int).toNat, 2)])) := HG0.out.later (drew_below w2)
  have hq0 := putG m.rq.1 8 HQ.out.1 HGd.out (by simp)
  refine wp_region_held_drew (S := fun W => MgAt W A m vL vJ vI) (by kernel_rfl) (HM0.out.later HGd.out.below) (fun hHeld => ?_)
  refine wpAnyH_take (i := 0) (oi := { dst := some 63, op := Op.move (Operand.tmp 4), type := _, pos := _, after := _, guard := none }) (v := v0) rfl (by kernel_rfl) (by kernel_rfl) (by kernel_rfl) (fun _ _ _ h => h) (Or.inl ⟨by rfl, fun w hSw => by (try dsimp only at hSw); go_simp⟩) (by assumption) ?_
  simp only [Act.put, List.setIfInBounds_toArray, List.set_cons_zero, List.set_cons_succ]
  refine wpAnyH_take (i := 1) (oi := { dst := some 64, op := Op.fieldAddr 38 (Operand.tmp 1) 2, type := _, pos := _, after := _, guard := none }) (v := .pointer (some ⟨A, 5, none⟩)) rfl (by kernel_rfl) (by kernel_rfl) (by kernel_rfl) (fun _ _ _ h => h) (Or.inl ⟨by rfl, fun w hSw => by (try dsimp only at hSw); go_simp⟩) (by assumption) ?_
  simp only [Act.put, List.setIfInBounds_toArray, List.set_cons_zero, List.set_cons_succ]
  refine wpAnyH_take (i := 2) (oi := { dst := some 65, op := Op.fieldAddr 27 (Operand.tmp 64) 0, type := _, pos := _, after := _, guard := none }) (v := .pointer (some ⟨A, 5, none⟩)) rfl (by kernel_rfl) (by kernel_rfl) (by kernel_rfl) (fun _ _ _ h => h) (Or.inl ⟨by rfl, fun w hSw => by (try dsimp only at hSw); go_simp⟩) (by assumption) ?_
  simp only [Act.put, List.setIfInBounds_toArray, List.set_cons_zero, List.set_cons_succ]
  refine wpAnyH_take (i := 3) (oi := { dst := some 66, op := Op.load 3 (Operand.tmp 65), type := _, pos := _, after := _, guard := none }) (v := .int .i64 m.rq.1) rfl (by kernel_rfl) (by kernel_rfl) (by kernel_rfl) (fun _ _ _ h => h) (Or.inl ⟨by rfl, fun w hSw => by have z := MgAt.cell hSw 5 _ rfl; clear hSw; go_simp⟩) (by assumption) ?_
  simp only [Act.put, List.setIfInBounds_toArray, List.set_cons_zero, List.set_cons_succ]
  refine wpAnyH_take (i := 5) (oi := { dst := some 68, op := Op.fieldAddr 38 (Operand.tmp 1) 2, type := _, pos := _, after := _, guard := none }) (v := .pointer (some ⟨A, 5, none⟩)) rfl (by kernel_rfl) (by kernel_rfl) (by kernel_rfl) (fun _ _ _ h => h) (Or.inl ⟨by rfl, fun w hSw => by (try dsimp only at hSw); go_simp⟩) (by assumption) ?_
  simp only [Act.put, List.setIfInBounds_toArray, List.set_cons_zero, List.set_cons_succ]
  refine wpAnyH_take (i := 6) (oi := { dst := some 69, op := Op.fieldAddr 27 (Operand.tmp 68) 1, type := _, pos := _, after := _, guard := none }) (v := .pointer (some ⟨A, 6, none⟩)) rfl (by kernel_rfl) (by kernel_rfl) (by kernel_rfl) (fun _ _ _ h => h) (Or.inl ⟨by rfl, fun w hSw => by (try dsimp only at hSw); go_simp⟩) (by assumption) ?_
  simp only [Act.put, List.setIfInBounds_toArray, List.set_cons_zero, List.set_cons_succ]
  refine wpAnyH_take (i := 7) (oi := { dst := some 70, op := Op.load 3 (Operand.tmp 69), type := _, pos := _, after := _, guard := none }) (v := .int .i64 m.rq.2) rfl (by kernel_rfl) (by kernel_rfl) (by kernel_rfl) (fun _ _ _ h => h) (Or.inl ⟨by rfl, fun w hSw => by have z := MgAt.cell hSw 6 _ rfl; clear hSw; go_simp⟩) (by assumption) ?_
  simp only [Act.put, List.setIfInBounds_toArray, List.set_cons_zero, List.set_cons_succ]
  refine wpAnyH_ready (rs := [4]) (by kernel_rfl) (by simp) ?_
  refine AllReadyH.cons rfl (fun K hK => ?_) AllReadyH.nil
  go_simp
  refine hq0.mono ?_
  rintro e x1 ⟨v1, rfl, g2⟩
  have HG1 : Hid (GR w0 x1 (.slice none 0 0) v1 ([] ++ [((1 : Int).toNat, 2)] ++ [(m.rq.1.toNat, 8)])) := g2
  have hS1 := HM0.out.later g2.below
  clear hq0 g2
  have hq1 := putG m.rq.2 8 HQ.out.2 HG1.out (by simp)
  go_wp2_with fail
  refine hK.out _ _ hS1 (fun hHeld2 => ?_)
  clear hHeld hS1
  clear hK K
  try simp only [Act.put, List.setIfInBounds_toArray, List.set_cons_zero, List.set_cons_succ]
  refine wpAnyH_ready (rs := [8]) (by kernel_rfl) (by simp) ?_
  refine AllReadyH.cons rfl (fun K hK => ?_) AllReadyH.nil
  go_simp
  refine hq1.mono ?_
  rintro e x2 ⟨v2, rfl, g2⟩
  have HG2 : Hid (GR w0 x2 (.slice none 0 0) v2 ([] ++ [((1 : Int).toNat, 2)] ++ [(m.rq.1.toNat, 8)] ++ [(m.rq.2.toNat, 8)])) := g2
  have hS2 := HM0.out.later g2.below
  clear hq1 g2
  go_wp2_with fail
  refine hK.out _ _ hS2 (fun hHeld3 => ?_)
  clear hHeld2 hS2
  clear hK K
  try simp only [Act.put, List.setIfInBounds_toArray, List.set_cons_zero, List.set_cons_succ]
  refine wpAnyH_take (i := 9) (oi := { dst := some 4, op := Op.assign (Operand.tmp 71), type := _, pos := _, after := _, guard := none }) (v := v2) rfl (by kernel_rfl) (by kernel_rfl) (by kernel_rfl) (fun _ _ _ h => h) (Or.inl ⟨by rfl, fun w hSw => by (try dsimp only at hSw); go_simp⟩) (by assumption) ?_
  simp only [Act.put, List.setIfInBounds_toArray, List.set_cons_zero, List.set_cons_succ]
  refine wpAnyH_done (by kernel_rfl) ?_ _
  have HGE : Hid (GR w0 x2 (.slice none 0 0) v2 ([] ++ [((1 : Int).toNat, 2)] ++ [(m.rq.1.toNat, 8)] ++ [(m.rq.2.toNat, 8)])) := HG2.out
  clear HG2 HG1 HGd HG0 hM2 ck
  obtain ⟨aF, cF, hvF⟩ := owns_slice HGE.out.row
  have HF : Hid (([] ++ [((1 : Int).toNat, 2)] ++ [(m.rq.1.toNat, 8)] ++ [(m.rq.2.toNat, 8)]) = fM m) := by
    unfold Hid fM
    rw [HK.out]
    simp [fR, fQ, fP, fD, fX, fS]
  rw [HF.out] at HGE hvF
  subst hvF
  have hp := rPack_of HGM.out HGE.out
  go_wp2_with fail
  refine hp.mono ?_
  rintro e wz ⟨rfl, hbz⟩
  have HBz : Hid (Below w.heap.size w wz) := Below.join (Below.join HB0.out HGE.out.below) hbz
  clear hp hbz
  go_wp2_with fail
  go_ret2
  exact ⟨rfl, HBz.out⟩
end Go.Proofs.YtdkfifnhmfbagaaGreat.Wi
