/- Contracts: the document's Next; Cost. -/
import Derived.Test.YteocfmimgoocnaaGreatDoorPlG
namespace Go.Proofs.YteocfmimgoocnaaGreatDoor
open Go.RowKit Go.Maps Go.Great
open Rt (Ky zK kcs)
open Rs (En zE rcs tkn RdI RdS ps evl Tb)
set_option linter.unusedVariables false
set_option linter.unusedSimpArgs false

set_option maxRecDepth 100000 in
set_option maxHeartbeats 2000000 in
theorem rNext_any (t : Tr) (aL aJ : Option Addr) (cL cJ : Nat) (L J : List Int) (w : World) (lL : L.length < 1152921504606846976) (lJ : J.length < 1152921504606846976) (hL : RdI w aL L) (hJ : RdI w aJ J) :
    Calls Tryz.prog 12 #[.agg (tcs t), .agg #[.slice aL L.length cL, .slice aJ J.length cJ] ] w fun e w' => NextA w w' t L J e ∧ Below w.heap.size w w' := by
  have hX := NX.new w t aL aJ L.length J.length cL cJ
  unfold rkz at hX
  obtain ⟨ct, hct⟩ : ∃ c, tcs t = c := ⟨_, rfl⟩
  have HT : Hid (tcs t = ct) := hct
  clear hct
  go_enter Tryz.func12, Tryz.ntmps12
  go_upto_region 1 with (fail)
  rw [zero236]
  generalize (((w.alloc (.cells (tcs t) 31)).alloc (.cells #[.slice aL L.length cL, .slice aJ J.length cJ] 34)).alloc (.cells (tcs (tz 0)) 31)).alloc (.cells #[.int .i64 0, .slice none 0 0, .slice none 0 0, .slice none 0 0] 45) = w1 at *
  rw [HT.out]
  obtain ⟨D, hD⟩ : ∃ D, w.heap.size + 3 = D := ⟨_, rfl⟩
  obtain ⟨K, hK⟩ : ∃ D, w.heap.size + 2 = D := ⟨_, rfl⟩
  obtain ⟨C, hC⟩ : ∃ D, w.heap.size + 1 = D := ⟨_, rfl⟩
  obtain ⟨B, hB⟩ : ∃ D, w.heap.size = D := ⟨_, rfl⟩
  rw [hD, hK, hC, hB] at hX ⊢
  clear hD hK hC hB
  have h1 := rNext11_any t aL aJ cL cJ L J w1 lL lJ (hL.later hX.tb.bel) (hJ.later hX.tb.bel)
  rw [HT.out] at h1
  have hT1 := hX.tb.tr
  obtain ⟨d0, d1⟩ := hX.tb.bt.cells
  go_wp2_with (refine rdT hT1 HT.out _ rfl rfl rfl ?_)
  refine h1.mono ?_
  rintro r w2 ⟨⟨vl, vj, rfl, hMP⟩, hb2⟩
  have hX2 := hX.later hb2
  have HW1 : Hid (w.heap.size ≤ w1.heap.size) := hX.tb.bel.size
  have HLF : Hid (w2.ownsRow w1.heap.size 62 2 vl (pnL t L J).length (ps (pnL t L J))) := hMP.left
  have HJF : Hid (w2.ownsRow w1.heap.size 62 2 vj (pnJ t L J).length (ps (pnJ t L J))) := hMP.join
  have HAP : Hid (vl.ownBlock = none ∨ vl.ownBlock ≠ vj.ownBlock) := hMP.apart
  obtain ⟨a1, cap1, rfl⟩ := Rs.owns_slice HLF.out
  obtain ⟨a2, cap2, rfl⟩ := Rs.owns_slice HJF.out
  have hz2 : TrAt (w2.alloc (.cells Tryz.zeroCells31 31)) w2.heap.size (tz 0) := TrAt.zero w2
  obtain ⟨cp, hcp⟩ : ∃ c, tcs (pnT t L J) = c := ⟨_, rfl⟩
  have HCP : Hid (tcs (pnT t L J) = cp) := hcp
  rw [hcp]
  clear h1 hX hT1 hb2 d0 d1 hMP hcp
  obtain ⟨E, hE⟩ : ∃ E, plE t L J = E := ⟨_, rfl⟩
  rw [hE]
  obtain ⟨ll, hll⟩ : ∃ l, pnL t L J = l := ⟨_, rfl⟩
  obtain ⟨lj, hlj⟩ : ∃ l, pnJ t L J = l := ⟨_, rfl⟩
  rw [hll] at HLF HAP
  rw [hlj] at HJF HAP
  rw [hll, hlj]
  have HLL : Hid (pnL t L J = ll) := hll
  have HLJ : Hid (pnJ t L J = lj) := hlj
  clear hll hlj
  go_upto_region 2 with (refine stTc hz2 HCP.out rfl _ _ rfl rfl rfl ?_)
  rw [alloc_trz, World.setRow_alloc_new]
  have hbw := below_alloc w2 (.cells cp 31)
  have hX3 := hX2.later hbw
  have hN3 : TrAt (w2.alloc (.cells cp 31)) w2.heap.size (pnT t L J) := by rw [← HCP.out]; exact TrAt.new _ _
  have HLF3 : Hid ((w2.alloc (.cells cp 31)).ownsRow w1.heap.size 62 2 (.slice a1 ll.length cap1) ll.length (ps ll)) := Rs.owns_later HLF.out hbw
  have HJF3 : Hid ((w2.alloc (.cells cp 31)).ownsRow w1.heap.size 62 2 (.slice a2 lj.length cap2) lj.length (ps lj)) := Rs.owns_later HJF.out hbw
  have hne : w2.heap.size ≠ K := fun e => by have := hX2.ze.lt; omega
  clear hz2 hX2 HLF HJF hbw
  generalize w2.alloc (.cells cp 31) = w3 at *
  generalize w2.heap.size = N at *
  by_cases hE0 : E = 0
  · subst hE0
    have hst := plE_stp hE
    have HST : Hid (Stp t L J) := hst
    have HE : Hid (plE t L J = 0) := hE
    have e1 : pnT t L J = nx t L J := by unfold pnT; rw [if_pos hE]
    have HE1 : Hid (evl t.ro L = ll) := by have h := HLL.out; unfold pnL at h; rw [if_pos hE] at h; exact h
    have HE2 : Hid (jns t L J = lj) := by have h := HLJ.out; unfold pnJ at h; rw [if_pos hE] at h; exact h
    rw [e1] at hN3 HCP
    have hll64 : ll.length ≤ 64 := by rw [← HE1.out, Rs.evl_length]; exact hst.fit.lenL
    have hlj64 : lj.length ≤ 64 := by have h := hst.fit.lenJ; rw [← HE2.out]; unfold jns; rw [Rs.adl_length]; exact h
    obtain ⟨P, hP⟩ : ∃ P, t.ep + 1 = P := ⟨_, rfl⟩
    have HP : Hid (t.ep + 1 = P) := hP
    have HNP : Hid ((nx t L J).ep = P) := hP
    have hS0 : NF w w3.drew N K D (nx t L J) (.slice a1 ll.length cap1) (.slice a2 lj.length cap2) ll lj :=
      NF.later ⟨hN3, ⟨_, hX3.ze⟩, ⟨rkz, rfl, hX3.rk⟩, Rs.owns_wide HLF3.out HW1.out, Rs.owns_wide HJF3.out HW1.out, hX3.tb.bel, hne, hX3.gK, hX3.gD⟩ (drew_below _)
    have HPR : Hid (plR t L = rp ll) := by unfold Hid plR; rw [HE1.out]
    obtain ⟨n, hn⟩ : ∃ n, nx t L J = n := ⟨_, rfl⟩
    have HNN : Hid (nx t L J = n) := hn
    have htn : tck n = true := by rw [← hn]; exact hst.tckn
    have hseat : ∀ p ∈ lj, ∃ s : Nat, s < 64 ∧ p.2 = (s : Int) ∧ tkn (n.ro s) = true := fun p hp => by
      rw [← HE2.out] at hp
      obtain ⟨s, h1, h2, h3, _⟩ := HST.out.seat hp
      exact ⟨s, h1, h2, by rw [← hn]; exact h3⟩
    rw [hn] at hS0 HCP HNP
    have hit : ∀ W : World, W.ownsRow w.heap.size 62 2 (.slice a1 ll.length cap1) ll.length (ps ll) → W.ownsRow w.heap.size 62 2 (.slice a2 lj.length cap2) lj.length (ps lj) → _ := fun W hW1 hW2 => rItems_any n htn a1 cap1 ll a2 cap2 lj W hll64 (rds_of hW1) hlj64 (rds_of hW2) hseat
    rw [HCP.out] at hit
    clear hE hst e1 hn hX3 hN3 HLF3 HJF3 hne hP
    go_upto_region 4 with (fail)
    refine wp_region_held_drew (S := fun W => NF w W N K D n (.slice a1 ll.length cap1) (.slice a2 lj.length cap2) ll lj) (by kernel_rfl) hS0 (fun hHeld => ?_)
    refine wpAnyH_take (i := 0) (oi := { dst := some 24, op := Op.load 31 (Operand.tmp 7), type := _, pos := _, after := _, guard := none }) (v := .agg cp) rfl (by kernel_rfl) (by kernel_rfl) (by kernel_rfl) (fun _ _ _ h => h) (Or.inl ⟨by rfl, fun w hSw => ld_exec (HCP.out ▸ hSw.nx.whole) rfl rfl⟩) (by assumption) ?_
    simp only [Act.put, List.setIfInBounds_toArray, List.set_cons_zero, List.set_cons_succ]
    refine wpAnyH_take (i := 1) (oi := { dst := some 25, op := Op.fieldAddr 31 (Operand.tmp 7) 0, type := _, pos := _, after := _, guard := none }) (v := .pointer (some ⟨N, 0, none⟩)) rfl (by kernel_rfl) (by kernel_rfl) (by kernel_rfl) (fun _ _ _ h => h) (Or.inl ⟨by rfl, fun w hSw => by (try dsimp only at hSw); go_simp⟩) (by assumption) ?_
    simp only [Act.put, List.setIfInBounds_toArray, List.set_cons_zero, List.set_cons_succ]
    refine wpAnyH_take (i := 2) (oi := { dst := some 26, op := Op.load 3 (Operand.tmp 25), type := _, pos := _, after := _, guard := none }) (v := .int .i64 P) rfl (by kernel_rfl) (by kernel_rfl) (by kernel_rfl) (fun _ _ _ h => h) (Or.inl ⟨by rfl, fun w hSw => by obtain ⟨c0, c1⟩ := hSw.nx.cells; rw [HNP.out] at c0; clear hSw; go_simp⟩) (by assumption) ?_
    simp only [Act.put, List.setIfInBounds_toArray, List.set_cons_zero, List.set_cons_succ]
    refine wpAnyH_take (i := 3) (oi := { dst := some 27, op := Op.move (Operand.tmp 8), type := _, pos := _, after := _, guard := none }) (v := .slice a1 ll.length cap1) rfl (by kernel_rfl) (by kernel_rfl) (by kernel_rfl) (fun _ _ _ h => h) (Or.inl ⟨by rfl, fun w hSw => by (try dsimp only at hSw); go_simp⟩) (by assumption) ?_
    simp only [Act.put, List.setIfInBounds_toArray, List.set_cons_zero, List.set_cons_succ]
    refine wpAnyH_take (i := 4) (oi := { dst := some 28, op := Op.move (Operand.tmp 9), type := _, pos := _, after := _, guard := none }) (v := .slice a2 lj.length cap2) rfl (by kernel_rfl) (by kernel_rfl) (by kernel_rfl) (fun _ _ _ h => h) (Or.inl ⟨by rfl, fun w hSw => by (try dsimp only at hSw); go_simp⟩) (by assumption) ?_
    simp only [Act.put, List.setIfInBounds_toArray, List.set_cons_zero, List.set_cons_succ]
    refine wpAnyH_take (i := 5) (oi := { dst := some 29, op := Op.load 31 (Operand.tmp 7), type := _, pos := _, after := _, guard := none }) (v := .agg cp) rfl (by kernel_rfl) (by kernel_rfl) (by kernel_rfl) (fun _ _ _ h => h) (Or.inl ⟨by rfl, fun w hSw => ld_exec (HCP.out ▸ hSw.nx.whole) rfl rfl⟩) (by assumption) ?_
    simp only [Act.put, List.setIfInBounds_toArray, List.set_cons_zero, List.set_cons_succ]
    refine wpAnyH_take (i := 6) (oi := { dst := some 30, op := Op.move (Operand.tmp 8), type := _, pos := _, after := _, guard := none }) (v := .slice a1 ll.length cap1) rfl (by kernel_rfl) (by kernel_rfl) (by kernel_rfl) (fun _ _ _ h => h) (Or.inl ⟨by rfl, fun w hSw => by (try dsimp only at hSw); go_simp⟩) (by assumption) ?_
    simp only [Act.put, List.setIfInBounds_toArray, List.set_cons_zero, List.set_cons_succ]
    refine wpAnyH_take (i := 7) (oi := { dst := some 31, op := Op.move (Operand.tmp 9), type := _, pos := _, after := _, guard := none }) (v := .slice a2 lj.length cap2) rfl (by kernel_rfl) (by kernel_rfl) (by kernel_rfl) (fun _ _ _ h => h) (Or.inl ⟨by rfl, fun w hSw => by (try dsimp only at hSw); go_simp⟩) (by assumption) ?_
    simp only [Act.put, List.setIfInBounds_toArray, List.set_cons_zero, List.set_cons_succ]
    refine wpAnyH_ready (rs := [8]) (by kernel_rfl) (by simp) ?_
    refine AllReadyH.cons rfl (fun K hK => ?_) AllReadyH.nil
    go_simp
    refine (hit _ hHeld.left hHeld.join).mono ?_
    rintro r w11 hip
    obtain ⟨vi, rfl, hrow, hb11⟩ := hip
    obtain ⟨a3, cap3, rfl⟩ := Rs.owns_slice hrow
    have HROW : Hid (w11.ownsRow (w3.drew.heap.size + 1) 98 6 (.slice a3 (its n (rp ll) lj).length cap3) (its n (rp ll) lj).length (isl (its n (rp ll) lj))) := hrow
    have HGE : Hid (w.heap.size ≤ w3.drew.heap.size + 1) := by have := hHeld.bel.size; unfold Hid; omega
    clear hrow
    go_wp2_with fail
    refine hK.out _ _ (hHeld.later hb11) (fun hHeld2 => ?_)
    clear hHeld hb11 hit
    clear hK K
    try simp only [Act.put, List.setIfInBounds_toArray, List.set_cons_zero, List.set_cons_succ]
    refine wpAnyH_take (i := 9) (oi := { dst := some 33, op := Op.build 45 #[(0, (Operand.tmp 26)), (1, (Operand.tmp 27)), (2, (Operand.tmp 28)), (3, (Operand.tmp 32))], type := _, pos := _, after := _, guard := none }) (v := .agg #[.int .i64 P, .slice a1 ll.length cap1, .slice a2 lj.length cap2, .slice a3 (its n (rp ll) lj).length cap3]) rfl (by kernel_rfl) (by kernel_rfl) (by kernel_rfl) (fun _ _ _ h => h) (Or.inl ⟨by rfl, fun w hSw => by (try dsimp only at hSw); go_simp⟩) (by assumption) ?_
    simp only [Act.put, List.setIfInBounds_toArray, List.set_cons_zero, List.set_cons_succ]
    refine wpAnyH_ready (rs := [10]) (by kernel_rfl) (by simp) ?_
    refine AllReadyH.cons rfl (fun Kc hK => ?_) AllReadyH.nil
    obtain ⟨u, hu⟩ := hHeld2.ze
    obtain ⟨hN3, hT3⟩ := hHeld2.setT HCP.out
    have HROW2 : Hid ((w11.setRow K cp).ownsRow w.heap.size 98 6 (.slice a3 (its n (rp ll) lj).length cap3) (its n (rp ll) lj).length (isl (its n (rp ll) lj))) := Rs.owns_type (Rs.owns_wide HROW.out HGE.out) hu (by decide) _
    refine if_wp rfl (wp_stRow0 31 _ _ rfl K cp rfl rfl 31 (tcs u) hu (by rw [← HCP.out, tcs_size]; exact infoT) (by rw [← HCP.out, tcs_size, tcs_size]) (by rw [← HCP.out]; exact tcs_one n) rfl ?_)
    refine hK.out _ _ hN3 (fun hHeld3 => ?_)
    clear hHeld2 hu hN3
    clear hK Kc
    try simp only [Act.put, List.setIfInBounds_toArray, List.set_cons_zero, List.set_cons_succ]
    refine wpAnyH_ready (rs := [11]) (by kernel_rfl) (by simp) ?_
    refine AllReadyH.cons rfl (fun Kc hK => ?_) AllReadyH.nil
    obtain ⟨cs4, hc4, hRk⟩ := hHeld3.rk
    obtain ⟨hN4, hT4, hRk4⟩ := hHeld3.setD (ds := #[.int .i64 P, .slice a1 ll.length cap1, .slice a2 lj.length cap2, .slice a3 (its n (rp ll) lj).length cap3]) hT3 hRk rfl
    have HROW3 : Hid (((w11.setRow K cp).setRow D #[.int .i64 P, .slice a1 ll.length cap1, .slice a2 lj.length cap2, .slice a3 (its n (rp ll) lj).length cap3]).ownsRow w.heap.size 98 6 (.slice a3 (its n (rp ll) lj).length cap3) (its n (rp ll) lj).length (isl (its n (rp ll) lj))) := Rs.owns_type HROW2.out hRk (by decide) _
    refine if_wp rfl (wp_stRow0 45 _ _ rfl D _ rfl rfl 45 cs4 hRk infoRk hc4 (by simp [Value.oneCell']) rfl ?_)
    refine hK.out _ _ hN4 (fun hHeld4 => ?_)
    clear hHeld3 hRk hN4
    clear hK Kc
    try simp only [Act.put, List.setIfInBounds_toArray, List.set_cons_zero, List.set_cons_succ]
    refine wpAnyH_take (i := 12) (oi := { dst := some 6, op := Op.assign (Operand.const (Value.int IntKind.i64 0)), type := _, pos := _, after := _, guard := none }) (v := .int .i64 0) rfl (by kernel_rfl) (by kernel_rfl) (by kernel_rfl) (fun _ _ _ h => h) (Or.inl ⟨by rfl, fun w hSw => by (try dsimp only at hSw); go_simp⟩) (by assumption) ?_
    simp only [Act.put, List.setIfInBounds_toArray, List.set_cons_zero, List.set_cons_succ]
    refine wpAnyH_done (by kernel_rfl) ?_ _
    have hw13 : ∃ w13, (w11.setRow K cp).setRow D #[.int .i64 P, .slice a1 ll.length cap1, .slice a2 lj.length cap2, .slice a3 (its n (rp ll) lj).length cap3] = w13 := ⟨_, rfl⟩
    obtain ⟨w13, hw13⟩ := hw13
    rw [hw13] at hT4 hRk4 HROW3 hHeld4 ⊢
    clear hw13 HROW2 HROW hT3 hseat
    obtain ⟨li, hli⟩ : ∃ li, its n (rp ll) lj = li := ⟨_, rfl⟩
    have HLI : Hid (its n (rp ll) lj = li) := hli
    rw [hli] at hRk4 HROW3 ⊢
    clear hli
    go_wp2_with fail
    refine bodyPost_ret (results_nx (p := 4) (q := 5) (t := 6) rfl _ _ K D n _ rfl rfl hT4 hRk4 rfl) rfl ?_
    refine ⟨?_, hHeld4.bel⟩
    have hfin := NextA.yes (w := w) HST.out.pl (by rw [HE1.out]; exact hHeld4.left) (by rw [HE2.out]; exact hHeld4.join) (by rw [HNN.out, HPR.out, HE2.out, HLI.out]; exact HROW3.out) HAP.out
    rw [HNN.out, HP.out] at hfin
    exact hfin
  · have hd2 : (E != 0) = true := by simpa using hE0
    have HE : Hid (plE t L J = E) := hE
    have HNE : Hid (E ≠ 0) := hE0
    have hX := hX3
    have hZ := hX3.ze
    obtain ⟨cz, hcz⟩ : ∃ c, tcs (tz 0) = c := ⟨_, rfl⟩
    have HZ : Hid (tcs (tz 0) = cz) := hcz
    have hZ2 := hX3.setK (tz 0) hcz
    clear hcz hE hE0 hX3 hN3 hne
    go_wp2_with (first | (refine bzc HZ.out rfl rfl ?_) | (refine stTc hZ HZ.out rfl _ _ rfl rfl rfl ?_) | (refine stRw infoRk (cs := rkz) rkz_size hZ2.2.1 rkz rkz_size rkz_one rfl _ _ rfl rfl rfl ?_))
    refine bodyPost_ret (results_nx (p := 4) (q := 5) (t := 6) rfl _ _ K D (tz 0) rkz rfl rfl ((Rt.row_other (block_ne hZ2.1 hZ2.2.1 (by decide)) _).trans hZ2.1) (Rt.heap_setRow_same hZ2.2.1 _) rfl) rfl ?_
    exact ⟨NextA.no HE.out HNE.out, Rt.setRow_below hX.gD hZ2.2.2 _⟩
end Go.Proofs.YteocfmimgoocnaaGreatDoor
