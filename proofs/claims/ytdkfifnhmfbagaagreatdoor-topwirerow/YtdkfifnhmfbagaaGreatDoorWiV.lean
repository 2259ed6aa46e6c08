/- Contract: Encode. -/
import Derived.Test.YtdkfifnhmfbagaaGreatDoorWiJ4
import Derived.Test.YtdkfifnhmfbagaaGreatDoorBtJ1
namespace Go.Proofs.YtdkfifnhmfbagaaGreatDoor.Wi
open Go.RowKit Go.Maps
open Bt (Wr Fw Kept bo bo_length tb tb_length bys bys_length tx pk)
open Rt (gd)
set_option linter.unusedVariables false
set_option linter.unusedSimpArgs false
/- The kinds of right messages. -/
theorem gM_kind {m : Msg} (h : gM m = true) : (m.kd = 1 ∧ okR m.rk ∧ eM m = bo 0 2 ++ eR m.rk) ∨ (m.kd = 2 ∧ okQ m.rq ∧ eM m = bo 1 2 ++ eQ m.rq) ∨ (m.kd = 3 ∧ okP m.rp ∧ eM m = bo 2 2 ++ eP m.rp) ∨ (m.kd = 4 ∧ okT m.sd ∧ eM m = bo 3 2 ++ eD m.sd) := by
 rcases gM_ok h with ⟨o, e⟩ | ⟨o, e⟩ | ⟨o, e⟩ | ⟨o, e⟩
 ·exact .inl ⟨by rw [e]; rfl, o, by rw [e]; rfl⟩
 ·exact .inr (.inl ⟨by rw [e]; rfl, o, by rw [e]; rfl⟩)
 ·exact .inr (.inr (.inl ⟨by rw [e]; rfl, o, by rw [e]; rfl⟩))
 ·exact .inr (.inr (.inr ⟨by rw [e]; rfl, o, by rw [e]; rfl⟩))
theorem RdV.of {α : Type} {f : α → List Value} {n g N : Nat} {w w3 W' : World} {a : Option Addr} {l : List α} {x x' : Value} (h : RdV f n w a l) (hb : Below w.heap.size w w3) (hst : Wst g w3 x W' x') (hF : ∀ k, Fw g x k → w.heap.size ≤ k) : RdV f n W' a l :=
 h.later (hb.trans (hst.below hb.size hF))
set_option maxRecDepth 100000 in
set_option maxHeartbeats 2000000 in
theorem encode_any (m : Msg) (aL aJ aI : Option Addr) (cL cJ cI : Nat) (w : World) (hr : MR w m aL aJ aI) :
  Calls Tryz.prog 6 #[.agg (mgv m aL aJ aI cL cJ cI).toArray] w fun e w' => e = .returned (.tuple #[.string (enS m), .int .i64 (enE m)]) ∧ Below w.heap.size w w' := by
 have HR : Hid (MR w m aL aJ aI) := hr
 have hG := fun W (hb : Below w.heap.size w W) => good_any m aL aJ aI cL cJ cI W (hr.later hb)
 clear hr
 unfold mgv at hG ⊢
 have hM : MgAt (w.alloc (.cells (mgl m (.slice aL m.rk.2.1.length cL) (.slice aJ m.rk.2.2.1.length cJ) (.slice aI m.rk.2.2.2.length cI)).toArray 47)) w.heap.size m (.slice aL m.rk.2.1.length cL) (.slice aJ m.rk.2.2.1.length cJ) (.slice aI m.rk.2.2.2.length cI) := heap_alloc_last w _
 have hB := below_alloc w (.cells (mgl m (.slice aL m.rk.2.1.length cL) (.slice aJ m.rk.2.2.1.length cJ) (.slice aI m.rk.2.2.2.length cI)).toArray 47)
 have HLS : Hid (∃ nL nJ nI, m.rk.2.1.length = nL ∧ m.rk.2.2.1.length = nJ ∧ m.rk.2.2.2.length = nI) := ⟨_, _, _, rfl, rfl, rfl⟩
 obtain ⟨nL, nJ, nI, hnL, hnJ, hnI⟩ := HLS.out
 simp only [hnL, hnJ, hnI] at hG hM hB
 rw [hnL, hnJ, hnI]
 have HEQ : Hid (m.rk.2.1.length = nL ∧ m.rk.2.2.1.length = nJ ∧ m.rk.2.2.2.length = nI) := ⟨hnL, hnJ, hnI⟩
 clear hnL hnJ hnI HLS
 obtain ⟨ct, hct⟩ : ∃ c, (mgl m (.slice aL nL cL) (.slice aJ nJ cJ) (.slice aI nI cI)).toArray = c := ⟨_, rfl⟩
 have HCT : Hid ((mgl m (.slice aL nL cL) (.slice aJ nJ cJ) (.slice aI nI cI)).toArray = ct) := hct
 rw [hct] at hB
 rw [hct]
 have HM : Hid (MgAt (w.alloc (.cells ct 47)) w.heap.size m (.slice aL nL cL) (.slice aJ nJ cJ) (.slice aI nI cI)) := by have h := hM; rw [hct] at h; exact h
 clear hM hct
 cases hg : gM m with
 | false =>
  simp only [hg] at hG
  have HE : Hid (enS m = ⟨#[]⟩ ∧ enE m = 13) := by unfold Hid enS enE; rw [hg]; exact ⟨rfl, rfl⟩
  rw [HE.out.1, HE.out.2]
  clear hg HE
  have HA : Hid _ := HM.out.all
  have hG := hG _ hB
  go_enter Tryz.func6, Tryz.ntmps6
  go_wp2_with (refine ldM HA.out Tryz.underlying47 rfl szMg _ rfl rfl rfl ?_)
  refine hG.mono ?_
  rintro e w2 ⟨rfl, hb2⟩
  have HB2 : Hid (Below w.heap.size w w2) := Below.join hB hb2
  clear hb2 hG HA hB
  go_wp2_with fail
  go_ret2
  exact ⟨rfl, HB2.out⟩
 | true =>
  simp only [hg] at hG
  have hkinds := gM_kind hg
  have HE : Hid (enS m = tx (pk (eM m)) ∧ enE m = 0) := by unfold Hid enS enE; rw [hg]; exact ⟨rfl, rfl⟩
  rw [HE.out.1, HE.out.2]
  clear hg HE
  have hG := hG _ hB
  have HK : Hid _ := hkinds
  clear hkinds
  go_enter Tryz.func6, Tryz.ntmps6
  go_upto_region 1 with (fail)
  generalize w.alloc (.cells ct 47) = w1 at *
  obtain ⟨B, hBe⟩ : ∃ B, w.heap.size = B := ⟨_, rfl⟩
  have HBe : Hid (w.heap.size = B) := hBe
  rw [hBe] at HM ⊢
  clear hBe
  have HA : Hid _ := HM.out.all
  have HB1 : Hid (Below w.heap.size w w1) := hB
  clear hB
  go_wp2_with (refine ldM HA.out Tryz.underlying47 rfl szMg _ rfl rfl rfl ?_)
  refine hG.mono ?_
  rintro e w2 ⟨rfl, hb2⟩
  have HB2 : Hid (Below w.heap.size w w2) := Below.join HB1.out hb2
  have HM2 : Hid (MgAt w2 B m (.slice aL nL cL) (.slice aJ nJ cJ) (.slice aI nI cI)) := HM.out.later hb2
  clear hb2 hG HA HB1 HM
  go_upto_region 4 with (go_at_call 13; refine (Bt.new_any _).mono ?_; rintro r w' ⟨rfl, rfl⟩)
  have hw3 := Wr.new w2
  have hb3 := below_alloc w2 (.cells #[.int .i64 0, .slice none 0 0] 103)
  have hM3 := HM2.out.later hb3
  have hsz3 : (w2.alloc (.cells #[.int .i64 0, .slice none 0 0] 103)).heap.size = w2.heap.size + 1 := by simp
  have HF : Hid (∀ k, Fw w2.heap.size (.slice none 0 0) k → w.heap.size ≤ k) := by
   intro k hf
   rcases hf with rfl | hf
   ·exact HB2.out.size
   ·cases hf
  have HW3 : Hid (Below w.heap.size w (w2.alloc (.cells #[.int .i64 0, .slice none 0 0] 103))) := Below.join HB2.out hb3
  rw [← hsz3] at hw3
  obtain ⟨g, hge⟩ : ∃ g, w2.heap.size = g := ⟨_, rfl⟩
  rw [hge] at hw3 HF hsz3
  try simp only [hge]
  have HGE : Hid (w2.heap.size = g) := hge
  clear hge hb3
  generalize w2.alloc (.cells #[.int .i64 0, .slice none 0 0] 103) = w3 at *
  have HB0 : Hid (WB w3.heap.size g w3 (w3.alloc (.cells #[.pointer (some ⟨g, 0, none⟩)] 71)) (.slice none 0 0) (.slice none 0 0) [] w3.heap.size B (.cells #[.pointer (some ⟨g, 0, none⟩)] 71) (.cells (mgl m (.slice aL nL cL) (.slice aJ nJ cJ) (.slice aI nI cI)).toArray 47)) := by
   refine ⟨hw3.alloc _, by simp, (Wst.refl _ _ _).alloc _, heap_alloc_last _ _, hM3.later (below_alloc _ _), fun hf => ?_, fun hf => ?_⟩
   ·have := hw3.inHeap _ hf; omega
   ·rcases hf with h | h
    ·have := row_lt HM2.out; have := HGE.out; omega
    ·cases h
  rw [show g + 1 = w3.heap.size from hsz3.symm]
  obtain ⟨OC, hOC⟩ : ∃ o, o = Obj.cells #[.pointer (some ⟨g, 0, none⟩)] 71 := ⟨_, rfl⟩
  have HOC : Hid (OC = Obj.cells #[.pointer (some ⟨g, 0, none⟩)] 71) := hOC
  rw [← hOC] at HB0
  rw [← hOC]
  clear hOC hw3 hM3
  generalize w3.alloc OC = w4 at *
  have HB : Hid _ := HB0
  obtain ⟨n0, hn0⟩ : ∃ n, w3.heap.size = n := ⟨_, rfl⟩
  rw [hn0] at HB0
  rw [hn0]
  have HB : Hid (WB n0 g w3 w4 (.slice none 0 0) (.slice none 0 0) [] n0 B OC (.cells (mgl m (.slice aL nL cL) (.slice aJ nJ cJ) (.slice aI nI cI)).toArray 47)) := HB0
  clear HB0 hn0 hsz3 HM2 HGE HB2
  have hM4 : MgAt w4 B m (.slice aL nL cL) (.slice aJ nJ cJ) (.slice aI nI cI) := HB.out.hd
  have ck := hM4.kind
  have c0 := c1' (HOC.out ▸ HB.out.hc)
  clear hM4
  rcases HK.out with ⟨hkd, hok, hem⟩ | ⟨hkd, hok, hem⟩ | ⟨hkd, hok, hem⟩ | ⟨hkd, hok, hem⟩
  ·rw [hkd] at ck
   have HEM : Hid (eM m = _) := hem
   clear hem HK
   have hp := wNumber_any n0 g 0 2 [] (.slice none 0 0) w4 (by omega) (by omega) (by decide) HB.out.sz HB.out.wr (by simp)
   go_wp2_with fail
   refine hp.mono ?_
   rintro e w5 ⟨rfl, hp5⟩
   obtain ⟨x5, hb5⟩ := HB.out.next hp5
   rw [List.nil_append] at hb5
   clear hp hp5 HB c0 ck
   have hM5 : MgAt w5 B m (.slice aL nL cL) (.slice aJ nJ cJ) (.slice aI nI cI) := hb5.hd
   have ck := hM5.kind
   rw [hkd] at ck
   have c0 := c1' (HOC.out ▸ hb5.hc)
   have HB : Hid (WB n0 g w3 w5 (.slice none 0 0) x5 (bo 0 2) n0 B OC (.cells (mgl m (.slice aL nL cL) (.slice aJ nJ cJ) (.slice aI nI cI)).toArray 47)) := hb5
   have HP : Hid _ := hM5.rk
   have hp := wRekey_any n0 g m.rk aL aJ aI cL cJ cI (bo 0 2) x5 w5 hok HB.out.sz HB.out.wr (by simp) (fun W' x' h => RdV.of (N := 0) HR.out.l HW3.out (HB.out.st.trans h) HF.out) (fun W' x' h => RdV.of (N := 0) HR.out.j HW3.out (HB.out.st.trans h) HF.out) (fun W' x' h => RdV.of (N := 0) HR.out.i HW3.out (HB.out.st.trans h) HF.out)
   rw [HEQ.out.1, HEQ.out.2.1, HEQ.out.2.2] at hp
   clear hok hb5 hM5 hkd
   go_wp2_with (refine ldM HP.out Tryz.underlying31 rfl szRk _ rfl rfl rfl ?_)
   refine hp.mono ?_
   rintro e w6 ⟨rfl, hp6⟩
   obtain ⟨x6, hb6⟩ := HB.out.next hp6
   clear hp hp6 HB c0 ck
   have c0 := c1' (HOC.out ▸ hb6.hc)
   have HBF : Hid (Below w.heap.size w w6) := HW3.out.trans (hb6.st.below HW3.out.size HF.out)
   have hy := Bt.bytes_any n0 g _ x6 w6 hb6.wr
   rw [← HEM.out] at hy
   clear hb6
   go_wp2_with fail
   refine hy.mono ?_
   rintro e w7 ⟨rfl, rfl⟩
   go_wp2_with fail
   go_ret2
   exact ⟨rfl, HBF.out⟩
  ·rw [hkd] at ck
   have HEM : Hid (eM m = _) := hem
   clear hem HK
   have hp := wNumber_any n0 g 1 2 [] (.slice none 0 0) w4 (by omega) (by omega) (by decide) HB.out.sz HB.out.wr (by simp)
   go_wp2_with fail
   refine hp.mono ?_
   rintro e w5 ⟨rfl, hp5⟩
   obtain ⟨x5, hb5⟩ := HB.out.next hp5
   rw [List.nil_append] at hb5
   clear hp hp5 HB c0 ck
   have hM5 : MgAt w5 B m (.slice aL nL cL) (.slice aJ nJ cJ) (.slice aI nI cI) := hb5.hd
   have ck := hM5.kind
   rw [hkd] at ck
   have c0 := c1' (HOC.out ▸ hb5.hc)
   have HB : Hid (WB n0 g w3 w5 (.slice none 0 0) x5 (bo 1 2) n0 B OC (.cells (mgl m (.slice aL nL cL) (.slice aJ nJ cJ) (.slice aI nI cI)).toArray 47)) := hb5
   have HP : Hid _ := hM5.rq
   have hp := wRequest_any n0 g m.rq (bo 1 2) x5 w5 hok HB.out.sz HB.out.wr (by simp)
   clear hok hb5 hM5 hkd
   go_wp2_with (refine ldM HP.out Tryz.underlying36 rfl szRq _ rfl rfl rfl ?_)
   refine hp.mono ?_
   rintro e w6 ⟨rfl, hp6⟩
   obtain ⟨x6, hb6⟩ := HB.out.next hp6
   clear hp hp6 HB c0 ck
   have c0 := c1' (HOC.out ▸ hb6.hc)
   have HBF : Hid (Below w.heap.size w w6) := HW3.out.trans (hb6.st.below HW3.out.size HF.out)
   have hy := Bt.bytes_any n0 g _ x6 w6 hb6.wr
   rw [← HEM.out] at hy
   clear hb6
   go_wp2_with fail
   refine hy.mono ?_
   rintro e w7 ⟨rfl, rfl⟩
   go_wp2_with fail
   go_ret2
   exact ⟨rfl, HBF.out⟩
  ·rw [hkd] at ck
   have HEM : Hid (eM m = _) := hem
   clear hem HK
   have hp := wNumber_any n0 g 2 2 [] (.slice none 0 0) w4 (by omega) (by omega) (by decide) HB.out.sz HB.out.wr (by simp)
   go_wp2_with fail
   refine hp.mono ?_
   rintro e w5 ⟨rfl, hp5⟩
   obtain ⟨x5, hb5⟩ := HB.out.next hp5
   rw [List.nil_append] at hb5
   clear hp hp5 HB c0 ck
   have hM5 : MgAt w5 B m (.slice aL nL cL) (.slice aJ nJ cJ) (.slice aI nI cI) := hb5.hd
   have ck := hM5.kind
   rw [hkd] at ck
   have c0 := c1' (HOC.out ▸ hb5.hc)
   have HB : Hid (WB n0 g w3 w5 (.slice none 0 0) x5 (bo 2 2) n0 B OC (.cells (mgl m (.slice aL nL cL) (.slice aJ nJ cJ) (.slice aI nI cI)).toArray 47)) := hb5
   have HP : Hid _ := hM5.rp
   have hp := wReply_any n0 g m.rp (bo 2 2) x5 w5 hok HB.out.sz HB.out.wr (by simp)
   clear hok hb5 hM5 hkd
   go_wp2_with (refine ldM HP.out Tryz.underlying43 rfl szRp _ rfl rfl rfl ?_)
   refine hp.mono ?_
   rintro e w6 ⟨rfl, hp6⟩
   obtain ⟨x6, hb6⟩ := HB.out.next hp6
   clear hp hp6 HB c0 ck
   have c0 := c1' (HOC.out ▸ hb6.hc)
   have HBF : Hid (Below w.heap.size w w6) := HW3.out.trans (hb6.st.below HW3.out.size HF.out)
   have hy := Bt.bytes_any n0 g _ x6 w6 hb6.wr
   rw [← HEM.out] at hy
   clear hb6
   go_wp2_with fail
   refine hy.mono ?_
   rintro e w7 ⟨rfl, rfl⟩
   go_wp2_with fail
   go_ret2
   exact ⟨rfl, HBF.out⟩
  ·rw [hkd] at ck
   have HEM : Hid (eM m = _) := hem
   clear hem HK
   have hp := wNumber_any n0 g 3 2 [] (.slice none 0 0) w4 (by omega) (by omega) (by decide) HB.out.sz HB.out.wr (by simp)
   go_wp2_with fail
   refine hp.mono ?_
   rintro e w5 ⟨rfl, hp5⟩
   obtain ⟨x5, hb5⟩ := HB.out.next hp5
   rw [List.nil_append] at hb5
   clear hp hp5 HB c0 ck
   have hM5 : MgAt w5 B m (.slice aL nL cL) (.slice aJ nJ cJ) (.slice aI nI cI) := hb5.hd
   have ck := hM5.kind
   rw [hkd] at ck
   have c0 := c1' (HOC.out ▸ hb5.hc)
   have HB : Hid (WB n0 g w3 w5 (.slice none 0 0) x5 (bo 3 2) n0 B OC (.cells (mgl m (.slice aL nL cL) (.slice aJ nJ cJ) (.slice aI nI cI)).toArray 47)) := hb5
   have HP : Hid _ := hM5.sd
   have hp := wSealed_any n0 g m.sd (bo 3 2) x5 w5 hok HB.out.sz HB.out.wr (by simp)
   clear hok hb5 hM5 hkd
   go_wp2_with (refine ldM HP.out Tryz.underlying45 rfl szSd _ rfl rfl rfl ?_)
   refine hp.mono ?_
   rintro e w6 ⟨rfl, hp6⟩
   obtain ⟨x6, hb6⟩ := HB.out.next hp6
   clear hp hp6 HB c0 ck
   have c0 := c1' (HOC.out ▸ hb6.hc)
   have HBF : Hid (Below w.heap.size w w6) := HW3.out.trans (hb6.st.below HW3.out.size HF.out)
   have hy := Bt.bytes_any n0 g _ x6 w6 hb6.wr
   rw [← HEM.out] at hy
   clear hb6
   go_wp2_with fail
   refine hy.mono ?_
   rintro e w7 ⟨rfl, rfl⟩
   go_wp2_with fail
   go_ret2
   exact ⟨rfl, HBF.out⟩
end Go.Proofs.YtdkfifnhmfbagaaGreatDoor.Wi
