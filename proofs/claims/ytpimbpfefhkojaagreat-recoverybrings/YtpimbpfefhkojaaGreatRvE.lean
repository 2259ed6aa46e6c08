/- Contract: mayTake. MADE by wip/mk_rve.py. -/
import Derived.Test.YtpimbpfefhkojaaGreatRvD
import Derived.Test.YtpimbpfefhkojaaGreatWiJ2
namespace Go.Proofs.YtpimbpfefhkojaaGreat.Rv
open Go.RowKit Go.Maps Mb
open Rt (Ky zK gd gv Gd gd_iff pcs KyAt)
open Wi (gR gE gW gS gI gB gK gP zP zR zQ zD ldM rd_guard ra_of th_of ra_later RdV itl stl bxl Msg gM MR mgv)
set_option linter.unusedVariables false
set_option linter.unusedSimpArgs false

theorem gM_rp (p : Rp) : gM (Wi.mP p) = gP p := by
  rw [Wi.gM_3 (m := Wi.mP p) rfl]
  have e : Wi.nP ⟨3, zR, zQ, zP, zD⟩ = true := by
    unfold Wi.nP
    dsimp only
    rw [Wi.nR_iff.2 rfl, decide_eq_true rfl, decide_eq_true rfl, decide_eq_true rfl]
    rfl
  show (gP p && Wi.nP ⟨3, zR, zQ, zP, zD⟩) = _
  rw [e, Bool.and_true]
theorem mr_rp (p : Rp) (w : World) : MR w (Wi.mP p) none none none := ⟨RdV.nil _ _ _ _, RdV.nil _ _ _ _, RdV.nil _ _ _ _, by show 0 < _; decide, by show 0 < _; decide, by show 0 < _; decide, by show 0 < _; decide⟩
theorem good_rp (a b c d e f g h i j k l m n o : Int) (w : World) : Calls Tryz.prog 51 #[.agg #[.int .i64 3, .int .i64 0, .slice none 0 0, .slice none 0 0, .slice none 0 0, .int .i64 0, .int .i64 0, .int .i64 a, .int .i64 b, .int .i64 c, .int .i64 d, .int .i64 e, .int .i64 f, .int .i64 g, .int .i64 h, .int .i64 i, .int .i64 j, .int .i64 k, .int .i64 l, .int .i64 m, .int .i64 n, .int .i64 o, .int .i64 0, .int .i64 0, .int .i64 0, .string (Bt.tx [])]] w fun r w' => r = .returned (.bool (gP ((a, b), (c, (((d, e), (f, g)), (((h, i), (j, k)), ((l, m), (n, o)))))))) ∧ Below w.heap.size w w' := by
  have h := Wi.good_any (Wi.mP ((a, b), (c, (((d, e), (f, g)), (((h, i), (j, k)), ((l, m), (n, o))))))) none none none 0 0 0 w (mr_rp _ w)
  rw [gM_rp] at h
  exact h
structure S2 (w W : World) (B R : Nat) (m : Mb) (p : Rp) : Prop where
  mb : MA W B m
  rp : RA W R p
  bel : Below w.heap.size w W
theorem S2.later {w W W' : World} {B R : Nat} {m : Mb} {p : Rp} (h : S2 w W B R m p) (hb : Below W.heap.size W W') : S2 w W' B R m p := ⟨h.mb.later hb, h.rp.later hb, h.bel.trans (hb.mono h.bel.size)⟩
theorem S2.new (w : World) (m : Mb) (p : Rp) : S2 w ((w.alloc (.cells (mba m) 39)).alloc (.cells (rpa p) 60)) w.heap.size (w.heap.size + 1) m p := by
  have h2 := RA.new (w.alloc (.cells (mba m) 39)) p
  rw [World.size_alloc] at h2
  exact ⟨(MA.new w m).later (below_alloc _ _), h2, Wi.Below.plus (below_alloc _ _) _⟩
set_option maxRecDepth 100000 in
set_option maxHeartbeats 2000000 in
theorem mayTake_any (m : Mb) (p : Rp) (w : World) : Calls Tryz.prog 25 #[.agg (mba m), .agg (rpa p)] w fun r w' => r = .returned (.int .i64 (myE m p)) ∧ Below w.heap.size w w' := by
  have h1 := holds_any m
  have hS := S2.new w m p
  obtain ⟨cm, hcm⟩ : ∃ c, mba m = c := ⟨_, rfl⟩
  have HM : Hid (mba m = cm) := hcm
  rw [hcm] at hS
  simp only [hcm] at h1
  rw [hcm]
  clear hcm
  obtain ⟨cp, hcp⟩ : ∃ c, rpa p = c := ⟨_, rfl⟩
  have HP : Hid (rpa p = cp) := hcp
  rw [hcp] at hS
  rw [hcp]
  clear hcp
  go_enter Tryz.func25, Tryz.ntmps25
  go_upto_region 1 with (fail)
  generalize (w.alloc (.cells cm 39)).alloc (.cells cp 60) = w1 at *
  obtain ⟨R, hR⟩ : ∃ K, w.heap.size + 1 = K := ⟨_, rfl⟩
  obtain ⟨B, hB⟩ : ∃ K, w.heap.size = K := ⟨_, rfl⟩
  have hS1 : S2 w w1 B R m p := by rw [← hB, ← hR]; exact hS
  rw [hR, hB]
  clear hR hB hS
  go_wp2_with (refine ldMb hS1.mb HM.out _ rfl rfl rfl ?_)
  refine (h1 _).mono ?_
  rintro r w2 ⟨rfl, hb2⟩
  have hS2 := hS1.later hb2
  clear h1 hb2 hS1
  by_cases hh : hsE m = 0
  · have hm2 := fun h2 => my_2 (p := p) hh h2
    have hm3 := fun h2 h3 => my_3 (p := p) hh h2 h3
    have hm4 := fun h2 h3 h4 => my_4 (p := p) hh h2 h3 h4
    have hm5 := fun h2 h3 h4 => my_5 (p := p) hh h2 h3 h4
    have H2 : Hid _ := hm2
    have H3 : Hid _ := hm3
    have H4 : Hid _ := hm4
    have H5 : Hid _ := hm5
    rw [hh]
    clear hm2 hm3 hm4 hm5 hh
    have hgd : ∀ W : World, _ := good_rp p.1.1 p.1.2 p.2.1 p.2.2.1.1.1 p.2.2.1.1.2 p.2.2.1.2.1 p.2.2.1.2.2 p.2.2.2.1.1.1 p.2.2.2.1.1.2 p.2.2.2.1.2.1 p.2.2.2.1.2.2 p.2.2.2.2.1.1 p.2.2.2.2.1.2 p.2.2.2.2.2.1 p.2.2.2.2.2.2
    obtain ⟨g, hg⟩ : ∃ g, gP p = g := ⟨_, rfl⟩
    have HG : Hid (gP p = g) := hg
    have hgd : ∀ W : World, Calls Tryz.prog 51 #[.agg #[.int .i64 3, .int .i64 0, .slice none 0 0, .slice none 0 0, .slice none 0 0, .int .i64 0, .int .i64 0, .int .i64 p.1.1, .int .i64 p.1.2, .int .i64 p.2.1, .int .i64 p.2.2.1.1.1, .int .i64 p.2.2.1.1.2, .int .i64 p.2.2.1.2.1, .int .i64 p.2.2.1.2.2, .int .i64 p.2.2.2.1.1.1, .int .i64 p.2.2.2.1.1.2, .int .i64 p.2.2.2.1.2.1, .int .i64 p.2.2.2.1.2.2, .int .i64 p.2.2.2.2.1.1, .int .i64 p.2.2.2.2.1.2, .int .i64 p.2.2.2.2.2.1, .int .i64 p.2.2.2.2.2.2, .int .i64 0, .int .i64 0, .int .i64 0, .string (Bt.tx [])]] W fun r w' => r = .returned (.bool g) ∧ Below W.heap.size W w' := fun W => by rw [← hg]; exact hgd W
    clear hg
    have hall := hS2.rp.all
    unfold Wi.rpl at hall
    go_wp2_with (refine ldM hall Tryz.underlying60 rfl infoRp _ rfl rfl rfl ?_)
    refine (hgd _).mono ?_
    rintro r w3 ⟨rfl, hb3⟩
    have hS3 := hS2.later hb3
    clear hgd hb3 hS2 hall
    cases g with
    | false =>
      have HE : Hid _ := H2.out HG.out
      clear H2 H3 H4 H5 HG
      have HB : Hid (Below w.heap.size w w3) := hS3.bel
      clear hS3
      go_wp2_with fail
      go_ret
      exact ⟨ret_int HE.out.symm, HB.out⟩
    | true =>
      have c0 := hS3.mb.who
      have c1 := hS3.mb.slt
      have c2 := hS3.mb.ep
      have c3 := hS3.mb.has
      have r0 := hS3.rp.who
      have r1 := hS3.rp.slt
      have r2 := hS3.rp.ep
      have H3 : Hid _ := H3.out HG.out
      have H4 : Hid _ := H4.out HG.out
      have H5 : Hid _ := H5.out HG.out
      clear H2 HG
      generalize m.who = mw at *
      generalize m.slt = ms at *
      generalize m.ep = me at *
      generalize m.has = mh at *
      generalize p.1.1 = pw at *
      generalize p.1.2 = ps at *
      generalize p.2.1 = pe at *
      by_cases q1 : pw = mw
      · have d1 : (pw != mw) = false := by simpa using q1
        by_cases q2 : ps = ms
        · have d2 : (ps != ms) = false := by simpa using q2
          have H4 : Hid _ := H4.out ⟨q1, q2⟩
          have H5 : Hid _ := H5.out ⟨q1, q2⟩
          clear H3 q1 q2
          by_cases q3 : pe < me
          · have d3 : decide (pe < me) = true := decide_eq_true q3
            have HE : Hid _ := H4.out (.inl q3)
            clear H4 H5 q3
            have HB : Hid (Below w.heap.size w w3) := hS3.bel
            clear hS3
            go_wp2_with fail
            go_ret
            exact ⟨ret_int HE.out.symm, HB.out⟩
          · have d3 : decide (pe < me) = false := decide_eq_false q3
            by_cases q4 : pe = me
            · have d4 : (pe == me) = true := by simpa using q4
              cases mh with
              | true =>
                have HE : Hid _ := H4.out (.inr ⟨q4, rfl⟩)
                clear H4 H5 q3 q4
                have HB : Hid (Below w.heap.size w w3) := hS3.bel
                clear hS3
                go_wp2_with fail
                go_ret
                exact ⟨ret_int HE.out.symm, HB.out⟩
              | false =>
                have HE : Hid _ := H5.out (by rintro (h | ⟨_, h⟩); exact q3 h; cases h)
                clear H4 H5 q3 q4
                have HB : Hid (Below w.heap.size w w3) := hS3.bel
                clear hS3
                go_wp2_with fail
                go_ret
                exact ⟨ret_int HE.out.symm, HB.out⟩
            · have d4 : (pe == me) = false := by simpa using q4
              have HE : Hid _ := H5.out (by rintro (h | ⟨h, _⟩); exact q3 h; exact q4 h)
              clear H4 H5 q3 q4
              have HB : Hid (Below w.heap.size w w3) := hS3.bel
              clear hS3
              go_wp2_with fail
              go_ret
              exact ⟨ret_int HE.out.symm, HB.out⟩
        · have d2 : (ps != ms) = true := by simpa using q2
          have HE : Hid _ := H3.out (fun h => q2 h.2)
          clear H3 H4 H5 q1 q2
          have HB : Hid (Below w.heap.size w w3) := hS3.bel
          clear hS3
          go_wp2_with fail
          go_ret
          exact ⟨ret_int HE.out.symm, HB.out⟩
      · have d1 : (pw != mw) = true := by simpa using q1
        have HE : Hid _ := H3.out (fun h => q1 h.1)
        clear H3 H4 H5 q1
        have HB : Hid (Below w.heap.size w w3) := hS3.bel
        clear hS3
        go_wp2_with fail
        go_ret
        exact ⟨ret_int HE.out.symm, HB.out⟩
  · have HE : Hid _ := my_1 (p := p) hh
    have d0 : (hsE m != 0) = true := by simpa using hh
    clear hh
    generalize hsE m = he at *
    have HB : Hid (Below w.heap.size w w2) := hS2.bel
    clear hS2
    go_wp2_with fail
    go_ret
    exact ⟨ret_int HE.out.symm, HB.out⟩
end Go.Proofs.YtpimbpfefhkojaaGreat.Rv
