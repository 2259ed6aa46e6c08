/- Contracts: Answer of the program and of the document. -/
import Derived.Test.YtpimbpfefhkojaaGreatRvJ3
import Derived.Test.YtpimbpfefhkojaaGreatTrJ2
import Derived.Test.YtpimbpfefhkojaaGreatTrN
namespace Go.Proofs.YtpimbpfefhkojaaGreat.Rv
open Go.RowKit Go.Maps Mb
open Rt (Ky zK gd gv Gd gd_iff pcs KyAt)
open Wi (gR gE gW gS gI gB gK gP zP ldM rd_guard ra_of th_of ra_later RdV itl stl bxl)
set_option linter.unusedVariables false
set_option linter.unusedSimpArgs false

theorem stand_p (t : Tr) (x : Int) (w : World) : Calls Tryz.prog 23 #[.agg (tcs t), .int .i64 x] w fun e w' => e = .returned (.tuple #[.agg (mba (stM t x)), .int .i64 (caE t x)]) ∧ Below w.heap.size w w' := stand_any t x w
def AnA (t : Tr) (x e : Int) : Ending := .returned (.tuple #[.agg (rpa (anP t x e)), .int .i64 (anE t x e)])
theorem AnA.no {t : Tr} {x e n : Int} (h : anE t x e = n) (hn : n ≠ 0) : Ending.returned (.tuple #[.agg (rpa zP), .int .i64 n]) = AnA t x e := by unfold AnA; rw [h, anP_no (by rw [h]; exact hn)]
theorem AnA.yes {t : Tr} {x e : Int} (h : anE t x e = 0) : Ending.returned (.tuple #[.agg (rpa (rpOf (stM t x))), .int .i64 0]) = AnA t x e := by unfold AnA; rw [h, anP_yes h]
theorem on_kind {t : Tr} {x : Int} (h : caE t x = 0) : knd (stM t x) = 3 := by
  obtain ⟨ht, s, hs, _, hk, _, e⟩ := on_at h
  rw [e]
  exact atS_kind ht hs hk (.inl rfl)
structure SN (w W : World) (B Q K : Nat) (t : Tr) (x e : Int) : Prop where
  tr : TrAt W B t
  rq : QAt W Q x e
  re : RA W K zP
  bel : Below w.heap.size w W
  ge : w.heap.size ≤ K
theorem SN.later {w W W' : World} {B Q K : Nat} {t : Tr} {x e : Int} (h : SN w W B Q K t x e) (hb : Below W.heap.size W W') : SN w W' B Q K t x e := ⟨h.tr.later hb, h.rq.later hb, h.re.later hb, h.bel.trans (hb.mono h.bel.size), h.ge⟩
theorem SN.new (w : World) (t : Tr) (x e : Int) : SN w (((w.alloc (.cells (tcs t) 31)).alloc (.cells #[.int .i64 x, .int .i64 e] 53)).alloc (.cells (rpa zP) 60)) w.heap.size (w.heap.size + 1) (w.heap.size + 2) t x e := by
  have h2 := QAt.new (w.alloc (.cells (tcs t) 31)) x e
  have h3 := RA.new ((w.alloc (.cells (tcs t) 31)).alloc (.cells #[.int .i64 x, .int .i64 e] 53)) zP
  rw [World.size_alloc] at h2
  rw [World.size_alloc, World.size_alloc] at h3
  exact ⟨((TrAt.new w t).later (below_alloc _ _)).later (below_alloc _ _), h2.later (below_alloc _ _), h3, Wi.Below.plus (Wi.Below.plus (below_alloc _ _) _) _, by omega⟩
theorem wp_stMid0 {o : Oper} {a : Act} {w : World} {K : Act → World → Prop} {Q : Exit → Act → World → Prop} (ty : TypeId) (x y : Operand) (ho : o.op = .store ty x y) (b off : Nat) (cs : List Value) (hx : a.eval x = .pointer (some ⟨b, off, none⟩)) (hy : a.eval y = .agg cs.toArray) (ht : w.there b off cs.length) (hi : (Tryz.prog.info? ty).map (·.size) = some cs.length) (h1 : cs.all (·.oneCell') = true) (hd : o.dst = none) (h : K a (w.setCells b off cs)) : o.wp Tryz.prog a w K Q := by
  refine wp_store_mid ty x y ho b off cs.toArray hx hy (by simpa using ht) (by simpa using hi) (by simpa using h1) ?_
  rw [hd]
  exact h
/- The walks. -/
set_option maxRecDepth 100000 in
set_option maxHeartbeats 2000000 in
theorem answer_any (t : Tr) (x e : Int) (w : World) : Calls Tryz.prog 9 #[.agg (tcs t), .agg (rqa x e)] w fun r w' => r = AnA t x e ∧ Below w.heap.size w w' := by
  have h2 := stand_p t x
  have h1 := check_any t
  have hS := SN.new w t x e
  obtain ⟨ct, hct⟩ : ∃ c, tcs t = c := ⟨_, rfl⟩
  have HT : Hid (tcs t = ct) := hct
  rw [hct] at hS
  simp only [hct] at h1 h2
  rw [hct]
  clear hct
  go_enter Tryz.func9, Tryz.ntmps9
  unfold rqa
  go_upto_region 1 with (fail)
  rw [rpa_zero]
  generalize ((w.alloc (.cells ct 31)).alloc (.cells #[.int .i64 x, .int .i64 e] 53)).alloc (.cells (rpa zP) 60) = w1 at *
  obtain ⟨K, hK⟩ : ∃ K, w.heap.size + 2 = K := ⟨_, rfl⟩
  obtain ⟨Q, hQ⟩ : ∃ Q, w.heap.size + 1 = Q := ⟨_, rfl⟩
  obtain ⟨B, hB⟩ : ∃ B, w.heap.size = B := ⟨_, rfl⟩
  have hS1 : SN w w1 B Q K t x e := by rw [← hB, ← hQ, ← hK]; exact hS
  rw [hK, hQ, hB]
  clear hK hQ hB hS
  go_wp2_with (refine rdT hS1.tr HT.out _ rfl rfl rfl ?_)
  refine (h1 _).mono ?_
  rintro r w2 ⟨rfl, hb2⟩
  have hS2 := hS1.later hb2
  clear hb2 h1 hS1
  cases hck : tck t with
  | false =>
    have HA : Hid _ := AnA.no (x := x) (e := e) (anE_1 hck) (by decide)
    rw [tckE_ff hck]
    clear h2 hck
    have HRE : Hid (RA w2 K zP) := hS2.re
    have HB : Hid (Below w.heap.size w w2) := hS2.bel
    have HG : Hid (w.heap.size ≤ K) := hS2.ge
    clear hS2
    go_wp2_with (refine stRp HRE.out zP rfl rfl _ _ rfl rfl rfl ?_)
    refine bodyPost_ret (resRow (p := 4) (t := 5) rfl _ _ K (rpa zP) rfl (HRE.out.row zP).var) rfl ?_
    exact ⟨HA.out, Rt.setRow_below HG.out HB.out _⟩
  | true =>
    rw [tckE_tt hck]
    obtain ⟨q0, q1⟩ := hS2.rq.cells
    cases hgw : gW x with
    | false =>
      have HA : Hid _ := AnA.no (e := e) (anE_2 hck hgw) (by decide)
      have hx : ¬ (0 ≤ x ∧ x < 256) := fun h => by rw [Wi.gW_iff.2 h] at hgw; cases hgw
      clear h2 hck hgw
      by_cases h0 : x < 0
      · have d0 : decide (x < 0) = true := decide_eq_true h0
        clear hx
        have HRE : Hid (RA w2 K zP) := hS2.re
        have HB : Hid (Below w.heap.size w w2) := hS2.bel
        have HG : Hid (w.heap.size ≤ K) := hS2.ge
        clear hS2
        go_wp2_with (refine stRp HRE.out zP rfl rfl _ _ rfl rfl rfl ?_)
        refine bodyPost_ret (resRow (p := 4) (t := 5) rfl _ _ K (rpa zP) rfl (HRE.out.row zP).var) rfl ?_
        exact ⟨HA.out, Rt.setRow_below HG.out HB.out _⟩
      · have d0 : decide (x < 0) = false := decide_eq_false h0
        have d1 : decide (256 ≤ x) = true := decide_eq_true (by omega)
        clear hx h0
        have HRE : Hid (RA w2 K zP) := hS2.re
        have HB : Hid (Below w.heap.size w w2) := hS2.bel
        have HG : Hid (w.heap.size ≤ K) := hS2.ge
        clear hS2
        go_wp2_with (refine stRp HRE.out zP rfl rfl _ _ rfl rfl rfl ?_)
        refine bodyPost_ret (resRow (p := 4) (t := 5) rfl _ _ K (rpa zP) rfl (HRE.out.row zP).var) rfl ?_
        exact ⟨HA.out, Rt.setRow_below HG.out HB.out _⟩
    | true =>
      have hx := Wi.gW_iff.1 hgw
      have d0 : decide (x < 0) = false := decide_eq_false (by omega)
      have d1 : decide (256 ≤ x) = false := decide_eq_false (by omega)
      clear hx
      have H1 : Hid (caE t x ≠ 0 → anE t x e = 16) := anE_3 hck hgw
      have H16 : Hid (caE t x ≠ 0 → caE t x = 16) := caE_16 hck
      have H2 : Hid (caE t x = 0 → ¬ (1 ≤ e ∧ e ≤ t.ep) → anE t x e = 32) := anE_4 hck hgw
      have H3 : Hid (caE t x = 0 → (1 ≤ e ∧ e ≤ t.ep) → anE t x e = 0) := anE_5 hck hgw
      have H4 : Hid (caE t x = 0 → ∀ W, Calls Tryz.prog 24 #[.agg (mba (stM t x))] W fun r w' => r = .returned (.agg (rpa (rpOf (stM t x)))) ∧ Below W.heap.size W w') := fun h => replyTo_any (stM t x) (on_kind h)
      clear hck hgw
      obtain ⟨cm, hcm⟩ : ∃ c, mba (stM t x) = c := ⟨_, rfl⟩
      have HM : Hid (mba (stM t x) = cm) := hcm
      simp only [hcm] at h2
      rw [hcm] at H4
      clear hcm
      go_wp2_with (refine rdT hS2.tr HT.out _ rfl rfl rfl ?_)
      refine (h2 _).mono ?_
      rintro r w3 ⟨rfl, hb3⟩
      have hS3 := (hS2.later hb3).later (below_alloc w3 (.cells cm 39))
      have hMA := MA.new w3 (stM t x)
      rw [HM.out] at hMA
      clear h2 hb3 hS2 q0 q1
      go_upto_region 7 with (refine stMn (w := w3) HM.out rfl _ _ rfl rfl rfl ?_)
      generalize w3.alloc (.cells cm 39) = w4 at *
      generalize w3.heap.size = M at *
      by_cases hce : caE t x = 0
      · rw [hce]
        have HA3 : Hid ((1 ≤ e ∧ e ≤ t.ep) → Ending.returned (.tuple #[.agg (rpa (rpOf (stM t x))), .int .i64 0]) = AnA t x e) := fun h => AnA.yes (H3.out hce h)
        have HA2 : Hid (¬ (1 ≤ e ∧ e ≤ t.ep) → Ending.returned (.tuple #[.agg (rpa zP), .int .i64 32]) = AnA t x e) := fun h => AnA.no (H2.out hce h) (by decide)
        have h4 := H4.out hce
        have HEP : Hid ((stM t x).ep = t.ep) := by unfold Hid Mb.stM caP; dsimp only; rw [if_pos hce]
        clear hce H1 H16 H2 H3 H4
        obtain ⟨q0, q1⟩ := hS3.rq.cells
        have t0 := hS3.tr.cells.1
        generalize t.ep = te at *
        by_cases h1e : 1 ≤ e
        · have d2 : decide (e < 1) = false := decide_eq_false (by omega)
          by_cases h2e : e ≤ te
          · have d3 : decide (te < e) = false := decide_eq_false (by omega)
            have HA : Hid _ := HA3.out ⟨h1e, h2e⟩
            clear HA2 HA3 h1e h2e
            clear HEP
            go_wp2_with (refine ldMb hMA HM.out _ rfl rfl rfl ?_)
            refine (h4 _).mono ?_
            rintro r w5 ⟨rfl, hb5⟩
            have hS5 := hS3.later hb5
            have HRE : Hid (RA w5 K zP) := hS5.re
            have HB : Hid (Below w.heap.size w w5) := hS5.bel
            have HG : Hid (w.heap.size ≤ K) := hS5.ge
            obtain ⟨rp, hrp⟩ : ∃ r, rpOf (stM t x) = r := ⟨_, rfl⟩
            rw [hrp] at HA ⊢
            clear hrp hS5 hS3 hMA h4 hb5 t0 q0 q1
            go_wp2_with (refine stRp HRE.out rp rfl rfl _ _ rfl rfl rfl ?_)
            refine bodyPost_ret (resRow (p := 4) (t := 5) rfl _ _ K (rpa rp) rfl (HRE.out.row rp).var) rfl ?_
            exact ⟨HA.out, Rt.setRow_below HG.out HB.out _⟩
          · have d3 : decide (te < e) = true := decide_eq_true (by omega)
            have HA : Hid _ := HA2.out (fun h => h2e h.2)
            clear HA2 HA3 h4 hMA h1e h2e
            have HRE : Hid (RA w4 K zP) := hS3.re
            have HB : Hid (Below w.heap.size w w4) := hS3.bel
            have HG : Hid (w.heap.size ≤ K) := hS3.ge
            clear hS3
            go_wp2_with (refine stRp HRE.out zP rfl rfl _ _ rfl rfl rfl ?_)
            refine bodyPost_ret (resRow (p := 4) (t := 5) rfl _ _ K (rpa zP) rfl (HRE.out.row zP).var) rfl ?_
            exact ⟨HA.out, Rt.setRow_below HG.out HB.out _⟩
        · have d2 : decide (e < 1) = true := decide_eq_true (by omega)
          have HA : Hid _ := HA2.out (fun h => h1e h.1)
          clear HA2 HA3 h4 hMA h1e
          have HRE : Hid (RA w4 K zP) := hS3.re
          have HB : Hid (Below w.heap.size w w4) := hS3.bel
          have HG : Hid (w.heap.size ≤ K) := hS3.ge
          clear hS3
          go_wp2_with (refine stRp HRE.out zP rfl rfl _ _ rfl rfl rfl ?_)
          refine bodyPost_ret (resRow (p := 4) (t := 5) rfl _ _ K (rpa zP) rfl (HRE.out.row zP).var) rfl ?_
          exact ⟨HA.out, Rt.setRow_below HG.out HB.out _⟩
      · have HA : Hid _ := AnA.no (H1.out hce) (by decide)
        rw [H16.out hce]
        clear hce H1 H16 H2 H3 H4 hMA
        have HRE : Hid (RA w4 K zP) := hS3.re
        have HB : Hid (Below w.heap.size w w4) := hS3.bel
        have HG : Hid (w.heap.size ≤ K) := hS3.ge
        clear hS3
        go_wp2_with (refine stRp HRE.out zP rfl rfl _ _ rfl rfl rfl ?_)
        refine bodyPost_ret (resRow (p := 4) (t := 5) rfl _ _ K (rpa zP) rfl (HRE.out.row zP).var) rfl ?_
        exact ⟨HA.out, Rt.setRow_below HG.out HB.out _⟩
end Go.Proofs.YtpimbpfefhkojaaGreat.Rv
