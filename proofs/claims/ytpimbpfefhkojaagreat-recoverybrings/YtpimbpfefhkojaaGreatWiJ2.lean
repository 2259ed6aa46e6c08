/- WiG, WiF, WiOw, joined. -/
import Derived.Test.YtpimbpfefhkojaaGreatWiJ1
import Derived.Deep.RegionHeld3
/- Contract: Good. -/
namespace Go.Proofs.YtpimbpfefhkojaaGreat.Wi
open Go.RowKit Go.Maps
open Bt (tx)
open Rt (gd)
set_option linter.unusedVariables false
set_option linter.unusedSimpArgs false

set_option maxRecDepth 100000 in
set_option maxHeartbeats 2000000 in
theorem good_any (m : Msg) (aL aJ aI : Option Addr) (cL cJ cI : Nat) (w : World) (hr : MR w m aL aJ aI) :
    Calls Tryz.prog 51 #[.agg (mgv m aL aJ aI cL cJ cI).toArray] w fun e w' => e = .returned (.bool (gM m)) ∧ Below w.heap.size w w' := by
  unfold mgv
  have HR : Hid (MR w m aL aJ aI) := hr
  clear hr
  have hM : MgAt (w.alloc (.cells (mgl m (.slice aL m.rk.2.1.length cL) (.slice aJ m.rk.2.2.1.length cJ) (.slice aI m.rk.2.2.2.length cI)).toArray 118)) w.heap.size m (.slice aL m.rk.2.1.length cL) (.slice aJ m.rk.2.2.1.length cJ) (.slice aI m.rk.2.2.2.length cI) := heap_alloc_last w _
  have hB := below_alloc w (.cells (mgl m (.slice aL m.rk.2.1.length cL) (.slice aJ m.rk.2.2.1.length cJ) (.slice aI m.rk.2.2.2.length cI)).toArray 118)
  obtain ⟨ct, hct⟩ : ∃ c, (mgl m (.slice aL m.rk.2.1.length cL) (.slice aJ m.rk.2.2.1.length cJ) (.slice aI m.rk.2.2.2.length cI)).toArray = c := ⟨_, rfl⟩
  rw [hct] at hB
  rw [hct]
  have HM : Hid (MgAt (w.alloc (.cells ct 118)) w.heap.size m (.slice aL m.rk.2.1.length cL) (.slice aJ m.rk.2.2.1.length cJ) (.slice aI m.rk.2.2.2.length cI)) := by have h := hM; rw [hct] at h; exact h
  clear hM hct
  by_cases k1 : m.kd = 1
  · have HG : Hid (gM m = (gR m.rk && nP ⟨m.kd, zR, m.rq, m.rp, m.sd⟩)) := gM_1 k1
    have hP : ∀ W, Below w.heap.size w W → _ := fun W hb => goodRekey_any m.rk aL aJ aI cL cJ cI W (HR.out.l.later hb) (HR.out.j.later hb) (HR.out.i.later hb) HR.out.nl HR.out.nj HR.out.ni
    have hN := noParts_any ⟨m.kd, zR, m.rq, m.rp, m.sd⟩ none none none 0 0 0
    have hN := fun W => hN W (by show (0 : Nat) < 4611686018427387904; decide) (by show (0 : Nat) < 4611686018427387904; decide) (by show (0 : Nat) < 4611686018427387904; decide)
    obtain ⟨g, hg⟩ : ∃ g, gR m.rk = g := ⟨_, rfl⟩
    obtain ⟨g', hg'⟩ : ∃ g, nP ⟨m.kd, zR, m.rq, m.rp, m.sd⟩ = g := ⟨_, rfl⟩
    simp only [hg, hg'] at HG hP hN
    rw [HG.out]
    clear HG hg hg'
    have hk := k1
    go_enter Tryz.func51, Tryz.ntmps51
    go_upto_region 2 with (fail)
    generalize w.alloc (.cells ct 118) = w1 at *
    obtain ⟨B, hBe⟩ : ∃ B, w.heap.size = B := ⟨_, rfl⟩
    have HBe : Hid (w.heap.size = B) := hBe
    rw [hBe] at HM ⊢
    clear hBe
    have HB : Hid (Below w.heap.size w w1) := hB
    clear hB
    have ck := HM.out.kind
    rw [hk] at ck
    clear hk
    have f1 : decide ((1 : Int) = 1) = true := by simp
    have HK : Hid (w1.rangeAt B 1 (rkl m.rk.1 (.slice aL m.rk.2.1.length cL) (.slice aJ m.rk.2.2.1.length cJ) (.slice aI m.rk.2.2.2.length cI))) := HM.out.rk
    have hP := hP w1 HB.out
    clear k1
    go_wp2_with (refine ldM HK.out Tryz.underlying49 rfl szRk _ rfl rfl rfl ?_)
    refine hP.mono ?_
    rintro r w2 ⟨rfl, hb2⟩
    have HB2 : Hid (Below w.heap.size w w2) := Below.join HB.out hb2
    have hM2 := HM.out.later hb2
    have HM2 : Hid (MgAt w2 B m (.slice aL m.rk.2.1.length cL) (.slice aJ m.rk.2.2.1.length cJ) (.slice aI m.rk.2.2.2.length cI)) := hM2
    have HT : Hid (w2.there B 1 4 ∧ w2.there B 5 2 ∧ w2.there B 7 15 ∧ w2.there B 22 4) := ⟨hM2.there 1 4 (by omega), hM2.there 5 2 (by omega), hM2.there 7 15 (by omega), hM2.there 22 4 (by omega)⟩
    clear hM2 hb2 HM HB ck
    clear HK hP
    go_upto_region 11 with (refine stM (cs := rkl 0 (.slice none 0 0) (.slice none 0 0) (.slice none 0 0)) HT.out.1 szRk rfl rfl _ _ rfl rfl rfl ?_)
    have hM3 := HM2.out.setR zR (.slice none 0 0) (.slice none 0 0) (.slice none 0 0)
    have hB3 := upd_below (B := B) (N := w.heap.size) (by rw [HBe.out]; omega) (rkl 0 (.slice none 0 0) (.slice none 0 0) (.slice none 0 0)) 1 HB2.out
    have e0 : rkl zR.1 (.slice none 0 0) (.slice none 0 0) (.slice none 0 0) = rkl 0 (.slice none 0 0) (.slice none 0 0) (.slice none 0 0) := rfl
    rw [e0] at hM3
    generalize w2.setCells B 1 (rkl 0 (.slice none 0 0) (.slice none 0 0) (.slice none 0 0)) = w3 at *
    clear e0 HT
    have HB3 : Hid (Below w.heap.size w w3) := hB3
    cases g with
    | false =>
      go_wp2_with fail
      go_ret
      exact ⟨rfl, HB3.out⟩
    | true =>
      have HA : Hid _ := hM3.all
      have hN := hN w3
      clear hM3 hB3 HM2 HB2
      go_wp2_with (refine ldM HA.out Tryz.underlying118 rfl szMg _ rfl rfl rfl ?_)
      refine hN.mono ?_
      rintro r w4 ⟨rfl, hb4⟩
      have HB4 : Hid (Below w.heap.size w w4) := Below.join HB3.out hb4
      clear hb4 hN HB3 HA
      go_wp2_with fail
      go_ret
      exact ⟨by cases g' <;> rfl, HB4.out⟩
  · by_cases k2 : m.kd = 2
    · have HG : Hid (gM m = (gQ m.rq && nP ⟨m.kd, m.rk, zQ, m.rp, m.sd⟩)) := gM_2 k2
      have hP := goodRequest_any m.rq
      have hN := fun W => noParts_any ⟨m.kd, m.rk, zQ, m.rp, m.sd⟩ aL aJ aI cL cJ cI W HR.out.nl HR.out.nj HR.out.ni
      obtain ⟨g, hg⟩ : ∃ g, gQ m.rq = g := ⟨_, rfl⟩
      obtain ⟨g', hg'⟩ : ∃ g, nP ⟨m.kd, m.rk, zQ, m.rp, m.sd⟩ = g := ⟨_, rfl⟩
      simp only [hg, hg'] at HG hP hN
      rw [HG.out]
      clear HG hg hg'
      have hk := k2
      go_enter Tryz.func51, Tryz.ntmps51
      go_upto_region 2 with (fail)
      generalize w.alloc (.cells ct 118) = w1 at *
      obtain ⟨B, hBe⟩ : ∃ B, w.heap.size = B := ⟨_, rfl⟩
      have HBe : Hid (w.heap.size = B) := hBe
      rw [hBe] at HM ⊢
      clear hBe
      have HB : Hid (Below w.heap.size w w1) := hB
      clear hB
      have ck := HM.out.kind
      rw [hk] at ck
      clear hk
      have f1 : decide ((1 : Int) = 1) = true := by simp
      have HK : Hid (w1.rangeAt B 5 (stl m.rq)) := HM.out.rq
      have hP := hP w1
      clear k1 k2
      go_wp2_with (refine ldM HK.out Tryz.underlying53 rfl szRq _ rfl rfl rfl ?_)
      refine hP.mono ?_
      rintro r w2 ⟨rfl, hb2⟩
      have HB2 : Hid (Below w.heap.size w w2) := Below.join HB.out hb2
      have hM2 := HM.out.later hb2
      have HM2 : Hid (MgAt w2 B m (.slice aL m.rk.2.1.length cL) (.slice aJ m.rk.2.2.1.length cJ) (.slice aI m.rk.2.2.2.length cI)) := hM2
      have HT : Hid (w2.there B 1 4 ∧ w2.there B 5 2 ∧ w2.there B 7 15 ∧ w2.there B 22 4) := ⟨hM2.there 1 4 (by omega), hM2.there 5 2 (by omega), hM2.there 7 15 (by omega), hM2.there 22 4 (by omega)⟩
      clear hM2 hb2 HM HB ck
      clear HK hP
      go_upto_region 11 with (refine stM (cs := stl zQ) HT.out.2.1 szRq rfl rfl _ _ rfl rfl rfl ?_)
      have hM3 := HM2.out.setQ zQ
      have hB3 := upd_below (B := B) (N := w.heap.size) (by rw [HBe.out]; omega) (stl zQ) 5 HB2.out
      generalize w2.setCells B 5 (stl zQ) = w3 at *
      clear HT
      have HB3 : Hid (Below w.heap.size w w3) := hB3
      cases g with
      | false =>
        go_wp2_with fail
        go_ret
        exact ⟨rfl, HB3.out⟩
      | true =>
        have HA : Hid _ := hM3.all
        have hN := hN w3
        clear hM3 hB3 HM2 HB2
        go_wp2_with (refine ldM HA.out Tryz.underlying118 rfl szMg _ rfl rfl rfl ?_)
        refine hN.mono ?_
        rintro r w4 ⟨rfl, hb4⟩
        have HB4 : Hid (Below w.heap.size w w4) := Below.join HB3.out hb4
        clear hb4 hN HB3 HA
        go_wp2_with fail
        go_ret
        exact ⟨by cases g' <;> rfl, HB4.out⟩
    · by_cases k3 : m.kd = 3
      · have HG : Hid (gM m = (gP m.rp && nP ⟨m.kd, m.rk, m.rq, zP, m.sd⟩)) := gM_3 k3
        have hP := goodReply_any m.rp
        have hN := fun W => noParts_any ⟨m.kd, m.rk, m.rq, zP, m.sd⟩ aL aJ aI cL cJ cI W HR.out.nl HR.out.nj HR.out.ni
        obtain ⟨g, hg⟩ : ∃ g, gP m.rp = g := ⟨_, rfl⟩
        obtain ⟨g', hg'⟩ : ∃ g, nP ⟨m.kd, m.rk, m.rq, zP, m.sd⟩ = g := ⟨_, rfl⟩
        simp only [hg, hg'] at HG hP hN
        rw [HG.out]
        clear HG hg hg'
        have hk := k3
        go_enter Tryz.func51, Tryz.ntmps51
        go_upto_region 2 with (fail)
        generalize w.alloc (.cells ct 118) = w1 at *
        obtain ⟨B, hBe⟩ : ∃ B, w.heap.size = B := ⟨_, rfl⟩
        have HBe : Hid (w.heap.size = B) := hBe
        rw [hBe] at HM ⊢
        clear hBe
        have HB : Hid (Below w.heap.size w w1) := hB
        clear hB
        have ck := HM.out.kind
        rw [hk] at ck
        clear hk
        have f1 : decide ((1 : Int) = 1) = true := by simp
        have HK : Hid (w1.rangeAt B 7 (rpl m.rp)) := HM.out.rp
        have hP := hP w1
        clear k1 k2 k3
        go_wp2_with (refine ldM HK.out Tryz.underlying60 rfl szRp _ rfl rfl rfl ?_)
        refine hP.mono ?_
        rintro r w2 ⟨rfl, hb2⟩
        have HB2 : Hid (Below w.heap.size w w2) := Below.join HB.out hb2
        have hM2 := HM.out.later hb2
        have HM2 : Hid (MgAt w2 B m (.slice aL m.rk.2.1.length cL) (.slice aJ m.rk.2.2.1.length cJ) (.slice aI m.rk.2.2.2.length cI)) := hM2
        have HT : Hid (w2.there B 1 4 ∧ w2.there B 5 2 ∧ w2.there B 7 15 ∧ w2.there B 22 4) := ⟨hM2.there 1 4 (by omega), hM2.there 5 2 (by omega), hM2.there 7 15 (by omega), hM2.there 22 4 (by omega)⟩
        clear hM2 hb2 HM HB ck
        clear HK hP
        go_upto_region 11 with (refine stM (cs := rpl zP) HT.out.2.2.1 szRp rfl rfl _ _ rfl rfl rfl ?_)
        have hM3 := HM2.out.setP zP
        have hB3 := upd_below (B := B) (N := w.heap.size) (by rw [HBe.out]; omega) (rpl zP) 7 HB2.out
        generalize w2.setCells B 7 (rpl zP) = w3 at *
        clear HT
        have HB3 : Hid (Below w.heap.size w w3) := hB3
        cases g with
        | false =>
          go_wp2_with fail
          go_ret
          exact ⟨rfl, HB3.out⟩
        | true =>
          have HA : Hid _ := hM3.all
          have hN := hN w3
          clear hM3 hB3 HM2 HB2
          go_wp2_with (refine ldM HA.out Tryz.underlying118 rfl szMg _ rfl rfl rfl ?_)
          refine hN.mono ?_
          rintro r w4 ⟨rfl, hb4⟩
          have HB4 : Hid (Below w.heap.size w w4) := Below.join HB3.out hb4
          clear hb4 hN HB3 HA
          go_wp2_with fail
          go_ret
          exact ⟨by cases g' <;> rfl, HB4.out⟩
      · by_cases k4 : m.kd = 4
        · have HG : Hid (gM m = (gD m.sd && nP ⟨m.kd, m.rk, m.rq, m.rp, zD⟩)) := gM_4 k4
          have hP := fun W => goodSealed_any m.sd W HR.out.ns
          have hN := fun W => noParts_any ⟨m.kd, m.rk, m.rq, m.rp, zD⟩ aL aJ aI cL cJ cI W HR.out.nl HR.out.nj HR.out.ni
          obtain ⟨g, hg⟩ : ∃ g, gD m.sd = g := ⟨_, rfl⟩
          obtain ⟨g', hg'⟩ : ∃ g, nP ⟨m.kd, m.rk, m.rq, m.rp, zD⟩ = g := ⟨_, rfl⟩
          simp only [hg, hg'] at HG hP hN
          rw [HG.out]
          clear HG hg hg'
          have hk := k4
          go_enter Tryz.func51, Tryz.ntmps51
          go_upto_region 2 with (fail)
          generalize w.alloc (.cells ct 118) = w1 at *
          obtain ⟨B, hBe⟩ : ∃ B, w.heap.size = B := ⟨_, rfl⟩
          have HBe : Hid (w.heap.size = B) := hBe
          rw [hBe] at HM ⊢
          clear hBe
          have HB : Hid (Below w.heap.size w w1) := hB
          clear hB
          have ck := HM.out.kind
          rw [hk] at ck
          clear hk
          have f1 : decide ((1 : Int) = 1) = true := by simp
          have HK : Hid (w1.rangeAt B 22 (sdl m.sd)) := HM.out.sd
          have hP := hP w1
          clear k1 k2 k3 k4
          go_wp2_with (refine ldM HK.out Tryz.underlying116 rfl szSd _ rfl rfl rfl ?_)
          refine hP.mono ?_
          rintro r w2 ⟨rfl, hb2⟩
          have HB2 : Hid (Below w.heap.size w w2) := Below.join HB.out hb2
          have hM2 := HM.out.later hb2
          have HM2 : Hid (MgAt w2 B m (.slice aL m.rk.2.1.length cL) (.slice aJ m.rk.2.2.1.length cJ) (.slice aI m.rk.2.2.2.length cI)) := hM2
          have HT : Hid (w2.there B 1 4 ∧ w2.there B 5 2 ∧ w2.there B 7 15 ∧ w2.there B 22 4) := ⟨hM2.there 1 4 (by omega), hM2.there 5 2 (by omega), hM2.there 7 15 (by omega), hM2.there 22 4 (by omega)⟩
          clear hM2 hb2 HM HB ck
          clear HK hP
          go_upto_region 11 with (refine stM (cs := sdl zD) HT.out.2.2.2 szSd rfl rfl _ _ rfl rfl rfl ?_)
          have hM3 := HM2.out.setD zD
          have hB3 := upd_below (B := B) (N := w.heap.size) (by rw [HBe.out]; omega) (sdl zD) 22 HB2.out
          generalize w2.setCells B 22 (sdl zD) = w3 at *
          clear HT
          have HB3 : Hid (Below w.heap.size w w3) := hB3
          cases g with
          | false =>
            go_wp2_with fail
            go_ret
            exact ⟨rfl, HB3.out⟩
          | true =>
            have HA : Hid _ := hM3.all
            have hN := hN w3
            clear hM3 hB3 HM2 HB2
            go_wp2_with (refine ldM HA.out Tryz.underlying118 rfl szMg _ rfl rfl rfl ?_)
            refine hN.mono ?_
            rintro r w4 ⟨rfl, hb4⟩
            have HB4 : Hid (Below w.heap.size w w4) := Below.join HB3.out hb4
            clear hb4 hN HB3 HA
            go_wp2_with fail
            go_ret
            exact ⟨by cases g' <;> rfl, HB4.out⟩
        · have HG : Hid (gM m = false) := gM_0 k1 k2 k3 k4
          rw [HG.out]
          have ck := HM.out.kind
          have HB : Hid (Below w.heap.size w (w.alloc (.cells ct 118))) := hB
          obtain ⟨kd, hkd⟩ : ∃ k, m.kd = k := ⟨_, rfl⟩
          rw [hkd] at ck k1 k2 k3 k4
          clear hkd hB HM HR HG
          have d1 : decide (kd = 1) = false := by simp [k1]
          have d2 : decide (kd = 2) = false := by simp [k2]
          have d3 : decide (kd = 3) = false := by simp [k3]
          have d4 : decide (kd = 4) = false := by simp [k4]
          go_enter Tryz.func51, Tryz.ntmps51
          go_wp2_with fail
          go_ret
          exact ⟨rfl, HB.out⟩
end Go.Proofs.YtpimbpfefhkojaaGreat.Wi
/- Contracts: the document's Same, of lists, of rekey messages, of messages. -/
namespace Go.Proofs.YtpimbpfefhkojaaGreat.Wi
open Go.RowKit Go.Maps
set_option linter.unusedVariables false
set_option linter.unusedSimpArgs false

theorem ld_ex {w : World} {o : Oper} {a : Act} {B off : Nat} {T : TypeId} {d : TypeDesc} {cs : List Value} {x : Operand} (hc : w.rangeAt B off cs) (hu : Tryz.prog.underlying T = some d) (hd : d.isRow = true) (hi : (Tryz.prog.info? T).map (·.size) = some cs.length) (ho : o.op = .load T x) (hx : a.eval x = .pointer (some ⟨B, off, none⟩)) :
    (execOp a.eval o).run Tryz.prog w = .ok (.value (.agg cs.toArray)) w := by
  have h := run_loadAt_mid w B off T cs d hc hu hd hi
  simp [execOp, ho, hx, h, Sem.run_bind, Result.andThen]
theorem ra_drew {w : World} {b o : Nat} {cs : List Value} (h : w.rangeAt b o cs) : w.drew.rangeAt b o cs := h
theorem eq_take {α : Type} {l l' : List α} {k : Nat} (h : k < l.length) (h' : k < l'.length) (e : l.take k = l'.take k) (x : l[k] = l'[k]) : l.take (k + 1) = l'.take (k + 1) := by
  rw [List.take_succ_eq_append_getElem h, List.take_succ_eq_append_getElem h', e, x]
end Go.Proofs.YtpimbpfefhkojaaGreat.Wi
/- A list that is owned can be read (out of WiO). -/
namespace Go.Proofs.YtpimbpfefhkojaaGreat.Wi
open Go.RowKit Go.Maps
set_option linter.unusedVariables false
set_option linter.unusedSimpArgs false

theorem flat_at {α : Type} (f : α → List Value) (n : Nat) (hf : ∀ x, (f x).length = n) : ∀ (l : List α) (i : Nat) (hi : i < l.length) (j : Nat), j < n → (l.flatMap f)[i * n + j]? = (f l[i])[j]?
  | [], i, hi, j, hj => by cases hi
  | x :: l, 0, hi, j, hj => by
    rw [List.flatMap_cons, Nat.zero_mul, Nat.zero_add, List.getElem?_append_left (by rw [hf]; exact hj)]
    rfl
  | x :: l, i + 1, hi, j, hj => by
    have e : (i + 1) * n + j = n + (i * n + j) := by rw [Nat.succ_mul]; omega
    rw [List.flatMap_cons, e, List.getElem?_append_right (by rw [hf]; omega), hf, Nat.add_sub_cancel_left]
    exact flat_at f n hf l i (by simpa using hi) j hj
theorem rd_owns {α : Type} {f : α → List Value} {n : Nat} (hf : ∀ x, (f x).length = n) {W : World} {b : Nat} {T : TypeId} {a : Option Addr} {cap : Nat} {l : List α} (h : W.ownsRow b T n (.slice a l.length cap) l.length (l.flatMap f)) : RdV f n W a l := by
  intro i hi
  rcases h.2 with ⟨e, h0⟩ | ⟨g, cap', cur, e, h3, h4, h5, h6, h7, h8⟩
  · omega
  · cases e
    refine ⟨g, 0, rfl, fun j v hv => ?_⟩
    have hj : j < n := by have := (List.getElem?_eq_some_iff.1 hv).1; rw [hf] at this; exact this
    have hlt : i * n + j < l.length * n := by
      have : (i + 1) * n ≤ l.length * n := Nat.mul_le_mul_right n hi
      rw [Nat.succ_mul] at this
      omega
    rw [Nat.zero_add, cell_of_row W g (i * n + j) _ _ _ h4, ← hv, ← flat_at f n hf l i hi j hj, ← h8, List.getElem?_take_of_lt hlt]
    simp
end Go.Proofs.YtpimbpfefhkojaaGreat.Wi
