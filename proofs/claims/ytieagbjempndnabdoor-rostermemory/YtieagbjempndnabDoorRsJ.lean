/- Contracts: Move of the program. -/
import Derived.Test.YtieagbjempndnabDoorRsI
import Derived.Test.YtieagbjempndnabDoorRsMath4
namespace Go.Proofs.YtieagbjempndnabDoor
open Go.RowKit Go.Maps
set_option linter.unusedVariables false
set_option linter.unusedSimpArgs false

/- What a move answers. -/
structure MoveP (w w' : World) (f : Nat → En) (L J : List Int) (sc bs : Int) (vl vj : Value) : Prop where
  left : w'.ownsRow w.heap.size 38 2 vl (mvL f L J sc bs).length (ps (mvL f L J sc bs))
  join : w'.ownsRow w.heap.size 38 2 vj (mvJ f L J sc bs).length (ps (mvJ f L J sc bs))
  apart : vl.ownBlock = none ∨ vl.ownBlock ≠ vj.ownBlock
def MoveA (w w' : World) (f : Nat → En) (L J : List Int) (sc bs : Int) (e : Ending) : Prop := ∃ vl vj, e = .returned (.tuple #[.agg (rcs (mvR f L J sc bs)), vl, vj, .int .i64 (mvE f L J sc bs)]) ∧ MoveP w w' f L J sc bs vl vj
theorem MoveA.no {w w' : World} {f : Nat → En} {L J : List Int} {sc bs : Int} {E : Int} (h : mvE f L J sc bs = E) (h0 : E ≠ 0) : MoveA w w' f L J sc bs (.returned (.tuple #[.agg (rcs fun _ => zE), .slice none 0 0, .slice none 0 0, .int .i64 E])) := by
  have e1 : mvR f L J sc bs = fun _ => zE := by unfold mvR; rw [h, if_neg h0]
  have e2 : mvL f L J sc bs = [] := by unfold mvL; rw [h, if_neg h0]
  have e3 : mvJ f L J sc bs = [] := by unfold mvJ; rw [h, if_neg h0]
  refine ⟨_, _, by rw [e1, h], ?_, ?_, .inl rfl⟩
  · rw [e2]; exact World.ownsRow_nil _ _ _ _
  · rw [e3]; exact World.ownsRow_nil _ _ _ _
theorem results_ro4 {fn : Func} {p t u v : Tmp} (hf : fn.results = #[.cell p 25, .tmp t, .tmp u, .tmp v]) (tmps : Array Value) (W : World) (B : Nat) (f : Nat → En) (hp : tmps[p]? = some (.pointer (some ⟨B, 0, none⟩))) (hb : RoAt W B f) :
    (results fn tmps).run Tryd.prog W = .ok (.tuple #[.agg (rcs f), tmps.getD t undef, tmps.getD u undef, tmps.getD v undef]) W := by
  have h := run_loadVar_row W B _ 25 _ _ _ hb Tryd.underlying25 rfl (by rw [rcs_size]; exact info25)
  simp [results, hf, hp, asAddr, h]
/- The roster and the batch, boxed, and the answer's place. -/
structure MV (w W : World) (f : Nat → En) (aL aJ : Option Addr) (nL nJ cL cJ : Nat) : Prop where
  fs : FS w W f aL aJ nL nJ cL cJ
  ze : RoAt W (w.heap.size + 2) (fun _ => zE)
theorem MV.later {w W W' : World} {f : Nat → En} {aL aJ : Option Addr} {nL nJ cL cJ : Nat} (h : MV w W f aL aJ nL nJ cL cJ) (hb : Below W.heap.size W W') : MV w W' f aL aJ nL nJ cL cJ := ⟨h.fs.later hb, h.ze.later hb⟩
theorem MV.new (w : World) (f : Nat → En) (aL aJ : Option Addr) (nL nJ cL cJ : Nat) : MV w (((w.alloc (.cells (rcs f) 25)).alloc (.cells #[.slice aL nL cL, .slice aJ nJ cJ] 28)).alloc (.cells (rcs fun _ => zE) 25)) f aL aJ nL nJ cL cJ := by
  have h2 := RoAt.new ((w.alloc (.cells (rcs f) 25)).alloc (.cells #[.slice aL nL cL, .slice aJ nJ cJ] 28)) (fun _ => zE)
  rw [World.size_alloc, World.size_alloc] at h2
  exact ⟨(FS.new w f aL aJ nL nJ cL cJ).later (alloc_ro _ _), h2⟩
theorem mvE_fit {f : Nat → En} {L J : List Int} {sc bs : Int} (h : ft f L J ≠ 0) : mvE f L J sc bs = ft f L J := by unfold mvE; rw [if_neg h]
theorem mvE_ep {f : Nat → En} {L J : List Int} {sc bs : Int} (h : ft f L J = 0) (h2 : eok sc = false) : mvE f L J sc bs = 19 := by unfold mvE; rw [if_pos h, h2]; rfl
theorem mvE_key {f : Nat → En} {L J : List Int} {sc bs : Int} (h : ft f L J = 0) (h2 : eok sc = true) (h3 : fre f bs J.length = false) : mvE f L J sc bs = 3 := by unfold mvE; rw [if_pos h, h2, if_pos rfl, h3]; rfl
theorem owns_type {W : World} {b : Nat} {e : TypeId} {sz : Nat} {v : Value} {n : Nat} {xs : List Value} (h : W.ownsRow b e sz v n xs) {B : Nat} {cs : Array Value} {t : TypeId} (hB : W.heap[B]? = some (.cells cs t (0, 0))) (hne : e ≠ t) (cs' : Array Value) : (W.setRow B cs').ownsRow b e sz v n xs := by
  obtain ⟨h1, h2⟩ := h
  refine ⟨h1, ?_⟩
  rcases h2 with h2 | ⟨g, cap, cur, rfl, h3, h4, r⟩
  · exact .inl h2
  · refine .inr ⟨g, cap, cur, rfl, h3, (row_other (fun e => ?_) _).trans h4, r⟩
    subst e
    rw [hB] at h4
    simp at h4
    exact hne h4.2.symm
theorem apart_older {W W' : World} {b b' : Nat} {e e' : TypeId} {s s' n n' : Nat} {v v' : Value} {xs xs' : List Value} (h : W.ownsRow b e s v n xs) (h' : W'.ownsRow (W.heap.size + b') e' s' v' n' xs') : v.ownBlock = none ∨ v.ownBlock ≠ v'.ownBlock := by
  rcases h.2 with ⟨rfl, _⟩ | ⟨g, cap, cur, rfl, h3, h4, _⟩
  · exact .inl rfl
  · rcases h'.2 with ⟨rfl, _⟩ | ⟨g', cap', cur', rfl, h3', h4', _⟩
    · exact .inr (by simp [Value.ownBlock])
    · refine .inr fun he => ?_
      simp [Value.ownBlock] at he
      have := (Array.getElem?_eq_some_iff.1 h4).1
      omega
theorem zero25' : Value.agg zeroCells25 = .agg (rcs fun _ => zE) := by rw [zero25]
theorem alloc_zero (w : World) : w.alloc (.cells zeroCells25 25) = w.alloc (.cells (rcs fun _ => zE) 25) := by rw [zero25]
set_option maxRecDepth 100000 in
set_option maxHeartbeats 1000000 in
theorem move_any (f : Nat → En) (aL aJ : Option Addr) (cL cJ : Nat) (L J : List Int) (sc bs : Int) (w : World) (hT : Tb w) (lL : L.length < 1152921504606846976) (lJ : J.length < 1152921504606846976) (hL : RdI w aL L) (hJ : RdI w aJ J) :
    Calls Tryd.prog 6 #[.agg (rcs f), .agg #[.slice aL L.length cL, .slice aJ J.length cJ], .int .i64 sc, .int .i64 bs] w fun e w' => MoveA w w' f L J sc bs e ∧ Below w.heap.size w w' := by
  have hM0 := MV.new w f aL aJ L.length J.length cL cJ
  go_enter Tryd.func6, Tryd.ntmps6
  go_upto_region 1 with (fail)
  rw [zero25]
  generalize ((w.alloc (.cells (rcs f) 25)).alloc (.cells #[.slice aL L.length cL, .slice aJ J.length cJ] 28)).alloc (.cells (rcs fun _ => zE) 25) = w1 at *
  refine wp_region_lit ?_
  refine ld25 hM0.fs.ro rfl _ rfl rfl ?_
  obtain ⟨cl, cj⟩ := hM0.fs.cells
  have hfi := fits_any f aL aJ cL cJ L J w1 lL lJ (hL.later hM0.fs.bel) (hJ.later hM0.fs.bel)
  obtain ⟨cf, hc⟩ : ∃ cf, rcs f = cf := ⟨_, rfl⟩
  rw [hc] at hfi ⊢
  go_wp2_with fail
  refine hfi.mono ?_
  rintro r w2 ⟨rfl, hb2⟩
  have hM2 := hM0.later hb2
  clear hM0 hb2 hfi cl cj
  by_cases hft : ft f L J = 0
  · rw [hft]
    have hep := isEpoch_any sc
    cases hek : eok sc with
    | false =>
      rw [hek] at hep
      go_wp2_with (first | (go_at_call 12; refine (hep _).mono ?_; rintro r w3 ⟨rfl, rfl⟩) | (refine st25 (g := fun _ => zE) hM2.ze rfl _ _ rfl rfl zero25' ?_))
      refine bodyPost_ret (results_ro4 (p := 8) (t := 9) (u := 10) (v := 11) rfl _ _ (w.heap.size + 2) (fun _ => zE) rfl (hM2.ze.row _)) rfl ?_
      exact ⟨MoveA.no (mvE_ep hft hek) (by decide), setRow_below (by omega) hM2.fs.bel _⟩
    | true =>
      rw [hek] at hep
      go_upto_region 6 with (go_at_call 12; refine (hep _).mono ?_; rintro r w3 ⟨rfl, rfl⟩)
      refine wp_region_lit ?_
      refine ld25 hM2.fs.ro rfl _ rfl rfl ?_
      obtain ⟨cl, cj⟩ := hM2.fs.cells
      have haf := areFree_any f bs J.length lJ w3
      rw [hc] at haf ⊢
      go_wp2_with fail
      refine haf.mono ?_
      rintro r w4 ⟨rfl, hb4⟩
      have hM4 := hM2.later hb4
      clear haf hb4 hM2 cl cj hep
      cases hfr : fre f bs J.length with
      | false =>
        go_wp2_with (refine st25 (g := fun _ => zE) hM4.ze rfl _ _ rfl rfl zero25' ?_)
        refine bodyPost_ret (results_ro4 (p := 8) (t := 9) (u := 10) (v := 11) rfl _ _ (w.heap.size + 2) (fun _ => zE) rfl (hM4.ze.row _)) rfl ?_
        exact ⟨MoveA.no (mvE_key hft hek hfr) (by decide), setRow_below (by omega) hM4.fs.bel _⟩
      | true =>
        have HOK : Hid (FitOk f L J) := ft_ok hft
        have HE : Hid (mvE f L J sc bs = 0) := mvE_of HOK.out hek hfr
        have HR : Hid (mvR f L J sc bs = adm (evs f L) (mvT f L J) J sc bs J.length) := by show mvR f L J sc bs = _; unfold mvR; rw [HE.out, if_pos rfl]
        have HL : Hid (mvL f L J sc bs = evl f L) := by show mvL f L J sc bs = _; unfold mvL; rw [HE.out, if_pos rfl]
        have HJ : Hid (mvJ f L J sc bs = adl (mvT f L J) J J.length) := by show mvJ f L J sc bs = _; unfold mvJ; rw [HE.out, if_pos rfl]
        go_upto_region 8 with (fail)
        refine wp_region_lit ?_
        refine ld25 hM4.fs.ro rfl _ rfl rfl ?_
        obtain ⟨cl, cj⟩ := hM4.fs.cells
        have hev := evict_any f aL cL L w4 (Nat.le_trans HOK.out.lenL (by omega)) (hL.later hM4.fs.bel) HOK.out.out
        rw [hc] at hev ⊢
        go_wp2_with fail
        refine hev.mono ?_
        rintro r w5 ⟨⟨vl, rfl, hrow⟩, hb5⟩
        have hM5 := hM4.later hb5
        have hz5 : RoAt (w5.alloc (.cells zeroCells25 25)) w5.heap.size (fun _ => zE) := by rw [alloc_zero]; exact RoAt.new _ _
        have hs5 : w4.heap.size ≤ w5.heap.size := hb5.size
        have hs4 : w.heap.size + 2 < w4.heap.size := hM4.ze.lt
        have HROW : Hid (w5.ownsRow (w4.heap.size + 2) 38 2 vl L.length (ps (evl f L))) := hrow
        clear hev hb5 cl cj hrow hM4
        go_upto_region 9 with (refine st25 (g := evs f L) hz5 rfl _ _ rfl rfl rfl ?_)
        rw [alloc_zero, World.setRow_alloc_new]
        have hR6 := RoAt.new w5 (evs f L)
        have hb6 := alloc_ro w5 (evs f L)
        have hM6 := hM5.later hb6
        have HROW6 : Hid ((w5.alloc (.cells (rcs (evs f L)) 25)).ownsRow (w4.heap.size + 2) 38 2 vl L.length (ps (evl f L))) := owns_later HROW.out hb6
        have hs6 : w5.heap.size < (w5.alloc (.cells (rcs (evs f L)) 25)).heap.size := by simp
        clear hb6 hz5 HROW
        generalize w5.alloc (.cells (rcs (evs f L)) 25) = w6 at *
        refine wp_region_lit ?_
        refine ld25 hR6 rfl _ rfl rfl ?_
        obtain ⟨cl, cj⟩ := hM6.fs.cells
        have had := admit_any (evs f L) aJ cJ J sc bs w6 (hT.later hM6.fs.bel) (hJ.later hM6.fs.bel) HOK.out.free (fre_bs hfr)
        obtain ⟨ce, hce⟩ : ∃ ce, rcs (evs f L) = ce := ⟨_, rfl⟩
        rw [hce] at had ⊢
        clear hM5
        go_wp2_with fail
        refine had.mono ?_
        rintro r w7 ⟨⟨vj, rfl, hrow7⟩, hb7⟩
        have hR7 := hR6.later hb7
        have hM7 := hM6.later hb7
        have HL7 : Hid (w7.ownsRow (w4.heap.size + 2) 38 2 vl L.length (ps (evl f L))) := owns_later HROW6.out hb7
        have HJ7 : Hid (w7.ownsRow (w6.heap.size + 2) 38 2 vj J.length (ps (adl (mvT f L J) J J.length))) := hrow7
        have HAP : Hid (vl.ownBlock = none ∨ vl.ownBlock ≠ vj.ownBlock) := apart_older HROW6.out hrow7
        have hs7 : w6.heap.size ≤ w7.heap.size := hb7.size
        clear had hb7 hrow7 hM6 hR6 cl cj
        obtain ⟨ga, hga⟩ : ∃ ga, adm (evs f L) ((bl (nt (tk (evs f L)))).take J.length) J sc bs J.length = ga := ⟨_, rfl⟩
        have HGA : Hid (mvR f L J sc bs = ga) := by show mvR f L J sc bs = ga; rw [HR.out]; exact hga
        rw [hga]
        clear hga
        go_upto_region 10 with (refine st25 (g := ga) hR7 rfl _ _ rfl rfl rfl ?_)
        have hR8 := hR7.row ga
        have hne : w.heap.size + 2 ≠ w5.heap.size := by omega
        have hZ8 : RoAt (w7.setRow w5.heap.size (rcs ga)) (w.heap.size + 2) (fun _ => zE) := (row_other hne _).trans hM7.ze
        have hB8 : Below w.heap.size w (w7.setRow w5.heap.size (rcs ga)) := setRow_below (by omega) hM7.fs.bel _
        have HL8 : Hid ((w7.setRow w5.heap.size (rcs ga)).ownsRow w.heap.size 38 2 vl L.length (ps (evl f L))) := owns_wide (owns_type HL7.out hR7 (by decide) _) (by omega)
        have HJ8 : Hid ((w7.setRow w5.heap.size (rcs ga)).ownsRow w.heap.size 38 2 vj J.length (ps (adl (mvT f L J) J J.length))) := owns_wide (owns_type HJ7.out hR7 (by decide) _) (by omega)
        clear HL7 HJ7 hR7 hM7
        generalize w7.setRow w5.heap.size (rcs ga) = w8 at *
        refine wp_region_lit ?_
        refine ld25 hR8 rfl _ rfl rfl ?_
        go_wp2_with (refine st25 (g := ga) hZ8 rfl _ _ rfl rfl rfl ?_)
        refine bodyPost_ret (results_ro4 (p := 8) (t := 9) (u := 10) (v := 11) rfl _ _ (w.heap.size + 2) ga rfl (hZ8.row _)) rfl ?_
        refine ⟨⟨vl, vj, ?_, ?_, ?_, HAP.out⟩, setRow_below (by omega) hB8 _⟩
        · rw [HGA.out, HE.out]; rfl
        · rw [HL.out, evl_length]; exact owns_type HL8.out hZ8 (by decide) _
        · rw [HJ.out, adl_length]; exact owns_type HJ8.out hZ8 (by decide) _
  · have h1 : (ft f L J == 0) = false := by simp [hft]
    have HFT : Hid (¬ ft f L J = 0) := hft
    clear hft
    have HE : Hid (mvE f L J sc bs = ft f L J) := mvE_fit HFT.out
    go_wp2_with (refine st25 (g := fun _ => zE) hM2.ze rfl _ _ rfl rfl zero25' ?_)
    refine bodyPost_ret (results_ro4 (p := 8) (t := 9) (u := 10) (v := 11) rfl _ _ (w.heap.size + 2) (fun _ => zE) rfl (hM2.ze.row _)) rfl ?_
    exact ⟨MoveA.no HE.out HFT.out, setRow_below (by omega) hM2.fs.bel _⟩
end Go.Proofs.YtieagbjempndnabDoor
