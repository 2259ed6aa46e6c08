/- A step's message applied to states of its trees, on plain data: who stays stands at the new tree, who left is out, who joined stands there. -/
import Derived.Test.YtpimbpfefhkojaaGreatMbJ5
namespace Go.Proofs.YtpimbpfefhkojaaGreat.Mb
open Go.RowKit
open Rt (Ky zK gd gv Gd gd_iff)
open Rs (En zE tkn fnd evl FitOk on)
open Sh (belB)
open Wi (gR gE gW gS gI gB gK)
set_option linter.unusedVariables false
set_option linter.unusedSimpArgs false

/- Apply, by the message's epoch. -/
theorem apl_next {m : Mb} {r : Rk} (hk : knd m = 3) (hh : m.has = true) (g : gR r = true) (l : r.1 = m.ep + 1) : apl m r = if lvs r.2.1 m.who then (0, outM m.who r.1) else foll m r := by
  unfold apl
  rw [if_neg (by omega), if_neg (by omega), if_neg (by rw [g]; decide), if_neg (by omega), if_neg (by omega), if_pos ⟨l, hh⟩]
theorem apl_old {m : Mb} {r : Rk} (hk : knd m = 3) (hh : m.has = true) (g : gR r = true) (l : r.1 ≤ m.ep) : apl m r = (21, m) := by
  unfold apl
  have h : r.1 < m.ep ∨ (r.1 = m.ep ∧ m.has = true) := by
    rcases Int.lt_or_eq_of_le l with h | h
    · exact .inl h
    · exact .inr ⟨h, hh⟩
  rw [if_neg (by omega), if_neg (by omega), if_neg (by rw [g]; decide), if_pos h]
theorem apl_gap {m : Mb} {r : Rk} (hk : knd m = 3) (g : gR r = true) (l : m.ep + 1 < r.1) : apl m r = (22, gapM m r.1) := by
  unfold apl
  rw [if_neg (by omega), if_neg (by omega), if_neg (by rw [g]; decide), if_neg (by omega), if_neg (by omega), if_neg (by omega)]
theorem apl_out {m : Mb} {r : Rk} (hk : knd m = 1) : apl m r = (20, m) := by
  unfold apl
  rw [if_neg (by omega), if_pos hk]
theorem apl_enter {m : Mb} {r : Rk} (hk : knd m = 2) (hh : m.has = false) (g : gR r = true) (l : r.1 = m.ep) (s : stds r.2.2.1 (m.who, m.slt) = true) : apl m r = entr m r := by
  unfold apl
  have h : ¬ (r.1 < m.ep ∨ (r.1 = m.ep ∧ m.has = true)) := by
    rintro (h | ⟨_, h⟩)
    · omega
    · rw [hh] at h; cases h
  rw [if_neg (by omega), if_neg (by omega), if_neg (by rw [g]; decide), if_neg h, if_pos l, if_pos s]
/- Who sits at a slot. -/
def atS (t : Tr) (s : Nat) (b : Int) : Mb := ⟨(t.ro s).who, (s : Int), t.ep, ⟨(t.ro s).bas, t.ep - (t.ro s).snc⟩, t.ks (pn s 0), t.ks (pn s 1), t.ks (pn s 2), true, false, b⟩
theorem stM_at {t : Tr} (h : tck t = true) {s : Nat} (hs : s < 64) (ht : tkn (t.ro s) = true) : caE t (t.ro s).who = 0 ∧ stM t (t.ro s).who = atS t s 0 := by
  have hf := (tck_right h).find hs ht
  have hE := caE_ok h hf
  refine ⟨hE, ?_⟩
  have hk := (koK_leaf h hs ht).2
  have e2 : ((21 + s : Nat) : Int) = 21 + (s : Int) := by push_cast; rfl
  rw [e2] at hk
  unfold stM caW caS caP caK caQ atS
  rw [hE, if_pos rfl, if_pos rfl, if_pos rfl, if_pos rfl, if_pos rfl, if_pos rfl, if_pos rfl, hf, hk, Int.toNat_natCast]
  rfl
theorem leaf_good {t : Tr} (h : tck t = true) {s : Nat} (hs : s < 64) (ht : tkn (t.ro s) = true) : gd (t.ro s).bas (t.ep - (t.ro s).snc) = true := by
  have hr := tck_right h
  obtain ⟨a, b, c, d, _, _⟩ := hr.taken hs ht
  have h2 := (hr.fs s hs).2.1
  have h3 := hr.e1
  simp only [Rt.gd, Bool.and_eq_true, decide_eq_true_eq]
  refine ⟨by omega, by omega, by omega, by omega⟩
theorem node_good {t : Tr} (h : tck t = true) {v : Nat} (hv : v < 21) : gk (t.ks v) = true := by
  have := Rt.kchk_at (tck_right h).ks hv
  unfold Rt.kok at this
  rw [Bool.and_eq_true] at this
  exact this.1
theorem card_good {t : Tr} (h : tck t = true) {s : Nat} (hs : s < 64) (ht : tkn (t.ro s) = true) : gCd (t.ro s).who (s : Int) t.ep ⟨(t.ro s).bas, t.ep - (t.ro s).snc⟩ = true := by
  have hr := tck_right h
  obtain ⟨a, b, c, d, e, f⟩ := hr.taken hs ht
  have h2 := (hr.fs s hs).2.1
  unfold gCd
  rw [Wi.gW_iff.2 ⟨e, f⟩, Wi.gE_iff.2 ⟨by omega, hr.e1⟩, decide_eq_true (by omega), decide_eq_true (by omega)]
  show gd _ _ = true
  exact leaf_good h hs ht
theorem atS_sat {t : Tr} (h : tck t = true) {s : Nat} (hs : s < 64) (ht : tkn (t.ro s) = true) {b : Int} (hb : b = 0 ∨ (t.ep < b ∧ b ≤ 200)) : Sat (atS t s b) := ⟨rfl, card_good h hs ht, bh_iff.2 hb⟩
theorem atS_kind {t : Tr} (h : tck t = true) {s : Nat} (hs : s < 64) (ht : tkn (t.ro s) = true) {b : Int} (hb : b = 0 ∨ (t.ep < b ∧ b ≤ 200)) : knd (atS t s b) = 3 :=
  (atS_sat h hs ht hb).kind3 rfl (node_good h (pn_lt hs 0)) (node_good h (pn_lt hs 1)) (node_good h (pn_lt hs 2))
/- The message of a step. -/
theorem pR_stp {t : Tr} {L J : List Int} (h : Stp t L J) : pR t L J = (t.ep + 1, (evl t.ro L, (jns t L J, (its (nx t L J) (plR t L) (jns t L J)).map itP))) := by
  unfold pR pnP pnL pnJ pnI
  rw [if_pos h.pl, if_pos h.pl, if_pos h.pl, if_pos h.pl]
theorem pR_good {t : Tr} {L J : List Int} (h : Stp t L J) : gR (pR t L J) = true := by
  rw [pR_stp h]
  exact step_good h
theorem pR_ep {t : Tr} {L J : List Int} (h : Stp t L J) : (pR t L J).1 = t.ep + 1 := by rw [pR_stp h]
theorem lv_yes {t : Tr} {L J : List Int} (h : Stp t L J) {x : Int} (hx : x ∈ L) : lvs (pR t L J).2.1 x = true := by
  rw [pR_stp h]
  unfold lvs
  rw [List.any_eq_true]
  dsimp only
  rw [fit_evl h.fit]
  exact ⟨(x, fnd t.ro x), List.mem_map.2 ⟨x, hx, rfl⟩, decide_eq_true rfl⟩
theorem lv_no {t : Tr} {L J : List Int} (h : Stp t L J) {x : Int} (hx : x ∉ L) : lvs (pR t L J).2.1 x = false := by
  rw [pR_stp h]
  unfold lvs
  rw [List.any_eq_false]
  intro p hp e
  obtain ⟨s, _, _, _, _, hm⟩ := h.left hp
  rw [of_decide_eq_true e] at hm
  exact hx hm
/- Who left is out. -/
theorem ap_left {t : Tr} {L J : List Int} (h : Stp t L J) {s : Nat} (hs : s < 64) (ht : tkn (t.ro s) = true) (hL : (t.ro s).who ∈ L) {b : Int} (hb : b = 0 ∨ (t.ep < b ∧ b ≤ 200)) : apl (atS t s b) (pR t L J) = (0, outM (t.ro s).who (t.ep + 1)) := by
  have hl : lvs (pR t L J).2.1 (atS t s b).who = true := lv_yes h hL
  rw [apl_next (atS_kind h.ok hs ht hb) rfl (pR_good h) (by rw [pR_ep h]; rfl), hl, if_pos rfl, pR_ep h]
  rfl
theorem out_again {t : Tr} {L J : List Int} (h : Stp t L J) {s : Nat} (hs : s < 64) (ht : tkn (t.ro s) = true) (r : Rk) : apl (outM (t.ro s).who (t.ep + 1)) r = (20, outM (t.ro s).who (t.ep + 1)) := by
  have hr := h.rt
  obtain ⟨a, b, c, d, e, f⟩ := hr.taken hs ht
  have := hr.e0
  have := h.ep
  exact apl_out (out_kind (Wi.gW_iff.2 ⟨e, f⟩) (Wi.gE_iff.2 ⟨by omega, by omega⟩))
/- Items of a step. -/
theorem mk_of {t : Tr} {L J : List Int} (h : Stp t L J) {x : It} (hx : x ∈ its (nx t L J) (plR t L) (jns t L J)) {v c : Nat} (h1 : x.nd = (v : Int)) (h2 : x.fm = (c : Int)) : x = mkI (nx t L J) v c := by
  obtain ⟨v', c', rfl, _⟩ := item_of h hx
  have e1 : v' = v := by have : ((v' : Nat) : Int) = v := h1; omega
  have e2 : c' = c := by have : ((c' : Nat) : Int) = c := h2; omega
  rw [e1, e2]
theorem fst_of {t : Tr} {L J : List Int} (h : Stp t L J) {v c : Nat} {b : (Int × Int) × (Int × Int)} (hb : fstI (pR t L J).2.2.2 (v : Int) (c : Int) = some b) : b = (itP (mkI (nx t L J) v c)).2 := by
  rw [pR_stp h] at hb
  have hm := fst_mem hb
  obtain ⟨x, hx, e⟩ := List.mem_map.1 hm
  have h1 : x.nd = (v : Int) := congrArg (fun q => q.1.1) e
  have h2 : x.fm = (c : Int) := congrArg (fun q => q.1.2) e
  have h3 : (itP x).2 = b := congrArg (fun q => q.2) e
  rw [← h3, mk_of h hx h1 h2]
theorem fst_is {t : Tr} {L J : List Int} (h : Stp t L J) {v c : Nat} (hm : mkI (nx t L J) v c ∈ its (nx t L J) (plR t L) (jns t L J)) : fstI (pR t L J).2.2.2 (v : Int) (c : Int) = some (itP (mkI (nx t L J) v c)).2 := by
  cases hb : fstI (pR t L J).2.2.2 (v : Int) (c : Int) with
  | some b => rw [fst_of h hb]
  | none =>
    exfalso
    rw [pR_stp h] at hb
    unfold fstI at hb
    rw [Option.map_eq_none_iff, List.find?_eq_none] at hb
    refine hb (itP (mkI (nx t L J) v c)) (List.mem_map.2 ⟨_, hm, rfl⟩) ?_
    show (decide ((v : Int) = v) && decide ((c : Int) = c)) = true
    simp
theorem gv_me {k : Ky} (h : gk k = true) : gv k.bas k.stp k.bas k.stp = true := by
  unfold gk at h
  unfold Rt.gv
  rw [h]
  simp
theorem opn_mk {t : Tr} {v c : Nat} (h : gk (kyA t c) = true) : opn (itP (mkI t v c)).2 (kyA t c) = true := gv_me h
theorem ld_mk (t : Tr) (v c : Nat) : Mb.ldK (itP (mkI t v c)).2 = kyA t v := rfl
/- The keys on the path of who sits at a slot of the new tree. -/
theorem bel_good {t : Tr} (h : tck t = true) {s i : Nat} (hs : s < 64) (hi : i < 3) (ht : tkn (t.ro s) = true) : gk (kyA t (bel s i)) = true := by
  have hc : bel s i < 85 := by
    obtain ⟨k, hk, e⟩ := bel_child hs hi
    have := pn_lt hs i
    omega
  exact key_good h hc (hld_leaf h hc (hld_yes hs ht (bel_on hs hi)))
theorem leaf_ky {t : Tr} (h : tck t = true) {s : Nat} (hs : s < 64) (ht : tkn (t.ro s) = true) : kyA t (21 + s) = ⟨(t.ro s).bas, t.ep - (t.ro s).snc⟩ := by
  obtain ⟨h0, e⟩ := koK_leaf h hs ht
  rw [kyA_ko h (by omega) h0, e]
theorem fo_step {t : Tr} {L J : List Int} (h : Stp t L J) {s i : Nat} (hs : s < 64) (hi : i < 3) (ht : tkn ((nx t L J).ro s) = true) : foP (pR t L J).2.2.2 (rpl (pR t L J).2.1 (pn s i)) ((pn s i : Nat) : Int) ((bel s i : Nat) : Int) (t.ks (pn s i)) (kyA (nx t L J) (bel s i)) = (0, (nx t L J).ks (pn s i)) := by
  have hv := pn_lt hs i
  have e : rpl (pR t L J).2.1 (pn s i) = (plR t L).testBit (pn s i) := by
    rw [pR_stp h]
    unfold plR
    rw [rp_bit _ hv]
  rw [e]
  unfold foP
  rcases h.key hv with ⟨hb, _, _, _⟩ | ⟨hb, e2⟩
  · rw [hb, if_pos rfl, fst_is h (item_child hs hi ht hb)]
    dsimp only
    rw [if_pos (opn_mk (bel_good h.tckn hs hi ht))]
    show (0, kyA (nx t L J) (pn s i)) = _
    rw [kyA_in hv]
  · have hg := node_good h.ok hv
    have h1 := (h.rt.fk _ hv).2
    have h2 := h.ep
    rw [hb, if_neg (by decide), if_pos (show advB (t.ks (pn s i)) = true by unfold advB; rw [hg, decide_eq_true (by omega)]; rfl), e2]
    rfl
theorem bel_0 (s : Nat) : ((bel s 0 : Nat) : Int) = 21 + (s : Int) := by unfold bel; rw [if_pos rfl]; push_cast; rfl
theorem bel_1 (s : Nat) : bel s 1 = pn s 0 := rfl
theorem bel_2 (s : Nat) : bel s 2 = pn s 1 := rfl
theorem nd_s (s i : Nat) : nd (s : Int) i = ((pn s i : Nat) : Int) := by unfold nd; rw [Int.toNat_natCast]
/- Who stays stands at the new tree. -/
theorem ap_stay {t : Tr} {L J : List Int} (h : Stp t L J) {s : Nat} (hs : s < 64) (ht : tkn (t.ro s) = true) (hL : (t.ro s).who ∉ L) {b : Int} (hb : b = 0 ∨ (t.ep < b ∧ b ≤ 200)) : apl (atS t s b) (pR t L J) = (0, atS (nx t L J) s (if b ≤ t.ep + 1 then 0 else b)) := by
  have hn := h.stays ht hL
  have ht' : tkn ((nx t L J).ro s) = true := by rw [hn]; exact ht
  rw [apl_next (atS_kind h.ok hs ht hb) rfl (pR_good h) (by rw [pR_ep h]; rfl)]
  have hl : lvs (pR t L J).2.1 (atS t s b).who = false := lv_no h hL
  rw [hl, if_neg (by decide)]
  have hr := h.rt
  obtain ⟨a1, a2, a3, a4, _, _⟩ := hr.taken hs ht
  have h2 := (hr.fs s hs).2.1
  have h3 := h.ep
  have ha : advB (atS t s b).lf = true := by
    unfold advB
    rw [show gk (atS t s b).lf = true from leaf_good h.ok hs ht, decide_eq_true (show (atS t s b).lf.stp < 255 from by show t.ep - (t.ro s).snc < 255; omega)]
    rfl
  have hA : adv (atS t s b).lf = kyA (nx t L J) (bel s 0) := by
    rw [show bel s 0 = 21 + s from rfl, leaf_ky h.tckn hs ht', hn]
    show (⟨(t.ro s).bas, t.ep - (t.ro s).snc + 1⟩ : Ky) = ⟨(t.ro s).bas, t.ep + 1 - (t.ro s).snc⟩
    congr 1
    omega
  have f0 : fo0 (atS t s b) (pR t L J) = (0, (nx t L J).ks (pn s 0)) := by
    have := fo_step h hs (i := 0) (by omega) ht'
    unfold fo0
    rw [hA]
    show foP _ (rpl _ (pn (s : Int).toNat 0)) (nd (s : Int) 0) (21 + (s : Int)) _ _ = _
    rw [Int.toNat_natCast, nd_s, ← bel_0]
    exact this
  have f1 : fo1 (atS t s b) (pR t L J) = (0, (nx t L J).ks (pn s 1)) := by
    have := fo_step h hs (i := 1) (by omega) ht'
    unfold fo1
    rw [f0]
    show foP _ (rpl _ (pn (s : Int).toNat 1)) (nd (s : Int) 1) (nd (s : Int) 0) _ _ = _
    rw [Int.toNat_natCast, nd_s, nd_s]
    rw [bel_1, kyA_in (pn_lt hs 0)] at this
    exact this
  have f2 : fo2 (atS t s b) (pR t L J) = (0, (nx t L J).ks (pn s 2)) := by
    have := fo_step h hs (i := 2) (by omega) ht'
    unfold fo2
    rw [f1]
    show foP _ (rpl _ (pn (s : Int).toNat 2)) (nd (s : Int) 2) (nd (s : Int) 1) _ _ = _
    rw [Int.toNat_natCast, nd_s, nd_s]
    rw [bel_2, kyA_in (pn_lt hs 1)] at this
    exact this
  have fE : foEr (atS t s b) (pR t L J) = 0 := by
    unfold foEr
    rw [ha, if_pos rfl, f0, if_pos rfl, f1, if_pos rfl, f2]
  unfold foll
  rw [if_pos fE, arr_eq, f0, f1, f2, pR_ep h, hA, show bel s 0 = 21 + s from rfl, leaf_ky h.tckn hs ht']
  unfold atS
  rw [hn]
  rfl
/- Who joined and has the card stands there. -/
theorem en_step {t : Tr} {L J : List Int} (h : Stp t L J) {s i : Nat} (hs : s < 64) (hi : i < 3) (ht : tkn ((nx t L J).ro s) = true) {p : Int × Int} (hp : p ∈ jns t L J) (hp2 : p.2 = (s : Int)) : enP (pR t L J).2.2.2 ((pn s i : Nat) : Int) ((21 + s : Nat) : Int) ((bel s i : Nat) : Int) (kyA (nx t L J) (21 + s)) (kyA (nx t L J) (bel s i)) = (0, (nx t L J).ks (pn s i)) := by
  have hv := pn_lt hs i
  have hlf : gk (kyA (nx t L J) (21 + s)) = true := bel_good h.tckn hs (i := 0) (by omega) ht
  unfold enP
  cases hb : fstI (pR t L J).2.2.2 ((pn s i : Nat) : Int) ((21 + s : Nat) : Int) with
  | some b =>
    rw [fst_of h hb]
    dsimp only
    rw [if_pos (opn_mk hlf)]
    show (0, kyA (nx t L J) (pn s i)) = _
    rw [kyA_in hv]
  | none =>
    dsimp only
    have hr : (plR t L).testBit (pn s i) = true := by
      cases hr : (plR t L).testBit (pn s i) with
      | true => rfl
      | false =>
        have := fst_is h (item_join (t := nx t L J) hp hp2 hi hr)
        rw [hb] at this
        cases this
    rw [fst_is h (item_child hs hi ht hr)]
    dsimp only
    rw [if_pos (opn_mk (bel_good h.tckn hs hi ht))]
    show (0, kyA (nx t L J) (pn s i)) = _
    rw [kyA_in hv]
def cdS (t : Tr) (s : Nat) : Mb := ⟨(t.ro s).who, (s : Int), t.ep, ⟨(t.ro s).bas, t.ep - (t.ro s).snc⟩, zK, zK, zK, false, false, 0⟩
theorem cdS_sea {t : Tr} (h : tck t = true) {s : Nat} (hs : s < 64) (ht : tkn (t.ro s) = true) : seaE (caW t (t.ro s).who) (caS t (t.ro s).who) (caP t (t.ro s).who) (caK t (t.ro s).who) = 0 ∧ seaM (caW t (t.ro s).who) (caS t (t.ro s).who) (caP t (t.ro s).who) (caK t (t.ro s).who) = cdS t s := by
  obtain ⟨hE, hS⟩ := stM_at h hs ht
  have e1 : caW t (t.ro s).who = (t.ro s).who := congrArg Mb.who hS
  have e2 : caS t (t.ro s).who = (s : Int) := congrArg Mb.slt hS
  have e3 : caP t (t.ro s).who = t.ep := congrArg Mb.ep hS
  have e4 : caK t (t.ro s).who = ⟨(t.ro s).bas, t.ep - (t.ro s).snc⟩ := congrArg Mb.lf hS
  have hg := card_good h hs ht
  unfold seaE seaM
  rw [e1, e2, e3, e4, if_pos hg, if_pos hg]
  exact ⟨rfl, rfl⟩
theorem ap_join {t : Tr} {L J : List Int} (h : Stp t L J) {s : Nat} (hs : s < 64) (ht : tkn ((nx t L J).ro s) = true) {p : Int × Int} (hp : p ∈ jns t L J) (hp2 : p.2 = (s : Int)) : apl (cdS (nx t L J) s) (pR t L J) = (0, atS (nx t L J) s 0) := by
  have hw : p.1 = ((nx t L J).ro s).who := by
    obtain ⟨m, hm, e⟩ := mem_jns.1 hp
    obtain ⟨_, e3, _⟩ := h.joined hm
    have : (Rs.mvT t.ro L J).getD m 0 = s := by
      have e2 : p.2 = (((Rs.mvT t.ro L J).getD m 0 : Nat) : Int) := by rw [e]
      rw [hp2] at e2
      show (Rs.mvT t.ro L J).getD m 0 = s
      omega
    rw [this] at e3
    rw [e3, e]
  have hg := card_good h.tckn hs ht
  have hk : knd (cdS (nx t L J) s) = 2 := by
    have := sea_kind hg
    unfold seaM at this
    rw [if_pos hg] at this
    exact this
  have hst : stds (pR t L J).2.2.1 ((cdS (nx t L J) s).who, (cdS (nx t L J) s).slt) = true := by
    rw [pR_stp h]
    unfold stds
    rw [List.any_eq_true]
    refine ⟨p, hp, ?_⟩
    show (decide (p.1 = ((nx t L J).ro s).who) && decide (p.2 = (s : Int))) = true
    rw [decide_eq_true hw, decide_eq_true hp2]
    rfl
  rw [apl_enter hk rfl (pR_good h) (by rw [pR_ep h]; rfl) hst]
  have hA : (cdS (nx t L J) s).lf = kyA (nx t L J) (21 + s) := (leaf_ky h.tckn hs ht).symm
  have c0 : (21 + (s : Int)) = ((21 + s : Nat) : Int) := by push_cast; rfl
  have f0 : en0 (cdS (nx t L J) s) (pR t L J).2.2.2 = (0, (nx t L J).ks (pn s 0)) := by
    have := en_step h hs (i := 0) (by omega) ht hp hp2
    unfold en0
    rw [hA]
    show enP _ (nd (s : Int) 0) (21 + (s : Int)) (21 + (s : Int)) _ _ = _
    rw [nd_s, c0]
    exact this
  have f1 : en1 (cdS (nx t L J) s) (pR t L J).2.2.2 = (0, (nx t L J).ks (pn s 1)) := by
    have := en_step h hs (i := 1) (by omega) ht hp hp2
    unfold en1
    rw [f0, hA]
    show enP _ (nd (s : Int) 1) (21 + (s : Int)) (nd (s : Int) 0) _ _ = _
    rw [nd_s, nd_s, c0]
    rw [bel_1, kyA_in (pn_lt hs 0)] at this
    exact this
  have f2 : en2 (cdS (nx t L J) s) (pR t L J).2.2.2 = (0, (nx t L J).ks (pn s 2)) := by
    have := en_step h hs (i := 2) (by omega) ht hp hp2
    unfold en2
    rw [f1, hA]
    show enP _ (nd (s : Int) 2) (21 + (s : Int)) (nd (s : Int) 1) _ _ = _
    rw [nd_s, nd_s, c0]
    rw [bel_2, kyA_in (pn_lt hs 1)] at this
    exact this
  have fE : enEr (cdS (nx t L J) s) (pR t L J).2.2.2 = 0 := by
    unfold enEr
    rw [f0, if_pos rfl, f1, if_pos rfl, f2]
  have hp0 := h.rt.e0
  unfold entr
  rw [if_pos fE, arr_eq, f0, f1, f2, pR_ep h]
  unfold atS cdS
  dsimp only
  rw [if_pos (by show (0 : Int) ≤ t.ep + 1; omega)]
  rfl
/- Again it is old. -/
theorem ap_again {t : Tr} {L J : List Int} (h : Stp t L J) {s : Nat} (hs : s < 64) (ht : tkn ((nx t L J).ro s) = true) : apl (atS (nx t L J) s 0) (pR t L J) = (21, atS (nx t L J) s 0) :=
  apl_old (atS_kind h.tckn hs ht (.inl rfl)) rfl (pR_good h) (by rw [pR_ep h]; exact Int.le_refl _)
/- Who is on the new tree stayed, or joined. -/
theorem st_cases {t : Tr} {L J : List Int} (h : Stp t L J) {s : Nat} (hs : s < 64) (ht : tkn ((nx t L J).ro s) = true) :
    (caE t ((nx t L J).ro s).who = 0 ∧ apl (stM t ((nx t L J).ro s).who) (pR t L J) = (0, atS (nx t L J) s 0)) ∨ (caE t ((nx t L J).ro s).who = 16 ∧ apl (cdS (nx t L J) s) (pR t L J) = (0, atS (nx t L J) s 0)) := by
  rcases h.stayed hs ht with ⟨e, hL⟩ | ⟨p, hp, hp2⟩
  · left
    have ht0 : tkn (t.ro s) = true := by rw [← e]; exact ht
    rw [e]
    obtain ⟨h1, h2⟩ := stM_at h.ok hs ht0
    refine ⟨h1, ?_⟩
    rw [h2, ap_stay h hs ht0 hL (.inl rfl), if_pos (by have := h.rt.e0; omega)]
  · right
    refine ⟨?_, ap_join h hs ht hp hp2⟩
    obtain ⟨m, hm, e⟩ := mem_jns.1 hp
    obtain ⟨_, e3, _⟩ := h.joined hm
    have e4 : (Rs.mvT t.ro L J).getD m 0 = s := by
      have e2 : p.2 = (((Rs.mvT t.ro L J).getD m 0 : Nat) : Int) := by rw [e]
      rw [hp2] at e2
      omega
    rw [e4] at e3
    rw [e3]
    refine caE_off h.ok ?_
    have := (h.fit.jn m hm).2.2
    rw [Rs.on_ne] at this
    simpa using this
/- What MemberInStep asks of each leaver, of each seat of the new tree. -/
structure InL (t n : Tr) (p : Rk) (x : Int) : Prop where
  c : caE t x = 0
  a : apl (stM t x) p = (0, outM x n.ep)
  b : apl (outM x n.ep) p = (20, outM x n.ep)
structure InN (t n : Tr) (p : Rk) (s : Nat) : Prop where
  c : (caE t (n.ro s).who = 0 ∧ apl (stM t (n.ro s).who) p = (0, atS n s 0)) ∨ (caE t (n.ro s).who = 16 ∧ apl (cdS n s) p = (0, atS n s 0))
  d : caE n (n.ro s).who = 0
  e : stM n (n.ro s).who = atS n s 0
  f : apl (atS n s 0) p = (21, atS n s 0)
  g : seaE (caW n (n.ro s).who) (caS n (n.ro s).who) (caP n (n.ro s).who) (caK n (n.ro s).who) = 0
  h : seaM (caW n (n.ro s).who) (caS n (n.ro s).who) (caP n (n.ro s).who) (caK n (n.ro s).who) = cdS n s
theorem in_left {t : Tr} {L J : List Int} (h : Stp t L J) {j : Nat} (hj : j < (pR t L J).2.1.length) : InL t (nx t L J) (pR t L J) ((pR t L J).2.1[j]).1 := by
  have e : (pR t L J).2.1 = evl t.ro L := by rw [pR_stp h]
  have hm : (pR t L J).2.1[j] ∈ evl t.ro L := by rw [← e]; exact List.getElem_mem hj
  obtain ⟨s, hs, _, ht, hw, hL⟩ := h.left hm
  rw [← hw] at hL ⊢
  obtain ⟨h1, h2⟩ := stM_at h.ok hs ht
  refine ⟨h1, ?_, out_again h hs ht _⟩
  rw [h2]
  exact ap_left h hs ht hL (.inl rfl)
theorem in_new {t : Tr} {L J : List Int} (h : Stp t L J) {s : Nat} (hs : s < 64) (ht : tkn ((nx t L J).ro s) = true) : InN t (nx t L J) (pR t L J) s := by
  obtain ⟨h1, h2⟩ := stM_at h.tckn hs ht
  obtain ⟨h3, h4⟩ := cdS_sea h.tckn hs ht
  exact ⟨st_cases h hs ht, h1, h2, ap_again h hs ht, h3, h4⟩
theorem pR_l64 {t : Tr} {L J : List Int} (h : Stp t L J) : (pR t L J).2.1.length ≤ 64 := (gR_len (pR_good h)).1
end Go.Proofs.YtpimbpfefhkojaaGreat.Mb
