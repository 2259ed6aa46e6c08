/- Recovery on plain data: who stands at a tree, and its reply; one reply is enough; taken again it is old; another leaf key. -/
import Derived.Test.YtpimbpfefhkojaaRvMath
namespace Go.Proofs.Ytpimbpfefhkojaa.Rv
open Go.RowKit Mb
open Rt (Ky zK gd gv Gd gd_iff)
open Rs (tkn fnd)
open Wi (gR gE gW gS gI gB gK gP zP)
set_option linter.unusedVariables false
set_option linter.unusedSimpArgs false

theorem gK_kp (k : Ky) : gK (kp k) = gk k := rfl
theorem ld_bx (u l : Ky) : ldK (bx u l) = l := rfl
theorem opn_bx (u l k : Ky) : opn (bx u l) k = gv k.bas k.stp u.bas u.stp := rfl
theorem hs_3 {m : Mb} (h : knd m = 3) : hsE m = 0 := by unfold hsE; rw [h]; rfl
theorem hs_2 {m : Mb} (h : knd m = 2) : hsE m = 0 := by unfold hsE; rw [h]; rfl
theorem rp_good {m : Mb} (h : knd m = 3) : gP (rpOf m) = true := by
  obtain ⟨hs, ⟨_, h2, _⟩ | ⟨_, _, h0, h1, h2⟩⟩ := knd_sat (.inr h)
  · rw [h] at h2; cases h2
  · refine gP_iff.2 ⟨Wi.gS_iff.2 ⟨Wi.gW_iff.1 hs.who, hs.slot⟩, Wi.gE_iff.2 hs.ep, Wi.gB_iff.2 ⟨hs.lf, h0⟩, Wi.gB_iff.2 ⟨hs.lf, h1⟩, Wi.gB_iff.2 ⟨hs.lf, h2⟩⟩
/- Who is on. -/
theorem on_at {t : Tr} {x : Int} (h : caE t x = 0) : tck t = true ∧ ∃ s : Nat, s < 64 ∧ fnd t.ro x = (s : Int) ∧ tkn (t.ro s) = true ∧ (t.ro s).who = x ∧ stM t x = atS t s 0 := by
  unfold caE at h
  by_cases ht : tck t = true
  · refine ⟨ht, ?_⟩
    rw [if_pos ht] at h
    rcases fnd_at t.ro x with hf | ⟨s, hs, hf, hk, hw⟩
    · rw [hf, if_pos (by decide)] at h; cases h
    · refine ⟨s, hs, hf, hk, hw, ?_⟩
      have := (stM_at ht hs hk).2
      rw [hw] at this
      exact this
  · rw [if_neg ht] at h; cases h
theorem an_at {t : Tr} (ht : tck t = true) {s : Nat} (hs : s < 64) (hk : tkn (t.ro s) = true) {e : Int} (h1 : 1 ≤ e) (h2 : e ≤ t.ep) : anE t (t.ro s).who e = 0 ∧ anP t (t.ro s).who e = rpOf (atS t s 0) := by
  obtain ⟨c1, c2⟩ := stM_at ht hs hk
  have hg : gW (t.ro s).who = true := (atS_sat ht hs hk (b := 0) (.inl rfl)).who
  have hE := anE_5 (e := e) ht hg c1 ⟨h1, h2⟩
  exact ⟨hE, by rw [anP_yes hE, c2]⟩
def bare (m : Mb) (b : Bool) : Mb := if b then ⟨m.who, m.slt, m.ep, m.lf, zK, zK, zK, false, m.out, m.bh⟩ else m
def lagM (t : Tr) (s : Nat) (ba : Bool) (b : Int) : Mb := bare (atS t s b) ba
theorem lag_hs {t : Tr} (ht : tck t = true) {s : Nat} (hs : s < 64) (hk : tkn (t.ro s) = true) (ba : Bool) {b : Int} (hb : b = 0 ∨ (t.ep < b ∧ b ≤ 200)) : hsE (lagM t s ba b) = 0 := by
  cases ba with
  | false => exact hs_3 (atS_kind ht hs hk hb)
  | true =>
    have h := atS_sat ht hs hk hb
    exact hs_2 (Sat.kind2 (m := lagM t s true b) ⟨rfl, h.cd, h.bh⟩ rfl rfl rfl rfl)
theorem lag_has (t : Tr) (s : Nat) (ba : Bool) (b : Int) : (lagM t s ba b).has = !ba := by cases ba <;> rfl
theorem lag_who (t : Tr) (s : Nat) (ba : Bool) (b : Int) : (lagM t s ba b).who = (t.ro s).who := by cases ba <;> rfl
theorem lag_slt (t : Tr) (s : Nat) (ba : Bool) (b : Int) : (lagM t s ba b).slt = (s : Int) := by cases ba <;> rfl
theorem lag_ep (t : Tr) (s : Nat) (ba : Bool) (b : Int) : (lagM t s ba b).ep = t.ep := by cases ba <;> rfl
theorem lag_lf (t : Tr) (s : Nat) (ba : Bool) (b : Int) : (lagM t s ba b).lf = ⟨(t.ro s).bas, t.ep - (t.ro s).snc⟩ := by cases ba <;> rfl
theorem lag_bh (t : Tr) (s : Nat) (ba : Bool) (b : Int) : (lagM t s ba b).bh = b := by cases ba <;> rfl
theorem lag_out (t : Tr) (s : Nat) (ba : Bool) (b : Int) : (lagM t s ba b).out = false := by cases ba <;> rfl
theorem lag_old {t n : Tr} (ht : tck t = true) (hn : tck n = true) {s : Nat} (hs : s < 64) (hk : tkn (t.ro s) = true) (he : n.ro s = t.ro s) {b : Int} (hb : b = 0 ∨ (t.ep < b ∧ b ≤ 200)) (hq : n.ep = t.ep) :
    tkE (lagM t s false b) (rpOf (atS n s 0)) = 21 := by
  have hk' : tkn (n.ro s) = true := by rw [he]; exact hk
  have h := my_4 (m := lagM t s false b) (p := rpOf (atS n s 0)) (lag_hs ht hs hk false hb) (rp_good (atS_kind hn hs hk' (.inl rfl))) ⟨by show (n.ro s).who = (t.ro s).who; rw [he], rfl⟩ (.inr ⟨hq, rfl⟩)
  rw [tk_1 (by rw [h]; decide), h]
theorem again_old {n : Tr} (hn : tck n = true) {s : Nat} (hs : s < 64) (hk : tkn (n.ro s) = true) {b : Int} (hb : b = 0 ∨ (n.ep < b ∧ b ≤ 200)) : tkE (atS n s b) (rpOf (atS n s 0)) = 21 := lag_old hn hn hs hk rfl hb rfl
theorem lag_take {t n : Tr} (ht : tck t = true) (hn : tck n = true) {s : Nat} (hs : s < 64) (hk : tkn (t.ro s) = true) (he : n.ro s = t.ro s) (ba : Bool) {b : Int} (hb : b = 0 ∨ (t.ep < b ∧ b ≤ 200)) (hle : t.ep ≤ n.ep) (hne : ¬ (ba = false ∧ n.ep = t.ep)) :
    tkE (lagM t s ba b) (rpOf (atS n s 0)) = 0 ∧ tkM (lagM t s ba b) (rpOf (atS n s 0)) = atS n s (if b ≤ n.ep then 0 else b) := by
  have hk' : tkn (n.ro s) = true := by rw [he]; exact hk
  have hS := atS_sat hn hs hk' (b := 0) (.inl rfl)
  have hlg := leaf_good hn hs hk'
  rw [he] at hlg
  have h := my_5 (m := lagM t s ba b) (p := rpOf (atS n s 0)) (lag_hs ht hs hk ba hb) (rp_good (atS_kind hn hs hk' (.inl rfl))) ⟨by rw [lag_who]; show (n.ro s).who = _; rw [he], by rw [lag_slt]; rfl⟩ (by
    rw [lag_ep, lag_has]
    show ¬ (n.ep < t.ep ∨ (n.ep = t.ep ∧ _))
    rintro (h | ⟨h1, h2⟩)
    · omega
    · exact hne ⟨by simpa using h2, h1⟩)
  have hl : tkL (lagM t s ba b) (rpOf (atS n s 0)) = ⟨(t.ro s).bas, n.ep - (t.ro s).snc⟩ := by
    unfold tkL
    rw [lag_lf, lag_ep]
    show (⟨(t.ro s).bas, t.ep - (t.ro s).snc + (n.ep - t.ep)⟩ : Ky) = _
    rw [show t.ep - (t.ro s).snc + (n.ep - t.ep) = n.ep - (t.ro s).snc by omega]
  have hme : gv (t.ro s).bas (n.ep - (t.ro s).snc) (t.ro s).bas (n.ep - (t.ro s).snc) = true := gv_me (k := ⟨(t.ro s).bas, n.ep - (t.ro s).snc⟩) hlg
  have h3 : opn3 (rpOf (atS n s 0)) (tkL (lagM t s ba b) (rpOf (atS n s 0))) = true := by
    rw [hl]
    show (gv (t.ro s).bas (n.ep - (t.ro s).snc) (n.ro s).bas (n.ep - (n.ro s).snc) && (gv (t.ro s).bas (n.ep - (t.ro s).snc) (n.ro s).bas (n.ep - (n.ro s).snc) && gv (t.ro s).bas (n.ep - (t.ro s).snc) (n.ro s).bas (n.ep - (n.ro s).snc))) = true
    rw [he, hme]
    rfl
  have h2 : (lagM t s ba b).lf.stp + ((rpOf (atS n s 0)).2.1 - (lagM t s ba b).ep) ≤ 255 := by
    rw [lag_lf, lag_ep]
    show t.ep - (t.ro s).snc + (n.ep - t.ep) ≤ 255
    have := gd_iff.1 hlg
    unfold Rt.Gd at this
    omega
  have hE := tk_4 h h2 h3
  refine ⟨hE, ?_⟩
  rw [tkM_yes hE, hl, arr_eq, lag_who, lag_slt, lag_out, lag_bh]
  show (⟨(t.ro s).who, (s : Int), n.ep, ⟨(t.ro s).bas, n.ep - (t.ro s).snc⟩, n.ks (pn s 0), n.ks (pn s 1), n.ks (pn s 2), true, false, if b ≤ n.ep then 0 else b⟩ : Mb) = _
  unfold atS
  rw [he]
/- Another leaf key. -/
def othM (t : Tr) (s : Nat) (k : Ky) : Mb := ⟨(t.ro s).who, (s : Int), t.ep, k, zK, zK, zK, false, false, 0⟩
theorem oth_bad {t : Tr} {s : Nat} {k : Ky} (h1 : 1 ≤ t.ep) (hg : gk k = false) : hsE (othM t s k) = 30 := by
  have hb : knd (othM t s k) = -1 := by
    unfold knd
    rw [not_blank (m := othM t s k) h1, if_neg (by decide), if_neg (by show ¬ false = true; decide)]
    have : gCd (othM t s k).who (othM t s k).slt (othM t s k).ep (othM t s k).lf = false := by
      unfold gCd
      rw [show gk (othM t s k).lf = false from hg]
      simp
    rw [this]
    rfl
  unfold hsE
  rw [hb]
  rfl
theorem oth_take {t : Tr} (ht : tck t = true) {s : Nat} (hs : s < 64) (hk : tkn (t.ro s) = true) {k : Ky} (hg : gk k = true) :
    tkE (othM t s k) (rpOf (atS t s 0)) = if gv k.bas k.stp (t.ro s).bas (t.ep - (t.ro s).snc) then 0 else 5 := by
  have hS := atS_sat ht hs hk (b := 0) (.inl rfl)
  have hO : Sat (othM t s k) := ⟨rfl, adv_card hS.cd (Wi.gE_iff.2 hS.ep) hg, bh_iff.2 (.inl rfl)⟩
  have h := my_5 (m := othM t s k) (p := rpOf (atS t s 0)) (hs_2 (hO.kind2 rfl rfl rfl rfl)) (rp_good (atS_kind ht hs hk (.inl rfl))) ⟨rfl, rfl⟩ (by
    show ¬ (t.ep < t.ep ∨ (t.ep = t.ep ∧ false = true))
    simp)
  have hl : tkL (othM t s k) (rpOf (atS t s 0)) = k := by
    show (⟨k.bas, k.stp + (t.ep - t.ep)⟩ : Ky) = k
    rw [show k.stp + (t.ep - t.ep) = k.stp by omega]
  have h2 : (othM t s k).lf.stp + ((rpOf (atS t s 0)).2.1 - (othM t s k).ep) ≤ 255 := by
    show k.stp + (t.ep - t.ep) ≤ 255
    have := gd_iff.1 hg
    unfold Rt.Gd at this
    omega
  have h3 : opn3 (rpOf (atS t s 0)) (tkL (othM t s k) (rpOf (atS t s 0))) = gv k.bas k.stp (t.ro s).bas (t.ep - (t.ro s).snc) := by
    rw [hl]
    show (gv k.bas k.stp (t.ro s).bas (t.ep - (t.ro s).snc) && (gv k.bas k.stp (t.ro s).bas (t.ep - (t.ro s).snc) && gv k.bas k.stp (t.ro s).bas (t.ep - (t.ro s).snc))) = _
    cases gv k.bas k.stp (t.ro s).bas (t.ep - (t.ro s).snc) <;> rfl
  cases hq : gv k.bas k.stp (t.ro s).bas (t.ep - (t.ro s).snc) with
  | true => rw [hq] at h3; rw [tk_4 h h2 h3]; rfl
  | false => rw [hq] at h3; rw [tk_3 h h2 h3]; rfl
end Go.Proofs.Ytpimbpfefhkojaa.Rv
