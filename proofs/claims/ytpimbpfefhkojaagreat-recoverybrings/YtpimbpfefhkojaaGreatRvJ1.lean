/- RvMath, RvMath2, joined. -/
import Derived.Test.YtpimbpfefhkojaaGreatMbMath3
/- Recovery on plain data: what a state is told, its request, the server's reply, the state behind it; one reply is enough. -/
namespace Go.Proofs.YtpimbpfefhkojaaGreat.Rv
open Go.RowKit Mb
open Rt (Ky zK gd gv Gd gd_iff)
open Rs (tkn fnd)
open Wi (gR gE gW gS gI gB gK gP zP)
set_option linter.unusedVariables false
set_option linter.unusedSimpArgs false

abbrev Rp := (Int × Int) × (Int × (((Int × Int) × (Int × Int)) × (((Int × Int) × (Int × Int)) × ((Int × Int) × (Int × Int)))))
def hsE (m : Mb) : Int := if knd m = 2 then 0 else if knd m = 3 then 0 else if knd m = 1 then 20 else 30
def nds (m : Mb) : Bool := decide (knd m = 2) || (decide (knd m = 3) && !decide (m.bh = 0))
def akW (m : Mb) : Int := if hsE m = 0 then m.who else 0
def akP (m : Mb) : Int := if hsE m = 0 then m.ep else 0
theorem hs_cases (m : Mb) : (knd m = 1 ∧ hsE m = 20) ∨ (knd m = 2 ∧ hsE m = 0) ∨ (knd m = 3 ∧ hsE m = 0) ∨ ((knd m = -1 ∨ knd m = 0) ∧ hsE m = 30) := by
  unfold hsE
  rcases knd_cases m with h | h | h | h | h <;> rw [h] <;> decide
theorem hs_ok {m : Mb} (h : hsE m = 0) : knd m = 2 ∨ knd m = 3 := by
  rcases hs_cases m with ⟨a, b⟩ | ⟨a, b⟩ | ⟨a, b⟩ | ⟨a, b⟩
  · rw [b] at h; cases h
  · exact .inl a
  · exact .inr a
  · rw [b] at h; cases h
theorem nds_eq (m : Mb) : nds m = (decide (hsE m = 0) && (!m.has || !decide (m.bh = 0))) := by
  unfold nds
  rcases hs_cases m with ⟨a, b⟩ | ⟨a, b⟩ | ⟨a, b⟩ | ⟨a, b⟩
  · rw [a, b]; rfl
  · rcases (knd_sat (.inl a)).2 with ⟨c, _⟩ | ⟨c, d, _⟩
    · rw [a, b, c]; rfl
    · rw [a] at d; cases d
  · rcases (knd_sat (.inr a)).2 with ⟨c, d, _⟩ | ⟨c, _⟩
    · rw [a] at d; cases d
    · rw [a, b, c]; rfl
  · rcases a with a | a <;> rw [a, b] <;> rfl
/- The reply. -/
def kp (k : Ky) : Int × Int := (k.bas, k.stp)
def bx (u l : Ky) : (Int × Int) × (Int × Int) := (kp u, kp l)
def rpOf (m : Mb) : Rp := ((m.who, m.slt), (m.ep, (bx m.lf m.p0, (bx m.lf m.p1, bx m.lf m.p2))))
def anE (t : Tr) (x e : Int) : Int := if tck t then (if gW x then (if caE t x = 0 then (if 1 ≤ e ∧ e ≤ t.ep then 0 else 32) else 16) else 14) else 31
def anP (t : Tr) (x e : Int) : Rp := if anE t x e = 0 then rpOf (stM t x) else zP
theorem anE_1 {t : Tr} {x e : Int} (h : tck t = false) : anE t x e = 31 := by unfold anE; rw [h]; rfl
theorem anE_2 {t : Tr} {x e : Int} (h : tck t = true) (h2 : gW x = false) : anE t x e = 14 := by unfold anE; rw [h, h2]; rfl
theorem anE_3 {t : Tr} {x e : Int} (h : tck t = true) (h2 : gW x = true) (h3 : caE t x ≠ 0) : anE t x e = 16 := by unfold anE; rw [h, h2, if_pos rfl, if_pos rfl, if_neg h3]
theorem anE_4 {t : Tr} {x e : Int} (h : tck t = true) (h2 : gW x = true) (h3 : caE t x = 0) (h4 : ¬ (1 ≤ e ∧ e ≤ t.ep)) : anE t x e = 32 := by unfold anE; rw [h, h2, if_pos rfl, if_pos rfl, if_pos h3, if_neg h4]
theorem anE_5 {t : Tr} {x e : Int} (h : tck t = true) (h2 : gW x = true) (h3 : caE t x = 0) (h4 : 1 ≤ e ∧ e ≤ t.ep) : anE t x e = 0 := by unfold anE; rw [h, h2, if_pos rfl, if_pos rfl, if_pos h3, if_pos h4]
theorem anP_no {t : Tr} {x e : Int} (h : anE t x e ≠ 0) : anP t x e = zP := by unfold anP; rw [if_neg h]
theorem anP_yes {t : Tr} {x e : Int} (h : anE t x e = 0) : anP t x e = rpOf (stM t x) := by unfold anP; rw [if_pos h]
theorem caE_16 {t : Tr} {x : Int} (h : tck t = true) (h2 : caE t x ≠ 0) : caE t x = 16 := by
  unfold caE at h2 ⊢
  rw [if_pos h] at h2 ⊢
  by_cases hf : fnd t.ro x < 0
  · rw [if_pos hf]
  · rw [if_neg hf] at h2; exact absurd rfl h2
/- Taken. -/
def tkL (m : Mb) (p : Rp) : Ky := ⟨m.lf.bas, m.lf.stp + (p.2.1 - m.ep)⟩
def opn3 (p : Rp) (k : Ky) : Bool := opn p.2.2.1 k && (opn p.2.2.2.1 k && opn p.2.2.2.2 k)
def myE (m : Mb) (p : Rp) : Int := if hsE m = 0 then (if gP p then (if p.1.1 = m.who ∧ p.1.2 = m.slt then (if p.2.1 < m.ep ∨ (p.2.1 = m.ep ∧ m.has = true) then 21 else 0) else 24) else 13) else hsE m
def tkE (m : Mb) (p : Rp) : Int := if myE m p = 0 then (if m.lf.stp + (p.2.1 - m.ep) ≤ 255 then (if opn3 p (tkL m p) then 0 else 5) else 4) else myE m p
def tkM (m : Mb) (p : Rp) : Mb := if tkE m p = 0 then arr m p.2.1 (tkL m p) (ldK p.2.2.1) (ldK p.2.2.2.1) (ldK p.2.2.2.2) else m
theorem my_1 {m : Mb} {p : Rp} (h : hsE m ≠ 0) : myE m p = hsE m := by unfold myE; rw [if_neg h]
theorem my_2 {m : Mb} {p : Rp} (h : hsE m = 0) (h2 : gP p = false) : myE m p = 13 := by unfold myE; rw [if_pos h, h2]; rfl
theorem my_3 {m : Mb} {p : Rp} (h : hsE m = 0) (h2 : gP p = true) (h3 : ¬ (p.1.1 = m.who ∧ p.1.2 = m.slt)) : myE m p = 24 := by unfold myE; rw [if_pos h, if_pos h2, if_neg h3]
theorem my_4 {m : Mb} {p : Rp} (h : hsE m = 0) (h2 : gP p = true) (h3 : p.1.1 = m.who ∧ p.1.2 = m.slt) (h4 : p.2.1 < m.ep ∨ (p.2.1 = m.ep ∧ m.has = true)) : myE m p = 21 := by unfold myE; rw [if_pos h, if_pos h2, if_pos h3, if_pos h4]
theorem my_5 {m : Mb} {p : Rp} (h : hsE m = 0) (h2 : gP p = true) (h3 : p.1.1 = m.who ∧ p.1.2 = m.slt) (h4 : ¬ (p.2.1 < m.ep ∨ (p.2.1 = m.ep ∧ m.has = true))) : myE m p = 0 := by unfold myE; rw [if_pos h, if_pos h2, if_pos h3, if_neg h4]
structure MyOk (m : Mb) (p : Rp) : Prop where
  hs : hsE m = 0
  gp : gP p = true
  who : p.1.1 = m.who
  slt : p.1.2 = m.slt
  old : ¬ (p.2.1 < m.ep ∨ (p.2.1 = m.ep ∧ m.has = true))
theorem my_ok {m : Mb} {p : Rp} (h : myE m p = 0) : MyOk m p := by
  unfold myE at h
  by_cases h1 : hsE m = 0
  · rw [if_pos h1] at h
    by_cases h2 : gP p = true
    · rw [if_pos h2] at h
      by_cases h3 : p.1.1 = m.who ∧ p.1.2 = m.slt
      · rw [if_pos h3] at h
        by_cases h4 : p.2.1 < m.ep ∨ (p.2.1 = m.ep ∧ m.has = true)
        · rw [if_pos h4] at h; cases h
        · exact ⟨h1, h2, h3.1, h3.2, h4⟩
      · rw [if_neg h3] at h; cases h
    · rw [if_neg h2] at h; cases h
  · rw [if_neg h1] at h; exact absurd h h1
theorem MyOk.sat {m : Mb} {p : Rp} (h : MyOk m p) : Sat m := (knd_sat (hs_ok h.hs)).1
theorem gP_iff {p : Rp} : gP p = true ↔ gS p.1 = true ∧ gE p.2.1 = true ∧ gB p.2.2.1 = true ∧ gB p.2.2.2.1 = true ∧ gB p.2.2.2.2 = true := by
  unfold Wi.gP
  simp only [Bool.and_eq_true]
theorem MyOk.ge {m : Mb} {p : Rp} (h : MyOk m p) : m.ep ≤ p.2.1 := by have := h.old; omega
theorem MyOk.eps {m : Mb} {p : Rp} (h : MyOk m p) : 1 ≤ p.2.1 ∧ p.2.1 ≤ 200 := Wi.gE_iff.1 (gP_iff.1 h.gp).2.1
theorem MyOk.lf {m : Mb} {p : Rp} (h : MyOk m p) : Gd m.lf.bas m.lf.stp := gd_iff.1 h.sat.lf
theorem MyOk.leaf {m : Mb} {p : Rp} (h : MyOk m p) (hs : m.lf.stp + (p.2.1 - m.ep) ≤ 255) : gk (tkL m p) = true := by
  have h1 := h.lf
  have h2 := h.ge
  unfold Rt.Gd at h1
  refine gd_iff.2 ?_
  unfold Rt.Gd tkL
  dsimp only
  omega
theorem tk_1 {m : Mb} {p : Rp} (h : myE m p ≠ 0) : tkE m p = myE m p := by unfold tkE; rw [if_neg h]
theorem tk_2 {m : Mb} {p : Rp} (h : myE m p = 0) (h2 : ¬ m.lf.stp + (p.2.1 - m.ep) ≤ 255) : tkE m p = 4 := by unfold tkE; rw [if_pos h, if_neg h2]
theorem tk_3 {m : Mb} {p : Rp} (h : myE m p = 0) (h2 : m.lf.stp + (p.2.1 - m.ep) ≤ 255) (h3 : opn3 p (tkL m p) = false) : tkE m p = 5 := by unfold tkE; rw [if_pos h, if_pos h2, h3]; rfl
theorem tk_4 {m : Mb} {p : Rp} (h : myE m p = 0) (h2 : m.lf.stp + (p.2.1 - m.ep) ≤ 255) (h3 : opn3 p (tkL m p) = true) : tkE m p = 0 := by unfold tkE; rw [if_pos h, if_pos h2, if_pos h3]
theorem tkM_no {m : Mb} {p : Rp} (h : tkE m p ≠ 0) : tkM m p = m := by unfold tkM; rw [if_neg h]
theorem tkM_yes {m : Mb} {p : Rp} (h : tkE m p = 0) : tkM m p = arr m p.2.1 (tkL m p) (ldK p.2.2.1) (ldK p.2.2.2.1) (ldK p.2.2.2.2) := by unfold tkM; rw [if_pos h]
structure TkOk (m : Mb) (p : Rp) : Prop where
  my : MyOk m p
  stp : m.lf.stp + (p.2.1 - m.ep) ≤ 255
  opn : opn3 p (tkL m p) = true
theorem tk_ok {m : Mb} {p : Rp} (h : tkE m p = 0) : TkOk m p := by
  unfold tkE at h
  by_cases h1 : myE m p = 0
  · rw [if_pos h1] at h
    by_cases h2 : m.lf.stp + (p.2.1 - m.ep) ≤ 255
    · rw [if_pos h2] at h
      by_cases h3 : opn3 p (tkL m p) = true
      · exact ⟨my_ok h1, h2, h3⟩
      · rw [if_neg h3] at h; cases h
    · rw [if_neg h2] at h; cases h
  · rw [if_neg h1] at h; exact absurd h h1
theorem ld_gk {b : (Int × Int) × (Int × Int)} (h : gB b = true) : gk (ldK b) = true := (Wi.gB_iff.1 h).2
theorem tk_kind {m : Mb} {p : Rp} (h : tkE m p = 0) : knd (tkM m p) = 3 := by
  have h1 := tk_ok h
  rw [tkM_yes h]
  obtain ⟨g1, g2, g3, g4, g5⟩ := gP_iff.1 h1.my.gp
  exact arr_kind h1.my.sat g2 (h1.my.leaf h1.stp) (ld_gk g3) (ld_gk g4) (ld_gk g5)
theorem tk_right {m : Mb} {p : Rp} (h : 0 ≤ knd m) : 0 ≤ knd (tkM m p) := by
  by_cases h1 : tkE m p = 0
  · rw [tk_kind h1]; decide
  · rw [tkM_no h1]; exact h
end Go.Proofs.YtpimbpfefhkojaaGreat.Rv
/- Recovery on plain data: who stands at a tree, and its reply; one reply is enough; taken again it is old; another leaf key. -/
namespace Go.Proofs.YtpimbpfefhkojaaGreat.Rv
open Go.RowKit Mb
open Rt (Ky zK gd gv Gd gd_iff)
open Rs (tkn fnd)
open Wi (gR gE gW gS gI gB gK gP zP)
set_option linter.unusedVariables false
set_option linter.unusedSimpArgs false

theorem gK_kp (k : Ky) : gK (kp k) = gk k := rfl
theorem ld_bx (u l : Ky) : ldK (bx u l) = l := rfl
theorem opn_bx (u l k : Ky) : opn (bx u l) k = gv k.bas k.stp u.bas u.stp := rfl
theorem hs_3 {m : Mb} (h : knd m = 3) : hsE m = 0 := by unfold hsE; rw [h]; rfl
theorem hs_2 {m : Mb} (h : knd m = 2) : hsE m = 0 := by unfold hsE; rw [h]; rfl
theorem rp_good {m : Mb} (h : knd m = 3) : gP (rpOf m) = true := by
  obtain ⟨hs, ⟨_, h2, _⟩ | ⟨_, _, h0, h1, h2⟩⟩ := knd_sat (.inr h)
  · rw [h] at h2; cases h2
  · refine gP_iff.2 ⟨Wi.gS_iff.2 ⟨Wi.gW_iff.1 hs.who, hs.slot⟩, Wi.gE_iff.2 hs.ep, Wi.gB_iff.2 ⟨hs.lf, h0⟩, Wi.gB_iff.2 ⟨hs.lf, h1⟩, Wi.gB_iff.2 ⟨hs.lf, h2⟩⟩
/- Who is on. -/
theorem on_at {t : Tr} {x : Int} (h : caE t x = 0) : tck t = true ∧ ∃ s : Nat, s < 64 ∧ fnd t.ro x = (s : Int) ∧ tkn (t.ro s) = true ∧ (t.ro s).who = x ∧ stM t x = atS t s 0 := by
  unfold caE at h
  by_cases ht : tck t = true
  · refine ⟨ht, ?_⟩
    rw [if_pos ht] at h
    rcases fnd_at t.ro x with hf | ⟨s, hs, hf, hk, hw⟩
    · rw [hf, if_pos (by decide)] at h; cases h
    · refine ⟨s, hs, hf, hk, hw, ?_⟩
      have := (stM_at ht hs hk).2
      rw [hw] at this
      exact this
  · rw [if_neg ht] at h; cases h
theorem an_at {t : Tr} (ht : tck t = true) {s : Nat} (hs : s < 64) (hk : tkn (t.ro s) = true) {e : Int} (h1 : 1 ≤ e) (h2 : e ≤ t.ep) : anE t (t.ro s).who e = 0 ∧ anP t (t.ro s).who e = rpOf (atS t s 0) := by
  obtain ⟨c1, c2⟩ := stM_at ht hs hk
  have hg : gW (t.ro s).who = true := (atS_sat ht hs hk (b := 0) (.inl rfl)).who
  have hE := anE_5 (e := e) ht hg c1 ⟨h1, h2⟩
  exact ⟨hE, by rw [anP_yes hE, c2]⟩
def bare (m : Mb) (b : Bool) : Mb := if b then ⟨m.who, m.slt, m.ep, m.lf, zK, zK, zK, false, m.out, m.bh⟩ else m
def lagM (t : Tr) (s : Nat) (ba : Bool) (b : Int) : Mb := bare (atS t s b) ba
theorem lag_hs {t : Tr} (ht : tck t = true) {s : Nat} (hs : s < 64) (hk : tkn (t.ro s) = true) (ba : Bool) {b : Int} (hb : b = 0 ∨ (t.ep < b ∧ b ≤ 200)) : hsE (lagM t s ba b) = 0 := by
  cases ba with
  | false => exact hs_3 (atS_kind ht hs hk hb)
  | true =>
    have h := atS_sat ht hs hk hb
    exact hs_2 (Sat.kind2 (m := lagM t s true b) ⟨rfl, h.cd, h.bh⟩ rfl rfl rfl rfl)
theorem lag_has (t : Tr) (s : Nat) (ba : Bool) (b : Int) : (lagM t s ba b).has = !ba := by cases ba <;> rfl
theorem lag_who (t : Tr) (s : Nat) (ba : Bool) (b : Int) : (lagM t s ba b).who = (t.ro s).who := by cases ba <;> rfl
theorem lag_slt (t : Tr) (s : Nat) (ba : Bool) (b : Int) : (lagM t s ba b).slt = (s : Int) := by cases ba <;> rfl
theorem lag_ep (t : Tr) (s : Nat) (ba : Bool) (b : Int) : (lagM t s ba b).ep = t.ep := by cases ba <;> rfl
theorem lag_lf (t : Tr) (s : Nat) (ba : Bool) (b : Int) : (lagM t s ba b).lf = ⟨(t.ro s).bas, t.ep - (t.ro s).snc⟩ := by cases ba <;> rfl
theorem lag_bh (t : Tr) (s : Nat) (ba : Bool) (b : Int) : (lagM t s ba b).bh = b := by cases ba <;> rfl
theorem lag_out (t : Tr) (s : Nat) (ba : Bool) (b : Int) : (lagM t s ba b).out = false := by cases ba <;> rfl
theorem lag_old {t n : Tr} (ht : tck t = true) (hn : tck n = true) {s : Nat} (hs : s < 64) (hk : tkn (t.ro s) = true) (he : n.ro s = t.ro s) {b : Int} (hb : b = 0 ∨ (t.ep < b ∧ b ≤ 200)) (hq : n.ep = t.ep) :
    tkE (lagM t s false b) (rpOf (atS n s 0)) = 21 := by
  have hk' : tkn (n.ro s) = true := by rw [he]; exact hk
  have h := my_4 (m := lagM t s false b) (p := rpOf (atS n s 0)) (lag_hs ht hs hk false hb) (rp_good (atS_kind hn hs hk' (.inl rfl))) ⟨by show (n.ro s).who = (t.ro s).who; rw [he], rfl⟩ (.inr ⟨hq, rfl⟩)
  rw [tk_1 (by rw [h]; decide), h]
theorem again_old {n : Tr} (hn : tck n = true) {s : Nat} (hs : s < 64) (hk : tkn (n.ro s) = true) {b : Int} (hb : b = 0 ∨ (n.ep < b ∧ b ≤ 200)) : tkE (atS n s b) (rpOf (atS n s 0)) = 21 := lag_old hn hn hs hk rfl hb rfl
theorem lag_take {t n : Tr} (ht : tck t = true) (hn : tck n = true) {s : Nat} (hs : s < 64) (hk : tkn (t.ro s) = true) (he : n.ro s = t.ro s) (ba : Bool) {b : Int} (hb : b = 0 ∨ (t.ep < b ∧ b ≤ 200)) (hle : t.ep ≤ n.ep) (hne : ¬ (ba = false ∧ n.ep = t.ep)) :
    tkE (lagM t s ba b) (rpOf (atS n s 0)) = 0 ∧ tkM (lagM t s ba b) (rpOf (atS n s 0)) = atS n s (if b ≤ n.ep then 0 else b) := by
  have hk' : tkn (n.ro s) = true := by rw [he]; exact hk
  have hS := atS_sat hn hs hk' (b := 0) (.inl rfl)
  have hlg := leaf_good hn hs hk'
  rw [he] at hlg
  have h := my_5 (m := lagM t s ba b) (p := rpOf (atS n s 0)) (lag_hs ht hs hk ba hb) (rp_good (atS_kind hn hs hk' (.inl rfl))) ⟨by rw [lag_who]; show (n.ro s).who = _; rw [he], by rw [lag_slt]; rfl⟩ (by
    rw [lag_ep, lag_has]
    show ¬ (n.ep < t.ep ∨ (n.ep = t.ep ∧ _))
    rintro (h | ⟨h1, h2⟩)
    · omega
    · exact hne ⟨by simpa using h2, h1⟩)
  have hl : tkL (lagM t s ba b) (rpOf (atS n s 0)) = ⟨(t.ro s).bas, n.ep - (t.ro s).snc⟩ := by
    unfold tkL
    rw [lag_lf, lag_ep]
    show (⟨(t.ro s).bas, t.ep - (t.ro s).snc + (n.ep - t.ep)⟩ : Ky) = _
    rw [show t.ep - (t.ro s).snc + (n.ep - t.ep) = n.ep - (t.ro s).snc by omega]
  have hme : gv (t.ro s).bas (n.ep - (t.ro s).snc) (t.ro s).bas (n.ep - (t.ro s).snc) = true := gv_me (k := ⟨(t.ro s).bas, n.ep - (t.ro s).snc⟩) hlg
  have h3 : opn3 (rpOf (atS n s 0)) (tkL (lagM t s ba b) (rpOf (atS n s 0))) = true := by
    rw [hl]
    show (gv (t.ro s).bas (n.ep - (t.ro s).snc) (n.ro s).bas (n.ep - (n.ro s).snc) && (gv (t.ro s).bas (n.ep - (t.ro s).snc) (n.ro s).bas (n.ep - (n.ro s).snc) && gv (t.ro s).bas (n.ep - (t.ro s).snc) (n.ro s).bas (n.ep - (n.ro s).snc))) = true
    rw [he, hme]
    rfl
  have h2 : (lagM t s ba b).lf.stp + ((rpOf (atS n s 0)).2.1 - (lagM t s ba b).ep) ≤ 255 := by
    rw [lag_lf, lag_ep]
    show t.ep - (t.ro s).snc + (n.ep - t.ep) ≤ 255
    have := gd_iff.1 hlg
    unfold Rt.Gd at this
    omega
  have hE := tk_4 h h2 h3
  refine ⟨hE, ?_⟩
  rw [tkM_yes hE, hl, arr_eq, lag_who, lag_slt, lag_out, lag_bh]
  show (⟨(t.ro s).who, (s : Int), n.ep, ⟨(t.ro s).bas, n.ep - (t.ro s).snc⟩, n.ks (pn s 0), n.ks (pn s 1), n.ks (pn s 2), true, false, if b ≤ n.ep then 0 else b⟩ : Mb) = _
  unfold atS
  rw [he]
/- Another leaf key. -/
def othM (t : Tr) (s : Nat) (k : Ky) : Mb := ⟨(t.ro s).who, (s : Int), t.ep, k, zK, zK, zK, false, false, 0⟩
theorem oth_bad {t : Tr} {s : Nat} {k : Ky} (h1 : 1 ≤ t.ep) (hg : gk k = false) : hsE (othM t s k) = 30 := by
  have hb : knd (othM t s k) = -1 := by
    unfold knd
    rw [not_blank (m := othM t s k) h1, if_neg (by decide), if_neg (by show ¬ false = true; decide)]
    have : gCd (othM t s k).who (othM t s k).slt (othM t s k).ep (othM t s k).lf = false := by
      unfold gCd
      rw [show gk (othM t s k).lf = false from hg]
      simp
    rw [this]
    rfl
  unfold hsE
  rw [hb]
  rfl
theorem oth_take {t : Tr} (ht : tck t = true) {s : Nat} (hs : s < 64) (hk : tkn (t.ro s) = true) {k : Ky} (hg : gk k = true) :
    tkE (othM t s k) (rpOf (atS t s 0)) = if gv k.bas k.stp (t.ro s).bas (t.ep - (t.ro s).snc) then 0 else 5 := by
  have hS := atS_sat ht hs hk (b := 0) (.inl rfl)
  have hO : Sat (othM t s k) := ⟨rfl, adv_card hS.cd (Wi.gE_iff.2 hS.ep) hg, bh_iff.2 (.inl rfl)⟩
  have h := my_5 (m := othM t s k) (p := rpOf (atS t s 0)) (hs_2 (hO.kind2 rfl rfl rfl rfl)) (rp_good (atS_kind ht hs hk (.inl rfl))) ⟨rfl, rfl⟩ (by
    show ¬ (t.ep < t.ep ∨ (t.ep = t.ep ∧ false = true))
    simp)
  have hl : tkL (othM t s k) (rpOf (atS t s 0)) = k := by
    show (⟨k.bas, k.stp + (t.ep - t.ep)⟩ : Ky) = k
    rw [show k.stp + (t.ep - t.ep) = k.stp by omega]
  have h2 : (othM t s k).lf.stp + ((rpOf (atS t s 0)).2.1 - (othM t s k).ep) ≤ 255 := by
    show k.stp + (t.ep - t.ep) ≤ 255
    have := gd_iff.1 hg
    unfold Rt.Gd at this
    omega
  have h3 : opn3 (rpOf (atS t s 0)) (tkL (othM t s k) (rpOf (atS t s 0))) = gv k.bas k.stp (t.ro s).bas (t.ep - (t.ro s).snc) := by
    rw [hl]
    show (gv k.bas k.stp (t.ro s).bas (t.ep - (t.ro s).snc) && (gv k.bas k.stp (t.ro s).bas (t.ep - (t.ro s).snc) && gv k.bas k.stp (t.ro s).bas (t.ep - (t.ro s).snc))) = _
    cases gv k.bas k.stp (t.ro s).bas (t.ep - (t.ro s).snc) <;> rfl
  cases hq : gv k.bas k.stp (t.ro s).bas (t.ep - (t.ro s).snc) with
  | true => rw [hq] at h3; rw [tk_4 h h2 h3]; rfl
  | false => rw [hq] at h3; rw [tk_3 h h2 h3]; rfl
end Go.Proofs.YtpimbpfefhkojaaGreat.Rv
