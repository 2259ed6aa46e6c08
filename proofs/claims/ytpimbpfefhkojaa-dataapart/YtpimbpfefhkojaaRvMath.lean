/- Recovery on plain data: what a state is told, its request, the server's reply, the state behind it; one reply is enough. -/
import Derived.Test.YtpimbpfefhkojaaMbMath3
namespace Go.Proofs.Ytpimbpfefhkojaa.Rv
open Go.RowKit Mb
open Rt (Ky zK gd gv Gd gd_iff)
open Rs (tkn fnd)
open Wi (gR gE gW gS gI gB gK gP zP)
set_option linter.unusedVariables false
set_option linter.unusedSimpArgs false

abbrev Rp := (Int × Int) × (Int × (((Int × Int) × (Int × Int)) × (((Int × Int) × (Int × Int)) × ((Int × Int) × (Int × Int)))))
def hsE (m : Mb) : Int := if knd m = 2 then 0 else if knd m = 3 then 0 else if knd m = 1 then 20 else 30
def nds (m : Mb) : Bool := decide (knd m = 2) || (decide (knd m = 3) && !decide (m.bh = 0))
def akW (m : Mb) : Int := if hsE m = 0 then m.who else 0
def akP (m : Mb) : Int := if hsE m = 0 then m.ep else 0
theorem hs_cases (m : Mb) : (knd m = 1 ∧ hsE m = 20) ∨ (knd m = 2 ∧ hsE m = 0) ∨ (knd m = 3 ∧ hsE m = 0) ∨ ((knd m = -1 ∨ knd m = 0) ∧ hsE m = 30) := by
  unfold hsE
  rcases knd_cases m with h | h | h | h | h <;> rw [h] <;> decide
theorem hs_ok {m : Mb} (h : hsE m = 0) : knd m = 2 ∨ knd m = 3 := by
  rcases hs_cases m with ⟨a, b⟩ | ⟨a, b⟩ | ⟨a, b⟩ | ⟨a, b⟩
  · rw [b] at h; cases h
  · exact .inl a
  · exact .inr a
  · rw [b] at h; cases h
theorem nds_eq (m : Mb) : nds m = (decide (hsE m = 0) && (!m.has || !decide (m.bh = 0))) := by
  unfold nds
  rcases hs_cases m with ⟨a, b⟩ | ⟨a, b⟩ | ⟨a, b⟩ | ⟨a, b⟩
  · rw [a, b]; rfl
  · rcases (knd_sat (.inl a)).2 with ⟨c, _⟩ | ⟨c, d, _⟩
    · rw [a, b, c]; rfl
    · rw [a] at d; cases d
  · rcases (knd_sat (.inr a)).2 with ⟨c, d, _⟩ | ⟨c, _⟩
    · rw [a] at d; cases d
    · rw [a, b, c]; rfl
  · rcases a with a | a <;> rw [a, b] <;> rfl
/- The reply. -/
def kp (k : Ky) : Int × Int := (k.bas, k.stp)
def bx (u l : Ky) : (Int × Int) × (Int × Int) := (kp u, kp l)
def rpOf (m : Mb) : Rp := ((m.who, m.slt), (m.ep, (bx m.lf m.p0, (bx m.lf m.p1, bx m.lf m.p2))))
def anE (t : Tr) (x e : Int) : Int := if tck t then (if gW x then (if caE t x = 0 then (if 1 ≤ e ∧ e ≤ t.ep then 0 else 32) else 16) else 14) else 31
def anP (t : Tr) (x e : Int) : Rp := if anE t x e = 0 then rpOf (stM t x) else zP
theorem anE_1 {t : Tr} {x e : Int} (h : tck t = false) : anE t x e = 31 := by unfold anE; rw [h]; rfl
theorem anE_2 {t : Tr} {x e : Int} (h : tck t = true) (h2 : gW x = false) : anE t x e = 14 := by unfold anE; rw [h, h2]; rfl
theorem anE_3 {t : Tr} {x e : Int} (h : tck t = true) (h2 : gW x = true) (h3 : caE t x ≠ 0) : anE t x e = 16 := by unfold anE; rw [h, h2, if_pos rfl, if_pos rfl, if_neg h3]
theorem anE_4 {t : Tr} {x e : Int} (h : tck t = true) (h2 : gW x = true) (h3 : caE t x = 0) (h4 : ¬ (1 ≤ e ∧ e ≤ t.ep)) : anE t x e = 32 := by unfold anE; rw [h, h2, if_pos rfl, if_pos rfl, if_pos h3, if_neg h4]
theorem anE_5 {t : Tr} {x e : Int} (h : tck t = true) (h2 : gW x = true) (h3 : caE t x = 0) (h4 : 1 ≤ e ∧ e ≤ t.ep) : anE t x e = 0 := by unfold anE; rw [h, h2, if_pos rfl, if_pos rfl, if_pos h3, if_pos h4]
theorem anP_no {t : Tr} {x e : Int} (h : anE t x e ≠ 0) : anP t x e = zP := by unfold anP; rw [if_neg h]
theorem anP_yes {t : Tr} {x e : Int} (h : anE t x e = 0) : anP t x e = rpOf (stM t x) := by unfold anP; rw [if_pos h]
theorem caE_16 {t : Tr} {x : Int} (h : tck t = true) (h2 : caE t x ≠ 0) : caE t x = 16 := by
  unfold caE at h2 ⊢
  rw [if_pos h] at h2 ⊢
  by_cases hf : fnd t.ro x < 0
  · rw [if_pos hf]
  · rw [if_neg hf] at h2; exact absurd rfl h2
/- Taken. -/
def tkL (m : Mb) (p : Rp) : Ky := ⟨m.lf.bas, m.lf.stp + (p.2.1 - m.ep)⟩
def opn3 (p : Rp) (k : Ky) : Bool := opn p.2.2.1 k && (opn p.2.2.2.1 k && opn p.2.2.2.2 k)
def myE (m : Mb) (p : Rp) : Int := if hsE m = 0 then (if gP p then (if p.1.1 = m.who ∧ p.1.2 = m.slt then (if p.2.1 < m.ep ∨ (p.2.1 = m.ep ∧ m.has = true) then 21 else 0) else 24) else 13) else hsE m
def tkE (m : Mb) (p : Rp) : Int := if myE m p = 0 then (if m.lf.stp + (p.2.1 - m.ep) ≤ 255 then (if opn3 p (tkL m p) then 0 else 5) else 4) else myE m p
def tkM (m : Mb) (p : Rp) : Mb := if tkE m p = 0 then arr m p.2.1 (tkL m p) (ldK p.2.2.1) (ldK p.2.2.2.1) (ldK p.2.2.2.2) else m
theorem my_1 {m : Mb} {p : Rp} (h : hsE m ≠ 0) : myE m p = hsE m := by unfold myE; rw [if_neg h]
theorem my_2 {m : Mb} {p : Rp} (h : hsE m = 0) (h2 : gP p = false) : myE m p = 13 := by unfold myE; rw [if_pos h, h2]; rfl
theorem my_3 {m : Mb} {p : Rp} (h : hsE m = 0) (h2 : gP p = true) (h3 : ¬ (p.1.1 = m.who ∧ p.1.2 = m.slt)) : myE m p = 24 := by unfold myE; rw [if_pos h, if_pos h2, if_neg h3]
theorem my_4 {m : Mb} {p : Rp} (h : hsE m = 0) (h2 : gP p = true) (h3 : p.1.1 = m.who ∧ p.1.2 = m.slt) (h4 : p.2.1 < m.ep ∨ (p.2.1 = m.ep ∧ m.has = true)) : myE m p = 21 := by unfold myE; rw [if_pos h, if_pos h2, if_pos h3, if_pos h4]
theorem my_5 {m : Mb} {p : Rp} (h : hsE m = 0) (h2 : gP p = true) (h3 : p.1.1 = m.who ∧ p.1.2 = m.slt) (h4 : ¬ (p.2.1 < m.ep ∨ (p.2.1 = m.ep ∧ m.has = true))) : myE m p = 0 := by unfold myE; rw [if_pos h, if_pos h2, if_pos h3, if_neg h4]
structure MyOk (m : Mb) (p : Rp) : Prop where
  hs : hsE m = 0
  gp : gP p = true
  who : p.1.1 = m.who
  slt : p.1.2 = m.slt
  old : ¬ (p.2.1 < m.ep ∨ (p.2.1 = m.ep ∧ m.has = true))
theorem my_ok {m : Mb} {p : Rp} (h : myE m p = 0) : MyOk m p := by
  unfold myE at h
  by_cases h1 : hsE m = 0
  · rw [if_pos h1] at h
    by_cases h2 : gP p = true
    · rw [if_pos h2] at h
      by_cases h3 : p.1.1 = m.who ∧ p.1.2 = m.slt
      · rw [if_pos h3] at h
        by_cases h4 : p.2.1 < m.ep ∨ (p.2.1 = m.ep ∧ m.has = true)
        · rw [if_pos h4] at h; cases h
        · exact ⟨h1, h2, h3.1, h3.2, h4⟩
      · rw [if_neg h3] at h; cases h
    · rw [if_neg h2] at h; cases h
  · rw [if_neg h1] at h; exact absurd h h1
theorem MyOk.sat {m : Mb} {p : Rp} (h : MyOk m p) : Sat m := (knd_sat (hs_ok h.hs)).1
theorem gP_iff {p : Rp} : gP p = true ↔ gS p.1 = true ∧ gE p.2.1 = true ∧ gB p.2.2.1 = true ∧ gB p.2.2.2.1 = true ∧ gB p.2.2.2.2 = true := by
  unfold Wi.gP
  simp only [Bool.and_eq_true]
theorem MyOk.ge {m : Mb} {p : Rp} (h : MyOk m p) : m.ep ≤ p.2.1 := by have := h.old; omega
theorem MyOk.eps {m : Mb} {p : Rp} (h : MyOk m p) : 1 ≤ p.2.1 ∧ p.2.1 ≤ 200 := Wi.gE_iff.1 (gP_iff.1 h.gp).2.1
theorem MyOk.lf {m : Mb} {p : Rp} (h : MyOk m p) : Gd m.lf.bas m.lf.stp := gd_iff.1 h.sat.lf
theorem MyOk.leaf {m : Mb} {p : Rp} (h : MyOk m p) (hs : m.lf.stp + (p.2.1 - m.ep) ≤ 255) : gk (tkL m p) = true := by
  have h1 := h.lf
  have h2 := h.ge
  unfold Rt.Gd at h1
  refine gd_iff.2 ?_
  unfold Rt.Gd tkL
  dsimp only
  omega
theorem tk_1 {m : Mb} {p : Rp} (h : myE m p ≠ 0) : tkE m p = myE m p := by unfold tkE; rw [if_neg h]
theorem tk_2 {m : Mb} {p : Rp} (h : myE m p = 0) (h2 : ¬ m.lf.stp + (p.2.1 - m.ep) ≤ 255) : tkE m p = 4 := by unfold tkE; rw [if_pos h, if_neg h2]
theorem tk_3 {m : Mb} {p : Rp} (h : myE m p = 0) (h2 : m.lf.stp + (p.2.1 - m.ep) ≤ 255) (h3 : opn3 p (tkL m p) = false) : tkE m p = 5 := by unfold tkE; rw [if_pos h, if_pos h2, h3]; rfl
theorem tk_4 {m : Mb} {p : Rp} (h : myE m p = 0) (h2 : m.lf.stp + (p.2.1 - m.ep) ≤ 255) (h3 : opn3 p (tkL m p) = true) : tkE m p = 0 := by unfold tkE; rw [if_pos h, if_pos h2, if_pos h3]
theorem tkM_no {m : Mb} {p : Rp} (h : tkE m p ≠ 0) : tkM m p = m := by unfold tkM; rw [if_neg h]
theorem tkM_yes {m : Mb} {p : Rp} (h : tkE m p = 0) : tkM m p = arr m p.2.1 (tkL m p) (ldK p.2.2.1) (ldK p.2.2.2.1) (ldK p.2.2.2.2) := by unfold tkM; rw [if_pos h]
structure TkOk (m : Mb) (p : Rp) : Prop where
  my : MyOk m p
  stp : m.lf.stp + (p.2.1 - m.ep) ≤ 255
  opn : opn3 p (tkL m p) = true
theorem tk_ok {m : Mb} {p : Rp} (h : tkE m p = 0) : TkOk m p := by
  unfold tkE at h
  by_cases h1 : myE m p = 0
  · rw [if_pos h1] at h
    by_cases h2 : m.lf.stp + (p.2.1 - m.ep) ≤ 255
    · rw [if_pos h2] at h
      by_cases h3 : opn3 p (tkL m p) = true
      · exact ⟨my_ok h1, h2, h3⟩
      · rw [if_neg h3] at h; cases h
    · rw [if_neg h2] at h; cases h
  · rw [if_neg h1] at h; exact absurd h h1
theorem ld_gk {b : (Int × Int) × (Int × Int)} (h : gB b = true) : gk (ldK b) = true := (Wi.gB_iff.1 h).2
theorem tk_kind {m : Mb} {p : Rp} (h : tkE m p = 0) : knd (tkM m p) = 3 := by
  have h1 := tk_ok h
  rw [tkM_yes h]
  obtain ⟨g1, g2, g3, g4, g5⟩ := gP_iff.1 h1.my.gp
  exact arr_kind h1.my.sat g2 (h1.my.leaf h1.stp) (ld_gk g3) (ld_gk g4) (ld_gk g5)
theorem tk_right {m : Mb} {p : Rp} (h : 0 ≤ knd m) : 0 ≤ knd (tkM m p) := by
  by_cases h1 : tkE m p = 0
  · rw [tk_kind h1]; decide
  · rw [tkM_no h1]; exact h
end Go.Proofs.Ytpimbpfefhkojaa.Rv
