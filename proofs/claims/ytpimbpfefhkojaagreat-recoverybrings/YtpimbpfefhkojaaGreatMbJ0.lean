/- MbMath, MbMath2, joined. -/
import Derived.Test.YtpimbpfefhkojaaGreatWiJ0
import Derived.Test.YtpimbpfefhkojaaGreatRtJ
import Derived.Test.YtpimbpfefhkojaaGreatKeyJ
import Derived.Test.YtpimbpfefhkojaaGreatPlMath
/- Member states on plain data: their kinds, a rekey message applied; right ones stay right; beside an error nothing changes but Behind; one way. -/
namespace Go.Proofs.YtpimbpfefhkojaaGreat.Mb
open Go.RowKit
open Rt (Ky zK gd gv Gd gd_iff)
open Wi (gR gE gW gS gI gB gK)
set_option linter.unusedVariables false
set_option linter.unusedSimpArgs false

structure Mb where
  who : Int
  slt : Int
  ep : Int
  lf : Ky
  p0 : Ky
  p1 : Ky
  p2 : Ky
  has : Bool
  out : Bool
  bh : Int
theorem ky_ext {a b : Ky} (h1 : a.bas = b.bas) (h2 : a.stp = b.stp) : a = b := by cases a; cases b; simp_all
def kE (a b : Ky) : Bool := decide (a.bas = b.bas) && decide (a.stp = b.stp)
theorem kE_iff {a b : Ky} : kE a b = true ↔ a = b := by
  simp only [kE, Bool.and_eq_true, decide_eq_true_eq]
  exact ⟨fun h => ky_ext h.1 h.2, fun h => by rw [h]; exact ⟨rfl, rfl⟩⟩
def mE (a b : Mb) : Bool := decide (a.who = b.who) && (decide (a.slt = b.slt) && (decide (a.ep = b.ep) && (kE a.lf b.lf && (kE a.p0 b.p0 && (kE a.p1 b.p1 && (kE a.p2 b.p2 && ((a.has == b.has) && ((a.out == b.out) && decide (a.bh = b.bh)))))))))
theorem mE_iff {a b : Mb} : mE a b = true ↔ a = b := by
  obtain ⟨a1, a2, a3, a4, a5, a6, a7, a8, a9, a0⟩ := a
  obtain ⟨b1, b2, b3, b4, b5, b6, b7, b8, b9, b0⟩ := b
  simp only [mE, Bool.and_eq_true, decide_eq_true_eq, kE_iff, beq_iff_eq, Mb.mk.injEq]
def zMb : Mb := ⟨0, 0, 0, zK, zK, zK, zK, false, false, 0⟩
def outM (w e : Int) : Mb := ⟨w, 0, e, zK, zK, zK, zK, false, true, 0⟩
def gk (k : Ky) : Bool := gd k.bas k.stp
def gCd (w s e : Int) (k : Ky) : Bool := gW w && ((decide (0 ≤ s) && decide (s < 64)) && (gE e && gk k))
def bhB (m : Mb) : Bool := decide (m.bh = 0) || (decide (m.ep < m.bh) && decide (m.bh ≤ 200))
/- The kind: 0 blank, 1 out, 2 without a path, 3 with one; -1 not right. -/
def knd (m : Mb) : Int :=
  if mE m zMb then 0
  else if m.out then (if mE m (outM m.who m.ep) && (gW m.who && gE m.ep) then 1 else -1)
  else if gCd m.who m.slt m.ep m.lf && bhB m then
    (if m.has then (if gk m.p0 && (gk m.p1 && gk m.p2) then 3 else -1) else (if kE m.p0 zK && (kE m.p1 zK && kE m.p2 zK) then 2 else -1))
  else -1
def seaE (w s e : Int) (k : Ky) : Int := if gCd w s e k then 0 else 30
def seaM (w s e : Int) (k : Ky) : Mb := if gCd w s e k then ⟨w, s, e, k, zK, zK, zK, false, false, 0⟩ else zMb
def grE (m : Mb) : Int := if knd m = 1 then 20 else if knd m = 2 then 22 else if knd m = 3 then 0 else 30
def grK (m : Mb) : Ky := if knd m = 3 then m.p2 else zK
theorem gE_no : gE 0 = false := by decide
theorem gCd_ep {w s e : Int} {k : Ky} (h : gCd w s e k = true) : 1 ≤ e ∧ e ≤ 200 := by
  simp only [gCd, Bool.and_eq_true] at h
  exact Wi.gE_iff.1 h.2.2.1
theorem not_blank {m : Mb} (h : 1 ≤ m.ep) : mE m zMb = false := by
  cases e : mE m zMb with
  | false => rfl
  | true => rw [mE_iff.1 e] at h; exact absurd h (by decide)
theorem sea_kind {w s e : Int} {k : Ky} (h : gCd w s e k = true) : knd (seaM w s e k) = 2 := by
  have hp := gCd_ep h
  unfold seaM
  rw [if_pos h]
  unfold knd
  rw [not_blank (by exact hp.1)]
  have hz : kE zK zK = true := kE_iff.2 rfl
  simp [h, bhB, hz]
abbrev Rk := Int × (List (Int × Int) × (List (Int × Int) × List ((Int × Int) × ((Int × Int) × (Int × Int)))))
/- The first item for a node from another one; a box opened. -/
def fstI (I : List ((Int × Int) × ((Int × Int) × (Int × Int)))) (v f : Int) : Option ((Int × Int) × (Int × Int)) := (I.find? fun i => decide (i.1.1 = v) && decide (i.1.2 = f)).map (·.2)
def opn (b : (Int × Int) × (Int × Int)) (k : Ky) : Bool := gv k.bas k.stp b.1.1 b.1.2
def ldK (b : (Int × Int) × (Int × Int)) : Ky := ⟨b.2.1, b.2.2⟩
/- An entry's place: the error, the key. -/
def enP (I : List ((Int × Int) × ((Int × Int) × (Int × Int)))) (v leaf below : Int) (lf k : Ky) : Int × Ky :=
  match fstI I v leaf with
  | some b => if opn b lf then (0, ldK b) else (5, zK)
  | none => match fstI I v below with
    | some b => if opn b k then (0, ldK b) else (5, zK)
    | none => (23, zK)
def adv (k : Ky) : Ky := ⟨k.bas, k.stp + 1⟩
def advB (k : Ky) : Bool := gk k && decide (k.stp < 255)
/- A place that is followed: the error, the key. -/
def foP (I : List ((Int × Int) × ((Int × Int) × (Int × Int)))) (r : Bool) (v below : Int) (old k : Ky) : Int × Ky :=
  if r then (match fstI I v below with
    | some b => if opn b k then (0, ldK b) else (5, zK)
    | none => (23, zK))
  else (if advB old then (0, adv old) else (4, zK))
theorem fst_mem {I : List ((Int × Int) × ((Int × Int) × (Int × Int)))} {v f : Int} {b : (Int × Int) × (Int × Int)} (h : fstI I v f = some b) : ((v, f), b) ∈ I := by
  unfold fstI at h
  rw [Option.map_eq_some_iff] at h
  obtain ⟨i, hi, e⟩ := h
  have h1 := List.find?_some hi
  have h2 := List.mem_of_find?_eq_some hi
  simp only [Bool.and_eq_true, decide_eq_true_eq] at h1
  obtain ⟨⟨a, c⟩, d⟩ := i
  obtain ⟨h3, h4⟩ := h1
  dsimp only at h3 h4 e
  subst h3 h4 e
  exact h2
theorem ld_good {I : List ((Int × Int) × ((Int × Int) × (Int × Int)))} (hI : I.all gI = true) {v f : Int} {b : (Int × Int) × (Int × Int)} (h : fstI I v f = some b) : gk (ldK b) = true := by
  have h1 := List.all_eq_true.1 hI _ (fst_mem h)
  exact (Wi.gI_iff.1 h1).2.2.2
theorem en_good {I : List ((Int × Int) × ((Int × Int) × (Int × Int)))} (hI : I.all gI = true) {v leaf below : Int} {lf k : Ky} (h : (enP I v leaf below lf k).1 = 0) : gk (enP I v leaf below lf k).2 = true := by
  unfold enP at h ⊢
  cases e1 : fstI I v leaf with
  | some b =>
    rw [e1] at h
    dsimp only at h ⊢
    split
    · exact ld_good hI e1
    · rename_i h2; rw [if_neg h2] at h; exact absurd h (by decide)
  | none =>
    rw [e1] at h
    dsimp only at h ⊢
    cases e2 : fstI I v below with
    | some b =>
      rw [e2] at h
      dsimp only at h ⊢
      split
      · exact ld_good hI e2
      · rename_i h2; rw [if_neg h2] at h; exact absurd h (by decide)
    | none => rw [e2] at h; exact absurd (show (23 : Int) = 0 from h) (by decide)
theorem adv_good {k : Ky} (h : advB k = true) : gk (adv k) = true := by
  unfold advB gk at h
  simp only [Bool.and_eq_true, decide_eq_true_eq] at h
  have h1 := gd_iff.1 h.1
  exact gd_iff.2 ⟨h1.1, h1.2.1, by show 0 ≤ k.stp + 1; have := h1.2.2.1; omega, by show k.stp + 1 ≤ 255; omega⟩
theorem fo_good {I : List ((Int × Int) × ((Int × Int) × (Int × Int)))} (hI : I.all gI = true) {r : Bool} {v below : Int} {old k : Ky} (h : (foP I r v below old k).1 = 0) : gk (foP I r v below old k).2 = true := by
  unfold foP at h ⊢
  cases r with
  | true =>
    rw [if_pos rfl] at h ⊢
    cases e2 : fstI I v below with
    | some b =>
      rw [e2] at h
      dsimp only at h ⊢
      split
      · exact ld_good hI e2
      · rename_i h2; rw [if_neg h2] at h; exact absurd h (by decide)
    | none => rw [e2] at h; exact absurd (show (23 : Int) = 0 from h) (by decide)
  | false =>
    rw [if_neg (by decide)] at h ⊢
    split
    · rename_i h2; exact adv_good h2
    · rename_i h2; rw [if_neg h2] at h; exact absurd h (by decide)
end Go.Proofs.YtpimbpfefhkojaaGreat.Mb
/- A rekey message applied, on plain data: the answer and the state; right ones stay right; beside an error nothing changes but Behind; one way. -/
namespace Go.Proofs.YtpimbpfefhkojaaGreat.Mb
open Go.RowKit
open Rt (Ky zK gd gv Gd gd_iff)
open Wi (gR gE gW gS gI gB gK)
set_option linter.unusedVariables false
set_option linter.unusedSimpArgs false

abbrev Im := (Int × Int) × ((Int × Int) × (Int × Int))
def nd (s : Int) (i : Nat) : Int := ((pn s.toNat i : Nat) : Int)
def en0 (m : Mb) (I : List Im) : Int × Ky := enP I (nd m.slt 0) (21 + m.slt) (21 + m.slt) m.lf m.lf
def en1 (m : Mb) (I : List Im) : Int × Ky := enP I (nd m.slt 1) (21 + m.slt) (nd m.slt 0) m.lf (en0 m I).2
def en2 (m : Mb) (I : List Im) : Int × Ky := enP I (nd m.slt 2) (21 + m.slt) (nd m.slt 1) m.lf (en1 m I).2
def enEr (m : Mb) (I : List Im) : Int := if (en0 m I).1 = 0 then (if (en1 m I).1 = 0 then (en2 m I).1 else (en1 m I).1) else (en0 m I).1
def bh0 (m : Mb) : Mb := ⟨m.who, m.slt, m.ep, m.lf, m.p0, m.p1, m.p2, m.has, m.out, 0⟩
def calm (m : Mb) : Mb := if m.bh ≤ m.ep then bh0 m else m
def arr (m : Mb) (e : Int) (l a b c : Ky) : Mb := calm ⟨m.who, m.slt, e, l, a, b, c, true, m.out, m.bh⟩
def entr (m : Mb) (r : Rk) : Int × Mb := if enEr m r.2.2.2 = 0 then (0, arr m r.1 m.lf (en0 m r.2.2.2).2 (en1 m r.2.2.2).2 (en2 m r.2.2.2).2) else (enEr m r.2.2.2, m)
def fo0 (m : Mb) (r : Rk) : Int × Ky := foP r.2.2.2 (rpl r.2.1 (pn m.slt.toNat 0)) (nd m.slt 0) (21 + m.slt) m.p0 (adv m.lf)
def fo1 (m : Mb) (r : Rk) : Int × Ky := foP r.2.2.2 (rpl r.2.1 (pn m.slt.toNat 1)) (nd m.slt 1) (nd m.slt 0) m.p1 (fo0 m r).2
def fo2 (m : Mb) (r : Rk) : Int × Ky := foP r.2.2.2 (rpl r.2.1 (pn m.slt.toNat 2)) (nd m.slt 2) (nd m.slt 1) m.p2 (fo1 m r).2
def foEr (m : Mb) (r : Rk) : Int := if advB m.lf then (if (fo0 m r).1 = 0 then (if (fo1 m r).1 = 0 then (fo2 m r).1 else (fo1 m r).1) else (fo0 m r).1) else 4
def foll (m : Mb) (r : Rk) : Int × Mb := if foEr m r = 0 then (0, arr m r.1 (adv m.lf) (fo0 m r).2 (fo1 m r).2 (fo2 m r).2) else (foEr m r, m)
def lvs (L : List (Int × Int)) (w : Int) : Bool := L.any fun p => decide (p.1 = w)
def stds (J : List (Int × Int)) (p : Int × Int) : Bool := J.any fun q => decide (q.1 = p.1) && decide (q.2 = p.2)
def gapM (m : Mb) (e : Int) : Mb := ⟨m.who, m.slt, m.ep, m.lf, m.p0, m.p1, m.p2, m.has, m.out, if m.bh < e then e else m.bh⟩
def apl (m : Mb) (r : Rk) : Int × Mb :=
  if knd m < 1 then (30, m) else if knd m = 1 then (20, m) else if gR r = false then (13, m)
  else if r.1 < m.ep ∨ (r.1 = m.ep ∧ m.has = true) then (21, m)
  else if r.1 = m.ep then (if stds r.2.2.1 (m.who, m.slt) then entr m r else (22, m))
  else if r.1 = m.ep + 1 ∧ m.has = true then (if lvs r.2.1 m.who then (0, outM m.who r.1) else foll m r)
  else (22, gapM m r.1)
/- Kinds. -/
theorem knd_cases (m : Mb) : knd m = -1 ∨ knd m = 0 ∨ knd m = 1 ∨ knd m = 2 ∨ knd m = 3 := by
  unfold knd
  repeat' split
  all_goals simp
structure Sat (m : Mb) : Prop where
  out : m.out = false
  cd : gCd m.who m.slt m.ep m.lf = true
  bh : bhB m = true
theorem Sat.ep {m : Mb} (h : Sat m) : 1 ≤ m.ep ∧ m.ep ≤ 200 := gCd_ep h.cd
theorem Sat.slot {m : Mb} (h : Sat m) : 0 ≤ m.slt ∧ m.slt < 64 := by
  have h1 := h.cd
  simp only [gCd, Bool.and_eq_true, decide_eq_true_eq] at h1
  exact h1.2.1
theorem Sat.who {m : Mb} (h : Sat m) : gW m.who = true := by
  have h1 := h.cd
  simp only [gCd, Bool.and_eq_true] at h1
  exact h1.1
theorem Sat.lf {m : Mb} (h : Sat m) : gk m.lf = true := by
  have h1 := h.cd
  simp only [gCd, Bool.and_eq_true] at h1
  exact h1.2.2.2
theorem zz : kE zK zK = true := kE_iff.2 rfl
theorem knd_sat {m : Mb} (h : knd m = 2 ∨ knd m = 3) : Sat m ∧ ((m.has = false ∧ knd m = 2 ∧ m.p0 = zK ∧ m.p1 = zK ∧ m.p2 = zK) ∨ (m.has = true ∧ knd m = 3 ∧ gk m.p0 = true ∧ gk m.p1 = true ∧ gk m.p2 = true)) := by
  have hk := h
  unfold knd at h
  by_cases c0 : mE m zMb = true
  · rw [if_pos c0] at h; rcases h with h | h <;> cases h
  · rw [if_neg c0] at h
    cases ho : m.out with
    | true =>
      rw [if_pos ho] at h
      split at h <;> rcases h with h | h <;> cases h
    | false =>
      rw [if_neg (by rw [ho]; decide)] at h
      by_cases c1 : (gCd m.who m.slt m.ep m.lf && bhB m) = true
      · rw [if_pos c1] at h
        rw [Bool.and_eq_true] at c1
        refine ⟨⟨ho, c1.1, c1.2⟩, ?_⟩
        cases hh : m.has with
        | true =>
          rw [if_pos hh] at h
          by_cases c2 : (gk m.p0 && (gk m.p1 && gk m.p2)) = true
          · rw [if_pos c2] at h
            simp only [Bool.and_eq_true] at c2
            refine .inr ⟨rfl, ?_, c2.1, c2.2.1, c2.2.2⟩
            rcases h with h | h
            · cases h
            · rcases hk with k | k
              · exfalso; unfold knd at k; rw [if_neg c0, if_neg (by rw [ho]; decide), if_pos (by rw [Bool.and_eq_true]; exact c1), if_pos hh, if_pos (by simp only [Bool.and_eq_true]; exact c2)] at k; cases k
              · exact k
          · rw [if_neg c2] at h; rcases h with h | h <;> cases h
        | false =>
          rw [if_neg (by rw [hh]; decide)] at h
          by_cases c2 : (kE m.p0 zK && (kE m.p1 zK && kE m.p2 zK)) = true
          · rw [if_pos c2] at h
            simp only [Bool.and_eq_true, kE_iff] at c2
            refine .inl ⟨rfl, ?_, c2.1, c2.2.1, c2.2.2⟩
            rcases hk with k | k
            · exact k
            · exfalso; unfold knd at k; rw [if_neg c0, if_neg (by rw [ho]; decide), if_pos (by rw [Bool.and_eq_true]; exact c1), if_neg (by rw [hh]; decide), if_pos (by simp only [Bool.and_eq_true, kE_iff]; exact c2)] at k; cases k
          · rw [if_neg c2] at h; rcases h with h | h <;> cases h
      · rw [if_neg c1] at h; rcases h with h | h <;> cases h
theorem Sat.kind3 {m : Mb} (h : Sat m) (hh : m.has = true) (h0 : gk m.p0 = true) (h1 : gk m.p1 = true) (h2 : gk m.p2 = true) : knd m = 3 := by
  unfold knd
  rw [not_blank h.ep.1, if_neg (by decide), if_neg (by rw [h.out]; decide), if_pos (by rw [h.cd, h.bh]; rfl), if_pos hh, if_pos (by rw [h0, h1, h2]; rfl)]
theorem Sat.kind2 {m : Mb} (h : Sat m) (hh : m.has = false) (h0 : m.p0 = zK) (h1 : m.p1 = zK) (h2 : m.p2 = zK) : knd m = 2 := by
  unfold knd
  rw [not_blank h.ep.1, if_neg (by decide), if_neg (by rw [h.out]; decide), if_pos (by rw [h.cd, h.bh]; rfl), if_neg (by rw [hh]; decide), if_pos (by rw [h0, h1, h2, zz]; rfl)]
theorem out_kind {w e : Int} (h : gW w = true) (h1 : gE e = true) : knd (outM w e) = 1 := by
  unfold knd
  have h2 := Wi.gE_iff.1 h1
  rw [not_blank (m := outM w e) (by exact h2.1), if_neg (by decide), if_pos (show (outM w e).out = true from rfl)]
  have hq : (mE (outM w e) (outM (outM w e).who (outM w e).ep) && (gW (outM w e).who && gE (outM w e).ep)) = true := by
    show (mE (outM w e) (outM w e) && (gW w && gE e)) = true
    rw [mE_iff.2 rfl, h, h1]
    rfl
  rw [if_pos hq]
theorem bh_iff {m : Mb} : bhB m = true ↔ m.bh = 0 ∨ (m.ep < m.bh ∧ m.bh ≤ 200) := by simp [bhB]
theorem adv_card {w s e : Int} {k : Ky} (h : gCd w s e k = true) {e' : Int} (he : gE e' = true) {l : Ky} (hl : gk l = true) : gCd w s e' l = true := by
  simp only [gCd, Bool.and_eq_true] at h ⊢
  exact ⟨h.1, h.2.1, he, hl⟩
theorem arr_eq (m : Mb) (e : Int) (l a b c : Ky) : arr m e l a b c = ⟨m.who, m.slt, e, l, a, b, c, true, m.out, if m.bh ≤ e then 0 else m.bh⟩ := by
  unfold arr calm bh0
  dsimp only
  split <;> rfl
theorem arr_kind {m : Mb} (h : Sat m) {e : Int} (he : gE e = true) {l a b c : Ky} (hl : gk l = true) (ha : gk a = true) (hb : gk b = true) (hc : gk c = true) : knd (arr m e l a b c) = 3 := by
  have h2 := Wi.gE_iff.1 he
  rw [arr_eq]
  refine Sat.kind3 ⟨h.out, adv_card h.cd he hl, bh_iff.2 ?_⟩ rfl ha hb hc
  dsimp only
  have := bh_iff.1 h.bh
  split
  · exact .inl rfl
  · right
    have := h.ep
    omega
theorem gR_items {r : Rk} (h : gR r = true) : r.2.2.2.all gI = true := by
  unfold Wi.gR at h
  simp only [Bool.and_eq_true] at h
  exact h.2.2.2.2
theorem gR_ep {r : Rk} (h : gR r = true) : gE r.1 = true := by
  unfold Wi.gR at h
  simp only [Bool.and_eq_true] at h
  exact h.1
theorem en_ok {m : Mb} {I : List Im} (h : enEr m I = 0) : (en0 m I).1 = 0 ∧ (en1 m I).1 = 0 ∧ (en2 m I).1 = 0 := by
  unfold enEr at h
  by_cases h0 : (en0 m I).1 = 0
  · rw [if_pos h0] at h
    by_cases h1 : (en1 m I).1 = 0
    · rw [if_pos h1] at h; exact ⟨h0, h1, h⟩
    · rw [if_neg h1] at h; exact absurd h h1
  · rw [if_neg h0] at h; exact absurd h h0
theorem fo_ok {m : Mb} {r : Rk} (h : foEr m r = 0) : advB m.lf = true ∧ (fo0 m r).1 = 0 ∧ (fo1 m r).1 = 0 ∧ (fo2 m r).1 = 0 := by
  unfold foEr at h
  cases ha : advB m.lf with
  | false => rw [ha] at h; cases h
  | true =>
    rw [ha, if_pos rfl] at h
    by_cases h0 : (fo0 m r).1 = 0
    · rw [if_pos h0] at h
      by_cases h1 : (fo1 m r).1 = 0
      · rw [if_pos h1] at h; exact ⟨rfl, h0, h1, h⟩
      · rw [if_neg h1] at h; exact absurd h h1
    · rw [if_neg h0] at h; exact absurd h h0
theorem le_of3 {a b : Int} (h : a = b) (h0 : 0 ≤ b) : 0 ≤ a := h ▸ h0
theorem entr_kind {m : Mb} {r : Rk} (h : Sat m) (hk : 0 ≤ knd m) (hr : gR r = true) : 0 ≤ knd (entr m r).2 := by
  unfold entr
  by_cases he : enEr m r.2.2.2 = 0
  · rw [if_pos he]
    obtain ⟨h0, h1, h2⟩ := en_ok he
    have hI := gR_items hr
    show 0 ≤ knd (arr m r.1 m.lf (en0 m r.2.2.2).2 (en1 m r.2.2.2).2 (en2 m r.2.2.2).2)
    have := arr_kind h (gR_ep hr) h.lf (en_good hI h0) (en_good hI h1) (en_good hI h2)
    exact le_of3 this (by decide)
  · rw [if_neg he]; exact hk
theorem foll_kind {m : Mb} {r : Rk} (h : Sat m) (hk : 0 ≤ knd m) (hr : gR r = true) : 0 ≤ knd (foll m r).2 := by
  unfold foll
  by_cases he : foEr m r = 0
  · rw [if_pos he]
    obtain ⟨ha, h0, h1, h2⟩ := fo_ok he
    have hI := gR_items hr
    show 0 ≤ knd (arr m r.1 (adv m.lf) (fo0 m r).2 (fo1 m r).2 (fo2 m r).2)
    have := arr_kind h (gR_ep hr) (adv_good ha) (fo_good hI h0) (fo_good hI h1) (fo_good hI h2)
    exact le_of3 this (by decide)
  · rw [if_neg he]; exact hk
theorem gap_kind {m : Mb} {e : Int} (hk : knd m = 2 ∨ knd m = 3) (h1 : m.ep < e) (h2 : e ≤ 200) : knd (gapM m e) = knd m := by
  obtain ⟨h, hc⟩ := knd_sat hk
  have hS : Sat (gapM m e) := ⟨h.out, h.cd, bh_iff.2 (by
    have hb := bh_iff.1 h.bh
    right
    show m.ep < (if m.bh < e then e else m.bh) ∧ (if m.bh < e then e else m.bh) ≤ 200
    have := h.ep
    split <;> omega)⟩
  rcases hc with ⟨a, b, c, d, f⟩ | ⟨a, b, c, d, f⟩
  · rw [b]; exact hS.kind2 a c d f
  · rw [b]; exact hS.kind3 a c d f
/- Where Apply comes to. -/
inductive Way (m : Mb) (r : Rk) : Prop where
  | card (h : knd m < 1) (e : apl m r = (30, m))
  | out (h : knd m = 1) (e : apl m r = (20, m))
  | wire (h : knd m = 2 ∨ knd m = 3) (g : gR r = false) (e : apl m r = (13, m))
  | old (h : knd m = 2 ∨ knd m = 3) (g : gR r = true) (l : r.1 < m.ep ∨ (r.1 = m.ep ∧ m.has = true)) (e : apl m r = (21, m))
  | strange (h : knd m = 2 ∨ knd m = 3) (g : gR r = true) (l : r.1 = m.ep) (hh : m.has = false) (s : stds r.2.2.1 (m.who, m.slt) = false) (e : apl m r = (22, m))
  | enter (h : knd m = 2 ∨ knd m = 3) (g : gR r = true) (l : r.1 = m.ep) (hh : m.has = false) (s : stds r.2.2.1 (m.who, m.slt) = true) (e : apl m r = entr m r)
  | put (h : knd m = 2 ∨ knd m = 3) (g : gR r = true) (l : r.1 = m.ep + 1) (hh : m.has = true) (s : lvs r.2.1 m.who = true) (e : apl m r = (0, outM m.who r.1))
  | follow (h : knd m = 2 ∨ knd m = 3) (g : gR r = true) (l : r.1 = m.ep + 1) (hh : m.has = true) (s : lvs r.2.1 m.who = false) (e : apl m r = foll m r)
  | gap (h : knd m = 2 ∨ knd m = 3) (g : gR r = true) (l : m.ep < r.1) (n : ¬ (r.1 = m.ep + 1 ∧ m.has = true)) (e : apl m r = (22, gapM m r.1))
theorem way (m : Mb) (r : Rk) : Way m r := by
  by_cases h1 : knd m < 1
  · exact .card h1 (by unfold apl; rw [if_pos h1])
  by_cases h2 : knd m = 1
  · exact .out h2 (by unfold apl; rw [if_neg h1, if_pos h2])
  have h : knd m = 2 ∨ knd m = 3 := by have := knd_cases m; omega
  cases g : gR r with
  | false => exact .wire h g (by unfold apl; rw [if_neg h1, if_neg h2, if_pos g])
  | true =>
    have g' : ¬ gR r = false := by rw [g]; decide
    by_cases l : r.1 < m.ep ∨ (r.1 = m.ep ∧ m.has = true)
    · exact .old h g l (by unfold apl; rw [if_neg h1, if_neg h2, if_neg g', if_pos l])
    by_cases l2 : r.1 = m.ep
    · have hh : m.has = false := by
        cases hh : m.has with
        | false => rfl
        | true => exact absurd (.inr ⟨l2, hh⟩) l
      cases s : stds r.2.2.1 (m.who, m.slt) with
      | false => exact .strange h g l2 hh s (by unfold apl; rw [if_neg h1, if_neg h2, if_neg g', if_neg l, if_pos l2, s]; rfl)
      | true => exact .enter h g l2 hh s (by unfold apl; rw [if_neg h1, if_neg h2, if_neg g', if_neg l, if_pos l2, s, if_pos rfl])
    by_cases l3 : r.1 = m.ep + 1 ∧ m.has = true
    · cases s : lvs r.2.1 m.who with
      | false => exact .follow h g l3.1 l3.2 s (by unfold apl; rw [if_neg h1, if_neg h2, if_neg g', if_neg l, if_neg l2, if_pos l3, s]; rfl)
      | true => exact .put h g l3.1 l3.2 s (by unfold apl; rw [if_neg h1, if_neg h2, if_neg g', if_neg l, if_neg l2, if_pos l3, s, if_pos rfl])
    · exact .gap h g (by omega) l3 (by unfold apl; rw [if_neg h1, if_neg h2, if_neg g', if_neg l, if_neg l2, if_neg l3])
/- Right states stay right. -/
theorem ap_kind (m : Mb) (r : Rk) (h0 : 0 ≤ knd m) : 0 ≤ knd (apl m r).2 := by
  cases way m r with
  | card h e => rw [e]; exact h0
  | out h e => rw [e]; exact h0
  | wire h g e => rw [e]; exact h0
  | old h g l e => rw [e]; exact h0
  | strange h g l hh s e => rw [e]; exact h0
  | enter h g l hh s e => rw [e]; exact entr_kind (knd_sat h).1 h0 g
  | put h g l hh s e => rw [e]; show 0 ≤ knd (outM m.who r.1); rw [out_kind (knd_sat h).1.who (gR_ep g)]; decide
  | follow h g l hh s e => rw [e]; exact foll_kind (knd_sat h).1 h0 g
  | gap h g l n e => rw [e]; show 0 ≤ knd (gapM m r.1); rw [gap_kind h l (Wi.gE_iff.1 (gR_ep g)).2]; exact h0
theorem en_gap {I : List Im} {v leaf below : Int} {lf k : Ky} : (enP I v leaf below lf k).1 = 0 ∨ (enP I v leaf below lf k).1 = 5 ∨ (enP I v leaf below lf k).1 = 23 := by
  unfold enP
  repeat' split
  all_goals simp
theorem fo_gap {I : List Im} {b : Bool} {v below : Int} {old k : Ky} : (foP I b v below old k).1 = 0 ∨ (foP I b v below old k).1 = 5 ∨ (foP I b v below old k).1 = 23 ∨ (foP I b v below old k).1 = 4 := by
  unfold foP
  repeat' split
  all_goals simp
theorem en_err (m : Mb) (I : List Im) : enEr m I = 0 ∨ enEr m I = 5 ∨ enEr m I = 23 := by
  unfold enEr
  split
  · split
    · exact en_gap
    · exact en_gap
  · exact en_gap
theorem fo_err (m : Mb) (r : Rk) : foEr m r = 0 ∨ foEr m r = 5 ∨ foEr m r = 23 ∨ foEr m r = 4 := by
  unfold foEr
  split
  · split
    · split
      · exact fo_gap
      · exact fo_gap
    · exact fo_gap
  · exact .inr (.inr (.inr rfl))
/- Beside an error the state stays, but for Behind beside ErrGap. -/
def bhM (m : Mb) (b : Int) : Mb := ⟨m.who, m.slt, m.ep, m.lf, m.p0, m.p1, m.p2, m.has, m.out, b⟩
theorem ap_ok (m : Mb) (r : Rk) (h : (apl m r).1 = 0) : (apl m r).2 ≠ m := by
  intro hm
  cases way m r with
  | card _ e => rw [e] at h; cases h
  | out _ e => rw [e] at h; cases h
  | wire _ g e => rw [e] at h; cases h
  | old _ g l e => rw [e] at h; cases h
  | strange _ g l hh s e => rw [e] at h; cases h
  | enter _ g l hh s e =>
    rw [e] at h hm
    unfold entr at h hm
    by_cases he : enEr m r.2.2.2 = 0
    · rw [if_pos he] at hm
      have h2 := congrArg Mb.has hm
      rw [arr_eq] at h2
      rw [hh] at h2
      cases h2
    · rw [if_neg he] at h; exact he h
  | put _ g l hh s e =>
    rw [e] at hm
    have h2 := congrArg Mb.has hm
    rw [hh] at h2
    cases h2
  | follow _ g l hh s e =>
    rw [e] at h hm
    unfold foll at h hm
    by_cases he : foEr m r = 0
    · rw [if_pos he] at hm
      have h2 := congrArg Mb.ep hm
      rw [arr_eq] at h2
      dsimp only at h2
      omega
    · rw [if_neg he] at h; exact he h
  | gap _ g l n e => rw [e] at h; cases h
theorem ap_keep (m : Mb) (r : Rk) (h : (apl m r).1 ≠ 0) (h2 : (apl m r).1 ≠ 22) : (apl m r).2 = m := by
  cases way m r with
  | card _ e => rw [e]
  | out _ e => rw [e]
  | wire _ g e => rw [e]
  | old _ g l e => rw [e]
  | strange _ g l hh s e => rw [e]
  | enter _ g l hh s e =>
    rw [e] at h ⊢
    unfold entr at h ⊢
    by_cases he : enEr m r.2.2.2 = 0
    · rw [if_pos he] at h; exact absurd rfl h
    · rw [if_neg he]
  | put _ g l hh s e => rw [e] at h; exact absurd rfl h
  | follow _ g l hh s e =>
    rw [e] at h ⊢
    unfold foll at h ⊢
    by_cases he : foEr m r = 0
    · rw [if_pos he] at h; exact absurd rfl h
    · rw [if_neg he]
  | gap _ g l n e => rw [e] at h2; exact absurd rfl h2
theorem ap_gap (m : Mb) (r : Rk) (h : (apl m r).1 = 22) : bhM (apl m r).2 m.bh = m ∧ ((apl m r).2.bh = m.bh ∨ ((apl m r).2.bh = r.1 ∧ m.bh < (apl m r).2.bh ∧ m.ep < (apl m r).2.bh)) := by
  cases way m r with
  | card _ e => rw [e] at h; cases h
  | out _ e => rw [e] at h; cases h
  | wire _ g e => rw [e] at h; cases h
  | old _ g l e => rw [e] at h; cases h
  | strange _ g l hh s e => rw [e]; exact ⟨rfl, .inl rfl⟩
  | enter _ g l hh s e =>
    rw [e] at h
    unfold entr at h
    have := en_err m r.2.2.2
    split at h
    · cases h
    · dsimp only at h; omega
  | put _ g l hh s e => rw [e] at h; cases h
  | follow _ g l hh s e =>
    rw [e] at h
    unfold foll at h
    have := fo_err m r
    split at h
    · cases h
    · dsimp only at h; omega
  | gap _ g l n e =>
    rw [e]
    refine ⟨rfl, ?_⟩
    show (if m.bh < r.1 then r.1 else m.bh) = m.bh ∨ ((if m.bh < r.1 then r.1 else m.bh) = r.1 ∧ m.bh < (if m.bh < r.1 then r.1 else m.bh) ∧ m.ep < (if m.bh < r.1 then r.1 else m.bh))
    split
    · right; omega
    · left; rfl
/- One way. -/
theorem ap_way (m : Mb) (r : Rk) (h : (apl m r).1 = 0) (h1 : (apl m r).2.ep ≠ m.ep) (h2 : (apl m r).2.out = false) :
    (apl m r).2.ep = m.ep + 1 ∧ (apl m r).2.ep = r.1 ∧ (apl m r).2.lf = adv m.lf ∧ gk m.lf = true ∧ gk (adv m.lf) = true ∧ (apl m r).2.who = m.who ∧ (apl m r).2.slt = m.slt ∧ (apl m r).2.has = true ∧ m.ep ≤ 200 := by
  cases way m r with
  | card _ e => rw [e] at h; cases h
  | out _ e => rw [e] at h; cases h
  | wire _ g e => rw [e] at h; cases h
  | old _ g l e => rw [e] at h; cases h
  | strange _ g l hh s e => rw [e] at h; cases h
  | enter _ g l hh s e =>
    rw [e] at h h1
    unfold entr at h h1
    split at h
    · rename_i he
      rw [if_pos he, arr_eq] at h1
      exact absurd l h1
    · rename_i he; exact absurd h he
  | put _ g l hh s e => rw [e] at h2; cases h2
  | follow hk g l hh s e =>
    rw [e] at h ⊢
    unfold foll at h ⊢
    by_cases he : foEr m r = 0
    · rw [if_pos he, arr_eq]
      obtain ⟨ha, _, _, _⟩ := fo_ok he
      have hs := (knd_sat hk).1
      exact ⟨l, rfl, rfl, hs.lf, adv_good ha, rfl, rfl, rfl, hs.ep.2⟩
    · rw [if_neg he] at h; exact absurd h he
  | gap _ g l n e => rw [e] at h; cases h
end Go.Proofs.YtpimbpfefhkojaaGreat.Mb
