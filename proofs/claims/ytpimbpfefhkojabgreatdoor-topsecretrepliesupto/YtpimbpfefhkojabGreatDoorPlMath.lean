/- A step on plain data: the replaced nodes, the new tree, what a step needs. -/
import Derived.Test.YtpimbpfefhkojabGreatDoorTrMath
import Derived.Test.YtpimbpfefhkojabGreatDoorRtK
import Derived.Test.YtpimbpfefhkojabGreatDoorRsJ1
import Derived.Test.YtpimbpfefhkojabGreatDoorStJ1
namespace Go.Proofs.YtpimbpfefhkojabGreatDoor
open Rt (Ky zK kcs kchk lfE lfB lfS cu cd trE trK trA trN frk gd Gd)
open Rs (En zE rcs tkn tk fnd chk ft evs evl adm adl mvT mvE mvR mvL mvJ FitOk eok fre frA on cnt put sl)
open Sh (belB msk hitTo hasB abvTo lef)
set_option linter.unusedVariables false
set_option linter.unusedSimpArgs false

/- A mask out of marks. -/
def mkW (p : Nat → Bool) : Nat → Nat
  | 0 => 0
  | n + 1 => mkW p n + if p n then 2 ^ n else 0
theorem mkW_lt (p : Nat → Bool) : ∀ n, mkW p n < 2 ^ n
  | 0 => by simp [mkW]
  | n + 1 => by
    have := mkW_lt p n
    simp only [mkW, Nat.pow_succ]
    split <;> omega
theorem mkW_bit (p : Nat → Bool) (i : Nat) : ∀ n, (mkW p n).testBit i = (decide (i < n) && p i)
  | 0 => by simp [mkW]
  | n + 1 => by
    have hl := mkW_lt p n
    have ih := mkW_bit p i n
    unfold mkW
    cases hp : p n with
    | false =>
      rw [if_neg (by simp), Nat.add_zero, ih]
      by_cases h : i = n
      · subst h
        simp [hp]
      · have : decide (i < n + 1) = decide (i < n) := by simp; omega
        rw [this]
    | true =>
      rw [if_pos rfl, Nat.add_comm]
      rcases Nat.lt_trichotomy i n with h | h | h
      · rw [Nat.testBit_two_pow_add_gt h, ih]
        have : i < n + 1 := by omega
        simp [h, this]
      · subst h
        rw [Nat.testBit_two_pow_add_eq, Nat.testBit_lt_two_pow hl]
        simp [hp]
      · rw [Nat.testBit_lt_two_pow (Nat.lt_of_lt_of_le (show 2 ^ n + mkW p n < 2 ^ (n + 1) by rw [Nat.pow_succ]; omega) (Nat.pow_le_pow_right (by omega) h))]
        have : ¬ i < n + 1 := by omega
        simp [this]
theorem mkW_congr {p q : Nat → Bool} : ∀ n, (∀ i, i < n → p i = q i) → mkW p n = mkW q n
  | 0, _ => rfl
  | n + 1, h => by rw [mkW, mkW, mkW_congr n fun i hi => h i (by omega), h n (by omega)]
/- The replaced nodes: those above the seats' leaves. -/
def rpl (l : List (Int × Int)) (v : Nat) : Bool := l.any fun p => belB v (lef p.2)
def rp (l : List (Int × Int)) : Nat := mkW (rpl l) 21
theorem rp_lt (l : List (Int × Int)) : rp l < 2097152 := mkW_lt (rpl l) 21
theorem rp_bit (l : List (Int × Int)) {v : Nat} (hv : v < 21) : (rp l).testBit v = rpl l v := by unfold rp; rw [mkW_bit]; simp [hv]
/- The seats' slots as a word. -/
def sw1 (s : Nat) (p : Int × Int) : Nat := if sl p.2 then put s p.2.toNat else s
def sw (l : List (Int × Int)) : Nat := l.foldl sw1 0
theorem sw_snoc (l : List (Int × Int)) (p : Int × Int) : sw (l ++ [p]) = sw1 (sw l) p := by simp [sw]
theorem sw1_lt {s : Nat} (hs : s < 18446744073709551616) (p : Int × Int) : sw1 s p < 18446744073709551616 := by
  unfold sw1
  cases h : sl p.2 with
  | false => exact hs
  | true =>
    obtain ⟨k, hk, h2⟩ := Rs.sl_nat h
    rw [if_pos rfl, hk, Int.toNat_natCast]
    exact Rs.put_lt hs h2
theorem fold_lt : ∀ (l : List (Int × Int)) (s : Nat), s < 18446744073709551616 → l.foldl sw1 s < 18446744073709551616
  | [], s, h => h
  | p :: r, s, h => fold_lt r _ (sw1_lt h p)
theorem sw_lt (l : List (Int × Int)) : sw l < 18446744073709551616 := fold_lt l 0 (by omega)
theorem fold_bit (i : Nat) : ∀ (l : List (Int × Int)) (s : Nat), (l.foldl sw1 s).testBit i = (s.testBit i || l.any fun p => sl p.2 && decide (p.2 = (i : Int)))
  | [], s => by simp
  | p :: r, s => by
    rw [List.foldl_cons, fold_bit i r, List.any_cons]
    have : (sw1 s p).testBit i = (s.testBit i || (sl p.2 && decide (p.2 = (i : Int)))) := by
      unfold sw1
      cases h : sl p.2 with
      | false => simp
      | true =>
        obtain ⟨k, hk, h2⟩ := Rs.sl_nat h
        rw [if_pos rfl, hk, Int.toNat_natCast, Rs.put_bit, Bool.or_comm]
        by_cases e : k = i
        · subst e; simp
        · rw [decide_eq_false e, decide_eq_false (show ¬ ((k : Int) = (i : Int)) by omega)]; simp
    rw [this, Bool.or_assoc]
theorem sw_bit (l : List (Int × Int)) (i : Nat) : (sw l).testBit i = l.any fun p => sl p.2 && decide (p.2 = (i : Int)) := by
  unfold sw
  rw [fold_bit]
  simp
theorem hit_rpl (l : List (Int × Int)) (v : Nat) : hitTo ((sw l : Nat) : Int) v 64 = rpl l v := by
  rw [Bool.eq_iff_iff, Sh.hitTo_iff]
  unfold rpl
  rw [List.any_eq_true]
  constructor
  · rintro ⟨s, hs, h1, h2⟩
    rw [Sh.hasB_bit, sw_bit, List.any_eq_true] at h1
    obtain ⟨p, hp, hq⟩ := h1
    rw [Bool.and_eq_true] at hq
    refine ⟨p, hp, ?_⟩
    rw [of_decide_eq_true hq.2, Sh.lef_yes (by omega) (by omega)]
    exact h2
  · rintro ⟨p, hp, h⟩
    cases hs : sl p.2 with
    | false =>
      rw [Sh.lef_no (Rs.sl_not hs), Sh.belB_no' (Sh.nodeB_no (by omega))] at h
      cases h
    | true =>
      obtain ⟨k, hk, h2⟩ := Rs.sl_nat hs
      refine ⟨k, h2, ?_, ?_⟩
      · rw [Sh.hasB_bit, sw_bit, List.any_eq_true]
        exact ⟨p, hp, by rw [hs, hk]; simp⟩
      · rw [hk, Sh.lef_yes (by omega) (by omega)] at h
        exact h
theorem abv_mkW (X : Int) : ∀ n, abvTo X n = ((mkW (fun v => hitTo X v 64) n : Nat) : Int)
  | 0 => rfl
  | n + 1 => by
    rw [abvTo, mkW, abv_mkW X n]
    cases hitTo X n 64 <;> simp
theorem abv_rp (l : List (Int × Int)) : abvTo ((sw l : Nat) : Int) 21 = ((rp l : Nat) : Int) := by
  rw [abv_mkW]
  unfold rp
  rw [mkW_congr 21 fun i _ => hit_rpl l i]
/- The left seats are where the leavers were. -/
theorem evl_map : ∀ {L : List Int} {f : Nat → En}, (∀ k, k < L.length → L.getD k 0 ∉ L.take k) → evl f L = L.map fun x => (x, fnd f x)
  | [], f, _ => rfl
  | x :: r, f, h => by
    have hr : ∀ k, k < r.length → r.getD k 0 ∉ r.take k := fun k hk hm => by
      have := h (k + 1) (by simpa using hk)
      rw [List.getD_cons_succ, List.take_succ_cons] at this
      exact this (List.mem_cons_of_mem _ hm)
    have hx : ∀ y ∈ r, y ≠ x := fun y hy e => by
      obtain ⟨k, hk, he⟩ := List.mem_iff_getElem.1 hy
      have := h (k + 1) (by simpa using hk)
      rw [List.getD_cons_succ, List.take_succ_cons] at this
      refine this (List.mem_cons.2 (.inl ?_))
      rw [List.getD_eq_getElem?_getD, List.getElem?_eq_getElem hk, Option.getD_some, he, e]
    rw [evl, evl_map hr, List.map_cons]
    congr 1
    refine List.map_congr_left fun y hy => ?_
    rw [Rs.fnd_congr fun i _ => Rs.at_ev1 (hx y hy) i]
theorem fit_evl {f : Nat → En} {L J : List Int} (h : FitOk f L J) : evl f L = L.map fun x => (x, fnd f x) := evl_map fun k hk => (h.lv k hk).2.1
/- A step's error, the new tree. -/
def plR (t : Tr) (L : List Int) : Nat := rp (evl t.ro L)
def plF (t : Tr) (L : List Int) : Int := t.fr + ((cu (plR t L) 21 : Nat) : Int)
def plE (t : Tr) (L J : List Int) : Int := if tck t then (if t.ep = 200 then 19 else (if ft t.ro L J = 0 then (if plF t L + (J.length : Int) ≤ 32768 then 0 else 3) else ft t.ro L J)) else 31
def nx (t : Tr) (L J : List Int) : Tr := ⟨t.ep + 1, plF t L + (J.length : Int), trK t.ks (plR t L) t.fr, adm (evs t.ro L) (mvT t.ro L J) J (t.ep + 1) (plF t L) J.length⟩
def jns (t : Tr) (L J : List Int) : List (Int × Int) := adl (mvT t.ro L J) J J.length
structure Stp (t : Tr) (L J : List Int) : Prop where
  ok : tck t = true
  rt : Right t
  ep : t.ep ≤ 199
  fit : FitOk t.ro L J
  nm : plF t L + (J.length : Int) ≤ 32768
theorem plR_lt (t : Tr) (L : List Int) : plR t L < 2097152 := rp_lt _
theorem plE_bad {t : Tr} {L J : List Int} (h : tck t = false) : plE t L J = 31 := by unfold plE; rw [h]; rfl
theorem plE_spent {t : Tr} {L J : List Int} (h : tck t = true) (h2 : t.ep = 200) : plE t L J = 19 := by unfold plE; rw [h, if_pos rfl, if_pos h2]
theorem plE_fit {t : Tr} {L J : List Int} (h : tck t = true) (h2 : ¬ t.ep = 200) (h3 : ¬ ft t.ro L J = 0) : plE t L J = ft t.ro L J := by unfold plE; rw [h, if_pos rfl, if_neg h2, if_neg h3]
theorem plE_key {t : Tr} {L J : List Int} (h : tck t = true) (h2 : ¬ t.ep = 200) (h3 : ft t.ro L J = 0) (h4 : ¬ plF t L + (J.length : Int) ≤ 32768) : plE t L J = 3 := by unfold plE; rw [h, if_pos rfl, if_neg h2, if_pos h3, if_neg h4]
theorem plE_ok {t : Tr} {L J : List Int} (h : tck t = true) (h2 : ¬ t.ep = 200) (h3 : ft t.ro L J = 0) (h4 : plF t L + (J.length : Int) ≤ 32768) : plE t L J = 0 := by unfold plE; rw [h, if_pos rfl, if_neg h2, if_pos h3, if_pos h4]
theorem stp_of {t : Tr} {L J : List Int} (h : tck t = true) (h2 : ¬ t.ep = 200) (h3 : ft t.ro L J = 0) (h4 : plF t L + (J.length : Int) ≤ 32768) : Stp t L J :=
  ⟨h, tck_right h, by have := (tck_right h).e1; omega, Rs.ft_ok h3, h4⟩
theorem plE_stp {t : Tr} {L J : List Int} (h : plE t L J = 0) : Stp t L J := by
  cases h1 : tck t with
  | false => rw [plE_bad h1] at h; cases h
  | true =>
    by_cases h2 : t.ep = 200
    · rw [plE_spent h1 h2] at h; cases h
    · by_cases h3 : ft t.ro L J = 0
      · by_cases h4 : plF t L + (J.length : Int) ≤ 32768
        · exact stp_of h1 h2 h3 h4
        · rw [plE_key h1 h2 h3 h4] at h; cases h
      · rw [plE_fit h1 h2 h3] at h; exact absurd h h3
theorem Stp.pl {t : Tr} {L J : List Int} (h : Stp t L J) : plE t L J = 0 := plE_ok h.ok (by have := h.ep; omega) (Rs.ft_of h.fit) h.nm
/- The turn of a right tree's keys. -/
theorem turn_E {t : Tr} (h : Right t) (he : t.ep ≤ 199) {r : Nat} (hr : r < 2097152) : trE t.ks r t.fr = if t.fr + ((cu r 21 : Nat) : Int) ≤ 32768 then 0 else 3 := by
  have hs : Rt.stuck t.ks r = false := Rt.stuck_no fun v hv => by
    have := (h.fk v hv).2
    unfold Rt.skk
    rw [decide_eq_false (show ¬ (254 < (t.ks v).stp) by omega), Bool.and_false]
  by_cases h0 : cu r 21 = 0
  · rw [if_pos (by rw [h0]; have := h.f1; simp; omega)]
    exact Rt.trE_ok h.ks hr (Rt.frk_zero h0) hs
  · by_cases hc : t.fr + ((cu r 21 : Nat) : Int) ≤ 32768
    · rw [if_pos hc]
      refine Rt.trE_ok h.ks hr (Rt.frk_fine (by have := h.f0; omega) (by omega) fun i hi => ?_) hs
      have := (h.fk i hi).1
      unfold Rt.nm1
      rw [decide_eq_false (by omega), Bool.false_and]
    · rw [if_neg hc]
      exact Rt.trE_key h.ks hr (Rt.frk_low h0 (by omega))
theorem Stp.turn {t : Tr} {L J : List Int} (h : Stp t L J) : trE t.ks (plR t L) t.fr = 0 := by
  rw [turn_E h.rt h.ep (plR_lt t L), if_pos]
  have := h.nm
  unfold plF at this
  omega
/- The two halves of a batch. -/
theorem fit_left {f : Nat → En} {L J : List Int} (h : FitOk f L J) : FitOk f L [] := ⟨h.chk, h.lv, fun k hk => by simp at hk, by simp⟩
theorem evs_chk {f : Nat → En} {L : List Int} (h : chk f = true) : chk (evs f L) = true := Rs.chk_rt.2 (Rs.chk_rt.1 h).evs
theorem fit_join {f : Nat → En} {L J : List Int} (h : FitOk f L J) : FitOk (evs f L) [] J := by
  refine ⟨evs_chk h.chk, fun k hk => by simp at hk, fun k hk => ?_, ?_⟩
  · obtain ⟨h1, h2, h3⟩ := h.jn k hk
    refine ⟨h1, fun hm => h2 (List.mem_append.2 (.inr (by simpa using hm))), ?_⟩
    rw [Rs.on_evs fun hm => h2 (List.mem_append.2 (.inl hm))]
    exact h3
  · have h1 := h.cnt
    have h2 := h.room
    have h3 := Rs.cnt_le f
    simp
    omega
theorem eok_next {t : Tr} (h : Right t) (he : t.ep ≤ 199) : eok (t.ep + 1) = true := by
  have := h.e0
  unfold Rs.eok
  rw [decide_eq_true (by omega), decide_eq_true (by omega)]
  rfl
theorem frA_yes {f : Nat → En} {bs : Int} {n : Nat} : ∀ k, (∀ i, i < k → (f i).bas < bs) → frA f bs n k = true
  | 0, _ => rfl
  | k + 1, h => by
    unfold Rs.frA
    rw [frA_yes k fun i hi => h i (by omega), decide_eq_false (by have := h k (by omega); omega)]
    rfl
theorem fre_iff {f : Nat → En} {bs : Int} {n : Nat} (h : ∀ i, i < 64 → (f i).bas < bs) (h0 : 1 ≤ bs) (h1 : bs ≤ 32768) : fre f bs n = decide (bs + (n : Int) ≤ 32768) := by
  unfold Rs.fre
  rw [frA_yes 64 h, decide_eq_true h0]
  by_cases hn : n = 0
  · subst hn
    rw [decide_eq_true rfl, Bool.true_or, decide_eq_true (by simpa using h1)]
  · rw [decide_eq_false hn, Bool.false_or, Bool.true_and, Bool.and_true]
    rw [Bool.eq_iff_iff, decide_eq_true_iff, decide_eq_true_iff]
    omega
theorem evs_bas {f : Nat → En} {L : List Int} {b : Int} (h : ∀ i, i < 64 → (f i).bas < b) (h0 : 0 < b) {i : Nat} (hi : i < 64) : (evs f L i).bas < b := by
  rcases Rs.evs_sub (L := L) (f := f) (i := i) with e | e
  · rw [e]; exact h i hi
  · rw [e]; exact h0
theorem plF_ge (t : Tr) (L : List Int) : t.fr ≤ plF t L := by unfold plF; omega
theorem move1 {t : Tr} (h : Right t) (he : t.ep ≤ 199) {L J : List Int} (hf : FitOk t.ro L J) : mvE t.ro L [] (t.ep + 1) t.fr = 0 ∧ mvR t.ro L [] (t.ep + 1) t.fr = evs t.ro L ∧ mvL t.ro L [] (t.ep + 1) t.fr = evl t.ro L := by
  have h0 : mvE t.ro L [] (t.ep + 1) t.fr = 0 := Rs.mvE_of (fit_left hf) (eok_next h he) rfl
  refine ⟨h0, ?_, ?_⟩
  · unfold Rs.mvR; rw [if_pos h0]; rfl
  · unfold Rs.mvL; rw [if_pos h0]
theorem ro_lt {t : Tr} (h : Right t) (L : List Int) : ∀ i, i < 64 → (t.ro i).bas < plF t L := fun i hi => by
  have := (h.fs i hi).1
  have := plF_ge t L
  omega
theorem move2 {t : Tr} (h : Right t) (he : t.ep ≤ 199) {L J : List Int} (hf : FitOk t.ro L J) (hn : plF t L ≤ 32768) : mvE (evs t.ro L) [] J (t.ep + 1) (plF t L) = if plF t L + (J.length : Int) ≤ 32768 then 0 else 3 := by
  have hp : 1 ≤ plF t L := by have := h.f0; have := plF_ge t L; omega
  have hfr := fre_iff (f := evs t.ro L) (n := J.length) (fun i hi => evs_bas (ro_lt h L) (by omega) hi) hp hn
  by_cases hc : plF t L + (J.length : Int) ≤ 32768
  · rw [if_pos hc]
    exact Rs.mvE_of (fit_join hf) (eok_next h he) (by rw [hfr, decide_eq_true hc])
  · rw [if_neg hc]
    unfold Rs.mvE
    rw [if_pos (Rs.ft_of (fit_join hf)), eok_next h he, if_pos rfl, hfr, decide_eq_false hc]
    rfl
theorem move3 {t : Tr} (h : Right t) (he : t.ep ≤ 199) {L J : List Int} (hf : FitOk t.ro L J) (hn : plF t L ≤ 32768) : mvE t.ro L J (t.ep + 1) (plF t L) = if plF t L + (J.length : Int) ≤ 32768 then 0 else 3 := by
  have hp : 1 ≤ plF t L := by have := h.f0; have := plF_ge t L; omega
  have hfr := fre_iff (f := t.ro) (n := J.length) (ro_lt h L) hp hn
  by_cases hc : plF t L + (J.length : Int) ≤ 32768
  · rw [if_pos hc]
    exact Rs.mvE_of hf (eok_next h he) (by rw [hfr, decide_eq_true hc])
  · rw [if_neg hc]
    unfold Rs.mvE
    rw [if_pos (Rs.ft_of hf), eok_next h he, if_pos rfl, hfr, decide_eq_false hc]
    rfl
theorem Stp.le {t : Tr} {L J : List Int} (h : Stp t L J) : plF t L ≤ 32768 := by have := h.nm; omega
theorem Stp.m2 {t : Tr} {L J : List Int} (h : Stp t L J) : mvE (evs t.ro L) [] J (t.ep + 1) (plF t L) = 0 := by rw [move2 h.rt h.ep h.fit h.le, if_pos h.nm]
theorem Stp.m3 {t : Tr} {L J : List Int} (h : Stp t L J) : mvE t.ro L J (t.ep + 1) (plF t L) = 0 := by rw [move3 h.rt h.ep h.fit h.le, if_pos h.nm]
theorem mvT_halves (f : Nat → En) (L J : List Int) : mvT (evs f L) [] J = mvT f L J := rfl
theorem Stp.r2 {t : Tr} {L J : List Int} (h : Stp t L J) : mvR (evs t.ro L) [] J (t.ep + 1) (plF t L) = (nx t L J).ro := by unfold Rs.mvR; rw [if_pos h.m2]; rfl
theorem Stp.r3 {t : Tr} {L J : List Int} (h : Stp t L J) : mvR t.ro L J (t.ep + 1) (plF t L) = (nx t L J).ro := by unfold Rs.mvR; rw [if_pos h.m3]; rfl
theorem Stp.j2 {t : Tr} {L J : List Int} (h : Stp t L J) : mvJ (evs t.ro L) [] J (t.ep + 1) (plF t L) = jns t L J := by unfold Rs.mvJ; rw [if_pos h.m2]; rfl
theorem Stp.j3 {t : Tr} {L J : List Int} (h : Stp t L J) : mvJ t.ro L J (t.ep + 1) (plF t L) = jns t L J := by unfold Rs.mvJ; rw [if_pos h.m3]; rfl
theorem Stp.l3 {t : Tr} {L J : List Int} (h : Stp t L J) : mvL t.ro L J (t.ep + 1) (plF t L) = evl t.ro L := by unfold Rs.mvL; rw [if_pos h.m3]
/- What an entry behind the step is. -/
theorem nx_ent {t : Tr} {L J : List Int} (h : Stp t L J) (i : Nat) : ((nx t L J).ro i = evs t.ro L i ∧ (evs t.ro L i = t.ro i ∨ evs t.ro L i = zE)) ∨ ∃ m, m < J.length ∧ i = (mvT t.ro L J).getD m 0 ∧ (nx t L J).ro i = ⟨J.getD m 0, plF t L + (m : Int), t.ep + 1⟩ := by
  rcases Rs.adm_cases (evs t.ro L) (mvT t.ro L J) J (t.ep + 1) (plF t L) i J.length with e | ⟨m, h1, h2, h3⟩
  · exact .inl ⟨e, Rs.evs_sub⟩
  · exact .inr ⟨m, h1, h2, h3⟩
/- The new tree is right. -/
theorem right_tck {t : Tr} (h : Right t) : tck t = true := by
  unfold tck bnd
  rw [decide_eq_true h.e0, decide_eq_true h.e1, decide_eq_true h.f0, decide_eq_true h.f1, h.ks, h.ro]
  have h1 : fitK t = true := all_yes fun v hv => by
    unfold fk1
    rw [decide_eq_true (h.fk v hv).1, decide_eq_true (h.fk v hv).2]
    rfl
  have h2 : fitS t = true := all_yes fun s hs => by
    obtain ⟨a, b, c⟩ := h.fs s hs
    unfold fs1
    rw [decide_eq_true a, decide_eq_true b]
    have : isn t.ks (t.ro s).bas = false := any_no fun v hv => decide_eq_false (c v hv)
    rw [this]
    rfl
  rw [h1, h2]
  rfl
theorem Stp.key {t : Tr} {L J : List Int} (h : Stp t L J) {v : Nat} (hv : v < 21) : ((plR t L).testBit v = true ∧ (nx t L J).ks v = ⟨t.fr + ((cd (plR t L) (20 - v) : Nat) : Int), 0⟩ ∧ t.fr ≤ ((nx t L J).ks v).bas ∧ ((nx t L J).ks v).bas < plF t L) ∨ ((plR t L).testBit v = false ∧ (nx t L J).ks v = ⟨(t.ks v).bas, (t.ks v).stp + 1⟩) := by
  cases hb : (plR t L).testBit v with
  | true =>
    have e : (nx t L J).ks v = ⟨t.fr + ((cd (plR t L) (20 - v) : Nat) : Int), 0⟩ := Rt.trK_new hb
    refine .inl ⟨rfl, e, ?_, ?_⟩
    · rw [e]; dsimp only; omega
    · rw [e]
      have := Rt.cd_lt hv hb
      unfold plF
      dsimp only
      omega
  | false => exact .inr ⟨rfl, Rt.trK_old hb⟩
theorem Stp.right {t : Tr} {L J : List Int} (h : Stp t L J) : Right (nx t L J) := by
  have hr := h.rt
  have hge := plF_ge t L
  have hk : kchk (nx t L J).ks = true := Rt.trK_right h.turn
  have hro : chk (nx t L J).ro = true := by rw [← h.r3]; exact Rs.mvR_right h.m3
  have hnm := h.nm
  have e0 := hr.e0
  have ep := h.ep
  have f0 := hr.f0
  refine ⟨?_, ?_, ?_, hnm, hk, hro, fun v hv => ?_, fun s hs => ?_⟩
  · show 0 ≤ t.ep + 1; omega
  · show t.ep + 1 ≤ 200; omega
  · show 22 ≤ plF t L + (J.length : Int); omega
  · show ((nx t L J).ks v).bas < plF t L + (J.length : Int) ∧ ((nx t L J).ks v).stp ≤ t.ep + 1
    obtain ⟨a, b⟩ := hr.fk v hv
    rcases h.key hv with ⟨_, e, _, lt⟩ | ⟨_, e⟩
    · refine ⟨by omega, by rw [e]; dsimp only; omega⟩
    · rw [e]; dsimp only; omega
  · show ((nx t L J).ro s).bas < plF t L + (J.length : Int) ∧ ((nx t L J).ro s).snc ≤ t.ep + 1 ∧ ∀ v, v < 21 → ((nx t L J).ks v).bas ≠ ((nx t L J).ro s).bas
    obtain ⟨a, b, c⟩ := hr.fs s hs
    rcases nx_ent h s with ⟨e, e2⟩ | ⟨m, hm, hs2, e⟩
    · rw [e]
      rcases e2 with e2 | e2
      · rw [e2]
        refine ⟨by omega, by omega, fun v hv => ?_⟩
        rcases h.key hv with ⟨_, _, ge, _⟩ | ⟨_, e3⟩
        · omega
        · rw [e3]; exact c v hv
      · rw [e2]
        refine ⟨by show (0 : Int) < _; omega, by show (0 : Int) ≤ _; omega, fun v hv => ?_⟩
        have := ((Rt.kchk_iff.1 hk).1 v hv).1.1
        show _ ≠ (0 : Int)
        omega
    · rw [e]
      refine ⟨by dsimp only; omega, by dsimp only; omega, fun v hv => ?_⟩
      dsimp only
      rcases h.key hv with ⟨_, _, _, lt⟩ | ⟨_, e3⟩
      · omega
      · rw [e3]
        have := (hr.fk v hv).1
        dsimp only
        omega
theorem Stp.tckn {t : Tr} {L J : List Int} (h : Stp t L J) : tck (nx t L J) = true := right_tck h.right
end Go.Proofs.YtpimbpfefhkojabGreatDoor
