/- A step's batch, read off the two trees: who left in the order of the slots, who joined; it leads to the same tree. -/
import Derived.Test.YtpimbpfefhkojabGreatDoorPlJ1
namespace Go.Proofs.YtpimbpfefhkojabGreatDoor
open Rt (Ky zK)
open Rs (En zE tkn fnd evs evl on cnt adm mvT at' FitOk ev1 upd)
open Sh (belB lef)
set_option linter.unusedVariables false
set_option linter.unusedSimpArgs false

def enE (a b : En) : Bool := decide (a.who = b.who) && (decide (a.bas = b.bas) && decide (a.snc = b.snc))
theorem enE_iff {a b : En} : enE a b = true ↔ a = b := by
  obtain ⟨a1, a2, a3⟩ := a
  obtain ⟨b1, b2, b3⟩ := b
  unfold enE
  simp
theorem enE_no {a b : En} (h : a ≠ b) : enE a b = false := by
  cases e : enE a b with
  | false => rfl
  | true => exact absurd (enE_iff.1 e) h
theorem enE_refl (a : En) : enE a a = true := enE_iff.2 rfl
def btL (a b : Tr) : Nat → List Int
  | 0 => []
  | k + 1 => btL a b k ++ if tkn (a.ro k) && !enE (a.ro k) (b.ro k) then [(a.ro k).who] else []
theorem btL_mem {a b : Tr} {x : Int} : ∀ {k : Nat}, x ∈ btL a b k ↔ ∃ s, s < k ∧ tkn (a.ro s) = true ∧ a.ro s ≠ b.ro s ∧ (a.ro s).who = x
  | 0 => by simp [btL]
  | k + 1 => by
    rw [btL, List.mem_append, btL_mem]
    constructor
    · rintro (⟨s, h1, h2⟩ | h)
      · exact ⟨s, by omega, h2⟩
      · by_cases hc : (tkn (a.ro k) && !enE (a.ro k) (b.ro k)) = true
        · rw [if_pos hc] at h
          rw [Bool.and_eq_true] at hc
          refine ⟨k, by omega, hc.1, ?_, (List.mem_singleton.1 h).symm⟩
          intro e
          have := hc.2
          rw [e, enE_refl] at this
          cases this
        · rw [if_neg hc] at h
          cases h
    · rintro ⟨s, h1, h2, h3, h4⟩
      rcases Nat.lt_or_ge s k with c | c
      · exact .inl ⟨s, c, h2, h3, h4⟩
      · obtain rfl : s = k := by omega
        right
        rw [if_pos (by rw [h2, enE_no h3]; rfl), h4]
        exact List.mem_singleton.2 rfl
theorem btL_len (a b : Tr) : ∀ k, (btL a b k).length ≤ k
  | 0 => Nat.le_refl _
  | k + 1 => by
    have := btL_len a b k
    rw [btL, List.length_append]
    split <;> simp <;> omega
def Nd (L : List Int) : Prop := ∀ k, k < L.length → L.getD k 0 ∉ L.take k
theorem Nd.snoc {L : List Int} (h : Nd L) {x : Int} (hx : x ∉ L) : Nd (L ++ [x]) := fun k hk => by
  rw [List.length_append, List.length_singleton] at hk
  by_cases e : k = L.length
  · subst e
    rw [List.take_left, List.getD_eq_getElem?_getD, List.getElem?_append_right (Nat.le_refl _)]
    simp only [Nat.sub_self, List.getElem?_cons_zero, Option.getD_some]
    exact hx
  · have hk2 : k < L.length := by omega
    rw [List.take_append_of_le_length (by omega), List.getD_eq_getElem?_getD, List.getElem?_append_left hk2, ← List.getD_eq_getElem?_getD]
    exact h k hk2
theorem btL_nd {a b : Tr} (h : Right a) : ∀ k, k ≤ 64 → Nd (btL a b k)
  | 0, _ => fun k hk => by cases hk
  | k + 1, hk => by
    have ih := btL_nd (b := b) h k (by omega)
    unfold btL
    by_cases hc : (tkn (a.ro k) && !enE (a.ro k) (b.ro k)) = true
    · rw [if_pos hc]
      refine ih.snoc fun hm => ?_
      obtain ⟨s, h1, h2, _, h4⟩ := btL_mem.1 hm
      rw [Bool.and_eq_true] at hc
      have e1 := h.find (s := s) (by omega) h2
      have e2 := h.find (s := k) (by omega) hc.1
      rw [h4, e2] at e1
      omega
    · rw [if_neg hc, List.append_nil]
      exact ih
theorem free_zero {f : Nat → En} (h : Rs.Rt f) {i : Nat} (hi : i < 64) (ht : tkn (f i) = false) : f i = zE := by
  have h1 := h.one i hi
  unfold Rs.rgp at h1
  rw [ht, if_neg (by simp)] at h1
  cases hf : f i with
  | mk a b c =>
    rw [hf] at h1
    unfold Rs.isz at h1
    simp [Rs.zE] at h1 ⊢
    exact ⟨h1.1.1, h1.1.2, h1.2⟩
theorem evs_high {i : Nat} (hi : 64 ≤ i) : ∀ (L : List Int) (f : Nat → En), evs f L i = f i
  | [], f => rfl
  | x :: L, f => by
    show evs (ev1 f x) L i = f i
    rw [evs_high hi L]
    unfold Rs.ev1
    cases ho : on f x with
    | false => rfl
    | true =>
      obtain ⟨j, e, h1, _⟩ := Rs.on_at ho
      rw [if_pos rfl, e, Int.toNat_natCast]
      unfold Rs.upd
      rw [if_neg (by omega)]
def OnA (f : Nat → En) (L : List Int) : Prop := ∀ k, k < L.length → on (evs f (L.take k)) (L.getD k 0) = true
theorem evs_is {f : Nat → En} (h : Rs.Rt f) {L : List Int} (ho : OnA f L) {i : Nat} (hi : i < 64) : evs f L i = if tkn (f i) = true ∧ (f i).who ∈ L then zE else f i := by
  cases ht : tkn (f i) with
  | false =>
    rw [if_neg (by simp)]
    rcases Rs.evs_sub (L := L) (f := f) (i := i) with e | e
    · exact e
    · rw [e, free_zero h hi ht]
  | true =>
    by_cases hm : (f i).who ∈ L
    · rw [if_pos ⟨rfl, hm⟩]
      rcases Rs.evs_sub (L := L) (f := f) (i := i) with e | e
      · have h2 := Rs.evs_off h ho hm hi
        unfold Rs.at' at h2
        rw [e, ht] at h2
        simp at h2
      · exact e
    · rw [if_neg (by simp [hm])]
      exact Rs.evs_keep ht hm
theorem evs_eq {f : Nat → En} (h : Rs.Rt f) {L L' : List Int} (ho : OnA f L) (ho' : OnA f L') (hm : ∀ x, x ∈ L ↔ x ∈ L') : evs f L = evs f L' := by
  funext i
  rcases Nat.lt_or_ge i 64 with c | c
  · rw [evs_is h ho c, evs_is h ho' c]
    simp only [hm]
  · rw [evs_high c, evs_high c]
section
variable {t : Tr} {L J : List Int}
theorem bt_mem (h : Stp t L J) {x : Int} : x ∈ btL t (nx t L J) 64 ↔ x ∈ L := by
  rw [btL_mem]
  constructor
  · rintro ⟨s, hs, ht, hne, rfl⟩
    by_cases hL : (t.ro s).who ∈ L
    · exact hL
    · exact absurd (h.stays ht hL).symm hne
  · intro hx
    obtain ⟨k, hk, he⟩ := List.mem_iff_getElem.1 hx
    have hon := (h.fit.lv k hk).2.2
    have ex : L.getD k 0 = x := by rw [List.getD_eq_getElem?_getD, List.getElem?_eq_getElem hk, Option.getD_some, he]
    rw [ex] at hon
    obtain ⟨j, _, h2, h3⟩ := Rs.on_at hon
    obtain ⟨h4, h5⟩ := Rs.at_who h3
    refine ⟨j, h2, h4, fun e => ?_, h5⟩
    have h6 := Rs.mv_leaves h.m3 hx
    rw [h.r3] at h6
    have h7 := Rs.fnd_none.1 h6 j h2
    unfold Rs.at' at h7
    rw [← e, h4, h5] at h7
    simp at h7
theorem bt_on (h : Stp t L J) : OnA t.ro (btL t (nx t L J) 64) := fun k hk => by
  rw [Rs.on_evs (btL_nd h.rt 64 (Nat.le_refl _) k hk)]
  have hm : (btL t (nx t L J) 64).getD k 0 ∈ L := by
    rw [← bt_mem h, List.getD_eq_getElem?_getD, List.getElem?_eq_getElem hk]
    exact List.getElem_mem _
  obtain ⟨j, hj, he⟩ := List.mem_iff_getElem.1 hm
  have := (h.fit.lv j hj).2.2
  rw [List.getD_eq_getElem?_getD, List.getElem?_eq_getElem hj, Option.getD_some, he] at this
  exact this
theorem bt_evs (h : Stp t L J) : evs t.ro (btL t (nx t L J) 64) = evs t.ro L := evs_eq (Rs.chk_rt.1 h.fit.chk) (bt_on h) h.fit.out (fun x => bt_mem h)
theorem bt_fit (h : Stp t L J) : FitOk t.ro (btL t (nx t L J) 64) J := by
  have c1 := h.fit.cnt
  have c2 := Rs.cnt_evs (bt_on h) _ (Nat.le_refl _)
  rw [List.take_length, bt_evs h] at c2
  refine ⟨h.fit.chk, fun k hk => ⟨?_, btL_nd h.rt 64 (Nat.le_refl _) k hk, ?_⟩, fun k hk => ?_, ?_⟩
  · have hm : (btL t (nx t L J) 64).getD k 0 ∈ L := by
      rw [← bt_mem h, List.getD_eq_getElem?_getD, List.getElem?_eq_getElem hk]
      exact List.getElem_mem _
    obtain ⟨j, hj, he⟩ := List.mem_iff_getElem.1 hm
    have := (h.fit.lv j hj).1
    rw [List.getD_eq_getElem?_getD, List.getElem?_eq_getElem hj, Option.getD_some, he] at this
    exact this
  · have := bt_on h k hk
    rw [Rs.on_evs (btL_nd h.rt 64 (Nat.le_refl _) k hk)] at this
    exact this
  · obtain ⟨h1, h2, h3⟩ := h.fit.jn k hk
    refine ⟨h1, fun hm => h2 ?_, h3⟩
    rcases List.mem_append.1 hm with h4 | h4
    · exact List.mem_append.2 (.inl ((bt_mem h).1 h4))
    · exact List.mem_append.2 (.inr h4)
  · have := h.fit.room
    omega
theorem bt_plR (h : Stp t L J) : plR t (btL t (nx t L J) 64) = plR t L := by
  unfold plR rp
  refine mkW_congr 21 fun v _ => ?_
  unfold rpl
  rw [fit_evl (bt_fit h), fit_evl h.fit, Bool.eq_iff_iff, List.any_eq_true, List.any_eq_true]
  constructor
  · rintro ⟨p, hp, hq⟩
    obtain ⟨x, hx, rfl⟩ := List.mem_map.1 hp
    exact ⟨_, List.mem_map.2 ⟨x, (bt_mem h).1 hx, rfl⟩, hq⟩
  · rintro ⟨p, hp, hq⟩
    obtain ⟨x, hx, rfl⟩ := List.mem_map.1 hp
    exact ⟨_, List.mem_map.2 ⟨x, (bt_mem h).2 hx, rfl⟩, hq⟩
theorem bt_plF (h : Stp t L J) : plF t (btL t (nx t L J) 64) = plF t L := by unfold plF; rw [bt_plR h]
theorem bt_stp (h : Stp t L J) : Stp t (btL t (nx t L J) 64) J := ⟨h.ok, h.rt, h.ep, bt_fit h, by rw [bt_plF h]; exact h.nm⟩
theorem bt_nx (h : Stp t L J) : nx t (btL t (nx t L J) 64) J = nx t L J := by
  have e1 : mvT t.ro (btL t (nx t L J) 64) J = mvT t.ro L J := by rw [← mvT_halves t.ro (btL t (nx t L J) 64) J, ← mvT_halves t.ro L J, bt_evs h]
  show (⟨t.ep + 1, plF t (btL t (nx t L J) 64) + (J.length : Int), Rt.trK t.ks (plR t (btL t (nx t L J) 64)) t.fr, adm (evs t.ro (btL t (nx t L J) 64)) (mvT t.ro (btL t (nx t L J) 64) J) J (t.ep + 1) (plF t (btL t (nx t L J) 64)) J.length⟩ : Tr) = ⟨t.ep + 1, plF t L + (J.length : Int), Rt.trK t.ks (plR t L) t.fr, adm (evs t.ro L) (mvT t.ro L J) J (t.ep + 1) (plF t L) J.length⟩
  rw [e1, bt_plF h, bt_plR h, bt_evs h]
/- Who joined: a slot whose entry is new, and bears a name. -/
def Cnd (t n : Tr) (last : Int) (s : Nat) : Prop := last < (n.ro s).bas ∧ n.ro s ≠ t.ro s
theorem cnd_iff (h : Stp t L J) {k : Nat} {last : Int} (hl : last = if k = 0 then 0 else plF t L + ((k - 1 : Nat) : Int)) {s : Nat} (hs : s < 64) : Cnd t (nx t L J) last s ↔ ∃ m, k ≤ m ∧ m < J.length ∧ (mvT t.ro L J).getD m 0 = s ∧ ((nx t L J).ro s).bas = plF t L + (m : Int) ∧ ((nx t L J).ro s).who = J.getD m 0 := by
  have hp : 1 ≤ plF t L := by have := h.rt.f0; have := plF_ge t L; omega
  constructor
  · rintro ⟨h1, h2⟩
    rcases nx_ent h s with ⟨e2, e3⟩ | ⟨m, hm, e1, e2⟩
    · rcases e3 with e3 | e3
      · rw [e3] at e2; exact absurd e2 h2
      · rw [e2, e3] at h1
        have h3 : last < 0 := h1
        split at hl <;> omega
    · refine ⟨m, ?_, hm, e1.symm, by rw [e2], by rw [e2]⟩
      rw [e2] at h1
      dsimp only at h1
      split at hl <;> omega
  · rintro ⟨m, hk, hm, e1, e2, _⟩
    refine ⟨by rw [e2]; split at hl <;> omega, fun e => ?_⟩
    have h3 := (h.rt.fs s hs).1
    have := plF_ge t L
    rw [e] at e2
    omega
end
end Go.Proofs.YtpimbpfefhkojabGreatDoor
