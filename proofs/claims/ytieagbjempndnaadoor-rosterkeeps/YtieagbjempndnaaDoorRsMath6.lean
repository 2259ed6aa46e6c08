/- What a move that is answered says of the roster behind it. -/
import Derived.Test.YtieagbjempndnaaDoorRsMath5
namespace Go.Proofs.YtieagbjempndnaaDoor
set_option linter.unusedVariables false
set_option linter.unusedSimpArgs false

structure Rt (f : Nat → En) : Prop where
  one : ∀ i, i < 64 → rgp (f i) = true
  two : ∀ i j, i < 64 → j < 64 → i ≠ j → clh (f i) (f j) = false
theorem clh_comm (a b : En) : clh a b = clh b a := by
  unfold clh alike
  rw [Bool.and_comm (tkn a), show decide (a.who = b.who) = decide (b.who = a.who) by simp [eq_comm], show decide (a.bas = b.bas) = decide (b.bas = a.bas) by simp [eq_comm]]
theorem chk_rt {f : Nat → En} : chk f = true ↔ Rt f := by
  constructor
  · intro h
    have hi : ∀ i, i < 64 → rgp (f i) = true ∧ ∀ m, m < i → clh (f m) (f i) = false := fun i hi => by
      have := chk_at h hi
      unfold okp at this
      rw [Bool.and_eq_true, List.all_eq_true] at this
      refine ⟨this.1, fun m hm => ?_⟩
      simpa using this.2 m (List.mem_range.2 hm)
    refine ⟨fun i h => (hi i h).1, fun i j h1 h2 hne => ?_⟩
    rcases Nat.lt_or_ge i j with g | g
    · exact (hi j h2).2 i g
    · rw [clh_comm]
      exact (hi i h1).2 j (by omega)
  · intro h
    refine chk_good fun j hj => ?_
    unfold okp
    rw [h.one j hj, range_good fun m hm => h.two m j (by omega) hj (by omega)]
    rfl
theorem clh_zE (a : En) : clh a zE = false := by simp [clh, tkn_zE]
theorem clh_zE' (a : En) : clh zE a = false := by simp [clh, tkn_zE]
theorem rgp_zE : rgp zE = true := rfl
theorem rgp_of {e : En} (h : rgt e = true) : rgp e = true := by
  unfold rgp
  have : tkn e = true := by
    simp only [rgt, Bool.and_eq_true, decide_eq_true_eq] at h
    simp [tkn]
    omega
  rw [this, if_pos rfl, h]
theorem rgt_tkn {e : En} (h : rgt e = true) : tkn e = true := by
  simp only [rgt, Bool.and_eq_true, decide_eq_true_eq] at h
  simp [tkn]
  omega
theorem Rt.free {f : Nat → En} (h : Rt f) {i : Nat} (hi : i < 64) (ht : tkn (f i) = false) : f i = zE := by
  have := h.one i hi
  unfold rgp at this
  rw [ht] at this
  simp [isz] at this
  exact En.ext' this.1.1 this.1.2 this.2
theorem Rt.taken {f : Nat → En} (h : Rt f) {i : Nat} (hi : i < 64) (ht : tkn (f i) = true) : rgt (f i) = true := by
  have := h.one i hi
  unfold rgp at this
  rwa [ht, if_pos rfl] at this
theorem Rt.same {f : Nat → En} (h : Rt f) {i j : Nat} (hi : i < 64) (hj : j < 64) {x : Int} (h1 : at' f x i = true) (h2 : at' f x j = true) : i = j := by
  by_cases hne : i = j
  · exact hne
  · have := h.two i j hi hj hne
    obtain ⟨a1, a2⟩ := at_who h1
    obtain ⟨b1, b2⟩ := at_who h2
    simp [clh, a1, b1, alike, a2, b2] at this
theorem Rt.upd {f : Nat → En} (h : Rt f) {j : Nat} (hj : j < 64) {e : En} (he : rgp e = true) (hc : ∀ i, i < 64 → i ≠ j → clh (f i) e = false) : Rt (upd f j e) := by
  refine ⟨fun i hi => ?_, fun i m hi hm hne => ?_⟩
  · by_cases g : i = j
    · subst g; rw [upd_same]; exact he
    · rw [upd_ne _ _ g]; exact h.one i hi
  · by_cases g : i = j
    · subst g
      rw [upd_same, upd_ne _ _ (fun e => hne e.symm), clh_comm]
      exact hc m hm (fun e => hne e.symm)
    · by_cases g2 : m = j
      · subst g2
        rw [upd_same, upd_ne _ _ g]
        exact hc i hi g
      · rw [upd_ne _ _ g, upd_ne _ _ g2]
        exact h.two i m hi hm hne
theorem Rt.ev1 {g : Nat → En} (h : Rt g) (x : Int) : Rt (ev1 g x) := by
  unfold Go.Proofs.YtieagbjempndnaaDoor.ev1
  cases ho : on g x with
  | false => exact h
  | true =>
    obtain ⟨j, hj, hj64, _⟩ := on_at ho
    rw [if_pos rfl, hj, Int.toNat_natCast]
    exact h.upd hj64 rgp_zE fun i _ _ => clh_zE _
theorem Rt.evs : ∀ {L : List Int} {f : Nat → En}, Rt f → Rt (evs f L)
  | [], _, h => h
  | x :: r, f, h => Rt.evs (L := r) (h.ev1 x)
theorem ev1_sub (g : Nat → En) (x : Int) (i : Nat) : ev1 g x i = g i ∨ ev1 g x i = zE := by
  unfold ev1
  split
  · by_cases h : i = (fnd g x).toNat
    · right; rw [h, upd_same]
    · left; rw [upd_ne _ _ h]
  · exact .inl rfl
theorem evs_sub {i : Nat} : ∀ {L : List Int} {f : Nat → En}, evs f L i = f i ∨ evs f L i = zE
  | [], _ => .inl rfl
  | x :: r, f => by
    rcases evs_sub (L := r) (f := ev1 f x) (i := i) with h | h
    · rcases ev1_sub f x i with h2 | h2
      · left; exact h.trans h2
      · right; exact h.trans h2
    · right; exact h
theorem at_zE {x : Int} {f : Nat → En} {i : Nat} (h : f i = zE) : at' f x i = false := by unfold at'; rw [h, tkn_zE]; rfl
theorem at_off {x : Int} {i : Nat} {L : List Int} {f : Nat → En} (h : at' f x i = false) : at' (evs f L) x i = false := by
  rcases evs_sub (L := L) (f := f) (i := i) with e | e
  · unfold at' at h ⊢; rw [e]; exact h
  · exact at_zE e
theorem evs_append (f : Nat → En) (L M : List Int) : evs f (L ++ M) = evs (evs f L) M := by simp [evs]
/- Who is put out is off. -/
theorem at_ev1_off {g : Nat → En} (h : Rt g) {x : Int} (ho : on g x = true) {i : Nat} (hi : i < 64) : at' (ev1 g x) x i = false := by
  obtain ⟨j, hj, hj64, ha⟩ := on_at ho
  rw [ev1_on hj]
  by_cases e : i = j
  · subst e; exact at_zE (upd_same _ _ _)
  · unfold at'
    rw [upd_ne _ _ e]
    cases hc : at' g x i with
    | false => exact hc
    | true => exact absurd (h.same hi hj64 hc ha) e
theorem evs_off {f : Nat → En} (h : Rt f) {L : List Int} (hon : ∀ k, k < L.length → on (evs f (L.take k)) (L.getD k 0) = true) {x : Int} (hx : x ∈ L) {i : Nat} (hi : i < 64) : at' (evs f L) x i = false := by
  obtain ⟨k, hk, rfl⟩ := List.getElem_of_mem hx
  have e1 : L.getD k 0 = L[k] := by simp [List.getD, hk]
  have e2 : L = (L.take k ++ [L[k]]) ++ L.drop (k + 1) := by
    rw [← List.take_succ_eq_append_getElem hk, List.take_append_drop]
  have ho := hon k hk
  rw [e1] at ho
  have h1 := at_ev1_off (h.evs (L := L.take k)) ho hi
  rw [← evs_snoc] at h1
  have h2 := at_off (L := L.drop (k + 1)) h1
  rw [← evs_append, ← e2] at h2
  exact h2
theorem adm_cases (G : Nat → En) (T : List Nat) (J : List Int) (sc bs : Int) (i : Nat) : ∀ k, adm G T J sc bs k i = G i ∨ ∃ m, m < k ∧ i = T.getD m 0 ∧ adm G T J sc bs k i = ⟨J.getD m 0, bs + (m : Int), sc⟩
  | 0 => .inl rfl
  | k + 1 => by
    rw [adm]
    by_cases h : i = T.getD k 0
    · right; exact ⟨k, by omega, h, by rw [h, upd_same]⟩
    · rw [upd_ne _ _ h]
      rcases adm_cases G T J sc bs i k with e | ⟨m, h1, h2, h3⟩
      · exact .inl e
      · exact .inr ⟨m, by omega, h2, h3⟩
theorem frA_at {f : Nat → En} {bs : Int} {n : Nat} (h : frA f bs n 64 = true) {i : Nat} (hi : i < 64) : ¬ (bs ≤ (f i).bas ∧ (f i).bas < bs + (n : Int)) := by
  intro hc
  have := frA_bad hi (bs := bs) (n := n) (f := f) (by simp [hc.1, hc.2])
  rw [h] at this
  cases this
/- A move that is answered. -/
structure Mv (f : Nat → En) (L J : List Int) (sc bs : Int) : Prop where
  ok : FitOk f L J
  ep : eok sc = true
  fr : fre f bs J.length = true
section
variable {f : Nat → En} {L J : List Int} {sc bs : Int}
theorem mv_of (h : mvE f L J sc bs = 0) : Mv f L J sc bs := ⟨(mvE_zero h).1, (mvE_zero h).2.1, (mvE_zero h).2.2⟩
theorem Mv.rt (h : Mv f L J sc bs) : Rt f := chk_rt.1 h.ok.chk
theorem Mv.base (h : Mv f L J sc bs) {k : Nat} (hk : k < J.length) : 1 ≤ bs ∧ bs + (J.length : Int) ≤ 32768 := fre_bs h.fr (fun e => by rw [e] at hk; simp at hk)
theorem Mv.fa (h : Mv f L J sc bs) {k : Nat} (hk : k < J.length) : frA f bs J.length 64 = true := by
  have := h.fr
  unfold fre at this
  rw [decide_eq_false (show ¬ J.length = 0 by omega)] at this
  simp at this
  exact this.2
theorem Mv.slots (h : Mv f L J sc bs) {k : Nat} (hk : k < J.length) : Slots (evs f L) (mvT f L J) J sc bs k := h.ok.slots (h.base hk).1 hk
theorem Mv.r (h : mvE f L J sc bs = 0) : mvR f L J sc bs = adm (evs f L) (mvT f L J) J sc bs J.length := by unfold mvR; rw [if_pos h]
theorem off_at {f : Nat → En} {x : Int} (h : on f x = false) {i : Nat} (hi : i < 64) : at' f x i = false := by
  have : fnd f x = -1 := by rw [on_ne] at h; simpa using h
  exact fnd_none.1 this i hi
theorem not_take {J : List Int} {k m : Nat} (hk : k < J.length) (hm : m < k) (h : J.getD k 0 ∉ J.take k) : J.getD m 0 ≠ J.getD k 0 := by
  intro e
  apply h
  rw [← e, List.getD_eq_getElem?_getD, List.getElem?_eq_getElem (by omega)]
  exact List.mem_take_iff_getElem.2 ⟨m, by omega, rfl⟩
theorem Mv.step (h : Mv f L J sc bs) : ∀ k, k ≤ J.length → Rt (adm (evs f L) (mvT f L J) J sc bs k)
  | 0, _ => h.rt.evs
  | k + 1, hk => by
    have ih := h.step k (by omega)
    have hs := h.slots (show k < J.length by omega)
    obtain ⟨b1, b2⟩ := h.base (show k < J.length by omega)
    obtain ⟨j1, j2, j3⟩ := h.ok.jn k (by omega)
    rw [adm]
    have he : rgt ⟨J.getD k 0, bs + (k : Int), sc⟩ = true := by
      simp only [rgt, Bool.and_eq_true, decide_eq_true_eq]
      exact ⟨⟨⟨j1, by omega⟩, by omega⟩, h.ep⟩
    refine ih.upd hs.lt (rgp_of he) fun i hi hne => ?_
    cases ht : tkn (adm (evs f L) (mvT f L J) J sc bs k i) with
    | false => unfold clh; rw [ht]; rfl
    | true =>
      have key : (adm (evs f L) (mvT f L J) J sc bs k i).who ≠ J.getD k 0 ∧ (adm (evs f L) (mvT f L J) J sc bs k i).bas ≠ bs + (k : Int) := by
        rcases adm_cases (evs f L) (mvT f L J) J sc bs i k with e | ⟨m, m1, m2, m3⟩
        · rw [e] at ht ⊢
          rcases evs_sub (L := L) (f := f) (i := i) with e2 | e2
          · rw [e2] at ht ⊢
            have ha := off_at j3 hi
            unfold at' at ha
            rw [ht] at ha
            simp at ha
            refine ⟨ha, fun e3 => frA_at (h.fa (show k < J.length by omega)) hi ⟨by omega, by omega⟩⟩
          · rw [e2, tkn_zE] at ht; cases ht
        · rw [m3]
          refine ⟨not_take (by omega) m1 (fun hm => j2 (List.mem_append.2 (.inr hm))), ?_⟩
          show bs + (m : Int) ≠ bs + (k : Int)
          omega
      unfold clh alike
      rw [decide_eq_false key.1, decide_eq_false key.2]
      simp
theorem mvR_right (h : mvE f L J sc bs = 0) : chk (mvR f L J sc bs) = true := by
  rw [Mv.r h]
  exact chk_rt.2 ((mv_of h).step J.length (Nat.le_refl _))
end
end Go.Proofs.YtieagbjempndnaaDoor
