/- What a batch that fits says; who is put out. -/
import Derived.Test.YtieagbjempndnabDoorRsMath3
namespace Go.Proofs.YtieagbjempndnabDoor
set_option linter.unusedVariables false
set_option linter.unusedSimpArgs false

theorem fr_zero {f : Nat → En} {lv : Bool} : ∀ {L p : List Int}, fr' f lv p L = 0 → ∀ k, k < L.length → er f lv (p ++ L.take k) (L.getD k 0) = 0
  | [], p, _, k, hk => by simp at hk
  | x :: r, p, h, k, hk => by
    rw [fr'] at h
    by_cases h0 : er f lv p x = 0
    · rw [if_pos h0] at h
      cases k with
      | zero => simpa using h0
      | succ k =>
        have := fr_zero h k (by simpa using hk)
        simpa using this
    · rw [if_neg h0] at h
      exact absurd h h0
theorem fr_of {f : Nat → En} {lv : Bool} : ∀ {L p : List Int}, (∀ k, k < L.length → er f lv (p ++ L.take k) (L.getD k 0) = 0) → fr' f lv p L = 0
  | [], p, _ => rfl
  | x :: r, p, h => by
    have h0 : er f lv p x = 0 := by simpa using h 0 (by simp)
    rw [fr', if_pos h0]
    exact fr_of fun k hk => by simpa using h (k + 1) (by simpa using hk)
theorem er_zero {f : Nat → En} {lv : Bool} {p : List Int} {x : Int} : er f lv p x = 0 ↔ wok x = true ∧ x ∉ p ∧ on f x = lv := by
  unfold er
  cases hw : wok x with
  | false => simp
  | true =>
    by_cases hm : x ∈ p
    · simp [hm]
    · cases lv <;> cases ho : on f x <;> simp [hm]
structure FitOk (f : Nat → En) (L J : List Int) : Prop where
  chk : chk f = true
  lv : ∀ k, k < L.length → wok (L.getD k 0) = true ∧ L.getD k 0 ∉ L.take k ∧ on f (L.getD k 0) = true
  jn : ∀ k, k < J.length → wok (J.getD k 0) = true ∧ J.getD k 0 ∉ L ++ J.take k ∧ on f (J.getD k 0) = false
  room : J.length ≤ 64 - cnt f + L.length
theorem ft_ok {f : Nat → En} {L J : List Int} (h : ft f L J = 0) : FitOk f L J := by
  unfold ft at h
  cases hc : chk f with
  | false => rw [hc] at h; simp at h
  | true =>
    rw [hc, if_pos rfl] at h
    by_cases h1 : fr' f true [] L = 0
    · rw [if_pos h1] at h
      by_cases h2 : fr' f false L J = 0
      · rw [if_pos h2] at h
        have h3 : ¬ (J.length > 64 - cnt f + L.length) := by intro h3; rw [if_pos h3] at h; omega
        refine ⟨hc, fun k hk => ?_, fun k hk => ?_, by omega⟩
        · have := er_zero.1 (fr_zero h1 k hk)
          simpa using this
        · exact er_zero.1 (fr_zero h2 k hk)
      · rw [if_neg h2] at h; exact absurd h h2
    · rw [if_neg h1] at h; exact absurd h h1
theorem ft_of {f : Nat → En} {L J : List Int} (h : FitOk f L J) : ft f L J = 0 := by
  have h1 : fr' f true [] L = 0 := fr_of fun k hk => er_zero.2 (by simpa using h.lv k hk)
  have h2 : fr' f false L J = 0 := fr_of fun k hk => er_zero.2 (h.jn k hk)
  rw [ft_full h.chk h1 h2, if_neg (by have := h.room; omega)]
/- Where somebody is found hangs on the seats that are taken with that number alone. -/
theorem fd_congr {f g : Nat → En} {x : Int} : ∀ (n k : Nat), (∀ i, k ≤ i → i < k + n → at' f x i = at' g x i) → fd f x k n = fd g x k n
  | 0, k, _ => rfl
  | n + 1, k, h => by
    unfold fd
    rw [h k (Nat.le_refl _) (by omega), fd_congr n (k + 1) fun i h1 h2 => h i (by omega) (by omega)]
theorem fnd_congr {f g : Nat → En} {x : Int} (h : ∀ i, i < 64 → at' f x i = at' g x i) : fnd f x = fnd g x := fd_congr 64 0 fun i _ hi => h i (by omega)
theorem on_at {f : Nat → En} {x : Int} (h : on f x = true) : ∃ j : Nat, fnd f x = (j : Int) ∧ j < 64 ∧ at' f x j = true := by
  rcases fnd_range f x with e | ⟨j, e, h1, h2, _⟩
  · unfold on at h; rw [e] at h; simp at h
  · exact ⟨j, e, h1, h2⟩
theorem at_who {f : Nat → En} {x : Int} {i : Nat} (h : at' f x i = true) : tkn (f i) = true ∧ (f i).who = x := by simpa [at'] using h
theorem tkn_zE : tkn zE = false := rfl
theorem at_ev1 {g : Nat → En} {x y : Int} (hne : x ≠ y) (i : Nat) : at' (ev1 g y) x i = at' g x i := by
  unfold ev1
  cases ho : on g y with
  | false => rfl
  | true =>
    obtain ⟨j, hj, hj64, ha⟩ := on_at ho
    obtain ⟨h1, h2⟩ := at_who ha
    rw [if_pos rfl, hj, Int.toNat_natCast]
    by_cases hi : i = j
    · subst hi
      unfold at'
      rw [upd_same, tkn_zE, h2]
      have hd : decide (y = x) = false := decide_eq_false (fun e => hne e.symm)
      rw [hd]
      simp
    · unfold at'
      rw [upd_ne _ _ hi]
theorem at_evs {x : Int} {i : Nat} : ∀ {L : List Int} {f : Nat → En}, x ∉ L → at' (evs f L) x i = at' f x i
  | [], f, _ => rfl
  | y :: r, f, h => by
    have h1 : x ≠ y := fun e => h (by simp [e])
    have h2 : x ∉ r := fun e => h (by simp [e])
    show at' (evs (ev1 f y) r) x i = _
    rw [at_evs h2, at_ev1 h1]
theorem fnd_evs {x : Int} {L : List Int} {f : Nat → En} (h : x ∉ L) : fnd (evs f L) x = fnd f x := fnd_congr fun i _ => at_evs h
theorem on_evs {x : Int} {L : List Int} {f : Nat → En} (h : x ∉ L) : on (evs f L) x = on f x := by unfold on; rw [fnd_evs h]
theorem FitOk.out {f : Nat → En} {L J : List Int} (h : FitOk f L J) : ∀ k, k < L.length → on (evs f (L.take k)) (L.getD k 0) = true := fun k hk => by
  obtain ⟨_, h2, h3⟩ := h.lv k hk
  rw [on_evs h2]
  exact h3
/- How many are on. -/
theorem tk_upd (g : Nat → En) {j : Nat} (hj : j < 64) (e : En) : tk (upd g j e) = if tkn e then put (tk g) j else drp (tk g) j := by
  apply eq_of_bits (tk_lt _) (by split; exact put_lt (tk_lt _) hj; exact drp_lt (tk_lt _))
  intro i hi
  rw [tk_bit _ hi]
  by_cases h : i = j
  · subst h
    rw [upd_same]
    cases he : tkn e with
    | true => rw [if_pos rfl, put_bit]; simp
    | false => rw [if_neg (by simp), drp_bit hj hi]; simp
  · rw [upd_ne _ _ h]
    have hd : decide (j = i) = false := decide_eq_false (fun e => h e.symm)
    split
    · rw [put_bit, hd, Bool.false_or, tk_bit _ hi]
    · rw [drp_bit hj hi, hd, tk_bit _ hi]; rfl
theorem put_self {s j : Nat} (hs : s < 18446744073709551616) (hj : j < 64) (h : s.testBit j = true) : put s j = s := by
  apply eq_of_bits (put_lt hs hj) hs
  intro i hi
  rw [put_bit]
  by_cases e : j = i
  · subst e; simp [h]
  · simp [e]
theorem drp_self {s j : Nat} (hs : s < 18446744073709551616) (hj : j < 64) (h : s.testBit j = false) : drp s j = s := by
  apply eq_of_bits (drp_lt hs) hs
  intro i hi
  rw [drp_bit hj hi]
  by_cases e : j = i
  · subst e; simp [h]
  · simp [e]
theorem cnt_drop {g : Nat → En} {j : Nat} (hj : j < 64) (h : tkn (g j) = true) {e : En} (he : tkn e = false) : cnt (upd g j e) + 1 = cnt g := by
  unfold cnt
  rw [tk_upd g hj e, he, if_neg (by simp)]
  have h1 := put_drp (tk_lt g) hj
  rw [put_self (tk_lt g) hj (by rw [tk_bit g hj]; exact h)] at h1
  omega
theorem cnt_put {g : Nat → En} {j : Nat} (hj : j < 64) (h : tkn (g j) = false) {e : En} (he : tkn e = true) : cnt (upd g j e) = cnt g + 1 := by
  unfold cnt
  rw [tk_upd g hj e, he, if_pos rfl]
  have h1 := put_drp (tk_lt g) hj
  rw [drp_self (tk_lt g) hj (by rw [tk_bit g hj]; exact h)] at h1
  exact h1
theorem cnt_ev1 {g : Nat → En} {x : Int} (h : on g x = true) : cnt (ev1 g x) + 1 = cnt g := by
  obtain ⟨j, hj, hj64, ha⟩ := on_at h
  rw [ev1_on hj]
  exact cnt_drop hj64 (at_who ha).1 tkn_zE
theorem cnt_evs {f : Nat → En} {L : List Int} (h : ∀ k, k < L.length → on (evs f (L.take k)) (L.getD k 0) = true) : ∀ k, k ≤ L.length → cnt (evs f (L.take k)) + k = cnt f
  | 0, _ => rfl
  | k + 1, hk => by
    have ih := cnt_evs h k (by omega)
    have e : L.take (k + 1) = L.take k ++ [L.getD k 0] := by
      rw [List.take_succ_eq_append_getElem (by omega)]
      simp [List.getD, show k < L.length by omega]
    rw [e, evs_snoc]
    have := cnt_ev1 (h k (by omega))
    omega
theorem FitOk.cnt {f : Nat → En} {L J : List Int} (h : FitOk f L J) : cnt (evs f L) + L.length = cnt f := by
  have := cnt_evs h.out L.length (Nat.le_refl _)
  rwa [List.take_length] at this
theorem FitOk.lenL {f : Nat → En} {L J : List Int} (h : FitOk f L J) : L.length ≤ 64 := by have := h.cnt; have := cnt_le f; omega
theorem FitOk.free {f : Nat → En} {L J : List Int} (h : FitOk f L J) : J.length ≤ (bl (nt (tk (evs f L)))).length := by
  rw [cnt_nt]
  have h1 := h.cnt
  have h2 := h.room
  have h3 := cnt_le f
  have h4 := cnt_le (evs f L)
  omega
theorem FitOk.lenJ {f : Nat → En} {L J : List Int} (h : FitOk f L J) : J.length ≤ 64 := Nat.le_trans h.free (bl_len _)
theorem fre_bs {f : Nat → En} {bs : Int} {J : List Int} (h : fre f bs J.length = true) (h0 : J ≠ []) : 1 ≤ bs ∧ bs + (J.length : Int) ≤ 32768 := by
  unfold fre at h
  have h1 : decide (J.length = 0) = false := decide_eq_false fun e => h0 (List.length_eq_zero_iff.1 e)
  rw [h1] at h
  simp at h
  omega
theorem mvE_zero {f : Nat → En} {L J : List Int} {sc bs : Int} (h : mvE f L J sc bs = 0) : FitOk f L J ∧ eok sc = true ∧ fre f bs J.length = true := by
  unfold mvE at h
  by_cases h1 : ft f L J = 0
  · rw [if_pos h1] at h
    cases h2 : eok sc with
    | false => rw [h2] at h; simp at h
    | true =>
      rw [h2, if_pos rfl] at h
      cases h3 : fre f bs J.length with
      | false => rw [h3] at h; simp at h
      | true => exact ⟨ft_ok h1, rfl, rfl⟩
  · rw [if_neg h1] at h; exact absurd h h1
theorem mvE_of {f : Nat → En} {L J : List Int} {sc bs : Int} (h1 : FitOk f L J) (h2 : eok sc = true) (h3 : fre f bs J.length = true) : mvE f L J sc bs = 0 := by
  unfold mvE
  rw [if_pos (ft_of h1), h2, if_pos rfl, h3, if_pos rfl]
end Go.Proofs.YtieagbjempndnabDoor
