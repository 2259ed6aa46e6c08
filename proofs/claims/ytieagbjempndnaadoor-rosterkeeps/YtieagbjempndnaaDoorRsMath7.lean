/- Who stays, who leaves, who joins; there and back. -/
import Derived.Test.YtieagbjempndnaaDoorRsMath6
namespace Go.Proofs.YtieagbjempndnaaDoor
set_option linter.unusedVariables false
set_option linter.unusedSimpArgs false

section
variable {f : Nat → En} {L J : List Int} {sc bs : Int}
theorem getD_mem {l : List Int} {k : Nat} (h : k < l.length) : l.getD k 0 ∈ l := by
  rw [List.getD_eq_getElem?_getD, List.getElem?_eq_getElem h]
  exact List.getElem_mem _
/- The slots that are given are free, and unlike. -/
theorem T_free {m : Nat} (hm : m < (mvT f L J).length) : (mvT f L J).getD m 0 < 64 ∧ tkn (evs f L ((mvT f L J).getD m 0)) = false := by
  have h : (mvT f L J).getD m 0 ∈ mvT f L J := by
    rw [List.getD_eq_getElem?_getD, List.getElem?_eq_getElem hm]
    exact List.getElem_mem _
  have h2 := mem_bl.1 (List.mem_of_mem_take (show (mvT f L J).getD m 0 ∈ (bl (nt (tk (evs f L)))).take J.length from h))
  refine ⟨h2.1, ?_⟩
  have h3 := h2.2
  rw [nt_bit (tk_lt _) h2.1, tk_bit _ h2.1] at h3
  simpa using h3
/- Who stays. -/
theorem evs_keep {i : Nat} (ht : tkn (f i) = true) (hn : (f i).who ∉ L) : evs f L i = f i := by
  have h1 : at' f (f i).who i = true := by simp [at', ht]
  rw [← at_evs (L := L) hn] at h1
  rcases evs_sub (L := L) (f := f) (i := i) with e | e
  · exact e
  · rw [at_zE e] at h1; cases h1
theorem adm_keep (h : Mv f L J sc bs) {i : Nat} (ht : tkn (evs f L i) = true) : ∀ k, k ≤ J.length → adm (evs f L) (mvT f L J) J sc bs k i = evs f L i := fun k hk => by
  rcases adm_cases (evs f L) (mvT f L J) J sc bs i k with e | ⟨m, m1, m2, m3⟩
  · exact e
  · have := (T_free (f := f) (L := L) (J := J) (m := m) (by rw [h.ok.lenT]; omega)).2
    rw [← m2, ht] at this
    cases this
theorem mv_stays (h : mvE f L J sc bs = 0) {i : Nat} (ht : tkn (f i) = true) (hn : (f i).who ∉ L) : mvR f L J sc bs i = f i := by
  have hk := evs_keep (f := f) (L := L) ht hn
  rw [Mv.r h, adm_keep (mv_of h) (by rw [hk]; exact ht) _ (Nat.le_refl _), hk]
/- Who leaves. -/
theorem mv_leaves (h : mvE f L J sc bs = 0) {x : Int} (hx : x ∈ L) : fnd (mvR f L J sc bs) x = -1 := by
  refine fnd_none.2 fun i hi => ?_
  have hm := mv_of h
  rw [Mv.r h]
  rcases adm_cases (evs f L) (mvT f L J) J sc bs i J.length with e | ⟨m, m1, m2, m3⟩
  · unfold at'
    rw [e]
    exact evs_off hm.rt hm.ok.out hx hi
  · unfold at'
    rw [m3]
    have : J.getD m 0 ≠ x := fun e => (hm.ok.jn m m1).2.1 (List.mem_append.2 (.inl (by rw [e]; exact hx)))
    rw [show (⟨J.getD m 0, bs + (m : Int), sc⟩ : En).who = J.getD m 0 from rfl, decide_eq_false this]
    simp
/- Who joins. -/
theorem adm_get (h : Mv f L J sc bs) {m : Nat} : ∀ k, m < k → k ≤ J.length → adm (evs f L) (mvT f L J) J sc bs k ((mvT f L J).getD m 0) = ⟨J.getD m 0, bs + (m : Int), sc⟩
  | 0, h1, _ => by omega
  | k + 1, h1, h2 => by
    rw [adm]
    by_cases e : m = k
    · subst e; rw [upd_same]
    · have ih := adm_get h (m := m) k (by omega) (by omega)
      have hs := h.slots (show k < J.length by omega)
      have hne : (mvT f L J).getD m 0 ≠ (mvT f L J).getD k 0 := fun e2 => by
        have h3 := hs.free
        rw [← e2, ih] at h3
        have h4 := (h.base (show k < J.length by omega)).1
        simp [tkn] at h3
        omega
      rw [upd_ne _ _ hne, ih]
theorem mv_joins (h : mvE f L J sc bs = 0) {m : Nat} (hm : m < J.length) : fnd (mvR f L J sc bs) (J.getD m 0) = (((mvT f L J).getD m 0 : Nat) : Int) := by
  have hv := mv_of h
  have hg := adm_get hv (m := m) J.length hm (Nat.le_refl _)
  have ht := T_free (f := f) (L := L) (J := J) (m := m) (by rw [hv.ok.lenT]; omega)
  have ha : at' (mvR f L J sc bs) (J.getD m 0) ((mvT f L J).getD m 0) = true := by
    unfold at'
    rw [Mv.r h, hg]
    have := (hv.base hm).1
    simp [tkn]
    omega
  have hrt : Rt (mvR f L J sc bs) := chk_rt.1 (mvR_right h)
  rcases fnd_range (mvR f L J sc bs) (J.getD m 0) with e | ⟨j, e, h1, h2, _⟩
  · have := fnd_none.1 e _ ht.1
    rw [ha] at this
    cases this
  · rw [e, hrt.same h1 ht.1 h2 ha]
theorem adl_get (T : List Nat) (J : List Int) {m : Nat} : ∀ k, m < k → (adl T J k).getD m (0, 0) = (J.getD m 0, ((T.getD m 0 : Nat) : Int))
  | 0, h => by omega
  | k + 1, h => by
    rw [adl]
    by_cases e : m = k
    · subst e
      rw [List.getD_eq_getElem?_getD, List.getElem?_append_right (by rw [adl_length]; omega), adl_length]
      simp
    · have ih := adl_get T J (m := m) k (by omega)
      rw [List.getD_eq_getElem?_getD, List.getElem?_append_left (by rw [adl_length]; omega), ← List.getD_eq_getElem?_getD, ih]
theorem evl_get : ∀ {L : List Int} {f : Nat → En} {m : Nat}, m < L.length → (evl f L).getD m (0, 0) = (L.getD m 0, fnd (evs f (L.take m)) (L.getD m 0))
  | [], f, m, h => by simp at h
  | x :: r, f, 0, _ => rfl
  | x :: r, f, m + 1, h => by
    have ih := evl_get (L := r) (f := ev1 f x) (m := m) (by simpa using h)
    rw [evl]
    simpa [evs] using ih
/- How many are on behind it. -/
theorem cnt_adm (h : Mv f L J sc bs) : ∀ k, k ≤ J.length → cnt (adm (evs f L) (mvT f L J) J sc bs k) = cnt (evs f L) + k
  | 0, _ => rfl
  | k + 1, hk => by
    have hs := h.slots (show k < J.length by omega)
    have hb := (h.base (show k < J.length by omega)).1
    rw [adm, cnt_put hs.lt hs.free (by simp [tkn]; omega), cnt_adm h k (by omega)]
    omega
theorem mv_cnt (h : mvE f L J sc bs = 0) : cnt (mvR f L J sc bs) + L.length = cnt f + J.length := by
  have hv := mv_of h
  rw [Mv.r h, cnt_adm hv _ (Nat.le_refl _)]
  have := hv.ok.cnt
  omega
/- There and back. -/
theorem back_ok (h : mvE f [] J sc bs = 0) : FitOk (mvR f [] J sc bs) J [] := by
  have hv := mv_of h
  refine ⟨mvR_right h, fun k hk => ?_, (fun k hk => by simp at hk), by simp⟩
  obtain ⟨h1, h2, _⟩ := hv.ok.jn k hk
  refine ⟨h1, by simpa using h2, ?_⟩
  unfold on
  rw [mv_joins h hk]
  simp
theorem back_E (h : mvE f [] J sc bs = 0) : mvE (mvR f [] J sc bs) J [] sc 0 = 0 := mvE_of (back_ok h) (mv_of h).ep rfl
theorem back_R (h : mvE f [] J sc bs = 0) : ∀ i, i < 64 → mvR (mvR f [] J sc bs) J [] sc 0 i = f i := fun i hi => by
  have hv := mv_of h
  have hok := back_ok h
  have hrt : Rt (mvR f [] J sc bs) := chk_rt.1 (mvR_right h)
  rw [Mv.r (back_E h)]
  show evs (mvR f [] J sc bs) J i = f i
  have hr := Mv.r h
  rcases adm_cases (evs f []) (mvT f [] J) J sc bs i J.length with e | ⟨m, m1, m2, m3⟩
  · have e1 : mvR f [] J sc bs i = f i := by rw [hr]; exact e
    cases ht : tkn (f i) with
    | true =>
      have hn : (mvR f [] J sc bs i).who ∉ J := by
        rw [e1]
        intro hm
        obtain ⟨k, hk, hke⟩ := List.getElem_of_mem hm
        have hj := (hv.ok.jn k hk).2.2
        have e2 : J.getD k 0 = (f i).who := by rw [← hke]; simp [List.getD, hk]
        rw [e2] at hj
        have := off_at hj hi
        simp [at', ht] at this
      rw [evs_keep (by rw [e1]; exact ht) hn, e1]
    | false =>
      rcases evs_sub (L := J) (f := mvR f [] J sc bs) (i := i) with e2 | e2
      · rw [e2, e1]
      · rw [e2, hv.rt.free hi ht]
  · have e1 : mvR f [] J sc bs i = ⟨J.getD m 0, bs + (m : Int), sc⟩ := by rw [hr]; exact m3
    have hz : f i = zE := by
      have := (T_free (f := f) (L := []) (J := J) (m := m) (by rw [hv.ok.lenT]; omega)).2
      rw [← m2] at this
      exact hv.rt.free hi this
    have hoff := evs_off hrt hok.out (getD_mem m1) hi
    rcases evs_sub (L := J) (f := mvR f [] J sc bs) (i := i) with e2 | e2
    · unfold at' at hoff
      rw [e2, e1] at hoff
      have := (hv.base m1).1
      simp [tkn] at hoff
      omega
    · rw [e2, hz]
end
end Go.Proofs.YtieagbjempndnaaDoor
