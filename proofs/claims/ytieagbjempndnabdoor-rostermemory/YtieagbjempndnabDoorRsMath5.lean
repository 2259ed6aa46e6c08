/- Who is let in gets the least slot that is free by then. -/
import Derived.Test.YtieagbjempndnabDoorRsMath4
namespace Go.Proofs.YtieagbjempndnabDoor
set_option linter.unusedVariables false
set_option linter.unusedSimpArgs false

theorem take_getN {T : List Nat} {k : Nat} (h : k < T.length) : T.take (k + 1) = T.take k ++ [T.getD k 0] := by
  rw [List.take_succ_eq_append_getElem h]
  simp [List.getD, h]
theorem tk_adm {f : Nat → En} {T : List Nat} {J : List Int} {sc bs : Int} (hT : ∀ i ∈ T, i < 64) (hb : 1 ≤ bs) : ∀ k, k ≤ T.length → tk (adm f T J sc bs k) = pf (tk f) (T.take k)
  | 0, _ => rfl
  | k + 1, hk => by
    have ih := tk_adm (f := f) (J := J) (sc := sc) hT hb k (by omega)
    have h64 : T.getD k 0 < 64 := hT _ (by rw [List.getD_eq_getElem?_getD, List.getElem?_eq_getElem (by omega)]; exact List.getElem_mem _)
    have ht : tkn ⟨J.getD k 0, bs + (k : Int), sc⟩ = true := by simp [tkn]; omega
    rw [adm, tk_upd _ h64, ht, if_pos rfl, ih, take_getN (by omega), pf_snoc]
theorem bl_head {s t : Nat} {r : List Nat} (h : bl s = t :: r) : s.testBit t = true ∧ t < 64 ∧ ∀ i, i < t → s.testBit i = false := by
  obtain ⟨_, h2, h3, h4⟩ := bf_tail h
  refine ⟨h3, by omega, fun i hi => ?_⟩
  cases hb : s.testBit i with
  | false => rfl
  | true =>
    have hm : i ∈ bl s := mem_bl.2 ⟨by omega, hb⟩
    rw [h] at hm
    rcases List.mem_cons.1 hm with e | e
    · omega
    · rw [h4] at e
      have := (mem_bf.1 e).1
      omega
/- The slots that are given. -/
structure Slots (f : Nat → En) (T : List Nat) (J : List Int) (sc bs : Int) (k : Nat) : Prop where
  lt : T.getD k 0 < 64
  free : tkn (adm f T J sc bs k (T.getD k 0)) = false
  low : ∀ i, i < T.getD k 0 → tkn (adm f T J sc bs k i) = true
theorem slots_of {f : Nat → En} {J : List Int} {sc bs : Int} {n : Nat} (hn : n ≤ (bl (nt (tk f))).length) (hb : 1 ≤ bs) {k : Nat} (hk : k < n) : Slots f ((bl (nt (tk f))).take n) J sc bs k := by
  have hT : ∀ i ∈ (bl (nt (tk f))).take n, i < 64 := fun i hi => (mem_bl.1 (List.mem_of_mem_take hi)).1
  have hl : ((bl (nt (tk f))).take n).length = n := by rw [List.length_take]; omega
  have ht := tk_adm (f := f) (J := J) (sc := sc) hT hb k (by omega)
  rw [List.take_take, Nat.min_eq_left (by omega)] at ht
  have hd := bl_pf k (tk_lt f)
  rw [← ht, List.drop_eq_getElem_cons (show k < (bl (nt (tk f))).length by omega)] at hd
  obtain ⟨h1, h2, h3⟩ := bl_head hd
  have e : ((bl (nt (tk f))).take n).getD k 0 = (bl (nt (tk f)))[k] := by
    rw [List.getD_eq_getElem?_getD, List.getElem?_eq_getElem (by omega), List.getElem_take]
    rfl
  rw [← e] at h1 h2 h3
  refine ⟨h2, ?_, fun i hi => ?_⟩
  · rw [nt_bit (tk_lt _) h2, tk_bit _ h2] at h1
    simpa using h1
  · have := h3 i hi
    rw [nt_bit (tk_lt _) (by omega), tk_bit _ (by omega)] at this
    simpa using this
theorem FitOk.slots {f : Nat → En} {L J : List Int} (h : FitOk f L J) {sc bs : Int} (hb : 1 ≤ bs) {k : Nat} (hk : k < J.length) : Slots (evs f L) (mvT f L J) J sc bs k := slots_of h.free hb hk
theorem FitOk.lenT {f : Nat → En} {L J : List Int} (h : FitOk f L J) : (mvT f L J).length = J.length := by
  unfold mvT
  have := h.free
  rw [List.length_take]
  omega
end Go.Proofs.YtieagbjempndnabDoor
