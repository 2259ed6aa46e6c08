/- What a played record has; a step's own record played. -/
import Derived.Test.YteocfmimgoocnaaGreatDoorRcL
import Derived.Test.YteocfmimgoocnaaGreatDoorPlJ5
import Derived.Test.YteocfmimgoocnaaGreatDoorRcJ3
namespace Go.Proofs.YteocfmimgoocnaaGreatDoor.Rc
open Rs (RdI ps Tb i64s)
set_option linter.unusedVariables false

theorem ply_len (t : Tr) (e f : Int) (L : List Int) (J : List (Int × Int)) : (plyL t e f L J).length ≤ 4096 ∧ (plyJ t e f L J).length ≤ 4096 ∧ (plyI t e f L J).length ≤ 4096 := by
  unfold plyL plyJ plyI
  have h1 := pnL_len t L (ws J)
  have h2 := pnJ_len t L (ws J)
  have h3 := pnI_short t L (ws J)
  split
  · exact ⟨by omega, by omega, h3⟩
  · simp
theorem ply_ok {t : Tr} {e f : Int} {L : List Int} {J : List (Int × Int)} (h : plyE t e f L J = 0) : plE t L (ws J) = 0 ∧ (pnT t L (ws J)).ep = e ∧ (pnT t L (ws J)).fr = f ∧ pnJ t L (ws J) = J := by
  unfold plyE at h
  cases htk : tck t with
  | false => rw [htk] at h; cases h
  | true =>
    rw [htk, if_pos rfl] at h
    by_cases h0 : plE t L (ws J) = 0
    · rw [if_pos h0] at h
      cases hs : sam (pnT t L (ws J)).ep (pnT t L (ws J)).fr L (pnJ t L (ws J)) e f L J with
      | false => rw [hs] at h; cases h
      | true =>
        obtain ⟨a, b, _, d⟩ := sam_iff.1 hs
        exact ⟨h0, a, b, d⟩
    · rw [if_neg h0] at h; cases h
theorem nx_ep {t : Tr} {L J : List Int} (h : plE t L J = 0) : (pnT t L J).ep = t.ep + 1 ∧ 0 ≤ t.ep ∧ t.ep ≤ 199 := by
  have hs := plE_stp h
  refine ⟨?_, hs.rt.e0, hs.ep⟩
  unfold pnT
  rw [if_pos h]
  rfl
theorem ply_ep {t : Tr} {e f : Int} {L : List Int} {J : List (Int × Int)} (h : plyE t e f L J = 0) : (plyT t e f L J).ep = e ∧ e = t.ep + 1 ∧ 0 ≤ t.ep ∧ t.ep ≤ 199 := by
  obtain ⟨h0, h1, _, _⟩ := ply_ok h
  obtain ⟨h2, h3, h4⟩ := nx_ep h0
  unfold plyT
  rw [if_pos h]
  exact ⟨h1, by omega, h3, h4⟩
theorem ws_adl (T : List Nat) (J : List Int) : ∀ k, k ≤ J.length → ws (Rs.adl T J k) = J.take k
  | 0, _ => rfl
  | k + 1, h => by
    have ih := ws_adl T J k (by omega)
    have e : ws (Rs.adl T J (k + 1)) = ws (Rs.adl T J k) ++ [J.getD k 0] := by
      show ws (Rs.adl T J k ++ [(J.getD k 0, ((T.getD k 0 : Nat) : Int))]) = _
      unfold ws
      rw [List.map_append]
      rfl
    rw [e, ih, take_nx 0 (by omega)]
theorem ws_jn {t : Tr} {L J : List Int} (h : plE t L J = 0) : ws (pnJ t L J) = J := by
  unfold pnJ
  rw [if_pos h]
  unfold jns
  rw [ws_adl _ _ _ (Nat.le_refl _), List.take_length]
/- A step's own record, played. -/
theorem play_own {t : Tr} {L J : List Int} (h : plE t L J = 0) :
    plyE t (pnT t L J).ep (pnT t L J).fr L (pnJ t L J) = 0 ∧ plyT t (pnT t L J).ep (pnT t L J).fr L (pnJ t L J) = pnT t L J ∧ plyP t (pnT t L J).ep (pnT t L J).fr L (pnJ t L J) = pnP t L J
    ∧ plyL t (pnT t L J).ep (pnT t L J).fr L (pnJ t L J) = pnL t L J ∧ plyJ t (pnT t L J).ep (pnT t L J).fr L (pnJ t L J) = pnJ t L J ∧ plyI t (pnT t L J).ep (pnT t L J).fr L (pnJ t L J) = pnI t L J := by
  have hw := ws_jn h
  have h0 : plyE t (pnT t L J).ep (pnT t L J).fr L (pnJ t L J) = 0 := by
    unfold plyE
    rw [(plE_stp h).ok, if_pos rfl, hw, if_pos h, sam_refl]
    rfl
  unfold plyT plyP plyL plyJ plyI
  rw [h0, hw]
  exact ⟨rfl, rfl, rfl, rfl, rfl, rfl⟩
/- A record played where its epoch is no longer next. -/
theorem play_again {t : Tr} {e f : Int} {L : List Int} {J : List (Int × Int)} (ht : tck t = true) (he : e ≠ t.ep + 1) : plyE t e f L J = 12 := by
  have hne : plyE t e f L J ≠ 0 := fun h => he (ply_ep h).2.1
  unfold plyE at hne ⊢
  rw [ht, if_pos rfl] at hne ⊢
  split
  · rename_i h0
    rw [if_pos h0] at hne
    split
    · rename_i hs
      rw [hs] at hne
      exact absurd rfl hne
    · rfl
  · rfl
end Go.Proofs.YteocfmimgoocnaaGreatDoor.Rc
