/- Contracts: lists of seats that are read; the document's Same over them. -/
import Derived.Test.YtedbnamekfgmhabDoorRsL
namespace Go.Proofs.YtedbnamekfgmhabDoor.Rs
open Go.RowKit Go.Maps
set_option linter.unusedVariables false
set_option linter.unusedSimpArgs false

/- A list of seats that lies in memory. -/
def RdS (w : World) (a : Option Addr) (l : List (Int × Int)) : Prop := ∀ i, i < l.length → ∃ b, a = some ⟨b, 0, none⟩ ∧ w.cell? ⟨b, i * 2, none⟩ = some (.int .i64 (l.getD i (0, 0)).1) ∧ w.cell? ⟨b, i * 2 + 1, none⟩ = some (.int .i64 (l.getD i (0, 0)).2)
theorem RdS.later {w w' : World} {a : Option Addr} {l : List (Int × Int)} (h : RdS w a l) (hb : Below w.heap.size w w') : RdS w' a l := fun i hi => by
  obtain ⟨b, e, c0, c1⟩ := h i hi
  exact ⟨b, e, cell_later hb c0, cell_later hb c1⟩
theorem ps_get (l : List (Int × Int)) : ∀ i, i < l.length → (ps l)[i * 2]? = some (.int .i64 (l.getD i (0, 0)).1) ∧ (ps l)[i * 2 + 1]? = some (.int .i64 (l.getD i (0, 0)).2) := by
  induction l with
  | nil => intro i hi; cases hi
  | cons p l ih =>
    intro i hi
    have e : ps (p :: l) = .int .i64 p.1 :: .int .i64 p.2 :: ps l := rfl
    rw [e]
    cases i with
    | zero => exact ⟨rfl, rfl⟩
    | succ i =>
      have := ih i (by simpa using hi)
      rw [show (i + 1) * 2 = i * 2 + 1 + 1 by omega, show i * 2 + 1 + 1 + 1 = (i * 2 + 1) + 1 + 1 by omega]
      simpa using this
theorem owns_rd {W : World} {b : Nat} {v : Value} {l : List (Int × Int)} (h : W.ownsRow b 48 2 v l.length (ps l)) : ∃ a cap, v = .slice a l.length cap ∧ RdS W a l ∧ ∀ g o, a = some ⟨g, o, none⟩ → v.ownBlock = some g := by
  rcases h.2 with ⟨rfl, h0⟩ | ⟨g, cap, cur, rfl, h3, h4, h5, h6, h7, h8⟩
  · have : l = [] := List.length_eq_zero_iff.1 h0
    subst this
    exact ⟨none, 0, rfl, (fun i hi => by cases hi), fun g o e => by cases e⟩
  · refine ⟨some ⟨g, 0, none⟩, cap, rfl, fun i hi => ⟨g, rfl, ?_⟩, fun g' o e => by simp at e; simp [Value.ownBlock, e.1]⟩
    obtain ⟨p0, p1⟩ := ps_get l i hi
    have cell : ∀ j v, j < l.length * 2 → (ps l)[j]? = some v → W.cell? ⟨g, j, none⟩ = some v := fun j v hj hv => by
      rw [cell_of_row W g j _ _ _ h4, ← hv, ← h8, List.getElem?_take_of_lt hj]
      simp
    exact ⟨cell _ _ (by omega) p0, cell _ _ (by omega) p1⟩
set_option maxHeartbeats 400000 in
theorem sameS_none (a b : Option Addr) (c d : Nat) (w : World) :
    Calls Tryd.prog 39 #[.slice a 0 c, .slice b 0 d] w fun e w' => e = .returned (.bool true) ∧ Below w.heap.size w w' := by
  go_enter Tryd.func39, Tryd.ntmps39
  go_wp2_with fail
  go_loop [13] (fun i => i = .int .i64 0) (fun _ => 0)
  case atStart => rfl
  case round =>
    subst hrel
    go_wp2_with fail
    go_ret
    exact ⟨rfl, Below.refl _ _⟩
set_option maxRecDepth 100000 in
set_option maxHeartbeats 400000 in
theorem sameS_some (b c b' c' : Nat) (l : List (Int × Int)) (w : World) (hl : l.length < 4611686018427387904)
    (h1 : ∀ i, i < l.length → w.cell? ⟨b, i * 2, none⟩ = some (.int .i64 (l.getD i (0, 0)).1) ∧ w.cell? ⟨b, i * 2 + 1, none⟩ = some (.int .i64 (l.getD i (0, 0)).2))
    (h2 : ∀ i, i < l.length → w.cell? ⟨b', i * 2, none⟩ = some (.int .i64 (l.getD i (0, 0)).1) ∧ w.cell? ⟨b', i * 2 + 1, none⟩ = some (.int .i64 (l.getD i (0, 0)).2)) :
    Calls Tryd.prog 39 #[.slice (some ⟨b, 0, none⟩) l.length c, .slice (some ⟨b', 0, none⟩) l.length c'] w fun e w' => e = .returned (.bool true) ∧ Below w.heap.size w w' := by
  go_enter Tryd.func39, Tryd.ntmps39
  go_wp2_with fail
  go_loopw [13] (fun i wx => ∃ k : Nat, k ≤ l.length ∧ i = .int .i64 (k : Int) ∧ ∃ q, wx = w.drewN q) (fun i _ => l.length - (intOf i).toNat)
  case atStart => exact ⟨0, by omega, rfl, 0, rfl⟩
  case round =>
    obtain ⟨k, hk, rfl, q, rfl⟩ := hrel
    by_cases hkn : k < l.length
    · obtain ⟨c0, c1⟩ := h1 k hkn
      obtain ⟨d0, d1⟩ := h2 k hkn
      have e0 := cell_later (drewN_below w q) c0
      have e1 := cell_later (drewN_below w q) c1
      have f0 := cell_later (drewN_below w q) d0
      have f1 := cell_later (drewN_below w q) d1
      have i1 : (0 : Int) ≤ (k : Int) := by omega
      have i2 : (k : Int) < (l.length : Int) := by omega
      have HQ : Hid (∀ n, ∃ m, (w.drewN q).drewN n = w.drewN m) := fun n => ⟨q + n, by simp [World.drewN, Nat.add_assoc]⟩
      generalize (l.getD k (0, 0)).1 = x at *
      generalize (l.getD k (0, 0)).2 = y at *
      generalize w.drewN q = wq at *
      clear c0 c1 d0 d1 h1 h2
      go_wp2_with fail
      go_quiet (fail)
      go_wp2_with fail
      go_roundw
      case rel =>
        obtain ⟨m, hm⟩ := HQ.out nq
        exact ⟨k + 1, by omega, by go_num, m, hm⟩
      case measure => simp [intOf]; omega
    · obtain rfl : k = l.length := by omega
      have hdk : decide ((l.length : Int) < (l.length : Int)) = false := by simp
      go_wp2_with fail
      go_ret
      exact ⟨rfl, drewN_below w q⟩
theorem sameS_any (a a' : Option Addr) (c c' : Nat) (l : List (Int × Int)) (w : World) (hl : l.length < 4611686018427387904) (h1 : RdS w a l) (h2 : RdS w a' l) :
    Calls Tryd.prog 39 #[.slice a l.length c, .slice a' l.length c'] w fun e w' => e = .returned (.bool true) ∧ Below w.heap.size w w' := by
  cases l with
  | nil => exact sameS_none a a' c c' w
  | cons p l =>
    obtain ⟨b, rfl, _⟩ := h1 0 (by simp)
    obtain ⟨b', rfl, _⟩ := h2 0 (by simp)
    refine sameS_some b c b' c' (p :: l) w hl (fun i hi => ?_) fun i hi => ?_
    · obtain ⟨d, e, c0, c1⟩ := h1 i hi
      simp at e
      subst e
      exact ⟨c0, c1⟩
    · obtain ⟨d, e, c0, c1⟩ := h2 i hi
      simp at e
      subst e
      exact ⟨c0, c1⟩
end Go.Proofs.YtedbnamekfgmhabDoor.Rs
