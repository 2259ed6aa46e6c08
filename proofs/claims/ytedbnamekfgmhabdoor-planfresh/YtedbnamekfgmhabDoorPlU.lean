/- Names in a row, each once; a map that counts. -/
import Derived.Test.YtedbnamekfgmhabDoorPlO
namespace Go.Proofs.YtedbnamekfgmhabDoor
open Go.RowKit Go.Maps
open Rt (Ky zK cu cd b1)
set_option linter.unusedVariables false
set_option linter.unusedSimpArgs false

def rng : Int → Nat → List Int
  | _, 0 => []
  | a, n + 1 => a :: rng (a + 1) n
theorem rng_len : ∀ (n : Nat) (a : Int), (rng a n).length = n
  | 0, _ => rfl
  | n + 1, a => by rw [rng, List.length_cons, rng_len n]
theorem rng_app : ∀ (m n : Nat) (a : Int), rng a (m + n) = rng a m ++ rng (a + (m : Int)) n
  | 0, n, a => by simp [rng]
  | m + 1, n, a => by
    rw [show m + 1 + n = (m + n) + 1 by omega, rng, rng_app m n, rng, List.cons_append]
    congr 3
    push_cast
    omega
theorem rng_snoc (a : Int) (n : Nat) : rng a (n + 1) = rng a n ++ [a + (n : Int)] := by rw [rng_app]; rfl
theorem rng_low {x : Int} : ∀ (n : Nat) (a : Int), x < a → (rng a n).count x = 0
  | 0, _, _ => rfl
  | n + 1, a, h => by
    rw [rng, List.count_cons, rng_low n (a + 1) (by omega)]
    have : (a == x) = false := by simp; omega
    rw [this]
    rfl
theorem rng_one : ∀ (n i : Nat) (a : Int), i < n → (rng a n).count (a + (i : Int)) = 1
  | 0, i, _, h => by omega
  | n + 1, 0, a, _ => by
    rw [rng, List.count_cons, rng_low n (a + 1) (by simp; omega)]
    simp
  | n + 1, i + 1, a, h => by
    have e : a + ((i + 1 : Nat) : Int) = (a + 1) + (i : Int) := by push_cast; omega
    rw [e, rng, List.count_cons, rng_one n i (a + 1) (by omega)]
    have : (a == a + 1 + (i : Int)) = false := by simp; omega
    rw [this]
    rfl
/- The replaced nodes' names, from the least node up. -/
def nms (r : Nat) (fr : Int) : Nat → List Int
  | 0 => []
  | v + 1 => nms r fr v ++ if r.testBit v then [fr + ((cd r (20 - v) : Nat) : Int)] else []
theorem nms_len (r : Nat) (fr : Int) : ∀ v, (nms r fr v).length ≤ v
  | 0 => Nat.le_refl _
  | v + 1 => by
    have := nms_len r fr v
    rw [nms, List.length_append]
    split <;> simp <;> omega
theorem nms_rev (r : Nat) (fr : Int) : ∀ v, v ≤ 21 → (nms r fr v).reverse = rng (fr + ((cu r 21 : Nat) : Int) - ((cu r v : Nat) : Int)) (cu r v)
  | 0, _ => rfl
  | v + 1, h => by
    have ih := nms_rev r fr v (by omega)
    have hc := Rt.cd_cu r (20 - v) (by omega)
    rw [show 21 - (20 - v) = v + 1 by omega] at hc
    have hs : cu r (v + 1) = cu r v + b1 r v := rfl
    rw [nms, List.reverse_append, ih]
    cases hb : r.testBit v with
    | false =>
      have : b1 r v = 0 := by unfold Rt.b1; rw [hb]; rfl
      rw [if_neg (by simp), hs, this]
      simp
    | true =>
      have h1 : b1 r v = 1 := by unfold Rt.b1; rw [hb]; rfl
      rw [if_pos rfl, hs, h1, rng]
      rw [hs, h1] at hc
      simp only [List.reverse_cons, List.reverse_nil, List.nil_append, List.singleton_append]
      congr 1
      · omega
      · congr 1
        push_cast
        omega
theorem all_once (r : Nat) (fr : Int) (m i : Nat) (hi : i < cu r 21 + m) : (nms r fr 21 ++ rng (fr + ((cu r 21 : Nat) : Int)) m).count (fr + (i : Int)) = 1 := by
  have h := nms_rev r fr 21 (Nat.le_refl _)
  rw [show fr + ((cu r 21 : Nat) : Int) - ((cu r 21 : Nat) : Int) = fr by omega] at h
  rw [List.count_append, ← List.count_reverse, h, ← List.count_append, ← rng_app]
  exact rng_one _ _ _ hi
/- A map that counts. -/
def hct (l : List Int) : Int → Option Int := fun x => if l.count x = 0 then none else some ((l.count x : Nat) : Int)
theorem hct_nil : hct [] = fun _ => none := by funext x; simp [hct]
theorem hct_get (l : List Int) (x : Int) : (hct l x).getD 0 = ((l.count x : Nat) : Int) := by
  unfold hct
  split
  · rename_i h; rw [h]; rfl
  · rfl
theorem hct_snoc (l : List Int) (z : Int) : hct (l ++ [z]) = hup (hct l) z (((l.count z : Nat) : Int) + 1) := by
  funext x
  unfold hct hup
  rw [List.count_append]
  by_cases e : x = z
  · subst e
    rw [if_pos rfl]
    simp
  · have : List.count x [z] = 0 := by rw [List.count_cons, List.count_nil]; have : (z == x) = false := by simp; omega
                                      rw [this]; rfl
    rw [if_neg e, this]
    rfl
theorem look0 {w : World} {b n : Nat} {H : Int → Option Int} (h : Mh w b n H) {x : Int} (hx : Wi x) : (Instr.lookup 43 (.map (some b)) (.int .i64 x) false).run Tryd.prog w = .ok (.int .i64 ((H x).getD 0)) w := by
  obtain ⟨D, h1, h2⟩ := h
  obtain ⟨c, hrun, hat, _⟩ := h1.lookup_int intK Tryd.underlying43 Tryd.underlying3 (zeroI w) (keyOf_int_mk Tryd.underlying3 hx)
  rw [(h2 x).2] at hat
  have e : (H x).getD 0 = c := by simpa using hat
  rw [e]
  exact hrun
end Go.Proofs.YtedbnamekfgmhabDoor
