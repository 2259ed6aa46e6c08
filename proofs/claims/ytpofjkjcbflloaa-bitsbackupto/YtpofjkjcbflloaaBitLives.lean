/- Contracts: Same of the document's answers; lives. -/
import Derived.Test.YtpofjkjcbflloaaBitPack
import Derived.Test.YtpofjkjcbflloaaBitUnpack
namespace Go.Proofs.Ytpofjkjcbflloaa
open Go.RowKit Go.Maps
set_option linter.unusedVariables false

def RdU (w : World) (a : Option Addr) (l : List Nat) : Prop :=
  ∀ i, i < l.length → ∃ b o, a = some ⟨b, o, none⟩ ∧ w.cell? ⟨b, o + i, none⟩ = some (.int .u64 (l.getD i 0 : Nat))
theorem RdU.later {w w' : World} {a : Option Addr} {l : List Nat} (h : RdU w a l) (hb : Below w.heap.size w w') : RdU w' a l := fun i hi => by
  obtain ⟨b, o, e, c0⟩ := h i hi
  exact ⟨b, o, e, cell_later hb c0⟩
theorem RdU.spot {w : World} {a : Option Addr} {l : List Nat} (h : RdU w a l) (h0 : l ≠ []) : ∃ b o, a = some ⟨b, o, none⟩ ∧ ∀ i, i < l.length → w.cell? ⟨b, o + i, none⟩ = some (.int .u64 (l.getD i 0 : Nat)) := by
  have hp : 0 < l.length := List.length_pos_iff.2 h0
  obtain ⟨b, o, e, _⟩ := h 0 hp
  refine ⟨b, o, e, fun i hi => ?_⟩
  obtain ⟨b', o', e', c0⟩ := h i hi
  rw [e] at e'
  simp at e'
  obtain ⟨rfl, rfl⟩ := e'
  exact c0
theorem rdu_of_row {w : World} {B e : Nat} {v : Value} {l : List Nat} (h : w.ownsRow B e 1 v l.length (u64s l)) : ∃ a cap, v = .slice a l.length cap ∧ RdU w a l := by
  rcases h.2 with ⟨h0, h1⟩ | ⟨r, cap, cur, hv, _⟩
  · have : l = [] := List.length_eq_zero_iff.1 h1
    subst this
    exact ⟨none, 0, h0, fun i hi => by cases hi⟩
  · subst hv
    refine ⟨_, cap, rfl, fun i hi => ⟨r, 0, rfl, ?_⟩⟩
    rw [Nat.zero_add, h.cellAt i (by omega)]
    simp [u64s, hi]
theorem un_len (T : List Bool) (ws : List Int) : (unL T ws).length ≤ ws.length := by
  cases h : tk T ws with
  | none => rw [(un_bad h).1]; simp
  | some p =>
    obtain ⟨c, vs⟩ := p
    cases hd : dn T c with
    | true => rw [(un_good h hd).1, (tk_lt h).2]; exact Nat.le_refl _
    | false => rw [(un_open h hd).1]; simp
theorem same_none (a b : Option Addr) (c d : Nat) (w : World) :
    Calls Try.prog 14 #[.slice a 0 c, .slice b 0 d] w fun e w' => e = .returned (.bool true) ∧ Below w.heap.size w w' := by
  go_enter Try.func14, Try.ntmps14
  go_wp2
  refine wp_loop_rounds 1 ?_
  rw [rounds_succ]
  go_wp2
  go_ret
  exact ⟨rfl, Below.refl _ _⟩
set_option maxHeartbeats 1000000 in
theorem same_some (b o c b' o' c' n : Nat) (X : Nat → Nat) (w : World) (hl : n < 4611686018427387904)
    (h1 : ∀ i, i < n → w.cell? ⟨b, o + i, none⟩ = some (.int .u64 (X i : Nat)))
    (h2 : ∀ i, i < n → w.cell? ⟨b', o' + i, none⟩ = some (.int .u64 (X i : Nat))) :
    Calls Try.prog 14 #[.slice (some ⟨b, o, none⟩) n c, .slice (some ⟨b', o', none⟩) n c'] w fun e w' => e = .returned (.bool true) ∧ Below w.heap.size w w' := by
  go_enter Try.func14, Try.ntmps14
  go_wp2
  go_loopw [13] (fun i wr => ∃ k : Nat, k ≤ n ∧ i = .int .i64 (k : Int) ∧ Below w.heap.size w wr) (fun i _ => n - (intOf i).toNat)
  case atStart => exact ⟨0, by omega, rfl, Below.refl _ _⟩
  case round =>
    obtain ⟨k, hk, rfl, hb⟩ := hrel
    by_cases hkn : k < n
    · have c0 := cell_later hb (h1 k hkn)
      have d0 := cell_later hb (h2 k hkn)
      have H : Hid (Below w.heap.size w wr) := hb
      generalize ((X k : Nat) : Int) = x at c0 d0
      clear h1 h2 hb
      have i1 : (0 : Int) ≤ (k : Int) := by omega
      have i2 : (k : Int) < (n : Int) := by omega
      go_wp2_with fail
      go_region_held3 (fun w' => w'.cell? ⟨b, o + k, none⟩ = some (.int .u64 x) ∧ w'.cell? ⟨b', o' + k, none⟩ = some (.int .u64 x)) (go_keep) (fail)
      go_wp2
      go_roundw
      case rel => exact ⟨k + 1, by omega, by go_num, H.out.drew⟩
      case measure => simp [intOf]; omega
    · have hkn' : decide ((k : Int) < (n : Int)) = false := by simp; omega
      go_wp2
      go_ret
      exact ⟨rfl, hb⟩
theorem same_any (a a' : Option Addr) (c c' n : Nat) (l : List Nat) (hn : l.length = n) (w : World) (hl : n < 4611686018427387904) (h1 : RdU w a l) (h2 : RdU w a' l) :
    Calls Try.prog 14 #[.slice a n c, .slice a' n c'] w fun e w' => e = .returned (.bool true) ∧ Below w.heap.size w w' := by
  subst hn
  by_cases h : l = []
  · subst h; exact same_none a a' c c' w
  · obtain ⟨b, o, rfl, k1⟩ := h1.spot h
    obtain ⟨b', o', rfl, k2⟩ := h2.spot h
    exact same_some b o c b' o' c' l.length _ w hl k1 k2
theorem live1 : pkS [(5, 3), (1, 1), (0, 4)] = ⟨#[176]⟩ := by rfl
theorem live2 : pkE [(5, 3), (1, 1), (0, 4)] = 0 := by rfl
theorem live3 : unL (tb (bys ⟨#[176]⟩)) [3, 1] = [5, 1] := by rfl
theorem live4 : unE (tb (bys ⟨#[176]⟩)) [3, 1] = 0 := by rfl
set_option maxHeartbeats 2000000 in
set_option maxRecDepth 100000 in
theorem lives_any (w : World) : Calls Try.prog 9 #[] w fun e w' => e = .returned (.bool true) ∧ Below w.heap.size w w' := by
  have hp := fun (w0 : World) (h : RdF w0 (some ⟨w.heap.size, 0, none⟩) [(5, 3), (1, 1), (0, 4)]) => pack_any (some ⟨w.heap.size, 0, none⟩) 3 3 [(5, 3), (1, 1), (0, 4)] rfl w0 (by omega) h
  rw [live1, live2] at hp
  go_enter Try.func9, Try.ntmps9
  go_wp2_with fail
  refine (hp _ ?_).mono ?_
  · intro i hi
    have : i = 0 ∨ i = 1 ∨ i = 2 := by simp at hi; omega
    rcases this with rfl | rfl | rfl <;> exact ⟨_, _, rfl, by simp [go_sem], by simp [go_sem], by simp⟩
  rintro e w1 ⟨rfl, hb1⟩
  have HB1 : Hid (Below w.heap.size w w1) := Below.then (below1 _ _) hb1
  clear hb1 hp
  have hu := fun (w0 : World) (h : RdI w0 (some ⟨w1.heap.size, 0, none⟩) [3, 1]) => unpack_any (some ⟨w1.heap.size, 0, none⟩) 2 2 [3, 1] _ ⟨#[176]⟩ rfl rfl w0 (by omega) (by decide) h
  rw [live3, live4] at hu
  go_wp2_with fail
  refine (hu _ ?_).mono ?_
  · intro i hi
    have : i = 0 ∨ i = 1 := by simp at hi; omega
    rcases this with rfl | rfl <;> exact ⟨_, _, rfl, by simp [go_sem]⟩
  rintro e w2 ⟨v, rfl, hrow, hb2⟩
  have HB2 : Hid (Below w.heap.size w w2) := Below.then (Below.then HB1.out (below1 _ _)) hb2
  obtain ⟨a, cap, rfl, hrd⟩ := rdu_of_row hrow
  clear hb2 hu hrow
  have hsm := fun (w0 : World) (h1 : RdU w0 a [5, 1]) (h2 : RdU w0 (some ⟨w2.heap.size, 0, none⟩) [5, 1]) => same_any a (some ⟨w2.heap.size, 0, none⟩) cap 2 2 [5, 1] rfl w0 (by omega) h1 h2
  have HRD : Hid (RdU w2 a [5, 1]) := hrd
  clear hrd
  go_wp2_with fail
  refine (hsm _ (HRD.out.later (below1 _ _)) ?_).mono ?_
  · intro i hi
    have : i = 0 ∨ i = 1 := by simp at hi; omega
    rcases this with rfl | rfl <;> exact ⟨_, _, rfl, by simp [go_sem]⟩
  rintro e w3 ⟨rfl, hb3⟩
  have HB3 : Hid (Below w.heap.size w w3) := Below.then (Below.then HB2.out (below1 _ _)) hb3
  clear hb3 hsm
  go_wp2_with fail
  refine (new_any _).mono ?_
  rintro e w4 ⟨rfl, rfl⟩
  go_wp2_with fail
  refine (read_any _ _).mono ?_
  rintro e w5 ⟨rfl, rfl⟩
  go_wp2_with fail
  go_ret
  exact ⟨rfl, Below.more (Below.more HB3.out _) _⟩
end Go.Proofs.Ytpofjkjcbflloaa
