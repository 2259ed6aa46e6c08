/- Contract: Same of the document's answers, at one list in two places. -/
import Derived.Test.YtompgoaogomoaaaKlRd
import Derived.Test.YtompgoaogomoaaaChecked
import Derived.LoopTactic
namespace Go.Proofs.Ytompgoaogomoaaa.Rt
open Go.RowKit

theorem same_none (a b : Option Addr) (c d : Nat) (w : World) :
    Calls Try.prog 20 #[.slice a 0 c, .slice b 0 d] w fun e w' => e = .returned (.bool true) ∧ Below w.heap.size w w' := by
  go_enter Try.func20, Try.ntmps20
  go_wp2
  refine wp_loop_rounds 1 ?_
  rw [rounds_succ]
  go_wp2
  go_ret
  exact ⟨rfl, Below.refl _ _⟩
set_option maxHeartbeats 1000000 in
theorem same_some (b o c b' o' c' n : Nat) (X Y : Nat → Int) (w : World) (hl : n < 4611686018427387904)
    (h1 : ∀ i, i < n → w.cell? ⟨b, o + i * 2, none⟩ = some (.int .i64 (X i)) ∧ w.cell? ⟨b, o + i * 2 + 1, none⟩ = some (.int .i64 (Y i)))
    (h2 : ∀ i, i < n → w.cell? ⟨b', o' + i * 2, none⟩ = some (.int .i64 (X i)) ∧ w.cell? ⟨b', o' + i * 2 + 1, none⟩ = some (.int .i64 (Y i))) :
    Calls Try.prog 20 #[.slice (some ⟨b, o, none⟩) n c, .slice (some ⟨b', o', none⟩) n c'] w fun e w' => e = .returned (.bool true) ∧ Below w.heap.size w w' := by
  go_enter Try.func20, Try.ntmps20
  go_wp2
  go_loopw [13] (fun i wr => ∃ k : Nat, k ≤ n ∧ i = .int .i64 (k : Int) ∧ Below w.heap.size w wr) (fun i _ => n - (intOf i).toNat)
  case atStart => exact ⟨0, by omega, rfl, Below.refl _ _⟩
  case round =>
    obtain ⟨k, hk, rfl, hb⟩ := hrel
    by_cases hkn : k < n
    · obtain ⟨c0, c1⟩ := h1 k hkn
      obtain ⟨d0, d1⟩ := h2 k hkn
      have c0 := cell_later hb c0
      have c1 := cell_later hb c1
      have d0 := cell_later hb d0
      have d1 := cell_later hb d1
      have H : Hid (Below w.heap.size w wr) := hb
      generalize X k = x at c0 d0
      generalize Y k = y at c1 d1
      clear h1 h2 hb
      have i1 : (0 : Int) ≤ (k : Int) := by omega
      have i2 : (k : Int) < (n : Int) := by omega
      go_wp2_with fail
      go_region_held3 (fun w' => w'.cell? ⟨b, o + k * 2, none⟩ = some (.int .i64 x) ∧ w'.cell? ⟨b, o + k * 2 + 1, none⟩ = some (.int .i64 y) ∧ w'.cell? ⟨b', o' + k * 2, none⟩ = some (.int .i64 x) ∧ w'.cell? ⟨b', o' + k * 2 + 1, none⟩ = some (.int .i64 y)) (go_keep) (fail)
      go_wp2
      go_roundw
      case rel => exact ⟨k + 1, by omega, by go_num, H.out.drew⟩
      case measure => simp [intOf]; omega
    · have hkn' : decide ((k : Int) < (n : Int)) = false := by simp; omega
      go_wp2
      go_ret
      exact ⟨rfl, hb⟩
theorem same_any (a a' : Option Addr) (c c' : Nat) (ks : List (Int × Int)) (w : World) (hl : ks.length < 4611686018427387904) (h1 : RdAt w a ks) (h2 : RdAt w a' ks) :
    Calls Try.prog 20 #[.slice a ks.length c, .slice a' ks.length c'] w fun e w' => e = .returned (.bool true) ∧ Below w.heap.size w w' := by
  by_cases h : ks = []
  · subst h; exact same_none a a' c c' w
  · obtain ⟨b, o, rfl, k1⟩ := h1.spot h
    obtain ⟨b', o', rfl, k2⟩ := h2.spot h
    exact same_some b o c b' o' c' ks.length _ _ w hl k1 k2
end Go.Proofs.Ytompgoaogomoaaa.Rt
