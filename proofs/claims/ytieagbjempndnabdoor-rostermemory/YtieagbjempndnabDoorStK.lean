/- Contracts: the document's Same; Of, the program's and the document's. -/
import Derived.Test.YtieagbjempndnabDoorStJ
import Derived.Deep.RegionHeld3
namespace Go.Proofs.YtieagbjempndnabDoor
open Go.RowKit Go.Maps Go.Shelf
set_option linter.unusedVariables false
set_option linter.unusedSimpArgs false

/- Integers in memory. -/
def RdI (w : World) (a : Option Addr) (ws : List Int) : Prop :=
  ∀ i, i < ws.length → ∃ b o, a = some ⟨b, o, none⟩ ∧ w.cell? ⟨b, o + i, none⟩ = some (.int .i64 (ws.getD i 0))
theorem cell_later {w w' : World} {a : Addr} {v : Value} (hb : Below w.heap.size w w') (hc : w.cell? a = some v) : w'.cell? a = some v :=
  (World.cell?_of_block (hb.block a.block (World.block_lt_of_cell? w a hc))).trans hc
theorem RdI.later {w w' : World} {a : Option Addr} {ws : List Int} (h : RdI w a ws) (hb : Below w.heap.size w w') : RdI w' a ws := fun i hi => by
  obtain ⟨b, o, e, c0⟩ := h i hi
  exact ⟨b, o, e, cell_later hb c0⟩
theorem RdI.nil (w : World) (a : Option Addr) : RdI w a [] := fun i hi => by cases hi
theorem RdI.spot {w : World} {a : Option Addr} {ws : List Int} (h : RdI w a ws) (h0 : ws ≠ []) : ∃ b o, a = some ⟨b, o, none⟩ ∧ ∀ i, i < ws.length → w.cell? ⟨b, o + i, none⟩ = some (.int .i64 (ws.getD i 0)) := by
  have hp : 0 < ws.length := List.length_pos_iff.2 h0
  obtain ⟨b, o, e, _⟩ := h 0 hp
  refine ⟨b, o, e, fun i hi => ?_⟩
  obtain ⟨b', o', e', c0⟩ := h i hi
  rw [e] at e'
  simp at e'
  obtain ⟨rfl, rfl⟩ := e'
  exact c0
set_option maxHeartbeats 400000 in
theorem same_none (a b : Option Addr) (c d : Nat) (w : World) :
    Calls Tryd.prog 7 #[.slice a 0 c, .slice b 0 d] w fun e w' => e = .returned (.bool true) ∧ Below w.heap.size w w' := by
  go_enter Tryd.func7, Tryd.ntmps7
  go_wp2
  refine wp_loop_rounds 1 ?_
  rw [rounds_succ]
  go_wp2
  go_ret
  exact ⟨rfl, Below.refl _ _⟩
set_option maxHeartbeats 1000000 in
theorem same_some (b o c b' o' c' n : Nat) (X : Nat → Int) (w : World) (hl : n < 4611686018427387904)
    (h1 : ∀ i, i < n → w.cell? ⟨b, o + i, none⟩ = some (.int .i64 (X i)))
    (h2 : ∀ i, i < n → w.cell? ⟨b', o' + i, none⟩ = some (.int .i64 (X i))) :
    Calls Tryd.prog 7 #[.slice (some ⟨b, o, none⟩) n c, .slice (some ⟨b', o', none⟩) n c'] w fun e w' => e = .returned (.bool true) ∧ Below w.heap.size w w' := by
  go_enter Tryd.func7, Tryd.ntmps7
  go_wp2
  go_loopw [13] (fun i wr => ∃ k : Nat, k ≤ n ∧ i = .int .i64 (k : Int) ∧ Below w.heap.size w wr) (fun i _ => n - (intOf i).toNat)
  case atStart => exact ⟨0, by omega, rfl, Below.refl _ _⟩
  case round =>
    obtain ⟨k, hk, rfl, hb⟩ := hrel
    by_cases hkn : k < n
    · have c0 := cell_later hb (h1 k hkn)
      have d0 := cell_later hb (h2 k hkn)
      have H : Hid (Below w.heap.size w wr) := hb
      generalize X k = x at c0 d0
      clear h1 h2 hb
      have i1 : (0 : Int) ≤ (k : Int) := by omega
      have i2 : (k : Int) < (n : Int) := by omega
      go_wp2_with fail
      go_region_held3 (fun w' => w'.cell? ⟨b, o + k, none⟩ = some (.int .i64 x) ∧ w'.cell? ⟨b', o' + k, none⟩ = some (.int .i64 x)) (go_keep) (fail)
      go_wp2
      go_roundw
      case rel => exact ⟨k + 1, by omega, by go_num, H.out.drew⟩
      case measure => simp [intOf]; omega
    · have hkn' : decide ((k : Int) < (n : Int)) = false := by simp; omega
      go_wp2
      go_ret
      exact ⟨rfl, hb⟩
theorem same_any (a a' : Option Addr) (c c' : Nat) (l : List Int) (w : World) (hl : l.length < 4611686018427387904) (h1 : RdI w a l) (h2 : RdI w a' l) :
    Calls Tryd.prog 7 #[.slice a l.length c, .slice a' l.length c'] w fun e w' => e = .returned (.bool true) ∧ Below w.heap.size w w' := by
  by_cases h : l = []
  · subst h; exact same_none a a' c c' w
  · obtain ⟨b, o, rfl, k1⟩ := h1.spot h
    obtain ⟨b', o', rfl, k2⟩ := h2.spot h
    exact same_some b o c b' o' c' l.length _ w hl k1 k2
/- The set of a list. -/
def nats (l : List Int) : List Nat := l.map Int.toNat
def ofR (l : List Int) : Value := if l.all sl then .tuple #[.int .u64 ((pf 0 (nats l) : Nat) : Int), .int .i64 0] else .tuple #[.int .u64 0, .int .i64 1]
theorem nats_lt {l : List Int} (h : l.all sl = true) : ∀ i ∈ nats l, i < 64 := by
  intro i hi
  simp only [nats, List.mem_map] at hi
  obtain ⟨z, hz, rfl⟩ := hi
  obtain ⟨k, rfl, hk⟩ := sl_nat (List.all_eq_true.1 h z hz)
  simpa using hk
theorem take_getD {l : List Int} {k : Nat} (h : k < l.length) : l.take (k + 1) = l.take k ++ [l.getD k 0] := by
  rw [List.take_succ_eq_append_getElem h, List.getD_eq_getElem?_getD, List.getElem?_eq_getElem h]; rfl
theorem all_take {l : List Int} {k : Nat} (h : k < l.length) : (l.take (k + 1)).all sl = ((l.take k).all sl && sl (l.getD k 0)) := by rw [take_getD h]; simp
theorem all_bad {l : List Int} {k : Nat} (h : k < l.length) (hb : sl (l.getD k 0) = false) : l.all sl = false := by
  rw [List.all_eq_false]
  exact ⟨l.getD k 0, by rw [List.getD_eq_getElem?_getD, List.getElem?_eq_getElem h]; exact List.getElem_mem h, by rw [hb]; simp⟩
theorem nats_snoc (l : List Int) (z : Int) : nats (l ++ [z]) = nats l ++ [z.toNat] := by simp [nats]
end Go.Proofs.YtieagbjempndnabDoor
