/- StG, StI, StJ, StK, joined. -/
import Derived.Test.YteocfmimgoocnaaDoorStJ2
import Derived.Deep.WholeRow
import Derived.Deep.LoopGhost
import Derived.Deep.DeepCutAuto
import Derived.Laws.ResultCell
import Derived.BigQuiet
import Derived.Deep.RegionHeld3
/- Contracts: the document's Places and Word. -/
namespace Go.Proofs.YteocfmimgoocnaaDoor.Rs
open Go.RowKit
set_option linter.unusedVariables false
set_option linter.unusedSimpArgs false

/- The 64 places as cells. -/
def plf (f : Nat → Bool) : Array Value := Array.ofFn (n := 64) fun i => .bool (f i.1)
@[simp] theorem plf_size (f : Nat → Bool) : (plf f).size = 64 := by simp [plf]
theorem plf_get (f : Nat → Bool) (i : Nat) (h : i < 64) : (plf f)[i]? = some (.bool (f i)) := by
  rw [Array.getElem?_eq_getElem (by simpa using h)]
  simp [plf]
theorem plf_congr {f g : Nat → Bool} (h : ∀ i, i < 64 → f i = g i) : plf f = plf g := by
  unfold plf
  congr 1
  funext i
  rw [h i.1 i.2]
theorem plf_set (f : Nat → Bool) (k : Nat) (b : Bool) (hk : k < 64) : (plf f).setIfInBounds k (.bool b) = plf (fun i => if i = k then b else f i) := by
  apply Array.ext
  · simp
  · intro i h1 h2
    simp at h1
    rw [Array.getElem_setIfInBounds (by simpa using h1)]
    simp only [plf, Array.getElem_ofFn]
    by_cases h : k = i
    · subst h; simp
    · rw [if_neg h, if_neg (fun e => h e.symm)]
theorem plf_one (f : Nat → Bool) : (plf f).all (·.oneCell') = true := by
  rw [Array.all_eq_true]
  intro i h
  simp [plf, Value.oneCell']
/- The places, as many as have been seen. -/
def seen (s k : Nat) : Array Value := plf fun i => decide (i < k) && s.testBit i
theorem seen_zero (s : Nat) : seen s 0 = plf fun _ => false := plf_congr fun i _ => by simp
theorem seen_all (s : Nat) : seen s 64 = plf fun i => s.testBit i := plf_congr fun i hi => by simp [hi]
theorem seen_set (s k : Nat) (hk : k < 64) : (seen s k).setIfInBounds k (.bool (s.testBit k)) = seen s (k + 1) := by
  unfold seen
  rw [plf_set _ _ _ hk]
  apply plf_congr
  intro i hi
  by_cases h : i = k
  · subst h; simp
  · rw [if_neg h, show decide (i < k) = decide (i < k + 1) by simp; omega]
theorem seen_get (s k : Nat) (hk : k < 64) : (seen s k)[k]? = some (.bool false) := by
  unfold seen
  rw [plf_get _ _ hk]
  simp
@[simp] theorem seen_size (s k : Nat) : (seen s k).size = 64 := by simp [seen]
theorem heap_setRow_same {w : World} {g : Nat} {cs : Array Value} {t : TypeId} {fr : Nat × Nat} (h : w.heap[g]? = some (.cells cs t fr)) (cs' : Array Value) : (w.setRow g cs').heap[g]? = some (.cells cs' t fr) := by
  simp only [World.setRow, Array.getElem?_modify]
  rw [if_pos trivial, h]
  rfl
theorem setRow_below {n g : Nat} {w W : World} (hg : n ≤ g) (h : Below n w W) (cs : Array Value) : Below n w (W.setRow g cs) := by
  refine h.trans ⟨rfl, rfl, rfl, by simp, fun k hk => ?_⟩
  simp only [World.setRow, Array.getElem?_modify]
  rw [if_neg (by omega)]
/- The word of the places. -/
theorem wd_step {f : Nat → Bool} {n : Nat} : wd f (n + 1) = 2 * wd f n + (f (63 - n)).toNat := rfl
end Go.Proofs.YteocfmimgoocnaaDoor.Rs
/- Contracts: the document's Has, Set, List, Count, Lowest, Next. -/
namespace Go.Proofs.YteocfmimgoocnaaDoor.Rs
open Go.RowKit Go.Maps Go.Shelf
set_option linter.unusedVariables false
set_option linter.unusedSimpArgs false

theorem below_alloc {n : Nat} {w W : World} (h : Below n w W) (hn : n ≤ w.heap.size) (o : Obj) : Below n w (W.alloc o) := h.alloc (Nat.le_trans hn h.size) o
/- The set with the slot in or out. -/
def setR (s : Nat) (n : Int) (b : Bool) : Value := if b then putR s n else drpR s n
theorem setR_no {s : Nat} {n : Int} {b : Bool} (h : sl n = false) : setR s n b = .tuple #[.int .u64 0, .int .i64 1] := by unfold setR; cases b <;> simp [putR_no h, drpR_no h]
theorem setR_sl {s k : Nat} {b : Bool} (hs : s < 18446744073709551616) (hk : k < 64) : setR s (k : Int) b = .tuple #[.int .u64 ((wd (fun i => if i = k then b else s.testBit i) 64 : Nat) : Int), .int .i64 0] := by
  unfold setR
  cases b with
  | true =>
    rw [if_pos rfl, putR_sl hk, wd_all _ (put_lt hs hk)]
    intro i hi
    rw [put_bit]
    by_cases h : i = k
    · subst h; simp
    · simp [h, Ne.symm h]
  | false =>
    rw [if_neg (by simp), drpR_sl hk, wd_all _ (drp_lt hs)]
    intro i hi
    rw [drp_bit hk hi]
    by_cases h : i = k
    · subst h; simp
    · simp [h, Ne.symm h]
theorem row_grown {W w1 : World} {n0 : Nat} {e : TypeId} {v : Value} {k : Nat} {xs : List Value} {o : Obj} (h : W.ownsRow n0 e 1 v k xs) (hn : n0 ≤ W.heap.size) (hg : (W.alloc o).grownBy w1 v.ownBlock) : Below n0 W w1 := by
  refine ((Below.refl n0 W).alloc hn o).trans ⟨hg.os, hg.tape, hg.output, hg.size, fun j hj => hg.block j (by simp; omega) (fun e => ?_)⟩
  rcases h.2 with ⟨rfl, _⟩ | ⟨g, cap, cur, rfl, h3, _⟩
  · simp [Value.ownBlock] at e
  · simp [Value.ownBlock] at e
    omega
theorem row_below {W W' : World} {n0 : Nat} {e : TypeId} {v : Value} {k : Nat} {xs : List Value} (h : W.ownsRow n0 e 1 v k xs) (hn : n0 ≤ W.heap.size) (hb : Below W.heap.size W W') : W'.ownsRow n0 e 1 v k xs := by
  obtain ⟨h1, h2⟩ := h
  refine ⟨h1, ?_⟩
  rcases h2 with h2 | ⟨g, cap, cur, rfl, h3, h4, r⟩
  · exact .inl h2
  · exact .inr ⟨g, cap, cur, rfl, h3, (hb.block g (Array.getElem?_eq_some_iff.1 h4).1).trans h4, r⟩
/- The list of places, n of them. -/
theorem bf_snoc (s : Nat) : ∀ (n p : Nat), bf s p (n + 1) = bf s p n ++ (if s.testBit (p + n) then [p + n] else [])
  | 0, p => by simp [bf]
  | n + 1, p => by
    rw [bf, bf_snoc s n (p + 1), bf, show p + 1 + n = p + (n + 1) by omega]
    split <;> simp
end Go.Proofs.YteocfmimgoocnaaDoor.Rs
/- Contracts: the document's Count, Take and Same; Of, the program's and the document's. -/
namespace Go.Proofs.YteocfmimgoocnaaDoor.Rs
open Go.RowKit Go.Maps Go.Shelf
set_option linter.unusedVariables false
set_option linter.unusedSimpArgs false

theorem take_more {l : List Nat} {k : Nat} (h : k < l.length) : l.take (k + 1) = l.take k ++ [l[k]] := List.take_succ_eq_append_getElem h
theorem hd_drop {l : List Nat} {k : Nat} (h : k < l.length) : hd (l.drop k) = (l[k] : Int) := by rw [List.drop_eq_getElem_cons h]; rfl
end Go.Proofs.YteocfmimgoocnaaDoor.Rs
/- Contracts: the document's Same; Of, the program's and the document's. -/
namespace Go.Proofs.YteocfmimgoocnaaDoor.Rs
open Go.RowKit Go.Maps Go.Shelf
set_option linter.unusedVariables false
set_option linter.unusedSimpArgs false

/- Integers in memory. -/
def RdI (w : World) (a : Option Addr) (ws : List Int) : Prop :=
  ∀ i, i < ws.length → ∃ b o, a = some ⟨b, o, none⟩ ∧ w.cell? ⟨b, o + i, none⟩ = some (.int .i64 (ws.getD i 0))
theorem cell_later {w w' : World} {a : Addr} {v : Value} (hb : Below w.heap.size w w') (hc : w.cell? a = some v) : w'.cell? a = some v :=
  (World.cell?_of_block (hb.block a.block (World.block_lt_of_cell? w a hc))).trans hc
theorem RdI.later {w w' : World} {a : Option Addr} {ws : List Int} (h : RdI w a ws) (hb : Below w.heap.size w w') : RdI w' a ws := fun i hi => by
  obtain ⟨b, o, e, c0⟩ := h i hi
  exact ⟨b, o, e, cell_later hb c0⟩
theorem RdI.nil (w : World) (a : Option Addr) : RdI w a [] := fun i hi => by cases hi
theorem RdI.spot {w : World} {a : Option Addr} {ws : List Int} (h : RdI w a ws) (h0 : ws ≠ []) : ∃ b o, a = some ⟨b, o, none⟩ ∧ ∀ i, i < ws.length → w.cell? ⟨b, o + i, none⟩ = some (.int .i64 (ws.getD i 0)) := by
  have hp : 0 < ws.length := List.length_pos_iff.2 h0
  obtain ⟨b, o, e, _⟩ := h 0 hp
  refine ⟨b, o, e, fun i hi => ?_⟩
  obtain ⟨b', o', e', c0⟩ := h i hi
  rw [e] at e'
  simp at e'
  obtain ⟨rfl, rfl⟩ := e'
  exact c0
set_option maxHeartbeats 400000 in
theorem same_none (a b : Option Addr) (c d : Nat) (w : World) :
    Calls Tryd.prog 24 #[.slice a 0 c, .slice b 0 d] w fun e w' => e = .returned (.bool true) ∧ Below w.heap.size w w' := by
  go_enter Tryd.func24, Tryd.ntmps24
  go_wp2
  refine wp_loop_rounds 1 ?_
  rw [rounds_succ]
  go_wp2
  go_ret
  exact ⟨rfl, Below.refl _ _⟩
set_option maxHeartbeats 1000000 in
theorem same_some (b o c b' o' c' n : Nat) (X : Nat → Int) (w : World) (hl : n < 4611686018427387904)
    (h1 : ∀ i, i < n → w.cell? ⟨b, o + i, none⟩ = some (.int .i64 (X i)))
    (h2 : ∀ i, i < n → w.cell? ⟨b', o' + i, none⟩ = some (.int .i64 (X i))) :
    Calls Tryd.prog 24 #[.slice (some ⟨b, o, none⟩) n c, .slice (some ⟨b', o', none⟩) n c'] w fun e w' => e = .returned (.bool true) ∧ Below w.heap.size w w' := by
  go_enter Tryd.func24, Tryd.ntmps24
  go_wp2
  go_loopw [13] (fun i wr => ∃ k : Nat, k ≤ n ∧ i = .int .i64 (k : Int) ∧ Below w.heap.size w wr) (fun i _ => n - (intOf i).toNat)
  case atStart => exact ⟨0, by omega, rfl, Below.refl _ _⟩
  case round =>
    obtain ⟨k, hk, rfl, hb⟩ := hrel
    by_cases hkn : k < n
    · have c0 := cell_later hb (h1 k hkn)
      have d0 := cell_later hb (h2 k hkn)
      have H : Hid (Below w.heap.size w wr) := hb
      generalize X k = x at c0 d0
      clear h1 h2 hb
      have i1 : (0 : Int) ≤ (k : Int) := by omega
      have i2 : (k : Int) < (n : Int) := by omega
      go_wp2_with fail
      go_region_held3 (fun w' => w'.cell? ⟨b, o + k, none⟩ = some (.int .i64 x) ∧ w'.cell? ⟨b', o' + k, none⟩ = some (.int .i64 x)) (go_keep) (fail)
      go_wp2
      go_roundw
      case rel => exact ⟨k + 1, by omega, by go_num, H.out.drew⟩
      case measure => simp [intOf]; omega
    · have hkn' : decide ((k : Int) < (n : Int)) = false := by simp; omega
      go_wp2
      go_ret
      exact ⟨rfl, hb⟩
theorem same_any (a a' : Option Addr) (c c' : Nat) (l : List Int) (w : World) (hl : l.length < 4611686018427387904) (h1 : RdI w a l) (h2 : RdI w a' l) :
    Calls Tryd.prog 24 #[.slice a l.length c, .slice a' l.length c'] w fun e w' => e = .returned (.bool true) ∧ Below w.heap.size w w' := by
  by_cases h : l = []
  · subst h; exact same_none a a' c c' w
  · obtain ⟨b, o, rfl, k1⟩ := h1.spot h
    obtain ⟨b', o', rfl, k2⟩ := h2.spot h
    exact same_some b o c b' o' c' l.length _ w hl k1 k2
/- The set of a list. -/
def nats (l : List Int) : List Nat := l.map Int.toNat
def ofR (l : List Int) : Value := if l.all sl then .tuple #[.int .u64 ((pf 0 (nats l) : Nat) : Int), .int .i64 0] else .tuple #[.int .u64 0, .int .i64 1]
theorem nats_lt {l : List Int} (h : l.all sl = true) : ∀ i ∈ nats l, i < 64 := by
  intro i hi
  simp only [nats, List.mem_map] at hi
  obtain ⟨z, hz, rfl⟩ := hi
  obtain ⟨k, rfl, hk⟩ := sl_nat (List.all_eq_true.1 h z hz)
  simpa using hk
theorem take_getD {l : List Int} {k : Nat} (h : k < l.length) : l.take (k + 1) = l.take k ++ [l.getD k 0] := by
  rw [List.take_succ_eq_append_getElem h, List.getD_eq_getElem?_getD, List.getElem?_eq_getElem h]; rfl
theorem all_take {l : List Int} {k : Nat} (h : k < l.length) : (l.take (k + 1)).all sl = ((l.take k).all sl && sl (l.getD k 0)) := by rw [take_getD h]; simp
theorem all_bad {l : List Int} {k : Nat} (h : k < l.length) (hb : sl (l.getD k 0) = false) : l.all sl = false := by
  rw [List.all_eq_false]
  exact ⟨l.getD k 0, by rw [List.getD_eq_getElem?_getD, List.getElem?_eq_getElem h]; exact List.getElem_mem h, by rw [hb]; simp⟩
theorem nats_snoc (l : List Int) (z : Int) : nats (l ++ [z]) = nats l ++ [z.toNat] := by simp [nats]
end Go.Proofs.YteocfmimgoocnaaDoor.Rs
