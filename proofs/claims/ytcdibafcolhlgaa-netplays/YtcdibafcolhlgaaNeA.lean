/- The document's Net in memory: a block, two lists of its own; lists of packets that are read; what a world has kept. -/
import Derived.Test.YtcdibafcolhlgaaChecked
import Derived.Test.YtcdibafcolhlgaaJnO
import Derived.WalkKit
import Derived.ProofKit
import Derived.LoopTactic
import Derived.Deep.QuietTactic
import Derived.BigQuiet
import Derived.WalkSmall
import Derived.Maps.OwnOps
import Derived.Maps.RangeWalk
import Derived.Laws.OwnMore
import Derived.Laws.Rows
import Derived.Deep.AppendLies
import Derived.Deep.RegionHeld3
import Derived.Deep.DeepCutAuto
import Derived.Deep.DrawnRows
import Derived.Deep.WholeRow
namespace Go.Proofs.Ytcdibafcolhlgaa.Ne
open Go.RowKit Go.Maps
set_option linter.unusedVariables false
set_option linter.unusedSimpArgs false

theorem i64_fit (z : Int) (h0 : -9223372036854775808 ≤ z) (h1 : z < 9223372036854775808) : IntKind.i64.wrap z = z := by
  simp only [IntKind.wrap, IntKind.bits, IntKind.signed]
  simp
  omega
theorem below1 (w : World) (o : Obj) : Below w.heap.size w (w.alloc o) := (Below.refl _ _).alloc (Nat.le_refl _) _
theorem Below.then {w0 w w' : World} (h : Below w0.heap.size w0 w) (hb : Below w.heap.size w w') : Below w0.heap.size w0 w' := h.trans (hb.mono h.size)
theorem cell_later {w w' : World} {a : Addr} {v : Value} (hb : Below w.heap.size w w') (hc : w.cell? a = some v) : w'.cell? a = some v :=
  (World.cell?_of_block (hb.block a.block (World.block_lt_of_cell? w a hc))).trans hc
/- What a world has kept but for some blocks. -/
structure Kept (F : Nat → Prop) (w w' : World) : Prop where
  os : w'.os = w.os
  tape : w'.tape = w.tape
  output : w'.output = w.output
  size : w.heap.size ≤ w'.heap.size
  block : ∀ k, k < w.heap.size → ¬ F k → w'.heap[k]? = w.heap[k]?
section
variable {F F' : Nat → Prop} {a b c w w' : World}
theorem Kept.refl (F : Nat → Prop) (w : World) : Kept F w w := ⟨rfl, rfl, rfl, Nat.le_refl _, fun _ _ _ => rfl⟩
theorem Kept.trans (h : Kept F a b) (k : Kept F' b c) (hF : ∀ i, i < a.heap.size → F' i → F i) : Kept F a c :=
  ⟨k.os.trans h.os, k.tape.trans h.tape, k.output.trans h.output, Nat.le_trans h.size k.size, fun i hi hn => (k.block i (Nat.lt_of_lt_of_le hi h.size) (fun h' => hn (hF i hi h'))).trans (h.block i hi hn)⟩
theorem Kept.mono (h : Kept F a b) (hF : ∀ i, i < a.heap.size → F i → F' i) : Kept F' a b := ⟨h.os, h.tape, h.output, h.size, fun i hi hn => h.block i hi (fun h' => hn (hF i hi h'))⟩
theorem Kept.alloc (h : Kept F a w) (o : Obj) : Kept F a (w.alloc o) := h.trans (F' := F) ⟨rfl, rfl, rfl, by simp, fun k hk _ => Below.heap_alloc _ _ _ hk⟩ (fun _ _ h => h)
theorem Kept.setCell (h : Kept F a w) {p : Addr} (hp : p.block < a.heap.size → F p.block) (u : Value) : Kept F a (w.setCell p u) :=
  h.trans (F' := fun k => k = p.block) ⟨rfl, rfl, rfl, by simp [World.setCell], fun k hk hn => Below.heap_setCell _ _ _ _ hn⟩ (fun i hi e => by subst e; exact hp hi)
theorem Kept.grown {row : Option Nat} (h : Kept F a w) (hg : w.grownBy w' row) (hr : ∀ k, row = some k → k < a.heap.size → F k) : Kept F a w' :=
  h.trans (F' := fun k => row = some k) ⟨hg.os, hg.tape, hg.output, hg.size, fun k hk hn => hg.block k hk (fun e => hn e.symm)⟩ (fun i hi e => hr i e hi)
theorem Kept.ofBelow (h : Below w.heap.size w w') : Kept F w w' := ⟨h.os, h.tape, h.output, h.size, fun k hk _ => h.block k hk⟩
theorem Kept.below {B : Nat} (h : Kept F w w') (hB : B ≤ w.heap.size) (hF : ∀ k, F k → B ≤ k) : Below B w w' :=
  ⟨h.os, h.tape, h.output, h.size, fun k hk => h.block k (by omega) (fun e => by have := hF k e; omega)⟩
theorem Kept.cell (h : Kept F w w') {a : Addr} {v : Value} (hc : w.cell? a = some v) (hn : ¬ F a.block) : w'.cell? a = some v :=
  (World.cell?_of_block (h.block a.block (World.block_lt_of_cell? w a hc) hn)).trans hc
theorem Kept.row {base e size n : Nat} {v : Value} {xs : List Value} (h : Kept F w w') (hr : w.ownsRow base e size v n xs) (hn : ∀ k, v.ownBlock = some k → ¬ F k) : w'.ownsRow base e size v n xs := by
  refine ⟨hr.1, ?_⟩
  rcases hr.2 with h0 | ⟨g, cap, cur, rfl, hb, hgg, rest⟩
  · exact .inl h0
  · refine .inr ⟨g, cap, cur, rfl, hb, ?_, rest⟩
    rw [h.block g (Array.getElem?_eq_some_iff.1 hgg).1 (hn g rfl)]
    exact hgg
end
section
variable {w W W' : World} {B e z z' e' B' n n' k : Nat} {v v' : Value} {xs xs' : List Value}
theorem own_later (h : W.ownsRow B e k v n xs) (hb : Below W.heap.size W W') : W'.ownsRow B e k v n xs := (Kept.ofBelow (F := fun _ => False) hb).row h fun _ _ e => e
theorem own_type (h : w.ownsRow B e z v n xs) {k : Nat} (hk : v.ownBlock = some k) : B ≤ k ∧ k < w.heap.size ∧ ∃ cur, w.heap[k]? = some (.cells cur e (0, 0)) := by
  have hlt := h.lt k hk
  rcases h.2 with ⟨h0, _⟩ | ⟨g, cap, cur, rfl, hb, hgg, rest⟩
  · subst h0; cases hk
  · cases hk; exact ⟨hlt.1, hlt.2, cur, hgg⟩
theorem own_apart (hr : w.ownsRow B e z v n xs) (hr' : w.ownsRow B' e' z' v' n' xs') (he : e ≠ e') : ∀ k, v.ownBlock = some k → v'.ownBlock ≠ some k := by
  intro k hk hk'
  obtain ⟨_, _, cur, hc⟩ := own_type hr hk
  obtain ⟨_, _, cur', hc'⟩ := own_type hr' hk'
  rw [hc] at hc'
  simp at hc'
  exact he hc'.2
theorem own_spell (h : w.ownsRow B e z v n xs) : ∃ a c, v = .slice a n c ∧ (n = 0 ∨ ∃ g, a = some ⟨g, 0, none⟩) := by
  rcases h.2 with ⟨h0, h1⟩ | ⟨g, cap, cur, rfl, _⟩
  · subst h0; subst h1; exact ⟨none, 0, rfl, .inl rfl⟩
  · exact ⟨_, _, rfl, .inr ⟨g, rfl⟩⟩
end
theorem news_of {w : World} {g : Nat} {cs : Array Value} {t : TypeId} (h : w.heap[g]? = some (.cells cs t (0, 0))) : ∀ j u, cs.toList[j]? = some u → w.cell? ((⟨g, 0, none⟩ : Addr).add j) = some u := by
  intro j u hu
  have e : (⟨g, 0, none⟩ : Addr).add j = ⟨g, j, none⟩ := by unfold Addr.add; split <;> simp_all
  rw [e, cell_of_row _ _ j _ _ _ h, ← Array.getElem?_toList]
  exact hu
theorem fm_get {α : Type} {f : α → List Value} {m : Nat} (hf : ∀ a, (f a).length = m) (z : α) : ∀ {l : List α} {i j : Nat}, i < l.length → j < m → (l.flatMap f)[i * m + j]? = (f (l.getD i z))[j]?
  | [], _, _, h, _ => absurd h (by simp)
  | a :: l, 0, j, _, hj => by
    rw [List.flatMap_cons, List.getElem?_append_left (by rw [hf]; omega)]
    simp
  | a :: l, i + 1, j, h, hj => by
    have e : (i + 1) * m + j = m + (i * m + j) := by rw [Nat.add_mul]; omega
    rw [List.flatMap_cons, List.getElem?_append_right (by rw [hf]; omega), hf, e, Nat.add_sub_cancel_left, fm_get hf z (by simpa using h) hj]
    simp
theorem blk_set {w : World} {p : Nat} {cs : Array Value} {t : TypeId} {v : Value} {j : Nat} (h : w.heap[p]? = some (.cells cs t (0, 0))) : (w.setCell ⟨p, j, none⟩ v).heap[p]? = some (.cells (cs.setIfInBounds j v) t (0, 0)) := by
  simp [World.setCell, Array.getElem?_modify, h]
/- Packets (and the law's calls): two numbers, a text. -/
abbrev Pt := Int × (Int × ByteArray)
def zP : Pt := (0, (0, ⟨#[]⟩))
def pC (p : Pt) : List Value := [.int .i64 p.1, .int .i64 p.2.1, .string p.2.2]
def RdP (w : World) (a : Option Addr) (l : List Pt) : Prop :=
  ∀ i, i < l.length → ∃ b o, a = some ⟨b, o, none⟩ ∧ w.cell? ⟨b, o + i * 3, none⟩ = some (.int .i64 (l.getD i zP).1) ∧ w.cell? ⟨b, o + i * 3 + 1, none⟩ = some (.int .i64 (l.getD i zP).2.1) ∧ w.cell? ⟨b, o + i * 3 + 2, none⟩ = some (.string (l.getD i zP).2.2)
section
variable {w w' : World} {a : Option Addr} {l : List Pt} {G : Nat → Prop} {N c : Nat}
theorem RdP.kept (h : RdP w a l) (hk : Kept G w w') (hn : ∀ g o, a = some ⟨g, o, none⟩ → ¬ G g) : RdP w' a l := fun i hi => by
  obtain ⟨b, o, e, c0, c1, c2⟩ := h i hi
  exact ⟨b, o, e, hk.cell c0 (hn b o e), hk.cell c1 (hn b o e), hk.cell c2 (hn b o e)⟩
theorem RdP.later (h : RdP w a l) (hb : Below w.heap.size w w') : RdP w' a l := h.kept (Kept.ofBelow (F := fun _ => False) hb) fun _ _ _ e => e
theorem rdP_of {t : TypeId} (h : w.ownsRow N t 3 (.slice a l.length c) l.length (l.flatMap pC)) : RdP w a l := fun i hi => by
  rcases h.2 with ⟨h0, h1⟩ | ⟨g, cap, cur, h5, _⟩
  · omega
  · simp at h5
    obtain ⟨rfl, rfl⟩ := h5
    refine ⟨g, 0, rfl, ?_, ?_, ?_⟩
    · rw [Nat.zero_add, h.cellAt (i * 3) (by omega), show i * 3 = i * 3 + 0 from rfl, fm_get (f := pC) (m := 3) (fun _ => rfl) zP hi (by omega)]; rfl
    · rw [Nat.zero_add, h.cellAt (i * 3 + 1) (by omega), fm_get (f := pC) (m := 3) (fun _ => rfl) zP hi (by omega)]; rfl
    · rw [Nat.zero_add, h.cellAt (i * 3 + 2) (by omega), fm_get (f := pC) (m := 3) (fun _ => rfl) zP hi (by omega)]; rfl
theorem RdP.spot (h : RdP w a l) (h0 : l ≠ []) : ∃ b o, a = some ⟨b, o, none⟩ ∧ ∀ i, i < l.length → w.cell? ⟨b, o + i * 3, none⟩ = some (.int .i64 (l.getD i zP).1) ∧ w.cell? ⟨b, o + i * 3 + 1, none⟩ = some (.int .i64 (l.getD i zP).2.1) ∧ w.cell? ⟨b, o + i * 3 + 2, none⟩ = some (.string (l.getD i zP).2.2) := by
  have hp : 0 < l.length := List.length_pos_iff.2 h0
  obtain ⟨b, o, e, _⟩ := h 0 hp
  refine ⟨b, o, e, fun i hi => ?_⟩
  obtain ⟨b', o', e', c0⟩ := h i hi
  rw [e] at e'
  simp at e'
  obtain ⟨rfl, rfl⟩ := e'
  exact c0
end
/- Same, at one list in two places. -/
theorem same_none (a b : Option Addr) (c d : Nat) (w : World) :
    Calls Try.prog 14 #[.slice a 0 c, .slice b 0 d] w fun e w' => e = .returned (.bool true) ∧ Below w.heap.size w w' := by
  go_enter Try.func14, Try.ntmps14
  go_wp2
  refine wp_loop_rounds 1 ?_
  rw [rounds_succ]
  go_wp2
  go_ret
  exact ⟨rfl, Below.refl _ _⟩
set_option maxHeartbeats 1000000 in
theorem same_some (b o c b' o' c' n : Nat) (l : Nat → Pt) (w : World) (hl : n < 4611686018427387904)
    (h1 : ∀ i, i < n → w.cell? ⟨b, o + i * 3, none⟩ = some (.int .i64 (l i).1) ∧ w.cell? ⟨b, o + i * 3 + 1, none⟩ = some (.int .i64 (l i).2.1) ∧ w.cell? ⟨b, o + i * 3 + 2, none⟩ = some (.string (l i).2.2))
    (h2 : ∀ i, i < n → w.cell? ⟨b', o' + i * 3, none⟩ = some (.int .i64 (l i).1) ∧ w.cell? ⟨b', o' + i * 3 + 1, none⟩ = some (.int .i64 (l i).2.1) ∧ w.cell? ⟨b', o' + i * 3 + 2, none⟩ = some (.string (l i).2.2)) :
    Calls Try.prog 14 #[.slice (some ⟨b, o, none⟩) n c, .slice (some ⟨b', o', none⟩) n c'] w fun e w' => e = .returned (.bool true) ∧ Below w.heap.size w w' := by
  go_enter Try.func14, Try.ntmps14
  go_wp2
  go_loopw [13] (fun i wr => ∃ k : Nat, k ≤ n ∧ i = .int .i64 (k : Int) ∧ Below w.heap.size w wr) (fun i _ => n - (intOf i).toNat)
  case atStart => exact ⟨0, by omega, rfl, Below.refl _ _⟩
  case round =>
    obtain ⟨k, hk, rfl, hb⟩ := hrel
    by_cases hkn : k < n
    · obtain ⟨c0, c1, c2⟩ := h1 k hkn
      obtain ⟨d0, d1, d2⟩ := h2 k hkn
      have c0 := cell_later hb c0
      have c1 := cell_later hb c1
      have c2 := cell_later hb c2
      have d0 := cell_later hb d0
      have d1 := cell_later hb d1
      have d2 := cell_later hb d2
      have H : Hid (Below w.heap.size w wr) := hb
      generalize l k = y at c0 c1 c2 d0 d1 d2
      obtain ⟨x, y, t⟩ := y
      dsimp only at c0 c1 c2 d0 d1 d2
      clear h1 h2 hb
      have i1 : (0 : Int) ≤ (k : Int) := by omega
      have i2 : (k : Int) < (n : Int) := by omega
      go_wp2_with fail
      go_region_held3 (fun w' => w'.cell? ⟨b, o + k * 3, none⟩ = some (.int .i64 x) ∧ w'.cell? ⟨b, o + k * 3 + 1, none⟩ = some (.int .i64 y) ∧ w'.cell? ⟨b, o + k * 3 + 2, none⟩ = some (.string t) ∧ w'.cell? ⟨b', o' + k * 3, none⟩ = some (.int .i64 x) ∧ w'.cell? ⟨b', o' + k * 3 + 1, none⟩ = some (.int .i64 y) ∧ w'.cell? ⟨b', o' + k * 3 + 2, none⟩ = some (.string t)) (go_keep) (fail)
      go_wp2
      go_roundw
      case rel => exact ⟨k + 1, by omega, by go_num, H.out.drew⟩
      case measure => simp [intOf]; omega
    · have hkn' : decide ((k : Int) < (n : Int)) = false := by simp; omega
      go_wp2
      go_ret
      exact ⟨rfl, hb⟩
theorem same_any (a a' : Option Addr) (c c' : Nat) (l : List Pt) (w : World) (hl : l.length < 4611686018427387904) (h1 : RdP w a l) (h2 : RdP w a' l) :
    Calls Try.prog 14 #[.slice a l.length c, .slice a' l.length c'] w fun e w' => e = .returned (.bool true) ∧ Below w.heap.size w w' := by
  by_cases h : l = []
  · subst h; exact same_none a a' c c' w
  · obtain ⟨b, o, rfl, k1⟩ := h1.spot h
    obtain ⟨b', o', rfl, k2⟩ := h2.spot h
    exact same_some b o c b' o' c' l.length (fun i => l.getD i zP) w hl k1 k2
end Go.Proofs.Ytcdibafcolhlgaa.Ne
