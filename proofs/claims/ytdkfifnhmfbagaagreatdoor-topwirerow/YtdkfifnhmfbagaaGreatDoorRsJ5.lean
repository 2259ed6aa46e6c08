/- RsSm, OpenRs, RsMm, RsK, joined. -/
import Derived.Test.YtdkfifnhmfbagaaGreatDoorRsL
import Derived.Test.YtdkfifnhmfbagaaGreatDoorRsJ4
import Derived.ProofKit
import Derived.OpenShut
import Derived.Below
import Derived.Lib.SmallJoins
import Derived.Deep.SlicePairs
import Derived.Deep.Slices
import Derived.Deep.Strs
import Derived.ChangeSlices
import Derived.SizedLaws
import Derived.Laws.AppendOwnNone
import Derived.Maps.AppendAt
import Derived.Test.YtdkfifnhmfbagaaGreatDoorRows
import Derived.Lib.LaidTab
import Derived.Stop.LaidErr
import Derived.Shelf.Vars
namespace Go.Proofs.YtdkfifnhmfbagaaGreatDoor.Rs
open Go.RowKit Go.Maps
set_option linter.unusedVariables false
set_option linter.unusedSimpArgs false
/- A list of seats that lies in memory. -/
def RdS (w : World) (a : Option Addr) (l : List (Int × Int)) : Prop := ∀ i, i < l.length → ∃ b, a = some ⟨b, 0, none⟩ ∧ w.cell? ⟨b, i * 2, none⟩ = some (.int .i64 (l.getD i (0, 0)).1) ∧ w.cell? ⟨b, i * 2 + 1, none⟩ = some (.int .i64 (l.getD i (0, 0)).2)
theorem RdS.later {w w' : World} {a : Option Addr} {l : List (Int × Int)} (h : RdS w a l) (hb : Below w.heap.size w w') : RdS w' a l := fun i hi => by
 obtain ⟨b, e, c0, c1⟩ := h i hi
 exact ⟨b, e, cell_later hb c0, cell_later hb c1⟩
theorem ps_get (l : List (Int × Int)) : ∀ i, i < l.length → (ps l)[i * 2]? = some (.int .i64 (l.getD i (0, 0)).1) ∧ (ps l)[i * 2 + 1]? = some (.int .i64 (l.getD i (0, 0)).2) := by
 induction l with
 | nil => intro i hi; cases hi
 | cons p l ih =>
  intro i hi
  have e : ps (p :: l) = .int .i64 p.1 :: .int .i64 p.2 :: ps l := rfl
  rw [e]
  cases i with
  | zero => exact ⟨rfl, rfl⟩
  | succ i =>
   have := ih i (by simpa using hi)
   rw [show (i + 1) * 2 = i * 2 + 1 + 1 by omega, show i * 2 + 1 + 1 + 1 = (i * 2 + 1) + 1 + 1 by omega]
   simpa using this
theorem owns_rd {W : World} {b : Nat} {v : Value} {l : List (Int × Int)} (h : W.ownsRow b 108 2 v l.length (ps l)) : ∃ a cap, v = .slice a l.length cap ∧ RdS W a l ∧ ∀ g o, a = some ⟨g, o, none⟩ → v.ownBlock = some g := by
 rcases h.2 with ⟨rfl, h0⟩ | ⟨g, cap, cur, rfl, h3, h4, h5, h6, h7, h8⟩
 ·have : l = [] := List.length_eq_zero_iff.1 h0
  subst this
  exact ⟨none, 0, rfl, (fun i hi => by cases hi), fun g o e => by cases e⟩
 ·refine ⟨some ⟨g, 0, none⟩, cap, rfl, fun i hi => ⟨g, rfl, ?_⟩, fun g' o e => by simp at e; simp [Value.ownBlock, e.1]⟩
  obtain ⟨p0, p1⟩ := ps_get l i hi
  have cell : ∀ j v, j < l.length * 2 → (ps l)[j]? = some v → W.cell? ⟨g, j, none⟩ = some v := fun j v hj hv => by
   rw [cell_of_row W g j _ _ _ h4, ← hv, ← h8, List.getElem?_take_of_lt hj]
   simp
  exact ⟨cell _ _ (by omega) p0, cell _ _ (by omega) p1⟩
set_option maxHeartbeats 400000 in
theorem sameS_none (a b : Option Addr) (c d : Nat) (w : World) :
  Calls Tryz.prog 52 #[.slice a 0 c, .slice b 0 d] w fun e w' => e = .returned (.bool true) ∧ Below w.heap.size w w' := by
 go_enter Tryz.func52, Tryz.ntmps52
 go_wp2_with fail
 go_loop [13] (fun i => i = .int .i64 0) (fun _ => 0)
 case atStart => rfl
 case round =>
  subst hrel
  go_wp2_with fail
  go_ret
  exact ⟨rfl, Below.refl _ _⟩
set_option maxRecDepth 100000 in
set_option maxHeartbeats 400000 in
theorem sameS_some (b c b' c' : Nat) (l : List (Int × Int)) (w : World) (hl : l.length < 4611686018427387904)
  (h1 : ∀ i, i < l.length → w.cell? ⟨b, i * 2, none⟩ = some (.int .i64 (l.getD i (0, 0)).1) ∧ w.cell? ⟨b, i * 2 + 1, none⟩ = some (.int .i64 (l.getD i (0, 0)).2))
  (h2 : ∀ i, i < l.length → w.cell? ⟨b', i * 2, none⟩ = some (.int .i64 (l.getD i (0, 0)).1) ∧ w.cell? ⟨b', i * 2 + 1, none⟩ = some (.int .i64 (l.getD i (0, 0)).2)) :
  Calls Tryz.prog 52 #[.slice (some ⟨b, 0, none⟩) l.length c, .slice (some ⟨b', 0, none⟩) l.length c'] w fun e w' => e = .returned (.bool true) ∧ Below w.heap.size w w' := by
 go_enter Tryz.func52, Tryz.ntmps52
 go_wp2_with fail
 go_loopw [13] (fun i wx => ∃ k : Nat, k ≤ l.length ∧ i = .int .i64 (k : Int) ∧ ∃ q, wx = w.drewN q) (fun i _ => l.length - (intOf i).toNat)
 case atStart => exact ⟨0, by omega, rfl, 0, rfl⟩
 case round =>
  obtain ⟨k, hk, rfl, q, rfl⟩ := hrel
  by_cases hkn : k < l.length
  ·obtain ⟨c0, c1⟩ := h1 k hkn
   obtain ⟨d0, d1⟩ := h2 k hkn
   have e0 := cell_later (drewN_below w q) c0
   have e1 := cell_later (drewN_below w q) c1
   have f0 := cell_later (drewN_below w q) d0
   have f1 := cell_later (drewN_below w q) d1
   have i1 : (0 : Int) ≤ (k : Int) := by omega
   have i2 : (k : Int) < (l.length : Int) := by omega
   have HQ : Hid (∀ n, ∃ m, (w.drewN q).drewN n = w.drewN m) := fun n => ⟨q + n, by simp [World.drewN, Nat.add_assoc]⟩
   generalize (l.getD k (0, 0)).1 = x at *
   generalize (l.getD k (0, 0)).2 = y at *
   generalize w.drewN q = wq at *
   clear c0 c1 d0 d1 h1 h2
   go_wp2_with fail
   go_quiet (fail)
   go_wp2_with fail
   go_roundw
   case rel =>
    obtain ⟨m, hm⟩ := HQ.out nq
    exact ⟨k + 1, by omega, by go_num, m, hm⟩
   case measure => simp [intOf]; omega
  ·obtain rfl : k = l.length := by omega
   have hdk : decide ((l.length : Int) < (l.length : Int)) = false := by simp
   go_wp2_with fail
   go_ret
   exact ⟨rfl, drewN_below w q⟩
theorem sameS_any (a a' : Option Addr) (c c' : Nat) (l : List (Int × Int)) (w : World) (hl : l.length < 4611686018427387904) (h1 : RdS w a l) (h2 : RdS w a' l) :
  Calls Tryz.prog 52 #[.slice a l.length c, .slice a' l.length c'] w fun e w' => e = .returned (.bool true) ∧ Below w.heap.size w w' := by
 cases l with
 | nil => exact sameS_none a a' c c' w
 | cons p l =>
  obtain ⟨b, rfl, _⟩ := h1 0 (by simp)
  obtain ⟨b', rfl, _⟩ := h2 0 (by simp)
  refine sameS_some b c b' c' (p :: l) w hl (fun i hi => ?_) fun i hi => ?_
  ·obtain ⟨d, e, c0, c1⟩ := h1 i hi
   simp at e
   subst e
   exact ⟨c0, c1⟩
  ·obtain ⟨d, e, c0, c1⟩ := h2 i hi
   simp at e
   subst e
   exact ⟨c0, c1⟩
open Go.ChangeShapes Go.WideShapes Go.ChangeAt Go.RowKit Go.Joins Go.Deep
set_option maxRecDepth 20000
theorem bytesI : Tryz.prog.bytesOf 3 = 8 := by kernel_rfl
theorem add_plain (b o i : Nat) : (⟨b, o, none⟩ : Addr).add i = ⟨b, o + i, none⟩ := by unfold Addr.add; split <;> simp_all
section
variable {H : Type} {enc : TypeId × Value → H} {W : World} {base : Nat} {spare : Nat → Bool} {held : Bool}
theorem ints_raw {fuel : Nat} {cs : List Value} {x : DataW H × List MemPlace} (hs : ∀ es sp, x.1 = .slice es sp → (es.length + sp.length) * 8 ≤ reachBytes) (hf : DataW.trod enc Tryz.prog W base spare held fuel 52 cs = some x) :
  ∃ (a : Option Addr) (cap : Nat) (ws : List Int), cs = [.slice a ws.length cap] ∧ RdI W a ws ∧ ws.length * 8 ≤ 140737488351232 := by
 rcases open_ints Tryz.underlying52 Tryz.underlying3 (by kernel_rfl) hf with ⟨rfl, _⟩ | ⟨a, len, cap, zs, rfl, _, hl, _, hm, hx, hc, _⟩
 ·exact ⟨none, 0, [], rfl, RdI.nil _ _, by simp⟩
 ·have hlm : len ≤ zs.length := by rw [hm]; split <;> omega
  have hlen : (zs.take len).length = len := by rw [List.length_take]; omega
  refine ⟨some a, cap, zs.take len, by rw [hlen], fun i hi => ?_, ?_⟩
  ·have hi' : i < len := by rw [hlen] at hi; exact hi
   have c0 := hc i (by omega)
   obtain ⟨b, o, sp⟩ := a
   have hsp : sp = none := by simpa [Addr.add] using World.cell?_spot (hc 0 (by omega))
   subst hsp
   have e : (zs.take len).getD i 0 = zs.getD i 0 := by simp [hi']
   rw [e]
   rw [add_plain] at c0
   exact ⟨b, o, rfl, c0⟩
  ·have h1 := hs (lits .i64 (zs.take len)) (lits .i64 (zs.drop len)) (by rw [hx])
   simp [lits, reachBytes] at h1
   rw [hlen]
   omega
theorem sized_agg {P : Program} {ts : List TypeId} {ds : List (DataW H)} (h : (DataW.weightsEach P ts ds).all (· ≤ reachBytes) = true) {j : Nat} {t : TypeId} {parts : List (DataW H)} {fs : Array Field} (ht : ts[j]? = some t) (hd : ds[j]? = some (.agg parts)) (hu : P.underlying t = some (.struct fs)) :
  (DataW.weightsEach P (fs.toList.map (·.type)) parts).all (· ≤ reachBytes) = true := by
 rw [List.all_eq_true] at h ⊢
 intro n hn
 exact h n (DataW.weights_mem_each ht hd n (by simpa [DataW.weights, hu] using hn))
end
def i64s (l : List Int) : List Value := l.map fun n : Int => Value.int .i64 n
@[simp] theorem i64s_length (l : List Int) : (i64s l).length = l.length := by simp [i64s]
/- A block of cells that may be written. -/
def Slot (W : World) (g : Nat) (t : TypeId) (n : Nat) : Prop := ∃ cs, W.heap[g]? = some (.cells cs t (0, 0)) ∧ n ≤ cs.size
theorem own_ge {W : World} {b : Nat} {e : TypeId} {sz : Nat} {v : Value} {n : Nat} {xs : List Value} (h : W.ownsRow b e sz v n xs) {g : Nat} (hg : v.ownBlock = some g) : b ≤ g ∧ g < W.heap.size := by
 rcases h.2 with ⟨rfl, _⟩ | ⟨g', cap, cur, rfl, h3, h4, _⟩
 ·simp [Value.ownBlock] at hg
 ·simp [Value.ownBlock] at hg
  subst hg
  exact ⟨h3, (Array.getElem?_eq_some_iff.1 h4).1⟩
theorem own_ne {W : World} {b : Nat} {e t : TypeId} {sz : Nat} {v : Value} {n m : Nat} {xs : List Value} (h : W.ownsRow b e sz v n xs) {g : Nat} (hs : Slot W g t m) (hne : e ≠ t) : v.ownBlock ≠ some g := fun hg => by
 rcases h.2 with ⟨rfl, _⟩ | ⟨g', cap, cur, rfl, h3, h4, _⟩
 ·simp [Value.ownBlock] at hg
 ·simp [Value.ownBlock] at hg
  subst hg
  obtain ⟨cs, h1, _⟩ := hs
  rw [h4] at h1
  simp at h1
  exact hne h1.2
theorem own_other {W W' : World} {b : Nat} {e : TypeId} {sz : Nat} {v : Value} {n : Nat} {xs : List Value} (h : W.ownsRow b e sz v n xs) (hk : ∀ g, v.ownBlock = some g → W'.heap[g]? = W.heap[g]?) : W'.ownsRow b e sz v n xs := by
 obtain ⟨h1, h2⟩ := h
 refine ⟨h1, ?_⟩
 rcases h2 with h2 | ⟨g, cap, cur, rfl, h3, h4, r⟩
 ·exact .inl h2
 ·exact .inr ⟨g, cap, cur, rfl, h3, (hk g (by simp [Value.ownBlock])).trans h4, r⟩
theorem own_set {W : World} {b : Nat} {e : TypeId} {sz : Nat} {v : Value} {n : Nat} {xs : List Value} (h : W.ownsRow b e sz v n xs) (g' j : Nat) (u : Value) : ∃ ys, (W.setCell ⟨g', j, none⟩ u).ownsRow b e sz v n ys := by
 rcases h.2 with ⟨rfl, h0⟩ | ⟨g, cap, cur, rfl, h3, h4, _⟩
 ·exact ⟨xs, h.1, .inl ⟨rfl, h0⟩⟩
 ·by_cases he : g = g'
  ·subst he
   exact ⟨_, (h.stored j u).1⟩
  ·refine ⟨xs, own_other h fun k hk => other_setCell ?_ j u⟩
   simp [Value.ownBlock] at hk
   subst hk
   exact he
/- What stays, but for the blocks of P. -/
structure Ke (P : Nat → Prop) (V W : World) : Prop where
 size : V.heap.size ≤ W.heap.size
 block : ∀ k, k < V.heap.size → ¬ P k → W.heap[k]? = V.heap[k]?
section
variable {w V W W' : World} {P : Nat → Prop} {s : Nat} {vl : Value} {NL : Nat} {Xl : List Value} {vj : Value} {NJ : Nat} {Xj : List Value} {ga gb nL nJ : Nat}
end
open Go.ChangeShapes Go.WideShapes Go.ChangeAt Go.RowKit
theorem gTab : Tryz.prog.globalNamed "math/bits.deBruijn64tab" = some 0 := by kernel_rfl
theorem gTabType : (Tryz.prog.globals[0]?).map (·.type) = some 206 := by kernel_rfl
theorem cellsTab : Tryz.prog.cellsOf 206 = 64 := by kernel_rfl
theorem cellsU8 : Tryz.prog.cellsOf 5 = 1 := by kernel_rfl
def tabI : List Int := Lib.deBruijn64tab.map fun n : Nat => (n : Int)
theorem tab_data : (Rows.laid_math_bits_deBruijn64tab : DataW Unit) = Lib.tabData .u8 tabI := rfl
theorem tb_of {W : World} {rest : List (String × DataW Unit)} (h : laidMet Tryz.prog (("math/bits.deBruijn64tab", Rows.laid_math_bits_deBruijn64tab) :: rest) W) : Tb W := by
 rw [tab_data] at h
 have tab : Lib.TabIs Tryz.prog W "math/bits.deBruijn64tab" .u8 tabI :=
  Lib.tabIs_of_head gTab gTabType Tryz.underlying206 Tryz.underlying5 cellsU8 cellsTab h
 have hc : TabAt G64 Lib.deBruijn64tab W := fun j hj => by
  have h0 := World.var?_cell gTab tab j
  rw [show (⟨G64, j, none⟩ : Addr) = ⟨0, j, none⟩ from rfl, h0]
  simp only [tabI, List.map_map, List.getElem?_toArray, List.getElem?_map]
  rw [List.getElem?_eq_getElem hj, List.getD_eq_getElem?_getD, List.getElem?_eq_getElem hj]
  rfl
 exact ⟨World.block_lt_of_cell? W ⟨G64, 0, none⟩ (hc 0 (by decide)), hc⟩
def numbers (d : DataW Unit) : Array Value := match d with
 | .agg l => (l.map fun | .lit (.int k n) => Value.int k n | _ => .bool false).toArray
 | _ => #[]
noncomputable def laidWorld (os : Os) : World :=
 let w0 := World.holding Tryz.prog os ⟨#[], #[], []⟩
 { w0 with heap := w0.heap.modify 0 fun
   | .cells _ t frozen => .cells (numbers Rows.laid_math_bits_deBruijn64tab) t frozen
   | o => o }
/- The roster of the examples. -/
def f0 : Nat → En := upd (upd (fun _ => zE) 0 ⟨1, 22, 1⟩) 2 ⟨3, 24, 1⟩
end Go.Proofs.YtdkfifnhmfbagaaGreatDoor.Rs
