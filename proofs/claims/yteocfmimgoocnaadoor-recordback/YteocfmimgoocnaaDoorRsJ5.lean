/- RsL, RsSm, OpenRs, RsMm, PlP0, joined. -/
import Derived.Test.YteocfmimgoocnaaDoorRsJ4
import Derived.Test.YteocfmimgoocnaaDoorRsJ1
import Derived.ProofKit
import Derived.OpenShut
import Derived.Below
import Derived.Lib.SmallJoins
import Derived.Deep.SlicePairs
import Derived.Deep.Slices
import Derived.Deep.Strs
import Derived.ChangeSlices
import Derived.SizedLaws
import Derived.Laws.AppendOwnNone
import Derived.Maps.AppendAt
/- Contracts: the document's Move. -/
namespace Go.Proofs.YteocfmimgoocnaaDoor.Rs
open Go.RowKit Go.Maps
set_option linter.unusedVariables false
set_option linter.unusedSimpArgs false

theorem FS.set3 {w W : World} {g : Nat → En} {aL aJ : Option Addr} {nL nJ cL cJ : Nat} (h : FS w W g aL aJ nL nJ cL cJ) (k : Nat) (hk : k < 64) (a b c : Int) :
    FS w (((W.setCell ⟨w.heap.size, k * 3, none⟩ (.int .i64 a)).setCell ⟨w.heap.size, k * 3 + 1, none⟩ (.int .i64 b)).setCell ⟨w.heap.size, k * 3 + 2, none⟩ (.int .i64 c)) (upd g k ⟨a, b, c⟩) aL aJ nL nJ cL cJ :=
  ⟨h.ro.set3 k hk a b c, (set3_other (by omega) _ _ _ _ _ _).trans h.bt, set3_below h.bel (Nat.le_refl _) _ _ _ _ _ _⟩
theorem MV.set3 {w W : World} {g : Nat → En} {aL aJ : Option Addr} {nL nJ cL cJ : Nat} (h : MV w W g aL aJ nL nJ cL cJ) (k : Nat) (hk : k < 64) (a b c : Int) :
    MV w (((W.setCell ⟨w.heap.size, k * 3, none⟩ (.int .i64 a)).setCell ⟨w.heap.size, k * 3 + 1, none⟩ (.int .i64 b)).setCell ⟨w.heap.size, k * 3 + 2, none⟩ (.int .i64 c)) (upd g k ⟨a, b, c⟩) aL aJ nL nJ cL cJ :=
  ⟨h.fs.set3 k hk a b c, (set3_other (by omega) _ _ _ _ _ _).trans h.ze⟩
theorem grown_low {W W1 : World} {b : Nat} {e : TypeId} {sz : Nat} {v : Value} {n : Nat} {xs : List Value} {o : Obj} (h : W.ownsRow b e sz v n xs) (hg : (W.alloc o).grownBy W1 v.ownBlock) {k : Nat} (hk : k < b) (hs : k < W.heap.size) : W1.heap[k]? = W.heap[k]? := by
  rw [hg.block k (by simp; omega) (row_far h hk)]
  exact ((Below.refl _ W).alloc (Nat.le_refl _) o).block k hs
theorem grown_bel {w W W1 : World} {b : Nat} {e : TypeId} {sz : Nat} {v : Value} {n : Nat} {xs : List Value} {o : Obj} (hb : Below w.heap.size w W) (h : W.ownsRow b e sz v n xs) (hn : w.heap.size ≤ b) (hg : (W.alloc o).grownBy W1 v.ownBlock) : Below w.heap.size w W1 := by
  have b1 := hb.alloc hb.size o
  refine below_grown b1 hg (by have := hb.size; simp; omega) fun j hj => ?_
  rcases Nat.lt_or_ge j b with hlt | hge
  · exact absurd hj.symm (row_far h hlt)
  · omega
theorem MV.app {w W W1 : World} {g : Nat → En} {aL aJ : Option Addr} {nL nJ cL cJ : Nat} {b : Nat} {e : TypeId} {sz : Nat} {v : Value} {n : Nat} {xs : List Value} {o : Obj} (h : MV w W g aL aJ nL nJ cL cJ) (hr : W.ownsRow b e sz v n xs) (hn : w.heap.size + 3 ≤ b) (hg : (W.alloc o).grownBy W1 v.ownBlock) : MV w W1 g aL aJ nL nJ cL cJ := by
  have hs := h.ze.lt
  exact ⟨⟨(grown_low hr hg (by omega) (by omega)).trans h.fs.ro, (grown_low hr hg (by omega) (by omega)).trans h.fs.bt, grown_bel h.fs.bel hr (by omega) hg⟩, (grown_low hr hg (by omega) (by omega)).trans h.ze⟩
end Go.Proofs.YteocfmimgoocnaaDoor.Rs
/- Contracts: lists of seats that are read; the document's Same over them. -/
namespace Go.Proofs.YteocfmimgoocnaaDoor.Rs
open Go.RowKit Go.Maps
set_option linter.unusedVariables false
set_option linter.unusedSimpArgs false

/- A list of seats that lies in memory. -/
def RdS (w : World) (a : Option Addr) (l : List (Int × Int)) : Prop := ∀ i, i < l.length → ∃ b, a = some ⟨b, 0, none⟩ ∧ w.cell? ⟨b, i * 2, none⟩ = some (.int .i64 (l.getD i (0, 0)).1) ∧ w.cell? ⟨b, i * 2 + 1, none⟩ = some (.int .i64 (l.getD i (0, 0)).2)
theorem RdS.later {w w' : World} {a : Option Addr} {l : List (Int × Int)} (h : RdS w a l) (hb : Below w.heap.size w w') : RdS w' a l := fun i hi => by
  obtain ⟨b, e, c0, c1⟩ := h i hi
  exact ⟨b, e, cell_later hb c0, cell_later hb c1⟩
theorem ps_get (l : List (Int × Int)) : ∀ i, i < l.length → (ps l)[i * 2]? = some (.int .i64 (l.getD i (0, 0)).1) ∧ (ps l)[i * 2 + 1]? = some (.int .i64 (l.getD i (0, 0)).2) := by
  induction l with
  | nil => intro i hi; cases hi
  | cons p l ih =>
    intro i hi
    have e : ps (p :: l) = .int .i64 p.1 :: .int .i64 p.2 :: ps l := rfl
    rw [e]
    cases i with
    | zero => exact ⟨rfl, rfl⟩
    | succ i =>
      have := ih i (by simpa using hi)
      rw [show (i + 1) * 2 = i * 2 + 1 + 1 by omega, show i * 2 + 1 + 1 + 1 = (i * 2 + 1) + 1 + 1 by omega]
      simpa using this
theorem owns_rd {W : World} {b : Nat} {v : Value} {l : List (Int × Int)} (h : W.ownsRow b 57 2 v l.length (ps l)) : ∃ a cap, v = .slice a l.length cap ∧ RdS W a l ∧ ∀ g o, a = some ⟨g, o, none⟩ → v.ownBlock = some g := by
  rcases h.2 with ⟨rfl, h0⟩ | ⟨g, cap, cur, rfl, h3, h4, h5, h6, h7, h8⟩
  · have : l = [] := List.length_eq_zero_iff.1 h0
    subst this
    exact ⟨none, 0, rfl, (fun i hi => by cases hi), fun g o e => by cases e⟩
  · refine ⟨some ⟨g, 0, none⟩, cap, rfl, fun i hi => ⟨g, rfl, ?_⟩, fun g' o e => by simp at e; simp [Value.ownBlock, e.1]⟩
    obtain ⟨p0, p1⟩ := ps_get l i hi
    have cell : ∀ j v, j < l.length * 2 → (ps l)[j]? = some v → W.cell? ⟨g, j, none⟩ = some v := fun j v hj hv => by
      rw [cell_of_row W g j _ _ _ h4, ← hv, ← h8, List.getElem?_take_of_lt hj]
      simp
    exact ⟨cell _ _ (by omega) p0, cell _ _ (by omega) p1⟩
set_option maxHeartbeats 400000 in
theorem sameS_none (a b : Option Addr) (c d : Nat) (w : World) :
    Calls Tryd.prog 25 #[.slice a 0 c, .slice b 0 d] w fun e w' => e = .returned (.bool true) ∧ Below w.heap.size w w' := by
  go_enter Tryd.func25, Tryd.ntmps25
  go_wp2_with fail
  go_loop [13] (fun i => i = .int .i64 0) (fun _ => 0)
  case atStart => rfl
  case round =>
    subst hrel
    go_wp2_with fail
    go_ret
    exact ⟨rfl, Below.refl _ _⟩
set_option maxRecDepth 100000 in
set_option maxHeartbeats 400000 in
theorem sameS_some (b c b' c' : Nat) (l : List (Int × Int)) (w : World) (hl : l.length < 4611686018427387904)
    (h1 : ∀ i, i < l.length → w.cell? ⟨b, i * 2, none⟩ = some (.int .i64 (l.getD i (0, 0)).1) ∧ w.cell? ⟨b, i * 2 + 1, none⟩ = some (.int .i64 (l.getD i (0, 0)).2))
    (h2 : ∀ i, i < l.length → w.cell? ⟨b', i * 2, none⟩ = some (.int .i64 (l.getD i (0, 0)).1) ∧ w.cell? ⟨b', i * 2 + 1, none⟩ = some (.int .i64 (l.getD i (0, 0)).2)) :
    Calls Tryd.prog 25 #[.slice (some ⟨b, 0, none⟩) l.length c, .slice (some ⟨b', 0, none⟩) l.length c'] w fun e w' => e = .returned (.bool true) ∧ Below w.heap.size w w' := by
  go_enter Tryd.func25, Tryd.ntmps25
  go_wp2_with fail
  go_loopw [13] (fun i wx => ∃ k : Nat, k ≤ l.length ∧ i = .int .i64 (k : Int) ∧ ∃ q, wx = w.drewN q) (fun i _ => l.length - (intOf i).toNat)
  case atStart => exact ⟨0, by omega, rfl, 0, rfl⟩
  case round =>
    obtain ⟨k, hk, rfl, q, rfl⟩ := hrel
    by_cases hkn : k < l.length
    · obtain ⟨c0, c1⟩ := h1 k hkn
      obtain ⟨d0, d1⟩ := h2 k hkn
      have e0 := cell_later (drewN_below w q) c0
      have e1 := cell_later (drewN_below w q) c1
      have f0 := cell_later (drewN_below w q) d0
      have f1 := cell_later (drewN_below w q) d1
      have i1 : (0 : Int) ≤ (k : Int) := by omega
      have i2 : (k : Int) < (l.length : Int) := by omega
      have HQ : Hid (∀ n, ∃ m, (w.drewN q).drewN n = w.drewN m) := fun n => ⟨q + n, by simp [World.drewN, Nat.add_assoc]⟩
      generalize (l.getD k (0, 0)).1 = x at *
      generalize (l.getD k (0, 0)).2 = y at *
      generalize w.drewN q = wq at *
      clear c0 c1 d0 d1 h1 h2
      go_wp2_with fail
      go_quiet (fail)
      go_wp2_with fail
      go_roundw
      case rel =>
        obtain ⟨m, hm⟩ := HQ.out nq
        exact ⟨k + 1, by omega, by go_num, m, hm⟩
      case measure => simp [intOf]; omega
    · obtain rfl : k = l.length := by omega
      have hdk : decide ((l.length : Int) < (l.length : Int)) = false := by simp
      go_wp2_with fail
      go_ret
      exact ⟨rfl, drewN_below w q⟩
theorem sameS_any (a a' : Option Addr) (c c' : Nat) (l : List (Int × Int)) (w : World) (hl : l.length < 4611686018427387904) (h1 : RdS w a l) (h2 : RdS w a' l) :
    Calls Tryd.prog 25 #[.slice a l.length c, .slice a' l.length c'] w fun e w' => e = .returned (.bool true) ∧ Below w.heap.size w w' := by
  cases l with
  | nil => exact sameS_none a a' c c' w
  | cons p l =>
    obtain ⟨b, rfl, _⟩ := h1 0 (by simp)
    obtain ⟨b', rfl, _⟩ := h2 0 (by simp)
    refine sameS_some b c b' c' (p :: l) w hl (fun i hi => ?_) fun i hi => ?_
    · obtain ⟨d, e, c0, c1⟩ := h1 i hi
      simp at e
      subst e
      exact ⟨c0, c1⟩
    · obtain ⟨d, e, c0, c1⟩ := h2 i hi
      simp at e
      subst e
      exact ⟨c0, c1⟩
end Go.Proofs.YteocfmimgoocnaaDoor.Rs
/- Opening rosters, batches and cases that came in as arguments. -/
namespace Go.Proofs.YteocfmimgoocnaaDoor.Rs
open Go.ChangeShapes Go.WideShapes Go.ChangeAt Go.RowKit Go.Joins Go.Deep
set_option linter.unusedVariables false
set_option maxRecDepth 20000
set_option linter.unusedSimpArgs false

/- The zero roster as data. -/
def roD {H : Type} : DataW H := .agg (List.replicate 64 (.agg [.lit (.int .i64 0), .lit (.int .i64 0), .lit (.int .i64 0)]))
theorem bytesI : Tryd.prog.bytesOf 3 = 8 := by kernel_rfl
theorem cellsI : Tryd.prog.cellsOf 3 = 1 := by kernel_rfl
theorem cellsSl : Tryd.prog.cellsOf 22 = 1 := by kernel_rfl
theorem cellsEn : Tryd.prog.cellsOf 41 = 3 := by kernel_rfl
theorem cellsRo : Tryd.prog.cellsOf 43 = 192 := by kernel_rfl
theorem cellsBt : Tryd.prog.cellsOf 48 = 2 := by kernel_rfl
theorem add_plain (b o i : Nat) : (⟨b, o, none⟩ : Addr).add i = ⟨b, o + i, none⟩ := by unfold Addr.add; split <;> simp_all
section
variable {H : Type} {enc : TypeId × Value → H} {W : World} {base : Nat} {spare : Nat → Bool} {held : Bool}
theorem ints_raw {fuel : Nat} {cs : List Value} {x : DataW H × List MemPlace} (hs : ∀ es sp, x.1 = .slice es sp → (es.length + sp.length) * 8 ≤ reachBytes) (hf : DataW.trod enc Tryd.prog W base spare held fuel 22 cs = some x) :
    ∃ (a : Option Addr) (cap : Nat) (ws : List Int), cs = [.slice a ws.length cap] ∧ RdI W a ws ∧ ws.length * 8 ≤ 140737488351232 := by
  rcases open_ints Tryd.underlying22 Tryd.underlying3 (by kernel_rfl) hf with ⟨rfl, _⟩ | ⟨a, len, cap, zs, rfl, _, hl, _, hm, hx, hc, _⟩
  · exact ⟨none, 0, [], rfl, RdI.nil _ _, by simp⟩
  · have hlm : len ≤ zs.length := by rw [hm]; split <;> omega
    have hlen : (zs.take len).length = len := by rw [List.length_take]; omega
    refine ⟨some a, cap, zs.take len, by rw [hlen], fun i hi => ?_, ?_⟩
    · have hi' : i < len := by rw [hlen] at hi; exact hi
      have c0 := hc i (by omega)
      obtain ⟨b, o, sp⟩ := a
      have hsp : sp = none := by simpa [Addr.add] using World.cell?_spot (hc 0 (by omega))
      subst hsp
      have e : (zs.take len).getD i 0 = zs.getD i 0 := by simp [hi']
      rw [e]
      rw [add_plain] at c0
      exact ⟨b, o, rfl, c0⟩
    · have h1 := hs (lits .i64 (zs.take len)) (lits .i64 (zs.drop len)) (by rw [hx])
      simp [lits, reachBytes] at h1
      rw [hlen]
      omega
theorem one_int {fuel : Nat} {cs : List Value} {x : DataW H × List MemPlace} (hf : DataW.trod enc Tryd.prog W base spare held fuel 3 cs = some x) : ∃ a : Int, cs = [.int .i64 a] ∧ (Lit.int .i64 a).wf = true := by
  obtain ⟨a, q, _, wa⟩ := DataW.trod_int Tryd.underlying3 hf
  exact ⟨a, q, wa⟩
theorem take_cell {cs : List Value} {k : Nat} {v : Value} (h : (cs.drop k).take 1 = [v]) : cs[k]? = some v := by
  have := congrArg (·[0]?) h
  simpa using this
set_option maxRecDepth 100000 in
theorem ro_raw {fuel : Nat} {cs : List Value} {x : DataW H × List MemPlace} (hf : DataW.trod enc Tryd.prog W base spare held fuel 43 cs = some x) :
    ∃ f : Nat → En, cs = (rcs f).toList ∧ ∀ i, i < 64 → (Lit.int .i64 (f i).who).wf = true ∧ (Lit.int .i64 (f i).bas).wf = true ∧ (Lit.int .i64 (f i).snc).wf = true := by
  obtain ⟨xs, m, _, _, hlen, hl, hx⟩ := DataW.trod_array Tryd.underlying43 hf
  rw [cellsRo] at hlen
  have each : ∀ i, i < 64 → ∃ e : En, (cs[i * 3]? = some (.int .i64 e.who) ∧ cs[i * 3 + 1]? = some (.int .i64 e.bas) ∧ cs[i * 3 + 2]? = some (.int .i64 e.snc)) ∧ (Lit.int .i64 e.who).wf = true ∧ (Lit.int .i64 e.bas).wf = true ∧ (Lit.int .i64 e.snc).wf = true := fun i hi => by
    have g := hx i hi
    rw [List.getElem?_eq_getElem (by omega), cellsEn] at g
    obtain ⟨y0, y1, y2, n, _, _, g0, g1, g2⟩ := trod_struct3 Tryd.underlying41 g
    obtain ⟨a, q0, wa⟩ := one_int g0
    obtain ⟨b, q1, wb⟩ := one_int g1
    obtain ⟨c, q2, wc⟩ := one_int g2
    rw [cellsI] at q0 q1 q2
    refine ⟨⟨a, b, c⟩, ⟨?_, ?_, ?_⟩, wa, wb, wc⟩
    · have := take_cell q0; simpa using this
    · have := take_cell q1; simpa using this
    · have := take_cell q2; simpa using this
  haveI : Inhabited En := ⟨zE⟩
  obtain ⟨f, hfs⟩ := choose_lt each
  refine ⟨f, ?_, fun i hi => (hfs i hi).2⟩
  apply List.ext_getElem?
  intro j
  rcases Nat.lt_or_ge j 192 with hj | hj
  · rw [show (rcs f).toList[j]? = (rcs f)[j]? by simp, rcs_at f j hj]
    obtain ⟨⟨c0, c1, c2⟩, _⟩ := hfs (j / 3) (by omega)
    have hr : j % 3 = 0 ∨ j % 3 = 1 ∨ j % 3 = 2 := by omega
    rcases hr with hr | hr | hr
    · rw [hr]; have e : j = j / 3 * 3 := by omega
      rw [← e] at c0; exact c0
    · rw [hr]; have e : j = j / 3 * 3 + 1 := by omega
      rw [← e] at c1; exact c1
    · rw [hr]; have e : j = j / 3 * 3 + 2 := by omega
      rw [← e] at c2; exact c2
  · rw [List.getElem?_eq_none (by omega), List.getElem?_eq_none (by simp; omega)]
theorem open_ro {r : Reach} {b0 : Nat} {v : Value} {d : DataW H} {ps : List MemPlace} (hv : Value.okWide Tryd.prog W r b0 43 v) (h : DataW.Trod enc Tryd.prog W base spare held 43 v d ps) :
    ∃ f : Nat → En, v = .agg (rcs f) ∧ ∀ i, i < 64 → (Lit.int .i64 (f i).who).wf = true ∧ (Lit.int .i64 (f i).bas).wf = true ∧ (Lit.int .i64 (f i).snc).wf = true := by
  unfold Value.okWide at hv
  rw [Tryd.underlying43 ] at hv
  obtain ⟨cs, rfl, _⟩ := hv
  obtain ⟨fuel, hf⟩ := h
  obtain ⟨f, h1, h2⟩ := ro_raw hf
  exact ⟨f, by rw [show cs = rcs f from Array.ext' h1], h2⟩
theorem sized_agg {P : Program} {ts : List TypeId} {ds : List (DataW H)} (h : (DataW.weightsEach P ts ds).all (· ≤ reachBytes) = true) {j : Nat} {t : TypeId} {parts : List (DataW H)} {fs : Array Field} (ht : ts[j]? = some t) (hd : ds[j]? = some (.agg parts)) (hu : P.underlying t = some (.struct fs)) :
    (DataW.weightsEach P (fs.toList.map (·.type)) parts).all (· ≤ reachBytes) = true := by
  rw [List.all_eq_true] at h ⊢
  intro n hn
  exact h n (DataW.weights_mem_each ht hd n (by simpa [DataW.weights, hu] using hn))
set_option maxRecDepth 100000 in
theorem bt_raw {fuel : Nat} {cs : List Value} {x : DataW H × List MemPlace} (hs : ∀ parts, x.1 = .agg parts → (DataW.weightsEach Tryd.prog [ 22, 22 ] parts).all (· ≤ reachBytes) = true) (hf : DataW.trod enc Tryd.prog W base spare held fuel 48 cs = some x) :
    ∃ (a a' : Option Addr) (c c' : Nat) (L J : List Int), cs = [.slice a L.length c, .slice a' J.length c'] ∧ RdI W a L ∧ RdI W a' J ∧ L.length * 8 ≤ 140737488351232 ∧ J.length * 8 ≤ 140737488351232 := by
  obtain ⟨y0, y1, n, hx, hl, h0, h1⟩ := trod_struct2 Tryd.underlying48 hf
  rw [cellsBt] at hl
  have hw := hs [y0.1, y1.1] (by rw [hx])
  match cs, hl with
  | [v0, v1], _ =>
    simp [cellsSl] at h0 h1
    obtain ⟨a, c, L, e0, r0, l0⟩ := ints_raw (fun es sp e => by have := sized_slice hw (j := 0) (t := 22) (e := 3) rfl (by rw [← e]; rfl) Tryd.underlying22; rw [bytesI] at this; exact this) h0
    obtain ⟨a', c', J, e1, r1, l1⟩ := ints_raw (fun es sp e => by have := sized_slice hw (j := 1) (t := 22) (e := 3) rfl (by rw [← e]; rfl) Tryd.underlying22; rw [bytesI] at this; exact this) h1
    simp at e0 e1
    exact ⟨a, a', c, c', L, J, by rw [e0, e1], r0, r1, l0, l1⟩
set_option maxRecDepth 100000 in
theorem open_bt {r : Reach} {b0 : Nat} {v : Value} {d : DataW H} {ps : List MemPlace} (hs : ∀ parts, d = .agg parts → (DataW.weightsEach Tryd.prog [ 22, 22 ] parts).all (· ≤ reachBytes) = true) (hv : Value.okWide Tryd.prog W r b0 48 v) (h : DataW.Trod enc Tryd.prog W base spare held 48 v d ps) :
    ∃ (a a' : Option Addr) (c c' : Nat) (L J : List Int), v = .agg #[.slice a L.length c, .slice a' J.length c'] ∧ RdI W a L ∧ RdI W a' J ∧ L.length * 8 ≤ 140737488351232 ∧ J.length * 8 ≤ 140737488351232 := by
  unfold Value.okWide at hv
  rw [Tryd.underlying48 ] at hv
  obtain ⟨cs, rfl, _⟩ := hv
  obtain ⟨fuel, hf⟩ := h
  obtain ⟨a, a', c, c', L, J, e, r0, r1, l0, l1⟩ := bt_raw hs hf
  exact ⟨a, a', c, c', L, J, by rw [show cs = #[.slice a L.length c, .slice a' J.length c'] from Array.ext' e], r0, r1, l0, l1⟩
theorem open_sl {v : Value} {d : DataW H} {ps : List MemPlace} (hs : ∀ es sp, d = .slice es sp → (es.length + sp.length) * 8 ≤ reachBytes) (hv : ∃ a len cap, v = .slice a len cap) (h : DataW.Trod enc Tryd.prog W base spare held 22 v d ps) :
    ∃ (a : Option Addr) (cap : Nat) (ws : List Int), v = .slice a ws.length cap ∧ RdI W a ws ∧ ws.length * 8 ≤ 140737488351232 := by
  obtain ⟨a0, len0, cap0, rfl⟩ := hv
  obtain ⟨fuel, hf⟩ := h
  obtain ⟨a, c, L, e, r, l⟩ := ints_raw hs hf
  simp [Value.cells] at e
  exact ⟨a, c, L, by rw [e.1, e.2.1, e.2.2], r, l⟩
end
end Go.Proofs.YteocfmimgoocnaaDoor.Rs
/- Lists that are copied, lists that are written to, and what stays. -/
namespace Go.Proofs.YteocfmimgoocnaaDoor.Rs
open Go.RowKit Go.Maps
set_option linter.unusedVariables false
set_option linter.unusedSimpArgs false

def i64s (l : List Int) : List Value := l.map fun n : Int => Value.int .i64 n
@[simp] theorem i64s_length (l : List Int) : (i64s l).length = l.length := by simp [i64s]
theorem i64s_one (l : List Int) : ∀ u ∈ i64s l, u.oneCell' = true := by
  intro u hu
  simp only [i64s, List.mem_map] at hu
  obtain ⟨_, _, rfl⟩ := hu
  rfl
theorem news_of_rd {w : World} {b o : Nat} {ws : List Int} (h : RdI w (some ⟨b, o, none⟩) ws) : ∀ j u, (i64s ws)[j]? = some u → w.cell? ((⟨b, o, none⟩ : Addr).add j) = some u := fun j u hu => by
  have hj : j < ws.length := by
    rcases Nat.lt_or_ge j (i64s ws).length with h' | h'
    · simpa using h'
    · rw [List.getElem?_eq_none h'] at hu; cases hu
  obtain ⟨b', o', e, c0⟩ := h j hj
  obtain ⟨eb, eo⟩ : b = b' ∧ o = o' := by simpa using e
  rw [← eb, ← eo] at c0
  rw [add_plain, c0]
  rw [← hu]
  simp [i64s, hj]
theorem rdi_of_row {w : World} {B g n cap : Nat} {ws : List Int} {ys : List Value} (h : w.ownsRow B 3 1 (.slice (some ⟨g, 0, none⟩) n cap) n (i64s ws ++ ys)) : RdI w (some ⟨g, 0, none⟩) ws := fun i hi => by
  have hl := h.1
  simp at hl
  refine ⟨g, 0, rfl, ?_⟩
  rw [Nat.zero_add, h.cellAt i (by omega), List.getElem?_append_left (by simpa using hi)]
  simp [i64s, hi]
theorem row_cap {w : World} {B g n cap : Nat} {xs : List Value} (h : w.ownsRow B 3 1 (.slice (some ⟨g, 0, none⟩) n cap) n xs) : n ≤ cap ∧ B ≤ g ∧ g < w.heap.size := by
  rcases h.2 with ⟨h0, _⟩ | ⟨g', cap', cur, h5, h3, h4, h6, _⟩
  · simp at h0
  · simp at h5
    obtain ⟨rfl, rfl⟩ := h5
    exact ⟨h6, h3, (Array.getElem?_eq_some_iff.1 h4).1⟩
theorem run_append_none_c {P : Program} {w : World} (base : Nat) (t ty e : TypeId) (i : TypeInfo) (size : Nat) (ht : P.underlying t = some (.slice e)) (hi : P.info? e = some i) (v : Value) (n : Nat) (xs : List Value) (hown : w.ownsRow base e size v n xs) (c : Nat) :
    (Builtin.append_ #[t, t] ty #[v, .slice none 0 c]).run P w = .ok v w := by
  rcases hown.2 with ⟨rfl, rfl⟩ | ⟨g, cap, cur, rfl, _, _, hnc, _⟩
  · simp [Builtin.append_, run_underlying ht, sizeOf, typeInfo, hi, Builtin.lenOf, Builtin.firstCells]
  · simp [Builtin.append_, run_underlying ht, sizeOf, typeInfo, hi, Builtin.lenOf, Builtin.firstCells, hnc, storeCells]
theorem append_rd {w : World} {ops : Array Oper} {rest : List Oper} {o : Oper} {a : Act} {Q : Exit → Act → World → Prop} (hgd : o.guard = none) (s x : Operand)
    (ho : o.op = .call { callee := .builtin .append, args := #[s, x], argTypes := #[ 22, 22 ] })
    (base : Nat) (v : Value) (n : Nat) (xs : List Value) (hs : a.eval s = v) (hown : w.ownsRow base 3 1 v n xs) (src : Option Addr) (c : Nat) (ws : List Int) (hx : a.eval x = .slice src ws.length c) (hrd : RdI w src ws)
    (h63 : n + ws.length ≤ maxLen) (hbytes : (n + ws.length) * 8 ≤ 140737488355328) (hbase : base ≤ w.heap.size)
    (h : ∀ v' w', w'.ownsRow base 3 1 v' (n + ws.length) (xs ++ i64s ws) → w.grownBy w' v.ownBlock → wpList Tryd.prog ops Q rest (a.put o.dst v') w') : wpList Tryd.prog ops Q (o :: rest) a w := by
  obtain ⟨i0, hi, hz0, hz1, hz2⟩ := info_parts infoInt
  cases src with
  | none =>
    have h0 : ws = [] := by
      cases ws with
      | nil => rfl
      | cons y r => obtain ⟨b, o, e, _⟩ := hrd 0 (by simp); cases e
    subst h0
    refine wpList_plain hgd fun K hK => ?_
    have hrun := run_append_none_c (P := Tryd.prog) (w := w) base 22 o.type 3 i0 1 Tryd.underlying22 hi v n xs hown c
    rw [List.length_nil] at hx
    unfold Oper.wp
    simp [execOp, ho, resolve, invoke, builtin, hs, hx, hrun, Result.andThen]
    exact hK _ _ (h v w (by simpa [i64s] using hown) (grown_refl _ _))
  | some ad =>
    refine wpList_append_own _ hgd s x 22 ho base 3 i0 _ 1 8 Tryd.underlying22 hi hz0 hz1 hz2 rfl (by decide) v n xs hs hown ad ws.length c (i64s ws) hx (by simp) ?_ (i64s_one _) h63 hbytes hbase fun v' w' h1 h2 _ => h v' w' h1 h2
    by_cases h0 : ws = []
    · intro j u hu
      rw [h0] at hu
      simp [i64s] at hu
    · obtain ⟨b, o', e, -⟩ := hrd.spot h0
      cases e
      exact news_of_rd hrd
/- A block of cells that may be written. -/
def Slot (W : World) (g : Nat) (t : TypeId) (n : Nat) : Prop := ∃ cs, W.heap[g]? = some (.cells cs t (0, 0)) ∧ n ≤ cs.size
theorem Slot.set {W : World} {g : Nat} {t : TypeId} {n : Nat} (h : Slot W g t n) (g' j : Nat) (u : Value) : Slot (W.setCell ⟨g', j, none⟩ u) g t n := by
  obtain ⟨cs, h1, h2⟩ := h
  by_cases e : g = g'
  · subst e
    exact ⟨_, row_setCell h1 j u, by simpa using h2⟩
  · exact ⟨cs, (other_setCell e j u).trans h1, h2⟩
theorem Slot.kept {W W' : World} {g : Nat} {t : TypeId} {n : Nat} (h : Slot W g t n) (he : W'.heap[g]? = W.heap[g]?) : Slot W' g t n := by
  obtain ⟨cs, h1, h2⟩ := h
  exact ⟨cs, he.trans h1, h2⟩
theorem Slot.lt {W : World} {g : Nat} {t : TypeId} {n : Nat} (h : Slot W g t n) : g < W.heap.size := by
  obtain ⟨cs, h1, h2⟩ := h
  exact (Array.getElem?_eq_some_iff.1 h1).1
theorem Slot.cell {W : World} {g : Nat} {t : TypeId} {n : Nat} (h : Slot W g t n) {j : Nat} (hj : j < n) : (∃ u, W.cell? ⟨g, j, none⟩ = some u) ∧ W.frozen? ⟨g, j, none⟩ = false := by
  obtain ⟨cs, h1, h2⟩ := h
  exact ⟨⟨cs[j]'(by omega), by rw [cell_of_row W g j _ _ _ h1]; exact Array.getElem?_eq_getElem (by omega)⟩, row_frozen h1 j⟩
theorem Slot.of_row {W : World} {b : Nat} {e : TypeId} {g n cap : Nat} {xs : List Value} (h : W.ownsRow b e 1 (.slice (some ⟨g, 0, none⟩) n cap) n xs) : Slot W g e n := by
  rcases h.2 with ⟨h0, _⟩ | ⟨g', cap', cur, h5, h3, h4, h6, h7, h8, _⟩
  · simp at h0
  · simp at h5
    obtain ⟨rfl, rfl⟩ := h5
    exact ⟨cur, h4, by omega⟩
theorem own_ge {W : World} {b : Nat} {e : TypeId} {sz : Nat} {v : Value} {n : Nat} {xs : List Value} (h : W.ownsRow b e sz v n xs) {g : Nat} (hg : v.ownBlock = some g) : b ≤ g ∧ g < W.heap.size := by
  rcases h.2 with ⟨rfl, _⟩ | ⟨g', cap, cur, rfl, h3, h4, _⟩
  · simp [Value.ownBlock] at hg
  · simp [Value.ownBlock] at hg
    subst hg
    exact ⟨h3, (Array.getElem?_eq_some_iff.1 h4).1⟩
theorem own_ne {W : World} {b : Nat} {e t : TypeId} {sz : Nat} {v : Value} {n m : Nat} {xs : List Value} (h : W.ownsRow b e sz v n xs) {g : Nat} (hs : Slot W g t m) (hne : e ≠ t) : v.ownBlock ≠ some g := fun hg => by
  rcases h.2 with ⟨rfl, _⟩ | ⟨g', cap, cur, rfl, h3, h4, _⟩
  · simp [Value.ownBlock] at hg
  · simp [Value.ownBlock] at hg
    subst hg
    obtain ⟨cs, h1, _⟩ := hs
    rw [h4] at h1
    simp at h1
    exact hne h1.2
theorem own_other {W W' : World} {b : Nat} {e : TypeId} {sz : Nat} {v : Value} {n : Nat} {xs : List Value} (h : W.ownsRow b e sz v n xs) (hk : ∀ g, v.ownBlock = some g → W'.heap[g]? = W.heap[g]?) : W'.ownsRow b e sz v n xs := by
  obtain ⟨h1, h2⟩ := h
  refine ⟨h1, ?_⟩
  rcases h2 with h2 | ⟨g, cap, cur, rfl, h3, h4, r⟩
  · exact .inl h2
  · exact .inr ⟨g, cap, cur, rfl, h3, (hk g (by simp [Value.ownBlock])).trans h4, r⟩
theorem own_set {W : World} {b : Nat} {e : TypeId} {sz : Nat} {v : Value} {n : Nat} {xs : List Value} (h : W.ownsRow b e sz v n xs) (g' j : Nat) (u : Value) : ∃ ys, (W.setCell ⟨g', j, none⟩ u).ownsRow b e sz v n ys := by
  rcases h.2 with ⟨rfl, h0⟩ | ⟨g, cap, cur, rfl, h3, h4, _⟩
  · exact ⟨xs, h.1, .inl ⟨rfl, h0⟩⟩
  · by_cases he : g = g'
    · subst he
      exact ⟨_, (h.stored j u).1⟩
    · refine ⟨xs, own_other h fun k hk => other_setCell ?_ j u⟩
      simp [Value.ownBlock] at hk
      subst hk
      exact he
theorem own_set_type {W : World} {b : Nat} {e t : TypeId} {sz : Nat} {v : Value} {n m : Nat} {xs : List Value} (h : W.ownsRow b e sz v n xs) {g' : Nat} (hs : Slot W g' t m) (hne : e ≠ t) (j : Nat) (u : Value) : (W.setCell ⟨g', j, none⟩ u).ownsRow b e sz v n xs :=
  own_other h fun k hk => other_setCell (fun he => own_ne h hs hne (by rw [hk, he])) j u
theorem own_cells {W : World} {b : Nat} {e : TypeId} {a : Option Addr} {n cap : Nat} {xs : List Value} (h : W.ownsRow b e 2 (.slice a n cap) n xs) {k : Nat} (hk : k < n) : ∃ g u0 u1, a = some ⟨g, 0, none⟩ ∧ W.cell? ⟨g, k * 2, none⟩ = some u0 ∧ W.cell? ⟨g, k * 2 + 1, none⟩ = some u1 ∧ W.frozen? ⟨g, k * 2, none⟩ = false ∧ W.frozen? ⟨g, k * 2 + 1, none⟩ = false := by
  rcases h.2 with ⟨h0, h00⟩ | ⟨g, cap', cur, h5, h3, h4, h6, h7, h8, _⟩
  · omega
  · simp at h5
    obtain ⟨rfl, rfl⟩ := h5
    exact ⟨g, cur[k * 2]'(by omega), cur[k * 2 + 1]'(by omega), rfl, by rw [cell_of_row W g _ _ _ _ h4]; exact Array.getElem?_eq_getElem (by omega), by rw [cell_of_row W g _ _ _ _ h4]; exact Array.getElem?_eq_getElem (by omega), row_frozen h4 _, row_frozen h4 _⟩
/- What stays, but for the blocks of P. -/
structure Ke (P : Nat → Prop) (V W : World) : Prop where
  size : V.heap.size ≤ W.heap.size
  block : ∀ k, k < V.heap.size → ¬ P k → W.heap[k]? = V.heap[k]?
theorem Ke.refl (P : Nat → Prop) (V : World) : Ke P V V := ⟨Nat.le_refl _, fun _ _ _ => rfl⟩
theorem Ke.set {P : Nat → Prop} {V W : World} (h : Ke P V W) {g : Nat} (hg : P g) (j : Nat) (u : Value) : Ke P V (W.setCell ⟨g, j, none⟩ u) :=
  ⟨by simpa using h.size, fun k hk hn => (other_setCell (fun e => hn (by rw [e]; exact hg)) j u).trans (h.block k hk hn)⟩
theorem Ke.grown {P : Nat → Prop} {V W W' : World} (h : Ke P V W) {o : Obj} {r : Option Nat} (hg : (W.alloc o).grownBy W' r) (hr : ∀ j, r = some j → j < V.heap.size → P j) : Ke P V W' := by
  have h1 := h.size
  have h2 := hg.size
  rw [World.size_alloc] at h2
  refine ⟨by omega, fun k hk hn => ?_⟩
  rw [hg.block k (by simp; omega) (fun e => hn (hr k e.symm hk))]
  exact (((Below.refl _ W).alloc (Nat.le_refl _) o).block k (by omega)).trans (h.block k hk hn)
theorem RdS.ke {P : Nat → Prop} {V W : World} {a : Option Addr} {l : List (Int × Int)} (h : RdS V a l) (hk : Ke P V W) (hne : ∀ b, a = some ⟨b, 0, none⟩ → ¬ P b) : RdS W a l := fun i hi => by
  obtain ⟨b, e, c0, c1⟩ := h i hi
  have hlt := World.block_lt_of_cell? V _ c0
  have hb := hk.block b hlt (hne b e)
  exact ⟨b, e, (World.cell?_of_block hb).trans c0, (World.cell?_of_block hb).trans c1⟩
/- Two rows of seats and two of numbers that are written to. -/
structure PA (w V W : World) (P : Nat → Prop) (s : Nat) (vl : Value) (NL : Nat) (Xl : List Value) (vj : Value) (NJ : Nat) (Xj : List Value) (ga gb nL nJ : Nat) : Prop where
  ke : Ke P V W
  bel : Below w.heap.size w W
  sa : Slot W ga 3 nL
  sb : Slot W gb 3 nJ
  ol : W.ownsRow s 57 2 vl NL Xl
  oj : W.ownsRow s 57 2 vj NJ Xj
  ap : vl.ownBlock = none ∨ vl.ownBlock ≠ vj.ownBlock
  ws : w.heap.size ≤ s
  wa : w.heap.size ≤ ga
  wb : w.heap.size ≤ gb
  vs : s ≤ V.heap.size
section
variable {w V W W' : World} {P : Nat → Prop} {s : Nat} {vl : Value} {NL : Nat} {Xl : List Value} {vj : Value} {NJ : Nat} {Xj : List Value} {ga gb nL nJ : Nat}
theorem PA.setS (h : PA w V W P s vl NL Xl vj NJ Xj ga gb nL nJ) {g : Nat} (hg : P g) (hw : w.heap.size ≤ g) (j : Nat) (u : Value) : ∃ Yl Yj, PA w V (W.setCell ⟨g, j, none⟩ u) P s vl NL Yl vj NJ Yj ga gb nL nJ := by
  obtain ⟨Yl, hl⟩ := own_set h.ol g j u
  obtain ⟨Yj, hj⟩ := own_set h.oj g j u
  exact ⟨Yl, Yj, h.ke.set hg j u, h.bel.setCell (p := ⟨g, j, none⟩) hw u, h.sa.set g j u, h.sb.set g j u, hl, hj, h.ap, h.ws, h.wa, h.wb, h.vs⟩
theorem PA.set2 (h : PA w V W P s vl NL Xl vj NJ Xj ga gb nL nJ) {g : Nat} (hg : P g) (hw : w.heap.size ≤ g) (j j' : Nat) (u u' : Value) : ∃ Yl Yj, PA w V ((W.setCell ⟨g, j, none⟩ u).setCell ⟨g, j', none⟩ u') P s vl NL Yl vj NJ Yj ga gb nL nJ := by
  obtain ⟨_, _, h1⟩ := h.setS hg hw j u
  exact h1.setS hg hw j' u'
theorem PA.setI (h : PA w V W P s vl NL Xl vj NJ Xj ga gb nL nJ) {g m : Nat} (hs : Slot W g 3 m) (hg : P g) (hw : w.heap.size ≤ g) (j : Nat) (u : Value) : PA w V (W.setCell ⟨g, j, none⟩ u) P s vl NL Xl vj NJ Xj ga gb nL nJ :=
  ⟨h.ke.set hg j u, h.bel.setCell (p := ⟨g, j, none⟩) hw u, h.sa.set g j u, h.sb.set g j u, own_set_type h.ol hs (by decide) j u, own_set_type h.oj hs (by decide) j u, h.ap, h.ws, h.wa, h.wb, h.vs⟩
theorem PA.appl {v' : Value} {n' : Nat} {X' : List Value} {o : Obj} (h : PA w V W P s vl NL Xl vj NJ Xj ga gb nL nJ) (hown : W'.ownsRow s 57 2 v' n' X') (hg : (W.alloc o).grownBy W' vl.ownBlock) (hat : v'.ownBlock = vl.ownBlock ∨ v'.ownBlock = some (W.alloc o).heap.size) (hP : ∀ g, vl.ownBlock = some g → g < V.heap.size → P g) : PA w V W' P s v' n' X' vj NJ Xj ga gb nL nJ := by
  have hs := h.ke.size
  have hv := h.vs
  have hw := h.ws
  have lt : ∀ g, g < W.heap.size → vl.ownBlock ≠ some g → W'.heap[g]? = W.heap[g]? := fun g hlt hne => by
    rw [hg.block g (by simp; omega) (fun e => hne e.symm)]
    exact ((Below.refl _ W).alloc (Nat.le_refl _) o).block g hlt
  have hj : W'.ownsRow s 57 2 vj NJ Xj := own_other h.oj fun g hgj => lt g (own_ge h.oj hgj).2 (fun e => by
    rcases h.ap with h0 | h0
    · rw [h0] at e; cases e
    · exact h0 (e.trans hgj.symm))
  refine ⟨h.ke.grown hg hP, ?_, h.sa.kept (lt _ h.sa.lt (own_ne h.ol h.sa (by decide))), h.sb.kept (lt _ h.sb.lt (own_ne h.ol h.sb (by decide))), hown, hj, ?_, hw, h.wa, h.wb, hv⟩
  · exact grown_bel h.bel h.ol hw hg
  · rcases hat with e | e
    · rw [e]; exact h.ap
    · refine .inr fun e2 => ?_
      rw [e] at e2
      have := (own_ge h.oj e2.symm).2
      simp at this
      omega
theorem PA.appj {v' : Value} {n' : Nat} {X' : List Value} {o : Obj} (h : PA w V W P s vl NL Xl vj NJ Xj ga gb nL nJ) (hown : W'.ownsRow s 57 2 v' n' X') (hg : (W.alloc o).grownBy W' vj.ownBlock) (hat : v'.ownBlock = vj.ownBlock ∨ v'.ownBlock = some (W.alloc o).heap.size) (hP : ∀ g, vj.ownBlock = some g → g < V.heap.size → P g) : PA w V W' P s vl NL Xl v' n' X' ga gb nL nJ := by
  have hs := h.ke.size
  have hv := h.vs
  have hw := h.ws
  have lt : ∀ g, g < W.heap.size → vj.ownBlock ≠ some g → W'.heap[g]? = W.heap[g]? := fun g hlt hne => by
    rw [hg.block g (by simp; omega) (fun e => hne e.symm)]
    exact ((Below.refl _ W).alloc (Nat.le_refl _) o).block g hlt
  have hl : W'.ownsRow s 57 2 vl NL Xl := own_other h.ol fun g hgj => lt g (own_ge h.ol hgj).2 (fun e => by
    rcases h.ap with h0 | h0
    · rw [h0] at hgj; cases hgj
    · exact h0 (hgj.trans e.symm))
  refine ⟨h.ke.grown hg hP, ?_, h.sa.kept (lt _ h.sa.lt (own_ne h.oj h.sa (by decide))), h.sb.kept (lt _ h.sb.lt (own_ne h.oj h.sb (by decide))), hl, hown, ?_, hw, h.wa, h.wb, hv⟩
  · exact grown_bel h.bel h.oj hw hg
  · rcases hat with e | e
    · rw [e]; exact h.ap
    · refine .inr fun e2 => ?_
      rw [e] at e2
      have := (own_ge h.ol e2).2
      simp at this
      omega
end
theorem row_last {W : World} {b : Nat} {e : TypeId} {v : Value} {n : Nat} {X : List Value} {x y : Value} (h : W.ownsRow b e 2 v (n + 1) (X ++ [x, y])) : ∃ g cap, v = .slice (some ⟨g, 0, none⟩) (n + 1) cap ∧ W.cell? ⟨g, n * 2, none⟩ = some x := by
  have hl := h.1
  simp at hl
  rcases h.2 with ⟨_, h0⟩ | ⟨g, cap, cur, rfl, h3, h4, _⟩
  · omega
  · refine ⟨g, cap, rfl, ?_⟩
    rw [h.cellAt (n * 2) (by omega), List.getElem?_append_right (by omega), show n * 2 - X.length = 0 by omega]
    rfl
theorem mvL_len (f : Nat → En) (L J : List Int) (sc bs : Int) (h : L.length * 8 ≤ 140737488351232) : (mvL f L J sc bs).length ≤ 256 := by
  unfold mvL
  split
  · rename_i h0
    rw [evl_length]
    exact Nat.le_trans (mvE_zero h0).1.lenL (by decide)
  · simp
theorem mvJ_len (f : Nat → En) (L J : List Int) (sc bs : Int) (h : J.length * 8 ≤ 140737488351232) : (mvJ f L J sc bs).length ≤ 1024 := by
  unfold mvJ
  split
  · rename_i h0
    rw [adl_length]
    have h1 := (mvE_zero h0).1.room
    have h2 := (mvE_zero h0).1.lenL
    omega
  · simp
end Go.Proofs.YteocfmimgoocnaaDoor.Rs
/- Lists of pairs that came in as arguments (they may lie anywhere in a block). -/
namespace Go.Proofs.YteocfmimgoocnaaDoor
open Go.RowKit Go.Maps
open Rs (RdS RdI ps evl cell_later)
set_option linter.unusedVariables false
set_option linter.unusedSimpArgs false

def RdP (w : World) (a : Option Addr) (l : List (Int × Int)) : Prop := ∀ i, i < l.length → ∃ b o, a = some ⟨b, o, none⟩ ∧ w.cell? ⟨b, o + i * 2, none⟩ = some (.int .i64 (l.getD i (0, 0)).1) ∧ w.cell? ⟨b, o + i * 2 + 1, none⟩ = some (.int .i64 (l.getD i (0, 0)).2)
theorem RdP.later {w w' : World} {a : Option Addr} {l : List (Int × Int)} (h : RdP w a l) (hb : Below w.heap.size w w') : RdP w' a l := fun i hi => by
  obtain ⟨b, o, e, c0, c1⟩ := h i hi
  exact ⟨b, o, e, cell_later hb c0, cell_later hb c1⟩
theorem ps_one (l : List (Int × Int)) : ∀ u ∈ ps l, u.oneCell' = true := by
  intro u hu
  unfold Rs.ps at hu
  rw [List.mem_flatMap] at hu
  obtain ⟨p, _, h⟩ := hu
  simp at h
  rcases h with rfl | rfl <;> rfl
/- A copy of such a list. -/
theorem ps_len (l : List (Int × Int)) : (ps l).length = l.length * 2 := by
  induction l with
  | nil => rfl
  | cons p l ih =>
    have e : ps (p :: l) = .int .i64 p.1 :: .int .i64 p.2 :: ps l := rfl
    rw [e]
    simp [ih]
    omega
theorem news_of_rdP {w : World} {b o : Nat} {ws : List (Int × Int)} (h : RdP w (some ⟨b, o, none⟩) ws) : ∀ j u, (ps ws)[j]? = some u → w.cell? ((⟨b, o, none⟩ : Addr).add j) = some u := fun j u hu => by
  have hj : j < ws.length * 2 := by
    rcases Nat.lt_or_ge j (ps ws).length with h' | h'
    · rw [ps_len] at h'; exact h'
    · rw [List.getElem?_eq_none h'] at hu; cases hu
  obtain ⟨b', o', e, c0, c1⟩ := h (j / 2) (by omega)
  obtain ⟨eb, eo⟩ : b = b' ∧ o = o' := by simpa using e
  rw [← eb, ← eo] at c0 c1
  obtain ⟨p0, p1⟩ := Rs.ps_get ws (j / 2) (by omega)
  rw [Rs.add_plain]
  rcases Nat.mod_two_eq_zero_or_one j with hr | hr
  · have e2 : j / 2 * 2 = j := by omega
    rw [e2] at p0
    rw [show o + j / 2 * 2 = o + j by omega] at c0
    rw [c0, ← p0, hu]
  · have e2 : j / 2 * 2 + 1 = j := by omega
    rw [e2] at p1
    rw [show o + j / 2 * 2 + 1 = o + j by omega] at c1
    rw [c1, ← p1, hu]
theorem run_append_none2 {P : Program} {w : World} (base : Nat) (t ty e : TypeId) (i : TypeInfo) (size : Nat) (ht : P.underlying t = some (.slice e)) (hi : P.info? e = some i) (v : Value) (n : Nat) (xs : List Value) (hown : w.ownsRow base e size v n xs) (c : Nat) :
    (Builtin.append_ #[t, t] ty #[v, .slice none 0 c]).run P w = .ok v w := by
  rcases hown.2 with ⟨rfl, rfl⟩ | ⟨g, cap, cur, rfl, _, _, hnc, _⟩
  · simp [Builtin.append_, run_underlying ht, sizeOf, typeInfo, hi, Builtin.lenOf, Builtin.firstCells]
  · simp [Builtin.append_, run_underlying ht, sizeOf, typeInfo, hi, Builtin.lenOf, Builtin.firstCells, hnc, storeCells]
theorem append_rdP {w : World} {ops : Array Oper} {rest : List Oper} {o : Oper} {a : Act} {Q : Exit → Act → World → Prop} (hgd : o.guard = none) (s x : Operand)
    (ho : o.op = .call { callee := .builtin .append, args := #[s, x], argTypes := #[ 23, 23 ] })
    (base : Nat) (v : Value) (n : Nat) (xs : List Value) (hs : a.eval s = v) (hown : w.ownsRow base 57 2 v n xs) (src : Option Addr) (c : Nat) (ws : List (Int × Int)) (hx : a.eval x = .slice src ws.length c) (hrd : RdP w src ws)
    (h63 : n + ws.length ≤ maxLen) (hbytes : (n + ws.length) * 16 ≤ 140737488355328) (hbase : base ≤ w.heap.size)
    (h : ∀ v' w', w'.ownsRow base 57 2 v' (n + ws.length) (xs ++ ps ws) → w.grownBy w' v.ownBlock → wpList Tryd.prog ops Q rest (a.put o.dst v') w') : wpList Tryd.prog ops Q (o :: rest) a w := by
  obtain ⟨i0, hi, hz0, hz1, hz2⟩ := Rs.infoSeat_parts
  cases src with
  | none =>
    have h0 : ws = [] := by
      cases ws with
      | nil => rfl
      | cons y r => obtain ⟨b, o, e, _⟩ := hrd 0 (by simp); cases e
    subst h0
    refine wpList_plain hgd fun K hK => ?_
    have hrun := run_append_none2 (P := Tryd.prog) (w := w) base 23 o.type 57 i0 2 Tryd.underlying23 hi v n xs hown c
    rw [List.length_nil] at hx
    unfold Oper.wp
    simp [execOp, ho, resolve, invoke, builtin, hs, hx, hrun, Result.andThen]
    exact hK _ _ (h v w (by simpa [Rs.ps] using hown) ⟨rfl, rfl, rfl, Nat.le_refl _, fun _ _ _ => rfl⟩)
  | some ad =>
    refine wpList_append_own _ hgd s x 23 ho base 57 i0 _ 2 16 Tryd.underlying23 hi hz0 hz1 hz2 rfl (by decide) v n xs hs hown ad ws.length c (ps ws) hx (by rw [ps_len]) ?_ (ps_one _) h63 hbytes hbase fun v' w' h1 h2 _ => h v' w' h1 h2
    by_cases h0 : ws = []
    · intro j u hu
      rw [h0] at hu
      simp [Rs.ps] at hu
    · obtain ⟨b, o', e, -⟩ := hrd 0 (List.length_pos_iff.2 h0)
      cases e
      exact news_of_rdP hrd
end Go.Proofs.YteocfmimgoocnaaDoor
