/- Opening rosters, batches and cases that came in as arguments. -/
import Derived.Test.YtedbnamekfgmhabDoorRsJ4
import Derived.ProofKit
import Derived.OpenShut
import Derived.Below
import Derived.Lib.SmallJoins
import Derived.Deep.SlicePairs
import Derived.Deep.Slices
import Derived.Deep.Strs
import Derived.ChangeSlices
import Derived.SizedLaws
namespace Go.Proofs.YtedbnamekfgmhabDoor.Rs
open Go.ChangeShapes Go.WideShapes Go.ChangeAt Go.RowKit Go.Joins Go.Deep
set_option linter.unusedVariables false
set_option maxRecDepth 20000
set_option linter.unusedSimpArgs false

/- The zero roster as data. -/
def roD {H : Type} : DataW H := .agg (List.replicate 64 (.agg [.lit (.int .i64 0), .lit (.int .i64 0), .lit (.int .i64 0)]))
theorem bytesI : Tryd.prog.bytesOf 3 = 8 := by kernel_rfl
theorem cellsI : Tryd.prog.cellsOf 3 = 1 := by kernel_rfl
theorem cellsSl : Tryd.prog.cellsOf 32 = 1 := by kernel_rfl
theorem cellsEn : Tryd.prog.cellsOf 27 = 3 := by kernel_rfl
theorem cellsRo : Tryd.prog.cellsOf 29 = 192 := by kernel_rfl
theorem cellsBt : Tryd.prog.cellsOf 34 = 2 := by kernel_rfl
theorem add_plain (b o i : Nat) : (⟨b, o, none⟩ : Addr).add i = ⟨b, o + i, none⟩ := by unfold Addr.add; split <;> simp_all
section
variable {H : Type} {enc : TypeId × Value → H} {W : World} {base : Nat} {spare : Nat → Bool} {held : Bool}
theorem ints_raw {fuel : Nat} {cs : List Value} {x : DataW H × List MemPlace} (hs : ∀ es sp, x.1 = .slice es sp → (es.length + sp.length) * 8 ≤ reachBytes) (hf : DataW.trod enc Tryd.prog W base spare held fuel 32 cs = some x) :
    ∃ (a : Option Addr) (cap : Nat) (ws : List Int), cs = [.slice a ws.length cap] ∧ RdI W a ws ∧ ws.length * 8 ≤ 140737488351232 := by
  rcases open_ints Tryd.underlying32 Tryd.underlying3 (by kernel_rfl) hf with ⟨rfl, _⟩ | ⟨a, len, cap, zs, rfl, _, hl, _, hm, hx, hc, _⟩
  · exact ⟨none, 0, [], rfl, RdI.nil _ _, by simp⟩
  · have hlm : len ≤ zs.length := by rw [hm]; split <;> omega
    have hlen : (zs.take len).length = len := by rw [List.length_take]; omega
    refine ⟨some a, cap, zs.take len, by rw [hlen], fun i hi => ?_, ?_⟩
    · have hi' : i < len := by rw [hlen] at hi; exact hi
      have c0 := hc i (by omega)
      obtain ⟨b, o, sp⟩ := a
      have hsp : sp = none := by simpa [Addr.add] using World.cell?_spot (hc 0 (by omega))
      subst hsp
      have e : (zs.take len).getD i 0 = zs.getD i 0 := by simp [hi']
      rw [e]
      rw [add_plain] at c0
      exact ⟨b, o, rfl, c0⟩
    · have h1 := hs (lits .i64 (zs.take len)) (lits .i64 (zs.drop len)) (by rw [hx])
      simp [lits, reachBytes] at h1
      rw [hlen]
      omega
theorem one_int {fuel : Nat} {cs : List Value} {x : DataW H × List MemPlace} (hf : DataW.trod enc Tryd.prog W base spare held fuel 3 cs = some x) : ∃ a : Int, cs = [.int .i64 a] ∧ (Lit.int .i64 a).wf = true := by
  obtain ⟨a, q, _, wa⟩ := DataW.trod_int Tryd.underlying3 hf
  exact ⟨a, q, wa⟩
theorem take_cell {cs : List Value} {k : Nat} {v : Value} (h : (cs.drop k).take 1 = [v]) : cs[k]? = some v := by
  have := congrArg (·[0]?) h
  simpa using this
set_option maxRecDepth 100000 in
theorem ro_raw {fuel : Nat} {cs : List Value} {x : DataW H × List MemPlace} (hf : DataW.trod enc Tryd.prog W base spare held fuel 29 cs = some x) :
    ∃ f : Nat → En, cs = (rcs f).toList ∧ ∀ i, i < 64 → (Lit.int .i64 (f i).who).wf = true ∧ (Lit.int .i64 (f i).bas).wf = true ∧ (Lit.int .i64 (f i).snc).wf = true := by
  obtain ⟨xs, m, _, _, hlen, hl, hx⟩ := DataW.trod_array Tryd.underlying29 hf
  rw [cellsRo] at hlen
  have each : ∀ i, i < 64 → ∃ e : En, (cs[i * 3]? = some (.int .i64 e.who) ∧ cs[i * 3 + 1]? = some (.int .i64 e.bas) ∧ cs[i * 3 + 2]? = some (.int .i64 e.snc)) ∧ (Lit.int .i64 e.who).wf = true ∧ (Lit.int .i64 e.bas).wf = true ∧ (Lit.int .i64 e.snc).wf = true := fun i hi => by
    have g := hx i hi
    rw [List.getElem?_eq_getElem (by omega), cellsEn] at g
    obtain ⟨y0, y1, y2, n, _, _, g0, g1, g2⟩ := trod_struct3 Tryd.underlying27 g
    obtain ⟨a, q0, wa⟩ := one_int g0
    obtain ⟨b, q1, wb⟩ := one_int g1
    obtain ⟨c, q2, wc⟩ := one_int g2
    rw [cellsI] at q0 q1 q2
    refine ⟨⟨a, b, c⟩, ⟨?_, ?_, ?_⟩, wa, wb, wc⟩
    · have := take_cell q0; simpa using this
    · have := take_cell q1; simpa using this
    · have := take_cell q2; simpa using this
  haveI : Inhabited En := ⟨zE⟩
  obtain ⟨f, hfs⟩ := choose_lt each
  refine ⟨f, ?_, fun i hi => (hfs i hi).2⟩
  apply List.ext_getElem?
  intro j
  rcases Nat.lt_or_ge j 192 with hj | hj
  · rw [show (rcs f).toList[j]? = (rcs f)[j]? by simp, rcs_at f j hj]
    obtain ⟨⟨c0, c1, c2⟩, _⟩ := hfs (j / 3) (by omega)
    have hr : j % 3 = 0 ∨ j % 3 = 1 ∨ j % 3 = 2 := by omega
    rcases hr with hr | hr | hr
    · rw [hr]; have e : j = j / 3 * 3 := by omega
      rw [← e] at c0; exact c0
    · rw [hr]; have e : j = j / 3 * 3 + 1 := by omega
      rw [← e] at c1; exact c1
    · rw [hr]; have e : j = j / 3 * 3 + 2 := by omega
      rw [← e] at c2; exact c2
  · rw [List.getElem?_eq_none (by omega), List.getElem?_eq_none (by simp; omega)]
theorem open_ro {r : Reach} {b0 : Nat} {v : Value} {d : DataW H} {ps : List MemPlace} (hv : Value.okWide Tryd.prog W r b0 29 v) (h : DataW.Trod enc Tryd.prog W base spare held 29 v d ps) :
    ∃ f : Nat → En, v = .agg (rcs f) ∧ ∀ i, i < 64 → (Lit.int .i64 (f i).who).wf = true ∧ (Lit.int .i64 (f i).bas).wf = true ∧ (Lit.int .i64 (f i).snc).wf = true := by
  unfold Value.okWide at hv
  rw [Tryd.underlying29 ] at hv
  obtain ⟨cs, rfl, _⟩ := hv
  obtain ⟨fuel, hf⟩ := h
  obtain ⟨f, h1, h2⟩ := ro_raw hf
  exact ⟨f, by rw [show cs = rcs f from Array.ext' h1], h2⟩
theorem sized_agg {P : Program} {ts : List TypeId} {ds : List (DataW H)} (h : (DataW.weightsEach P ts ds).all (· ≤ reachBytes) = true) {j : Nat} {t : TypeId} {parts : List (DataW H)} {fs : Array Field} (ht : ts[j]? = some t) (hd : ds[j]? = some (.agg parts)) (hu : P.underlying t = some (.struct fs)) :
    (DataW.weightsEach P (fs.toList.map (·.type)) parts).all (· ≤ reachBytes) = true := by
  rw [List.all_eq_true] at h ⊢
  intro n hn
  exact h n (DataW.weights_mem_each ht hd n (by simpa [DataW.weights, hu] using hn))
set_option maxRecDepth 100000 in
theorem bt_raw {fuel : Nat} {cs : List Value} {x : DataW H × List MemPlace} (hs : ∀ parts, x.1 = .agg parts → (DataW.weightsEach Tryd.prog [ 32, 32 ] parts).all (· ≤ reachBytes) = true) (hf : DataW.trod enc Tryd.prog W base spare held fuel 34 cs = some x) :
    ∃ (a a' : Option Addr) (c c' : Nat) (L J : List Int), cs = [.slice a L.length c, .slice a' J.length c'] ∧ RdI W a L ∧ RdI W a' J ∧ L.length * 8 ≤ 140737488351232 ∧ J.length * 8 ≤ 140737488351232 := by
  obtain ⟨y0, y1, n, hx, hl, h0, h1⟩ := trod_struct2 Tryd.underlying34 hf
  rw [cellsBt] at hl
  have hw := hs [y0.1, y1.1] (by rw [hx])
  match cs, hl with
  | [v0, v1], _ =>
    simp [cellsSl] at h0 h1
    obtain ⟨a, c, L, e0, r0, l0⟩ := ints_raw (fun es sp e => by have := sized_slice hw (j := 0) (t := 32) (e := 3) rfl (by rw [← e]; rfl) Tryd.underlying32; rw [bytesI] at this; exact this) h0
    obtain ⟨a', c', J, e1, r1, l1⟩ := ints_raw (fun es sp e => by have := sized_slice hw (j := 1) (t := 32) (e := 3) rfl (by rw [← e]; rfl) Tryd.underlying32; rw [bytesI] at this; exact this) h1
    simp at e0 e1
    exact ⟨a, a', c, c', L, J, by rw [e0, e1], r0, r1, l0, l1⟩
set_option maxRecDepth 100000 in
theorem open_bt {r : Reach} {b0 : Nat} {v : Value} {d : DataW H} {ps : List MemPlace} (hs : ∀ parts, d = .agg parts → (DataW.weightsEach Tryd.prog [ 32, 32 ] parts).all (· ≤ reachBytes) = true) (hv : Value.okWide Tryd.prog W r b0 34 v) (h : DataW.Trod enc Tryd.prog W base spare held 34 v d ps) :
    ∃ (a a' : Option Addr) (c c' : Nat) (L J : List Int), v = .agg #[.slice a L.length c, .slice a' J.length c'] ∧ RdI W a L ∧ RdI W a' J ∧ L.length * 8 ≤ 140737488351232 ∧ J.length * 8 ≤ 140737488351232 := by
  unfold Value.okWide at hv
  rw [Tryd.underlying34 ] at hv
  obtain ⟨cs, rfl, _⟩ := hv
  obtain ⟨fuel, hf⟩ := h
  obtain ⟨a, a', c, c', L, J, e, r0, r1, l0, l1⟩ := bt_raw hs hf
  exact ⟨a, a', c, c', L, J, by rw [show cs = #[.slice a L.length c, .slice a' J.length c'] from Array.ext' e], r0, r1, l0, l1⟩
theorem open_sl {v : Value} {d : DataW H} {ps : List MemPlace} (hs : ∀ es sp, d = .slice es sp → (es.length + sp.length) * 8 ≤ reachBytes) (hv : ∃ a len cap, v = .slice a len cap) (h : DataW.Trod enc Tryd.prog W base spare held 32 v d ps) :
    ∃ (a : Option Addr) (cap : Nat) (ws : List Int), v = .slice a ws.length cap ∧ RdI W a ws ∧ ws.length * 8 ≤ 140737488351232 := by
  obtain ⟨a0, len0, cap0, rfl⟩ := hv
  obtain ⟨fuel, hf⟩ := h
  obtain ⟨a, c, L, e, r, l⟩ := ints_raw hs hf
  simp [Value.cells] at e
  exact ⟨a, c, L, by rw [e.1, e.2.1, e.2.2], r, l⟩
end
end Go.Proofs.YtedbnamekfgmhabDoor.Rs
