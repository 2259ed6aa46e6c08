/- OpenTr, OpenRs, joined. -/
import Derived.Test.YtpimbpfefhkojaaGreatTrJ3
import Derived.ProofKit
import Derived.OpenShut
import Derived.Below
import Derived.Lib.SmallJoins
import Derived.Deep.SlicePairs
import Derived.Deep.Slices
import Derived.Deep.Strs
import Derived.Test.YtpimbpfefhkojaaGreatRsJ4
import Derived.ChangeSlices
import Derived.SizedLaws
/- Opening a tree that came in as an argument. -/
namespace Go.Proofs.YtpimbpfefhkojaaGreat
open Go.ChangeShapes Go.WideShapes Go.ChangeAt Go.RowKit Go.Joins Go.Deep
open Rt (Ky zK kcs kcs_at)
open Rs (En zE rcs rcs_at)
set_option linter.unusedVariables false
set_option linter.unusedSimpArgs false

theorem cellsI : Tryz.prog.cellsOf 3 = 1 := by kernel_rfl
theorem cellsKy : Tryz.prog.cellsOf 23 = 2 := by kernel_rfl
theorem cellsKs : Tryz.prog.cellsOf 25 = 42 := by kernel_rfl
theorem cellsEn : Tryz.prog.cellsOf 27 = 3 := by kernel_rfl
theorem cellsRo : Tryz.prog.cellsOf 29 = 192 := by kernel_rfl
theorem cellsTr : Tryz.prog.cellsOf 31 = 236 := by kernel_rfl
section
variable {H : Type} {enc : TypeId × Value → H} {W : World} {base : Nat} {spare : Nat → Bool} {held : Bool}
theorem one_int {fuel : Nat} {cs : List Value} {x : DataW H × List MemPlace} (hf : DataW.trod enc Tryz.prog W base spare held fuel 3 cs = some x) : ∃ a : Int, cs = [.int .i64 a] ∧ (Lit.int .i64 a).wf = true := by
  obtain ⟨a, q, _, wa⟩ := DataW.trod_int Tryz.underlying3 hf
  exact ⟨a, q, wa⟩
theorem take_cell {cs : List Value} {k : Nat} {v : Value} (h : (cs.drop k).take 1 = [v]) : cs[k]? = some v := by
  have := congrArg (·[0]?) h
  simpa using this
theorem ky_raw {fuel : Nat} {cs : List Value} {x : DataW H × List MemPlace} (hf : DataW.trod enc Tryz.prog W base spare held fuel 23 cs = some x) :
    ∃ e : Ky, cs[0]? = some (.int .i64 e.bas) ∧ cs[1]? = some (.int .i64 e.stp) := by
  obtain ⟨y0, y1, n, _, _, g0, g1⟩ := trod_struct2 Tryz.underlying23 hf
  obtain ⟨a, q0, wa⟩ := one_int g0
  obtain ⟨b, q1, wb⟩ := one_int g1
  rw [cellsI] at q0 q1
  refine ⟨⟨a, b⟩, ?_, ?_⟩
  · have := take_cell q0; simpa using this
  · have := take_cell q1; simpa using this
set_option maxRecDepth 100000 in
theorem ks_raw {fuel : Nat} {cs : List Value} {x : DataW H × List MemPlace} (hf : DataW.trod enc Tryz.prog W base spare held fuel 25 cs = some x) :
    ∃ f : Nat → Ky, cs = (kcs f).toList := by
  obtain ⟨xs, m, _, _, hlen, hl, hx⟩ := DataW.trod_array Tryz.underlying25 hf
  rw [cellsKs] at hlen
  have each : ∀ i, i < 21 → ∃ e : Ky, cs[i * 2]? = some (.int .i64 e.bas) ∧ cs[i * 2 + 1]? = some (.int .i64 e.stp) := fun i hi => by
    have g := hx i hi
    rw [List.getElem?_eq_getElem (by omega), cellsKy] at g
    obtain ⟨e, c0, c1⟩ := ky_raw g
    refine ⟨e, ?_, ?_⟩
    · simpa using c0
    · simpa using c1
  haveI : Inhabited Ky := ⟨zK⟩
  obtain ⟨f, hfs⟩ := choose_lt each
  refine ⟨f, ?_⟩
  apply List.ext_getElem?
  intro j
  rcases Nat.lt_or_ge j 42 with hj | hj
  · rw [show (kcs f).toList[j]? = (kcs f)[j]? by simp, kcs_at f j hj]
    obtain ⟨c0, c1⟩ := hfs (j / 2) (by omega)
    have hr : j % 2 = 0 ∨ j % 2 = 1 := by omega
    rcases hr with hr | hr
    · rw [hr]; have e : j = j / 2 * 2 := by omega
      rw [← e] at c0; exact c0
    · rw [hr]; have e : j = j / 2 * 2 + 1 := by omega
      rw [← e] at c1; exact c1
  · rw [List.getElem?_eq_none (by omega), List.getElem?_eq_none (by simp; omega)]
set_option maxRecDepth 100000 in
theorem ro_raw {fuel : Nat} {cs : List Value} {x : DataW H × List MemPlace} (hf : DataW.trod enc Tryz.prog W base spare held fuel 29 cs = some x) :
    ∃ f : Nat → En, cs = (rcs f).toList := by
  obtain ⟨xs, m, _, _, hlen, hl, hx⟩ := DataW.trod_array Tryz.underlying29 hf
  rw [cellsRo] at hlen
  have each : ∀ i, i < 64 → ∃ e : En, cs[i * 3]? = some (.int .i64 e.who) ∧ cs[i * 3 + 1]? = some (.int .i64 e.bas) ∧ cs[i * 3 + 2]? = some (.int .i64 e.snc) := fun i hi => by
    have g := hx i hi
    rw [List.getElem?_eq_getElem (by omega), cellsEn] at g
    obtain ⟨y0, y1, y2, n, _, _, g0, g1, g2⟩ := trod_struct3 Tryz.underlying27 g
    obtain ⟨a, q0, wa⟩ := one_int g0
    obtain ⟨b, q1, wb⟩ := one_int g1
    obtain ⟨c, q2, wc⟩ := one_int g2
    rw [cellsI] at q0 q1 q2
    refine ⟨⟨a, b, c⟩, ?_, ?_, ?_⟩
    · have := take_cell q0; simpa using this
    · have := take_cell q1; simpa using this
    · have := take_cell q2; simpa using this
  haveI : Inhabited En := ⟨zE⟩
  obtain ⟨f, hfs⟩ := choose_lt each
  refine ⟨f, ?_⟩
  apply List.ext_getElem?
  intro j
  rcases Nat.lt_or_ge j 192 with hj | hj
  · rw [show (rcs f).toList[j]? = (rcs f)[j]? by simp, rcs_at f j hj]
    obtain ⟨c0, c1, c2⟩ := hfs (j / 3) (by omega)
    have hr : j % 3 = 0 ∨ j % 3 = 1 ∨ j % 3 = 2 := by omega
    rcases hr with hr | hr | hr
    · rw [hr]; have e : j = j / 3 * 3 := by omega
      rw [← e] at c0; exact c0
    · rw [hr]; have e : j = j / 3 * 3 + 1 := by omega
      rw [← e] at c1; exact c1
    · rw [hr]; have e : j = j / 3 * 3 + 2 := by omega
      rw [← e] at c2; exact c2
  · rw [List.getElem?_eq_none (by omega), List.getElem?_eq_none (by simp; omega)]
set_option maxRecDepth 100000 in
set_option maxHeartbeats 1000000 in
theorem open_tr {r : Reach} {b0 : Nat} {v : Value} {d : DataW H} {ps : List MemPlace} (hv : Value.okWide Tryz.prog W r b0 31 v) (h : DataW.Trod enc Tryz.prog W base spare held 31 v d ps) :
    ∃ t : Tr, v = .agg (tcs t) := by
  unfold Value.okWide at hv
  rw [Tryz.underlying31 ] at hv
  obtain ⟨cs, rfl, _⟩ := hv
  obtain ⟨fuel, hf⟩ := h
  obtain ⟨xs, m, _, hx, hlen, hl, hfs⟩ := DataW.trod_struct Tryz.underlying31 hf
  have hlen' : cs.toList.length = 236 := by rw [cellsTr] at hlen; simpa [Value.cells] using hlen
  match xs, hl with
  | [y0, y1, y2, y3], _ =>
    have g0 : DataW.trod enc Tryz.prog W base spare held m 3 ((cs.toList.drop 0).take 1) = some y0 := by have g := hfs 0 _ rfl; simpa [Value.cells, cellsI] using g
    have g1 : DataW.trod enc Tryz.prog W base spare held m 3 ((cs.toList.drop 1).take 1) = some y1 := by have g := hfs 1 _ rfl; simpa [Value.cells, cellsI] using g
    have g2 : DataW.trod enc Tryz.prog W base spare held m 25 ((cs.toList.drop 2).take 42) = some y2 := by have g := hfs 2 _ rfl; simpa [Value.cells, cellsKs] using g
    have g3 : DataW.trod enc Tryz.prog W base spare held m 29 ((cs.toList.drop 44).take 192) = some y3 := by have g := hfs 3 _ rfl; simpa [Value.cells, cellsRo] using g
    obtain ⟨ep, e0, _⟩ := one_int g0
    obtain ⟨fr, e1, _⟩ := one_int g1
    obtain ⟨k, e2⟩ := ks_raw g2
    obtain ⟨f, e3⟩ := ro_raw g3
    refine ⟨⟨ep, fr, k, f⟩, congrArg Value.agg ?_⟩
    apply Array.ext'
    unfold tcs
    rw [Array.toList_append, Array.toList_append, ← e2, ← e3]
    have s1 : cs.toList = (cs.toList.drop 0).take 1 ++ ((cs.toList.drop 1).take 1 ++ ((cs.toList.drop 2).take 42 ++ (cs.toList.drop 44).take 192)) := by
      have t1 : cs.toList = (cs.toList.drop 0).take 1 ++ cs.toList.drop 1 := by
        have := (List.take_append_drop 1 cs.toList).symm
        simpa using this
      have t2 : cs.toList.drop 1 = (cs.toList.drop 1).take 1 ++ cs.toList.drop 2 := by
        have := (List.take_append_drop 1 (cs.toList.drop 1)).symm
        rwa [List.drop_drop] at this
      have t3 : cs.toList.drop 2 = (cs.toList.drop 2).take 42 ++ cs.toList.drop 44 := by
        have := (List.take_append_drop 42 (cs.toList.drop 2)).symm
        rwa [List.drop_drop] at this
      have t4 : cs.toList.drop 44 = (cs.toList.drop 44).take 192 := by
        rw [List.take_of_length_le]
        rw [List.length_drop]
        omega
      rw [← t4, ← t3, ← t2, ← t1]
    refine s1.trans ?_
    rw [e0, e1]
    rfl
end
end Go.Proofs.YtpimbpfefhkojaaGreat
/- Opening rosters, batches and cases that came in as arguments. -/
namespace Go.Proofs.YtpimbpfefhkojaaGreat.Rs
open Go.ChangeShapes Go.WideShapes Go.ChangeAt Go.RowKit Go.Joins Go.Deep
set_option linter.unusedVariables false
set_option maxRecDepth 20000
set_option linter.unusedSimpArgs false

/- The zero roster as data. -/
def roD {H : Type} : DataW H := .agg (List.replicate 64 (.agg [.lit (.int .i64 0), .lit (.int .i64 0), .lit (.int .i64 0)]))
theorem bytesI : Tryz.prog.bytesOf 3 = 8 := by kernel_rfl
theorem cellsI : Tryz.prog.cellsOf 3 = 1 := by kernel_rfl
theorem cellsSl : Tryz.prog.cellsOf 43 = 1 := by kernel_rfl
theorem cellsEn : Tryz.prog.cellsOf 27 = 3 := by kernel_rfl
theorem cellsRo : Tryz.prog.cellsOf 29 = 192 := by kernel_rfl
theorem cellsBt : Tryz.prog.cellsOf 45 = 2 := by kernel_rfl
theorem add_plain (b o i : Nat) : (⟨b, o, none⟩ : Addr).add i = ⟨b, o + i, none⟩ := by unfold Addr.add; split <;> simp_all
section
variable {H : Type} {enc : TypeId × Value → H} {W : World} {base : Nat} {spare : Nat → Bool} {held : Bool}
theorem ints_raw {fuel : Nat} {cs : List Value} {x : DataW H × List MemPlace} (hs : ∀ es sp, x.1 = .slice es sp → (es.length + sp.length) * 8 ≤ reachBytes) (hf : DataW.trod enc Tryz.prog W base spare held fuel 43 cs = some x) :
    ∃ (a : Option Addr) (cap : Nat) (ws : List Int), cs = [.slice a ws.length cap] ∧ RdI W a ws ∧ ws.length * 8 ≤ 140737488351232 := by
  rcases open_ints Tryz.underlying43 Tryz.underlying3 (by kernel_rfl) hf with ⟨rfl, _⟩ | ⟨a, len, cap, zs, rfl, _, hl, _, hm, hx, hc, _⟩
  · exact ⟨none, 0, [], rfl, RdI.nil _ _, by simp⟩
  · have hlm : len ≤ zs.length := by rw [hm]; split <;> omega
    have hlen : (zs.take len).length = len := by rw [List.length_take]; omega
    refine ⟨some a, cap, zs.take len, by rw [hlen], fun i hi => ?_, ?_⟩
    · have hi' : i < len := by rw [hlen] at hi; exact hi
      have c0 := hc i (by omega)
      obtain ⟨b, o, sp⟩ := a
      have hsp : sp = none := by simpa [Addr.add] using World.cell?_spot (hc 0 (by omega))
      subst hsp
      have e : (zs.take len).getD i 0 = zs.getD i 0 := by simp [hi']
      rw [e]
      rw [add_plain] at c0
      exact ⟨b, o, rfl, c0⟩
    · have h1 := hs (lits .i64 (zs.take len)) (lits .i64 (zs.drop len)) (by rw [hx])
      simp [lits, reachBytes] at h1
      rw [hlen]
      omega
theorem one_int {fuel : Nat} {cs : List Value} {x : DataW H × List MemPlace} (hf : DataW.trod enc Tryz.prog W base spare held fuel 3 cs = some x) : ∃ a : Int, cs = [.int .i64 a] ∧ (Lit.int .i64 a).wf = true := by
  obtain ⟨a, q, _, wa⟩ := DataW.trod_int Tryz.underlying3 hf
  exact ⟨a, q, wa⟩
theorem take_cell {cs : List Value} {k : Nat} {v : Value} (h : (cs.drop k).take 1 = [v]) : cs[k]? = some v := by
  have := congrArg (·[0]?) h
  simpa using this
set_option maxRecDepth 100000 in
theorem ro_raw {fuel : Nat} {cs : List Value} {x : DataW H × List MemPlace} (hf : DataW.trod enc Tryz.prog W base spare held fuel 29 cs = some x) :
    ∃ f : Nat → En, cs = (rcs f).toList ∧ ∀ i, i < 64 → (Lit.int .i64 (f i).who).wf = true ∧ (Lit.int .i64 (f i).bas).wf = true ∧ (Lit.int .i64 (f i).snc).wf = true := by
  obtain ⟨xs, m, _, _, hlen, hl, hx⟩ := DataW.trod_array Tryz.underlying29 hf
  rw [cellsRo] at hlen
  have each : ∀ i, i < 64 → ∃ e : En, (cs[i * 3]? = some (.int .i64 e.who) ∧ cs[i * 3 + 1]? = some (.int .i64 e.bas) ∧ cs[i * 3 + 2]? = some (.int .i64 e.snc)) ∧ (Lit.int .i64 e.who).wf = true ∧ (Lit.int .i64 e.bas).wf = true ∧ (Lit.int .i64 e.snc).wf = true := fun i hi => by
    have g := hx i hi
    rw [List.getElem?_eq_getElem (by omega), cellsEn] at g
    obtain ⟨y0, y1, y2, n, _, _, g0, g1, g2⟩ := trod_struct3 Tryz.underlying27 g
    obtain ⟨a, q0, wa⟩ := one_int g0
    obtain ⟨b, q1, wb⟩ := one_int g1
    obtain ⟨c, q2, wc⟩ := one_int g2
    rw [cellsI] at q0 q1 q2
    refine ⟨⟨a, b, c⟩, ⟨?_, ?_, ?_⟩, wa, wb, wc⟩
    · have := take_cell q0; simpa using this
    · have := take_cell q1; simpa using this
    · have := take_cell q2; simpa using this
  haveI : Inhabited En := ⟨zE⟩
  obtain ⟨f, hfs⟩ := choose_lt each
  refine ⟨f, ?_, fun i hi => (hfs i hi).2⟩
  apply List.ext_getElem?
  intro j
  rcases Nat.lt_or_ge j 192 with hj | hj
  · rw [show (rcs f).toList[j]? = (rcs f)[j]? by simp, rcs_at f j hj]
    obtain ⟨⟨c0, c1, c2⟩, _⟩ := hfs (j / 3) (by omega)
    have hr : j % 3 = 0 ∨ j % 3 = 1 ∨ j % 3 = 2 := by omega
    rcases hr with hr | hr | hr
    · rw [hr]; have e : j = j / 3 * 3 := by omega
      rw [← e] at c0; exact c0
    · rw [hr]; have e : j = j / 3 * 3 + 1 := by omega
      rw [← e] at c1; exact c1
    · rw [hr]; have e : j = j / 3 * 3 + 2 := by omega
      rw [← e] at c2; exact c2
  · rw [List.getElem?_eq_none (by omega), List.getElem?_eq_none (by simp; omega)]
theorem open_ro {r : Reach} {b0 : Nat} {v : Value} {d : DataW H} {ps : List MemPlace} (hv : Value.okWide Tryz.prog W r b0 29 v) (h : DataW.Trod enc Tryz.prog W base spare held 29 v d ps) :
    ∃ f : Nat → En, v = .agg (rcs f) ∧ ∀ i, i < 64 → (Lit.int .i64 (f i).who).wf = true ∧ (Lit.int .i64 (f i).bas).wf = true ∧ (Lit.int .i64 (f i).snc).wf = true := by
  unfold Value.okWide at hv
  rw [Tryz.underlying29 ] at hv
  obtain ⟨cs, rfl, _⟩ := hv
  obtain ⟨fuel, hf⟩ := h
  obtain ⟨f, h1, h2⟩ := ro_raw hf
  exact ⟨f, by rw [show cs = rcs f from Array.ext' h1], h2⟩
theorem sized_agg {P : Program} {ts : List TypeId} {ds : List (DataW H)} (h : (DataW.weightsEach P ts ds).all (· ≤ reachBytes) = true) {j : Nat} {t : TypeId} {parts : List (DataW H)} {fs : Array Field} (ht : ts[j]? = some t) (hd : ds[j]? = some (.agg parts)) (hu : P.underlying t = some (.struct fs)) :
    (DataW.weightsEach P (fs.toList.map (·.type)) parts).all (· ≤ reachBytes) = true := by
  rw [List.all_eq_true] at h ⊢
  intro n hn
  exact h n (DataW.weights_mem_each ht hd n (by simpa [DataW.weights, hu] using hn))
set_option maxRecDepth 100000 in
theorem bt_raw {fuel : Nat} {cs : List Value} {x : DataW H × List MemPlace} (hs : ∀ parts, x.1 = .agg parts → (DataW.weightsEach Tryz.prog [ 43, 43 ] parts).all (· ≤ reachBytes) = true) (hf : DataW.trod enc Tryz.prog W base spare held fuel 45 cs = some x) :
    ∃ (a a' : Option Addr) (c c' : Nat) (L J : List Int), cs = [.slice a L.length c, .slice a' J.length c'] ∧ RdI W a L ∧ RdI W a' J ∧ L.length * 8 ≤ 140737488351232 ∧ J.length * 8 ≤ 140737488351232 := by
  obtain ⟨y0, y1, n, hx, hl, h0, h1⟩ := trod_struct2 Tryz.underlying45 hf
  rw [cellsBt] at hl
  have hw := hs [y0.1, y1.1] (by rw [hx])
  match cs, hl with
  | [v0, v1], _ =>
    simp [cellsSl] at h0 h1
    obtain ⟨a, c, L, e0, r0, l0⟩ := ints_raw (fun es sp e => by have := sized_slice hw (j := 0) (t := 43) (e := 3) rfl (by rw [← e]; rfl) Tryz.underlying43; rw [bytesI] at this; exact this) h0
    obtain ⟨a', c', J, e1, r1, l1⟩ := ints_raw (fun es sp e => by have := sized_slice hw (j := 1) (t := 43) (e := 3) rfl (by rw [← e]; rfl) Tryz.underlying43; rw [bytesI] at this; exact this) h1
    simp at e0 e1
    exact ⟨a, a', c, c', L, J, by rw [e0, e1], r0, r1, l0, l1⟩
set_option maxRecDepth 100000 in
theorem open_bt {r : Reach} {b0 : Nat} {v : Value} {d : DataW H} {ps : List MemPlace} (hs : ∀ parts, d = .agg parts → (DataW.weightsEach Tryz.prog [ 43, 43 ] parts).all (· ≤ reachBytes) = true) (hv : Value.okWide Tryz.prog W r b0 45 v) (h : DataW.Trod enc Tryz.prog W base spare held 45 v d ps) :
    ∃ (a a' : Option Addr) (c c' : Nat) (L J : List Int), v = .agg #[.slice a L.length c, .slice a' J.length c'] ∧ RdI W a L ∧ RdI W a' J ∧ L.length * 8 ≤ 140737488351232 ∧ J.length * 8 ≤ 140737488351232 := by
  unfold Value.okWide at hv
  rw [Tryz.underlying45 ] at hv
  obtain ⟨cs, rfl, _⟩ := hv
  obtain ⟨fuel, hf⟩ := h
  obtain ⟨a, a', c, c', L, J, e, r0, r1, l0, l1⟩ := bt_raw hs hf
  exact ⟨a, a', c, c', L, J, by rw [show cs = #[.slice a L.length c, .slice a' J.length c'] from Array.ext' e], r0, r1, l0, l1⟩
theorem open_sl {v : Value} {d : DataW H} {ps : List MemPlace} (hs : ∀ es sp, d = .slice es sp → (es.length + sp.length) * 8 ≤ reachBytes) (hv : ∃ a len cap, v = .slice a len cap) (h : DataW.Trod enc Tryz.prog W base spare held 43 v d ps) :
    ∃ (a : Option Addr) (cap : Nat) (ws : List Int), v = .slice a ws.length cap ∧ RdI W a ws ∧ ws.length * 8 ≤ 140737488351232 := by
  obtain ⟨a0, len0, cap0, rfl⟩ := hv
  obtain ⟨fuel, hf⟩ := h
  obtain ⟨a, c, L, e, r, l⟩ := ints_raw hs hf
  simp [Value.cells] at e
  exact ⟨a, c, L, by rw [e.1, e.2.1, e.2.2], r, l⟩
end
end Go.Proofs.YtpimbpfefhkojaaGreat.Rs
