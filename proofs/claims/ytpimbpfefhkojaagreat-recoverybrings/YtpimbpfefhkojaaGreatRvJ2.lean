/- RvL, OpenRvL, joined. -/
import Derived.Test.YtpimbpfefhkojaaGreatRvJ1
import Derived.Test.YtpimbpfefhkojaaGreatTrJ3
import Derived.Test.YtpimbpfefhkojaaGreatWiJ2
import Derived.Test.YtpimbpfefhkojaaGreatOpJ2
import Derived.Test.YtpimbpfefhkojaaGreatOpJ
import Derived.SizedLaws
/- A Lag in memory: a tree, a script, a person, two flags. MADE by wip/mk_rvl.py. -/
namespace Go.Proofs.YtpimbpfefhkojaaGreat.Rv
open Go.RowKit Go.Maps Mb
open Rt (Ky zK)
open Rs (RdI tkn fnd En)
open Wi (ra_of)
set_option linter.unusedVariables false
set_option maxRecDepth 20000
set_option linter.unusedSimpArgs false

def RdB (w : World) (a : Option Addr) (l : List (List Int × List Int)) : Prop := ∀ i, i < l.length → ∃ b o aL cL aJ cJ, a = some ⟨b, o, none⟩ ∧ w.cell? ⟨b, o + i * 2, none⟩ = some (.slice aL (l.getD i ([], [])).1.length cL) ∧ w.cell? ⟨b, o + (i * 2 + 1), none⟩ = some (.slice aJ (l.getD i ([], [])).2.length cJ) ∧ RdI w aL (l.getD i ([], [])).1 ∧ RdI w aJ (l.getD i ([], [])).2
theorem RdB.later {w w' : World} {a : Option Addr} {l : List (List Int × List Int)} (h : RdB w a l) (hb : Below w.heap.size w w') : RdB w' a l := fun i hi => by
  obtain ⟨b, o, aL, cL, aJ, cJ, e, c0, c1, r0, r1⟩ := h i hi
  exact ⟨b, o, aL, cL, aJ, cJ, e, Rs.cell_later hb c0, Rs.cell_later hb c1, r0.later hb, r1.later hb⟩
def lcl (t : Tr) (v : Value) (x : Int) (ba : Bool) (bh : Int) : List Value := (tcs t).toList ++ [v, .int .i64 x, .bool ba, .int .i64 bh]
def lca (t : Tr) (v : Value) (x : Int) (ba : Bool) (bh : Int) : Array Value := (lcl t v x ba bh).toArray
section
variable {w w' : World} {B : Nat} {t : Tr} {v : Value} {x : Int} {ba : Bool} {bh : Int}
theorem lca_lo {j : Nat} (hj : j < 236) : (lca t v x ba bh)[j]? = (tcs t)[j]? := by
  unfold lca lcl
  rw [List.getElem?_toArray, List.getElem?_append_left (by simp; exact hj)]
  simp
theorem lca_hi (k : Nat) : (lca t v x ba bh)[236 + k]? = ([v, .int .i64 x, .bool ba, .int .i64 bh] : List Value)[k]? := by
  unfold lca lcl
  rw [List.getElem?_toArray, List.getElem?_append_right (by simp)]
  simp
def LAt (w : World) (B : Nat) (t : Tr) (v : Value) (x : Int) (ba : Bool) (bh : Int) : Prop := w.heap[B]? = some (.cells (lca t v x ba bh) 34 (0, 0))
theorem LAt.later (h : LAt w B t v x ba bh) (hb : Below w.heap.size w w') : LAt w' B t v x ba bh := row_later h hb
theorem LAt.new (w : World) (t : Tr) (v : Value) (x : Int) (ba : Bool) (bh : Int) : LAt (w.alloc (.cells (lca t v x ba bh) 34)) w.heap.size t v x ba bh := heap_alloc_last w _
theorem LAt.whole (h : LAt w B t v x ba bh) : (Instr.loadAt 31 (.pointer (some ⟨B, 0, none⟩))).run Tryz.prog w = .ok (.agg (tcs t)) w :=
  part_run h Tryz.underlying31 rfl infoT 0 (tcs_size t) (fun j hj => by rw [Nat.zero_add]; exact lca_lo hj)
theorem LAt.rest (h : LAt w B t v x ba bh) : w.cell? ⟨B, 236, none⟩ = some v ∧ w.cell? ⟨B, 237, none⟩ = some (.int .i64 x) ∧ w.cell? ⟨B, 238, none⟩ = some (.bool ba) ∧ w.cell? ⟨B, 239, none⟩ = some (.int .i64 bh) :=
  ⟨(cell_of_row w B _ _ _ _ h).trans (lca_hi 0), (cell_of_row w B _ _ _ _ h).trans (lca_hi 1), (cell_of_row w B _ _ _ _ h).trans (lca_hi 2), (cell_of_row w B _ _ _ _ h).trans (lca_hi 3)⟩
theorem LAt.ent (h : LAt w B t v x ba bh) (k : Nat) (hk : k < 64) : w.cell? ⟨B, 44 + k * 3, none⟩ = some (.int .i64 (t.ro k).who) ∧ w.cell? ⟨B, 44 + k * 3 + 1, none⟩ = some (.int .i64 (t.ro k).bas) ∧ w.cell? ⟨B, 44 + k * 3 + 2, none⟩ = some (.int .i64 (t.ro k).snc) := by
  obtain ⟨h0, h1, h2⟩ := Rs.rcs_get t.ro k hk
  exact ⟨(cell_of_row w B _ _ _ _ h).trans ((lca_lo (by omega)).trans ((tcs_ro t _).trans h0)), by rw [Nat.add_assoc]; exact (cell_of_row w B _ _ _ _ h).trans ((lca_lo (by omega)).trans ((tcs_ro t _).trans h1)), by rw [Nat.add_assoc]; exact (cell_of_row w B _ _ _ _ h).trans ((lca_lo (by omega)).trans ((tcs_ro t _).trans h2))⟩
end
theorem rdL {w : World} {ops : Array Oper} {rest : List Oper} {o : Oper} {a : Act} {Q : Exit → Act → World → Prop} {B : Nat} {t : Tr} {v : Value} {X : Int} {ba : Bool} {bh : Int} {c : Array Value} (h : LAt w B t v X ba bh) (hc : tcs t = c) (x : Operand) (ho : o.op = .load 31 x)
    (hx : a.eval x = .pointer (some ⟨B, 0, none⟩)) (hw : Region.wanted o (yielded ops a.tmps) = true) (k : wpList Tryz.prog ops Q rest (a.put o.dst (.agg c)) w) : wpList Tryz.prog ops Q (o :: rest) a w :=
  rd_guard hw (ld_exec (hc ▸ h.whole) ho hx) k
theorem range3 {w : World} {B o : Nat} {a b c : Value} (h0 : w.cell? ⟨B, o, none⟩ = some a) (h1 : w.cell? ⟨B, o + 1, none⟩ = some b) (h2 : w.cell? ⟨B, o + 2, none⟩ = some c) : w.rangeAt B o [a, b, c] := fun j v hv => by
  match j, hv with
  | 0, hv => simp at hv; subst hv; exact h0
  | 1, hv => simp at hv; subst hv; exact h1
  | 2, hv => simp at hv; subst hv; exact h2
  | n + 3, hv => simp at hv
theorem szEn : (Tryz.prog.info? 27).map (·.size) = some 3 := by kernel_rfl
/- The last tree of a script. -/
def goT (t : Tr) (b : List Int × List Int) : Tr := if plE t b.1 b.2 = 0 then pnT t b.1 b.2 else t
def runT (t : Tr) (l : List (List Int × List Int)) : Tr := l.foldl goT t
theorem runT_snoc (t : Tr) (l : List (List Int × List Int)) (b : List Int × List Int) : runT t (l ++ [b]) = goT (runT t l) b := by simp [runT]
theorem goT_ok {t : Tr} {b : List Int × List Int} (h : tck t = true) : tck (goT t b) = true ∧ t.ep ≤ (goT t b).ep := by
  unfold goT
  by_cases he : plE t b.1 b.2 = 0
  · have hs := plE_stp he
    have e : pnT t b.1 b.2 = nx t b.1 b.2 := by unfold pnT; rw [if_pos he]
    rw [if_pos he, e]
    exact ⟨hs.tckn, by show t.ep ≤ t.ep + 1; omega⟩
  · rw [if_neg he]
    exact ⟨h, Int.le_refl _⟩
theorem runT_ok : ∀ (l : List (List Int × List Int)) {t : Tr} (h : tck t = true), tck (runT t l) = true ∧ t.ep ≤ (runT t l).ep
  | [], t, h => ⟨h, Int.le_refl _⟩
  | b :: l, t, h => by
    obtain ⟨h1, h2⟩ := goT_ok (b := b) h
    have ih := runT_ok l h1
    exact ⟨ih.1, Int.le_trans h2 ih.2⟩
theorem runT_take (t : Tr) (l : List (List Int × List Int)) {i : Nat} (hi : i < l.length) : runT t (l.take (i + 1)) = goT (runT t (l.take i)) (l.getD i ([], [])) := by
  have e : l.take (i + 1) = l.take i ++ [l.getD i ([], [])] := by
    rw [List.take_add_one, List.getElem?_eq_getElem hi]
    simp [List.getD_eq_getElem?_getD, List.getElem?_eq_getElem hi]
  rw [e, runT_snoc]
end Go.Proofs.YtpimbpfefhkojaaGreat.Rv
/- Opening a Lag that came in as an argument. MADE by wip/mk_rvl.py. -/
namespace Go.Proofs.YtpimbpfefhkojaaGreat.Rv
open Go.ChangeShapes Go.WideShapes Go.ChangeAt Go.RowKit Go.Joins Go.Deep Mb
open Rt (Ky zK kcs kcs_at)
open Rs (En zE rcs rcs_at RdI ints_raw bytesI)
set_option linter.unusedVariables false
set_option linter.unusedSimpArgs false

section
variable {H : Type} {enc : TypeId × Value → H} {W : World} {base : Nat} {spare : Nat → Bool} {held : Bool}
set_option maxRecDepth 100000 in
set_option maxHeartbeats 1000000 in
theorem tr_raw {fuel : Nat} {cs : List Value} {x : DataW H × List MemPlace} (hf : DataW.trod enc Tryz.prog W base spare held fuel 31 cs = some x) :
    ∃ t : Tr, cs = (tcs t).toList := by
  obtain ⟨xs, m, _, hx, hlen, hl, hfs⟩ := DataW.trod_struct Tryz.underlying31 hf
  have hlen' : cs.length = 236 := by rw [cellsTr] at hlen; simpa [Value.cells] using hlen
  match xs, hl with
  | [y0, y1, y2, y3], _ =>
    have g0 : DataW.trod enc Tryz.prog W base spare held m 3 ((cs.drop 0).take 1) = some y0 := by have g := hfs 0 _ rfl; simpa [Value.cells, cellsI] using g
    have g1 : DataW.trod enc Tryz.prog W base spare held m 3 ((cs.drop 1).take 1) = some y1 := by have g := hfs 1 _ rfl; simpa [Value.cells, cellsI] using g
    have g2 : DataW.trod enc Tryz.prog W base spare held m 25 ((cs.drop 2).take 42) = some y2 := by have g := hfs 2 _ rfl; simpa [Value.cells, cellsKs] using g
    have g3 : DataW.trod enc Tryz.prog W base spare held m 29 ((cs.drop 44).take 192) = some y3 := by have g := hfs 3 _ rfl; simpa [Value.cells, cellsRo] using g
    obtain ⟨ep, e0, _⟩ := one_int g0
    obtain ⟨fr, e1, _⟩ := one_int g1
    obtain ⟨k, e2⟩ := ks_raw g2
    obtain ⟨f, e3⟩ := ro_raw g3
    refine ⟨⟨ep, fr, k, f⟩, ?_⟩
    unfold tcs
    rw [Array.toList_append, Array.toList_append, ← e2, ← e3]
    have s1 : cs = (cs.drop 0).take 1 ++ ((cs.drop 1).take 1 ++ ((cs.drop 2).take 42 ++ (cs.drop 44).take 192)) := by
      have t1 : cs = (cs.drop 0).take 1 ++ cs.drop 1 := by
        have := (List.take_append_drop 1 cs).symm
        simpa using this
      have t2 : cs.drop 1 = (cs.drop 1).take 1 ++ cs.drop 2 := by
        have := (List.take_append_drop 1 (cs.drop 1)).symm
        rwa [List.drop_drop] at this
      have t3 : cs.drop 2 = (cs.drop 2).take 42 ++ cs.drop 44 := by
        have := (List.take_append_drop 42 (cs.drop 2)).symm
        rwa [List.drop_drop] at this
      have t4 : cs.drop 44 = (cs.drop 44).take 192 := by
        rw [List.take_of_length_le]
        rw [List.length_drop]
        omega
      rw [← t4, ← t3, ← t2, ← t1]
    refine s1.trans ?_
    rw [e0, e1]
    rfl
end
theorem bytesBt : Tryz.prog.bytesOf 45 = 48 := by kernel_rfl
theorem weights_mem_all {H : Type} {P : Program} {e : TypeId} {d : DataW H} {n : Nat} (hn : n ∈ d.weights P e) : ∀ {es : List (DataW H)}, d ∈ es → n ∈ DataW.weightsAll P e es
  | x :: r, h => by
    rw [DataW.weightsAll, List.mem_append]
    rcases List.mem_cons.1 h with rfl | h
    · exact .inl hn
    · exact .inr (weights_mem_all hn h)
theorem sized_elems {H : Type} {P : Program} {ts : List TypeId} {ds : List (DataW H)} (h : (DataW.weightsEach P ts ds).all (· ≤ reachBytes) = true) {j : Nat} {t e : TypeId} {es sp parts : List (DataW H)} {fs : Array Field} (ht : ts[j]? = some t) (hd : ds[j]? = some (.slice es sp)) (hu : P.underlying t = some (.slice e)) (hu2 : P.underlying e = some (.struct fs)) (hm : .agg parts ∈ es) :
    (DataW.weightsEach P (fs.toList.map (·.type)) parts).all (· ≤ reachBytes) = true := by
  rw [List.all_eq_true] at h ⊢
  intro n hn
  refine h n (DataW.weights_mem_each ht hd n ?_)
  rw [DataW.weights, hu]
  refine List.mem_cons_of_mem _ (List.mem_append.2 (.inl (weights_mem_all ?_ hm)))
  rw [DataW.weights, hu2]
  exact hn
theorem bts_of1 {H : Type} {enc : TypeId × Value → H} {W : World} {base : Nat} {spare : Nat → Bool} {held : Bool} {v : Value} {d : DataW H} {ps : List MemPlace} (hs : ∀ es sp, d = .slice es sp → (es.length + sp.length) * 48 ≤ reachBytes ∧ ∀ parts, .agg parts ∈ es → (DataW.weightsEach Tryz.prog [ 43, 43 ] parts).all (· ≤ reachBytes) = true)
    (hv : ∃ a len cap, v = .slice a len cap) (h : DataW.Trod enc Tryz.prog W base spare held 32 v d ps) :
    ∃ (a : Option Addr) (cap : Nat) (l : List (List Int × List Int)), v = .slice a l.length cap ∧ RdB W a l ∧ l.length * 48 ≤ 140737488351232 ∧ ∀ i, i < l.length → (l.getD i ([], [])).1.length * 8 ≤ 140737488351232 ∧ (l.getD i ([], [])).2.length * 8 ≤ 140737488351232 := by
  obtain ⟨a0, len0, cap0, rfl⟩ := hv
  obtain ⟨fuel, hf⟩ := h
  rcases Go.Deep.open_slice_pairs Tryz.underlying32 Tryz.underlying45 (by kernel_rfl) rfl rfl (by kernel_rfl) (by kernel_rfl) hf with ⟨hcs, _⟩ | ⟨a, len, cap, m, n, V0, V1, D0, D1, P0, P1, hcs, _, hl, _, hm, hx, hc⟩
  · simp [Value.cells] at hcs
    obtain ⟨rfl, rfl, rfl⟩ := hcs
    exact ⟨none, 0, [], rfl, (fun i hi => by cases hi), by simp, (fun i hi => by cases hi)⟩
  · simp [Value.cells] at hcs
    obtain ⟨rfl, rfl, rfl⟩ := hcs
    simp only [Prod.mk.injEq] at hx
    have hlm : len0 ≤ m := by rw [hm]; split <;> omega
    obtain ⟨hb1, hb2⟩ := hs _ _ hx.1
    have each : ∀ i, i < len0 → ∃ p : List Int × List Int, (∃ aL cL aJ cJ, W.cell? (a.add (i * 2)) = some (.slice aL p.1.length cL) ∧ W.cell? (a.add (i * 2 + 1)) = some (.slice aJ p.2.length cJ) ∧ RdI W aL p.1 ∧ RdI W aJ p.2) ∧ p.1.length * 8 ≤ 140737488351232 ∧ p.2.length * 8 ≤ 140737488351232 := fun i hi => by
      obtain ⟨c0, c1, t0, t1⟩ := hc i (by omega)
      have hw := hb2 [D0 i, D1 i] (List.mem_map.2 ⟨i, List.mem_range.2 hi, rfl⟩)
      obtain ⟨aL, cL, L, q0, r0, l0⟩ := ints_raw (x := (D0 i, P0 i)) (fun es sp e => by have := sized_slice hw (j := 0) (t := 43) (e := 3) rfl (by rw [← e]; rfl) Tryz.underlying43; rw [bytesI] at this; exact this) t0
      obtain ⟨aJ, cJ, J, q1, r1, l1⟩ := ints_raw (x := (D1 i, P1 i)) (fun es sp e => by have := sized_slice hw (j := 1) (t := 43) (e := 3) rfl (by rw [← e]; rfl) Tryz.underlying43; rw [bytesI] at this; exact this) t1
      simp at q0 q1
      exact ⟨(L, J), ⟨aL, cL, aJ, cJ, by rw [c0, q0], by rw [c1, q1], r0, r1⟩, l0, l1⟩
    obtain ⟨q, hq⟩ := Go.Deep.choose_lt each
    refine ⟨some a, cap0, (List.range len0).map q, by simp, fun i hi => ?_, ?_, fun i hi => ?_⟩
    · have hi' : i < len0 := by simpa using hi
      obtain ⟨⟨aL, cL, aJ, cJ, c0, c1, r0, r1⟩, _⟩ := hq i hi'
      obtain ⟨⟨_, _, _, _, c00, _⟩, _⟩ := hq 0 (by omega)
      obtain ⟨b, o, sp⟩ := a
      have hsp : sp = none := by simpa [Addr.add] using World.cell?_spot c00
      subst hsp
      have e : ((List.range len0).map q).getD i ([], []) = q i := by simp [hi']
      rw [e]
      rw [Rs.add_plain] at c0 c1
      exact ⟨b, o, aL, cL, aJ, cJ, rfl, c0, c1, r0, r1⟩
    · simp only [List.length_map, List.length_range, reachBytes] at hb1 ⊢
      omega
    · have hi' : i < len0 := by simpa using hi
      have e : ((List.range len0).map q).getD i ([], []) = q i := by simp [hi']
      rw [e]
      exact (hq i hi').2
theorem celLag : Tryz.prog.cellsOf 34 = 240 := by kernel_rfl
theorem celBts : Tryz.prog.cellsOf 32 = 1 := by kernel_rfl
theorem sized_in {H : Type} {P : Program} {ts : List TypeId} {ds : List (DataW H)} (h : (DataW.weightsEach P ts ds).all (· ≤ reachBytes) = true) {j : Nat} {t e : TypeId} {es sp : List (DataW H)} (ht : ts[j]? = some t) (hd : ds[j]? = some (.slice es sp)) (hu : P.underlying t = some (.slice e)) : (es.length + sp.length) * P.bytesOf e ≤ reachBytes := sized_slice h ht hd hu
set_option maxRecDepth 100000 in
set_option maxHeartbeats 1000000 in
theorem open_lag {H : Type} {enc : TypeId × Value → H} {W : World} {base : Nat} {spare : Nat → Bool} {held : Bool} {r : Reach} {b0 : Nat} {v : Value} {d : DataW H} {ps : List MemPlace} (hs : ∀ parts, d = .agg parts → (DataW.weightsEach Tryz.prog [ 31, 32, 3, 4, 3 ] parts).all (· ≤ reachBytes) = true)
    (hv : Value.okWide Tryz.prog W r b0 34 v) (h : DataW.Trod enc Tryz.prog W base spare held 34 v d ps) :
    ∃ (t : Tr) (a : Option Addr) (c : Nat) (l : List (List Int × List Int)) (x : Int) (ba : Bool) (bh : Int), v = .agg (lca t (.slice a l.length c) x ba bh) ∧ RdB W a l ∧ l.length * 48 ≤ 140737488351232 ∧ ∀ i, i < l.length → (l.getD i ([], [])).1.length * 8 ≤ 140737488351232 ∧ (l.getD i ([], [])).2.length * 8 ≤ 140737488351232 := by
  unfold Value.okWide at hv
  rw [Tryz.underlying34 ] at hv
  obtain ⟨cs, rfl, hok⟩ := hv
  obtain ⟨fuel, hf⟩ := h
  obtain ⟨xs, m, _, hx, hlen, hl, hfs⟩ := DataW.trod_struct Tryz.underlying34 hf
  have hlen' : cs.toList.length = 240 := by rw [celLag] at hlen; simpa [Value.cells] using hlen
  match xs, hl with
  | [y0, y1, y2, y3, y4], _ =>
    have g0 : DataW.trod enc Tryz.prog W base spare held m 31 ((cs.toList.drop 0).take 236) = some y0 := by have g := hfs 0 _ rfl; simpa [Value.cells, cellsTr] using g
    have g1 : DataW.trod enc Tryz.prog W base spare held m 32 ((cs.toList.drop 236).take 1) = some y1 := by have g := hfs 1 _ rfl; simpa [Value.cells, celBts] using g
    have g2 : DataW.trod enc Tryz.prog W base spare held m 3 ((cs.toList.drop 237).take 1) = some y2 := by have g := hfs 2 _ rfl; simpa [Value.cells, cellsI] using g
    have g3 : DataW.trod enc Tryz.prog W base spare held m 4 ((cs.toList.drop 238).take 1) = some y3 := by have g := hfs 3 _ rfl; simpa [Value.cells, Mb.celB1] using g
    have g4 : DataW.trod enc Tryz.prog W base spare held m 3 ((cs.toList.drop 239).take 1) = some y4 := by have g := hfs 4 _ rfl; simpa [Value.cells, cellsI] using g
    obtain ⟨t, e0⟩ := tr_raw g0
    obtain ⟨x, e2, _⟩ := one_int g2
    obtain ⟨bh, e4, _⟩ := one_int g4
    obtain ⟨v3, e3⟩ : ∃ v, (cs.toList.drop 238).take 1 = [v] := by
      have hl : ((cs.toList.drop 238).take 1).length = 1 := by rw [List.length_take, List.length_drop]; omega
      match (cs.toList.drop 238).take 1, hl with
      | [v], _ => exact ⟨v, rfl⟩
    obtain ⟨v1, e1⟩ : ∃ v, (cs.toList.drop 236).take 1 = [v] := by
      have hl : ((cs.toList.drop 236).take 1).length = 1 := by rw [List.length_take, List.length_drop]; omega
      match (cs.toList.drop 236).take 1, hl with
      | [v], _ => exact ⟨v, rfl⟩
    rw [e3] at g3
    obtain ⟨ba, rfl⟩ := Mb.bool_raw g3
    rw [e1] at g1
    have hd : d = .agg [y0.1, y1.1, y2.1, y3.1, y4.1] := by
      have := congrArg Prod.fst hx
      simpa using this
    have hw := hs _ hd
    obtain ⟨a0, n0, c0, rfl⟩ : ∃ a len cap, v1 = .slice a len cap := by
      rcases Go.Deep.open_slice_pairs Tryz.underlying32 Tryz.underlying45 (by kernel_rfl) rfl rfl (by kernel_rfl) (by kernel_rfl) g1 with ⟨hcs, _⟩ | ⟨a, len, cap, m', n, V0, V1, D0, D1, P0, P1, hcs, _⟩
      · exact ⟨none, 0, 0, by simpa using hcs⟩
      · exact ⟨some a, len, cap, by simpa using hcs⟩
    obtain ⟨a, c, l, hsl, rd, hl, hn⟩ := bts_of1 (v := .slice a0 n0 c0) (d := y1.1) (ps := y1.2) (fun es sp e => ⟨by have h := sized_slice hw (j := 1) (t := 32) (e := 45) rfl (by rw [← e]; rfl) Tryz.underlying32; rw [bytesBt] at h; exact h, fun parts hm => sized_elems hw (j := 1) (t := 32) (e := 45) rfl (by rw [← e]; rfl) Tryz.underlying32 Tryz.underlying45 hm⟩) ⟨a0, n0, c0, rfl⟩ ⟨m, g1⟩
    refine ⟨t, a, c, l, x, ba, bh, congrArg Value.agg ?_, rd, hl, hn⟩
    apply Array.ext'
    have s1 : cs.toList = (cs.toList.drop 0).take 236 ++ ((cs.toList.drop 236).take 1 ++ ((cs.toList.drop 237).take 1 ++ ((cs.toList.drop 238).take 1 ++ (cs.toList.drop 239).take 1))) := by
      have t1 : cs.toList = (cs.toList.drop 0).take 236 ++ cs.toList.drop 236 := by
        have := (List.take_append_drop 236 cs.toList).symm
        rwa [show (cs.toList.drop 0).take 236 = cs.toList.take 236 by rw [List.drop_zero]]
      have t2 : cs.toList.drop 236 = (cs.toList.drop 236).take 1 ++ cs.toList.drop 237 := by
        have := (List.take_append_drop 1 (cs.toList.drop 236)).symm
        rwa [List.drop_drop] at this
      have t3 : cs.toList.drop 237 = (cs.toList.drop 237).take 1 ++ cs.toList.drop 238 := by
        have := (List.take_append_drop 1 (cs.toList.drop 237)).symm
        rwa [List.drop_drop] at this
      have t4 : cs.toList.drop 238 = (cs.toList.drop 238).take 1 ++ cs.toList.drop 239 := by
        have := (List.take_append_drop 1 (cs.toList.drop 238)).symm
        rwa [List.drop_drop] at this
      have t5 : cs.toList.drop 239 = (cs.toList.drop 239).take 1 := by
        rw [List.take_of_length_le]
        rw [List.length_drop]
        omega
      rw [← t5, ← t4, ← t3, ← t2, ← t1]
    refine s1.trans ?_
    rw [e0, e1, e2, e3, e4, hsl]
    rfl
end Go.Proofs.YtpimbpfefhkojaaGreat.Rv
