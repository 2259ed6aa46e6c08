/- MbRa, RvT, joined. -/
import Derived.Test.YtpimbpfefhkojaaGreatMbMath3
import Derived.Test.YtpimbpfefhkojaaGreatPlJ8
/- A row of steps from any tree, on plain data and in memory (made by wip/mk_mbra.py; its parts in memory out of PwB). -/
namespace Go.Proofs.YtpimbpfefhkojaaGreat.Mb
open Go.RowKit Go.Maps
open Rt (Ky zK KyAt)
open Rs (En zE rcs tkn fnd RdS RdI ps own_other own_ge owns_later owns_slice below_grown evl)
open Wi (gR)
set_option linter.unusedVariables false
set_option linter.unusedSimpArgs false

/- The row on plain data. -/
def lastT (ts : List Tr) : Tr := ts.getD (ts.length - 1) (tz 0)
def run1 (s : List Tr × List (List Int × List Int)) (b : List Int × List Int) : List Tr × List (List Int × List Int) := if plE (lastT s.1) b.1 b.2 = 0 then (s.1 ++ [nx (lastT s.1) b.1 b.2], s.2 ++ [b]) else s
def runM (t : Tr) (l : List (List Int × List Int)) : List Tr × List (List Int × List Int) := l.foldl run1 ([t], [])
theorem runM_snoc (t : Tr) (l : List (List Int × List Int)) (b : List Int × List Int) : runM t (l ++ [b]) = run1 (runM t l) b := by simp [runM]
structure RowM (t : Tr) (ts : List Tr) (bs : List (List Int × List Int)) : Prop where
  len : ts.length = bs.length + 1
  st : ts.getD 0 (tz 0) = t
  stp : ∀ i, i < bs.length → Stp (ts.getD i (tz 0)) (bs.getD i ([], [])).1 (bs.getD i ([], [])).2 ∧ ts.getD (i + 1) (tz 0) = nx (ts.getD i (tz 0)) (bs.getD i ([], [])).1 (bs.getD i ([], [])).2
theorem getD_app {α : Type} {l : List α} {x d : α} {i : Nat} (h : i < l.length) : (l ++ [x]).getD i d = l.getD i d := by
  rw [List.getD_eq_getElem?_getD, List.getElem?_append_left h, ← List.getD_eq_getElem?_getD]
theorem getD_end {α : Type} {l : List α} {x d : α} : (l ++ [x]).getD l.length d = x := by
  rw [List.getD_eq_getElem?_getD, List.getElem?_append_right (Nat.le_refl _)]
  simp
theorem RowM.zero (t : Tr) : RowM t [t] [] := ⟨rfl, rfl, fun i hi => (by cases hi)⟩
theorem RowM.snoc {t : Tr} {ts : List Tr} {bs : List (List Int × List Int)} (h : RowM t ts bs) {b : List Int × List Int} (hs : plE (lastT ts) b.1 b.2 = 0) : RowM t (ts ++ [nx (lastT ts) b.1 b.2]) (bs ++ [b]) := by
  have hl := h.len
  refine ⟨by simp; omega, by rw [getD_app (by omega)]; exact h.st, fun i hi => ?_⟩
  rw [List.length_append, List.length_singleton] at hi
  rcases Nat.lt_or_ge i bs.length with c | c
  · rw [getD_app (show i < ts.length by omega), getD_app (show i < bs.length from c), getD_app (show i + 1 < ts.length by omega)]
    exact h.stp i c
  · obtain rfl : i = bs.length := by omega
    have e1 : lastT ts = ts.getD bs.length (tz 0) := by unfold lastT; rw [hl]; rfl
    rw [getD_app (by omega), getD_end, ← e1]
    refine ⟨plE_stp hs, ?_⟩
    rw [show bs.length + 1 = ts.length by omega, getD_end]
theorem runM_row (t : Tr) (l : List (List Int × List Int)) : RowM t (runM t l).1 (runM t l).2 := by
  have : ∀ (l : List (List Int × List Int)) (s : List Tr × List (List Int × List Int)), RowM t s.1 s.2 → RowM t (l.foldl run1 s).1 (l.foldl run1 s).2 := by
    intro l
    induction l with
    | nil => exact fun s h => h
    | cons b l ih =>
      intro s h
      rw [List.foldl_cons]
      refine ih _ ?_
      unfold run1
      split
      · rename_i hE
        exact h.snoc hE
      · exact h
  exact this l _ (RowM.zero t)
section
variable {t : Tr} {ts : List Tr} {bs : List (List Int × List Int)}
theorem RowM.ep (h : RowM t ts bs) : ∀ i, i ≤ bs.length → (ts.getD i (tz 0)).ep = t.ep + (i : Int)
  | 0, _ => by rw [h.st]; simp
  | i + 1, hi => by
    rw [(h.stp i (by omega)).2]
    show (ts.getD i (tz 0)).ep + 1 = _
    rw [h.ep i (by omega)]
    push_cast
    omega
theorem RowM.le (h : RowM t ts bs) : ts.length ≤ 201 := by
  have hl := h.len
  by_cases h0 : bs.length = 0
  · omega
  · have h1 := (h.stp 0 (by omega)).1.rt.e0
    have h2 := (h.stp (bs.length - 1) (by omega)).1.ep
    rw [h.st] at h1
    rw [h.ep (bs.length - 1) (by omega)] at h2
    omega
theorem RowM.ck (h : RowM t ts bs) (h0 : 0 < bs.length) : ∀ i, i ≤ bs.length → tck (ts.getD i (tz 0)) = true
  | 0, _ => (h.stp 0 h0).1.ok
  | i + 1, hi => by rw [(h.stp i (by omega)).2]; exact (h.stp i (by omega)).1.tckn
end
/- Messages in memory. -/
theorem grown_type {W W' : World} {e : TypeId} {b sz n : Nat} {v : Value} {xs : List Value} (row : W.ownsRow b e sz v n xs) (hg : W.grownBy W' v.ownBlock) {k : Nat} {cs : Array Value} {T : TypeId} (hk : W.heap[k]? = some (.cells cs T (0, 0))) (hT : T ≠ e) : W'.heap[k]? = some (.cells cs T (0, 0)) := by
  rw [hg.block k (Array.getElem?_eq_some_iff.1 hk).1 (own_type row hk hT)]
  exact hk
def mB (ts : List Tr) (bs : List (List Int × List Int)) (i : Nat) : Int × (List (Int × Int) × (List (Int × Int) × List It)) := mS (ts.getD i (tz 0)) (bs.getD i ([], []))
def rkl (ms : List (Array Value)) : List Value := ms.flatMap fun m => m.toList
def R3 (B : Nat) (W : World) (a1 : Option Addr) (k1 : Nat) (a2 : Option Addr) (k2 : Nat) (a3 : Option Addr) (k3 : Nat) (lv jn : List (Int × Int)) (li : List It) : Prop := W.ownsRow B 93 2 (.slice a1 lv.length k1) lv.length (ps lv) ∧ W.ownsRow B 93 2 (.slice a2 jn.length k2) jn.length (ps jn) ∧ W.ownsRow B 104 6 (.slice a3 li.length k3) li.length (isl li)
section
variable {B : Nat} {W W' : World} {a1 a2 a3 : Option Addr} {k1 k2 k3 : Nat} {lv jn : List (Int × Int)} {li : List It}
theorem R3.later (h : R3 B W a1 k1 a2 k2 a3 k3 lv jn li) (hb : Below W.heap.size W W') : R3 B W' a1 k1 a2 k2 a3 k3 lv jn li := ⟨owns_later h.1 hb, owns_later h.2.1 hb, owns_later h.2.2 hb⟩
theorem R3.type (h : R3 B W a1 k1 a2 k2 a3 k3 lv jn li) {C : Nat} {cs : Array Value} {t : TypeId} (hC : W.heap[C]? = some (.cells cs t (0, 0))) (n1 : 93 ≠ t) (n2 : 104 ≠ t) (cs' : Array Value) : R3 B (W.setRow C cs') a1 k1 a2 k2 a3 k3 lv jn li := ⟨Rs.owns_type h.1 hC n1 cs', Rs.owns_type h.2.1 hC n1 cs', Rs.owns_type h.2.2 hC n2 cs'⟩
theorem R3.grown (h : R3 B W a1 k1 a2 k2 a3 k3 lv jn li) {e : TypeId} {b sz n : Nat} {v : Value} {xs : List Value} (row : W.ownsRow b e sz v n xs) (hg : W.grownBy W' v.ownBlock) (n1 : e ≠ 93) (n2 : e ≠ 104) : R3 B W' a1 k1 a2 k2 a3 k3 lv jn li :=
  ⟨own_other h.1 fun g hgj => hg.block g (own_ge h.1 hgj).2 (fun e => own_ne2 row h.1 n1 hgj e.symm), own_other h.2.1 fun g hgj => hg.block g (own_ge h.2.1 hgj).2 (fun e => own_ne2 row h.2.1 n1 hgj e.symm), own_other h.2.2 fun g hgj => hg.block g (own_ge h.2.2 hgj).2 (fun e => own_ne2 row h.2.2 n2 hgj e.symm)⟩
end
def MsgAt (w W : World) (cs : Array Value) (M : Int × (List (Int × Int) × (List (Int × Int) × List It))) : Prop := ∃ (a1 a2 a3 : Option Addr) (k1 k2 k3 : Nat), cs = #[.int .i64 M.1, .slice a1 M.2.1.length k1, .slice a2 M.2.2.1.length k2, .slice a3 M.2.2.2.length k3] ∧ R3 w.heap.size W a1 k1 a2 k2 a3 k3 M.2.1 M.2.2.1 M.2.2.2
theorem MsgAt.later {w W W' : World} {cs : Array Value} {M : Int × (List (Int × Int) × (List (Int × Int) × List It))} (h : MsgAt w W cs M) (hb : Below W.heap.size W W') : MsgAt w W' cs M := by
  obtain ⟨a1, a2, a3, k1, k2, k3, e, hr⟩ := h
  exact ⟨a1, a2, a3, k1, k2, k3, e, hr.later hb⟩
theorem MsgAt.grown {w W W' : World} {cs : Array Value} {M : Int × (List (Int × Int) × (List (Int × Int) × List It))} (h : MsgAt w W cs M) {e : TypeId} {b sz n : Nat} {v : Value} {xs : List Value} (row : W.ownsRow b e sz v n xs) (hg : W.grownBy W' v.ownBlock) (n1 : e ≠ 93) (n2 : e ≠ 104) : MsgAt w W' cs M := by
  obtain ⟨a1, a2, a3, k1, k2, k3, e', hr⟩ := h
  exact ⟨a1, a2, a3, k1, k2, k3, e', hr.grown row hg n1 n2⟩
structure SS (w W : World) (vr vs : Value) (ts : List Tr) (bs : List (List Int × List Int)) (ms : List (Array Value)) : Prop where
  bel : Below w.heap.size w W
  rr : W.ownsRow w.heap.size 31 236 vr ts.length (trl ts)
  rs : W.ownsRow w.heap.size 49 4 vs ms.length (rkl ms)
  it : ∀ i, i < ms.length → MsgAt w W (ms.getD i #[]) (mB ts bs i)
  ml : ms.length = bs.length
section
variable {w W W' : World} {vr vs v' : Value} {ts : List Tr} {bs : List (List Int × List Int)} {ms : List (Array Value)}
theorem SS.later (h : SS w W vr vs ts bs ms) (hb : Below W.heap.size W W') : SS w W' vr vs ts bs ms := ⟨h.bel.trans (hb.mono h.bel.size), owns_later h.rr hb, owns_later h.rs hb, fun i hi => (h.it i hi).later hb, h.ml⟩
theorem mB_app {ts : List Tr} {bs : List (List Int × List Int)} {t : Tr} {b : List Int × List Int} {i : Nat} (h1 : i < ts.length) (h2 : i < bs.length) : mB (ts ++ [t]) (bs ++ [b]) i = mB ts bs i := by
  unfold mB
  rw [getD_app h1, getD_app h2]
/- The row grows by a tree, then the messages by one. -/
theorem SS.app (h : SS w W vr vs ts bs ms) (hrow : ts.length = bs.length + 1) {n : Tr} {b : List Int × List Int} {cs : Array Value} {W1 W2 : World} {o : Obj} {v1 v2 : Value}
    (hown1 : W1.ownsRow w.heap.size 31 236 v1 (ts.length + 1) (trl ts ++ (tcs n).toList)) (hg1 : W.grownBy W1 vr.ownBlock)
    (hown2 : W2.ownsRow w.heap.size 49 4 v2 (ms.length + 1) (rkl ms ++ cs.toList)) (hg2 : (W1.alloc o).grownBy W2 vs.ownBlock)
    (hm : MsgAt w W cs (mS (lastT ts) b)) (hn : n = nx (lastT ts) b.1 b.2) :
    SS w W2 v1 v2 (ts ++ [n]) (bs ++ [b]) (ms ++ [cs]) := by
  have hl := hrow
  have hml := h.ml
  have rs1 : W1.ownsRow w.heap.size 49 4 vs ms.length (rkl ms) := own_other h.rs fun g hgj => hg1.block g (own_ge h.rs hgj).2 (fun e => own_ne2 h.rr h.rs (by decide) hgj e.symm)
  have rs2 := owns_later rs1 (below_alloc W1 o)
  have b1 : Below w.heap.size w W1 := below_grown h.bel hg1 h.bel.size (fun j hj => (own_ge h.rr hj).1)
  have b1a := b1.trans ((below_alloc W1 o).mono b1.size)
  have step : ∀ {cs : Array Value} {M : Int × (List (Int × Int) × (List (Int × Int) × List It))}, MsgAt w W cs M → MsgAt w W2 cs M := fun hm => ((hm.grown h.rr hg1 (by decide) (by decide)).later (below_alloc W1 o)).grown rs2 hg2 (by decide) (by decide)
  have hown1a := owns_later hown1 (below_alloc W1 o)
  refine ⟨below_grown b1a hg2 b1a.size (fun j hj => (own_ge rs2 hj).1), ?_, ?_, fun i hi => ?_, by simp; omega⟩
  · rw [trl_snoc, List.length_append]
    exact own_other hown1a fun g hgj => hg2.block g (own_ge hown1a hgj).2 (fun e => own_ne2 rs2 hown1a (by decide) hgj e.symm)
  · have e : rkl (ms ++ [cs]) = rkl ms ++ cs.toList := by simp [rkl]
    rw [e, List.length_append]
    exact hown2
  · rw [List.length_append, List.length_singleton] at hi
    rcases Nat.lt_or_ge i ms.length with c | c
    · rw [getD_app c, mB_app (by omega) (by omega)]
      exact step (h.it i c)
    · obtain rfl : i = ms.length := by omega
      rw [getD_end]
      have e1 : mB (ts ++ [n]) (bs ++ [b]) ms.length = mS (lastT ts) b := by
        unfold mB
        have e2 : lastT ts = ts.getD ms.length (tz 0) := by unfold lastT; rw [hl, hml]; rfl
        rw [getD_app (by omega), show (bs ++ [b]).getD ms.length ([], []) = b by rw [hml, getD_end], ← e2]
      rw [e1]
      exact step hm
end
/- Batches that came in. -/
def RdB (w : World) (a : Option Addr) (l : List (List Int × List Int)) : Prop := ∀ i, i < l.length → ∃ b o aL cL aJ cJ, a = some ⟨b, o, none⟩ ∧ w.cell? ⟨b, o + i * 2, none⟩ = some (.slice aL (l.getD i ([], [])).1.length cL) ∧ w.cell? ⟨b, o + i * 2 + 1, none⟩ = some (.slice aJ (l.getD i ([], [])).2.length cJ) ∧ RdI w aL (l.getD i ([], [])).1 ∧ RdI w aJ (l.getD i ([], [])).2
theorem RdB.later {w w' : World} {a : Option Addr} {l : List (List Int × List Int)} (h : RdB w a l) (hb : Below w.heap.size w w') : RdB w' a l := fun i hi => by
  obtain ⟨b, o, aL, cL, aJ, cJ, e, h1, h2, h3, h4⟩ := h i hi
  exact ⟨b, o, aL, cL, aJ, cJ, e, Rs.cell_later hb h1, Rs.cell_later hb h2, h3.later hb, h4.later hb⟩
theorem rkAt_cells {w : World} {B : Nat} {p : Int} {v1 v2 v3 : Value} (h : w.heap[B]? = some (.cells #[.int .i64 p, v1, v2, v3] 49 (0, 0))) : w.cell? ⟨B, 0, none⟩ = some (.int .i64 p) ∧ w.cell? ⟨B, 1, none⟩ = some v1 ∧ w.cell? ⟨B, 2, none⟩ = some v2 ∧ w.cell? ⟨B, 3, none⟩ = some v3 :=
  ⟨cell_of_row w B 0 _ _ _ h, cell_of_row w B 1 _ _ _ h, cell_of_row w B 2 _ _ _ h, cell_of_row w B 3 _ _ _ h⟩
theorem rkAt_later {w w' : World} {B : Nat} {cs : Array Value} (h : RkAt w B cs) (hb : Below w.heap.size w w') : RkAt w' B cs := row_later h hb
theorem zero_of {n : Nat} {w X : World} (h : Below n w (X.alloc (.cells Tryz.zeroCells31 31))) : TrAt (X.alloc (.cells Tryz.zeroCells31 31)) X.heap.size (tz 0) := TrAt.zero X
theorem rkz_of {n : Nat} {w X : World} (h : Below n w (X.alloc (.cells #[.int .i64 0, .slice none 0 0, .slice none 0 0, .slice none 0 0] 49))) : RkAt (X.alloc (.cells #[.int .i64 0, .slice none 0 0, .slice none 0 0, .slice none 0 0] 49)) X.heap.size #[.int .i64 0, .slice none 0 0, .slice none 0 0, .slice none 0 0] := heap_alloc_last X _
theorem zero_of' {n : Nat} {w X : World} (h : Below n w (X.alloc (.cells Tryz.zeroCells31 31)).drew) : TrAt (X.alloc (.cells Tryz.zeroCells31 31)).drew X.heap.size (tz 0) := (TrAt.zero X).later (drew_below _)
theorem rkz_of' {n : Nat} {w X : World} (h : Below n w (X.alloc (.cells #[.int .i64 0, .slice none 0 0, .slice none 0 0, .slice none 0 0] 49)).drew) : RkAt (X.alloc (.cells #[.int .i64 0, .slice none 0 0, .slice none 0 0, .slice none 0 0] 49)).drew X.heap.size #[.int .i64 0, .slice none 0 0, .slice none 0 0, .slice none 0 0] := rkAt_later (heap_alloc_last X _) (drew_below _)
theorem info_tree : ∃ i, Tryz.prog.info? 31 = some i ∧ i.zero = some (.agg (tcs (tz 0))) ∧ i.size = 236 ∧ i.bytes = 1888 := by
  have hz : (Tryz.prog.info? 31).bind (·.zero) = some (.agg (tcs (tz 0))) := by rw [← zero236]; kernel_rfl
  have hs : (Tryz.prog.info? 31).map (fun i => (i.size, i.bytes)) = some (236, 1888) := by kernel_rfl
  cases hq : Tryz.prog.info? 31 with
  | none => rw [hq] at hs; cases hs
  | some i =>
    rw [hq] at hs hz
    simp at hs hz
    exact ⟨i, rfl, hz, hs.1, hs.2⟩
theorem info_rk : ∃ i, Tryz.prog.info? 49 = some i ∧ i.zero = some (.agg #[.int .i64 0, .slice none 0 0, .slice none 0 0, .slice none 0 0]) ∧ i.size = 4 ∧ i.bytes = 80 := by
  have h : (Tryz.prog.info? 49).map (fun i => (i.zero, i.size, i.bytes)) = some (some (.agg #[.int .i64 0, .slice none 0 0, .slice none 0 0, .slice none 0 0]), 4, 80) := by kernel_rfl
  cases hq : Tryz.prog.info? 49 with
  | none => rw [hq] at h; cases h
  | some i =>
    rw [hq] at h
    simp at h
    exact ⟨i, rfl, h.1, h.2.1, h.2.2⟩
theorem rkl_get : ∀ (ms : List (Array Value)) (i k : Nat), (∀ j, j < ms.length → (ms.getD j #[]).size = 4) → i < ms.length → k < 4 → (rkl ms)[i * 4 + k]? = (ms.getD i #[])[k]?
  | [], i, k, _, hi, _ => by cases hi
  | x :: l, 0, k, hs, _, hk => by
    have h0 := hs 0 (by simp)
    have e : rkl (x :: l) = x.toList ++ rkl l := rfl
    have hx : x.size = 4 := h0
    rw [e, Nat.zero_mul, Nat.zero_add, List.getElem?_append_left (by rw [Array.length_toList, hx]; exact hk)]
    simp
  | x :: l, i + 1, k, hs, hi, hk => by
    have h0 := hs 0 (by simp)
    have hx : x.size = 4 := h0
    have e : rkl (x :: l) = x.toList ++ rkl l := rfl
    rw [e, List.getElem?_append_right (by rw [Array.length_toList, hx]; omega), Array.length_toList, hx, show (i + 1) * 4 + k - 4 = i * 4 + k by omega, rkl_get l i k (fun j hj => hs (j + 1) (by simpa using hj)) (by simpa using hi) hk]
    rfl
section
variable {w W W' : World} {vr vs v' : Value} {ts : List Tr} {bs : List (List Int × List Int)} {ms : List (Array Value)}
theorem SS.msg {ax : Option Addr} {cs : Nat} (h : SS w W vr (.slice ax ms.length cs) ts bs ms) {i : Nat} (hi : i < ms.length) : ∃ g a1 a2 a3 k1 k2 k3, ax = some ⟨g, 0, none⟩ ∧ W.cell? ⟨g, i * 4, none⟩ = some (.int .i64 (mB ts bs i).1) ∧ W.cell? ⟨g, i * 4 + 1, none⟩ = some (.slice a1 (mB ts bs i).2.1.length k1) ∧ W.cell? ⟨g, i * 4 + 2, none⟩ = some (.slice a2 (mB ts bs i).2.2.1.length k2) ∧ W.cell? ⟨g, i * 4 + 3, none⟩ = some (.slice a3 (mB ts bs i).2.2.2.length k3) ∧ R3 w.heap.size W a1 k1 a2 k2 a3 k3 (mB ts bs i).2.1 (mB ts bs i).2.2.1 (mB ts bs i).2.2.2 := by
  obtain ⟨a1, a2, a3, k1, k2, k3, e, hr⟩ := h.it i hi
  have hsz : ∀ j, j < ms.length → (ms.getD j #[]).size = 4 := fun j hj => by
    obtain ⟨a1, a2, a3, k1, k2, k3, e, _⟩ := h.it j hj
    rw [e]
    rfl
  rcases h.rs.2 with ⟨_, h0⟩ | ⟨g, cap', cur, e2, h3, h4, h5, h6, h7, h8⟩
  · omega
  · simp at e2
    obtain ⟨rfl, rfl⟩ := e2
    have cell : ∀ k v, k < 4 → (ms.getD i #[])[k]? = some v → W.cell? ⟨g, i * 4 + k, none⟩ = some v := fun k v hk hv => by
      rw [cell_of_row W g _ _ _ _ h4, ← hv, ← rkl_get ms i k hsz hi hk, ← h8, List.getElem?_take_of_lt (by omega)]
      simp
    refine ⟨g, a1, a2, a3, k1, k2, k3, rfl, cell 0 _ (by omega) ?_, cell 1 _ (by omega) ?_, cell 2 _ (by omega) ?_, cell 3 _ (by omega) ?_, hr⟩
    all_goals rw [e]; rfl
end
/- The messages as the member's. -/
def rM (ts : List Tr) (bs : List (List Int × List Int)) (i : Nat) : Rk := rW (mB ts bs i)
theorem rM_pR {t : Tr} {ts : List Tr} {bs : List (List Int × List Int)} (h : RowM t ts bs) {i : Nat} (hi : i < bs.length) : rM ts bs i = pR (ts.getD i (tz 0)) (bs.getD i ([], [])).1 (bs.getD i ([], [])).2 := (pR_stp (h.stp i hi).1).symm
theorem rM_ep {t : Tr} {ts : List Tr} {bs : List (List Int × List Int)} (h : RowM t ts bs) {i : Nat} (hi : i < bs.length) : (rM ts bs i).1 = t.ep + (i : Int) + 1 := by
  show (ts.getD i (tz 0)).ep + 1 = _
  rw [h.ep i (by omega)]
theorem rM_good {t : Tr} {ts : List Tr} {bs : List (List Int × List Int)} (h : RowM t ts bs) {i : Nat} (hi : i < bs.length) : gR (rM ts bs i) = true := by rw [rM_pR h hi]; exact pR_good (h.stp i hi).1
theorem R3.rl {B : Nat} {W : World} {a1 a2 a3 : Option Addr} {k1 k2 k3 : Nat} {M : Int × (List (Int × Int) × (List (Int × Int) × List It))} (h : R3 B W a1 k1 a2 k2 a3 k3 M.2.1 M.2.2.1 M.2.2.2) : RL W (rW M) a1 a2 a3 := by
  have e3 : (rW M).2.2.2.length = M.2.2.2.length := List.length_map ..
  refine ⟨Wi.rd_owns (f := Wi.stl) (fun _ => rfl) h.1, Wi.rd_owns (f := Wi.stl) (fun _ => rfl) h.2.1, ?_⟩
  refine Wi.rd_owns (f := Wi.itl) (l := (rW M).2.2.2) (b := B) (T := 104) (cap := k3) (fun _ => rfl) ?_
  rw [e3]
  show W.ownsRow B 104 6 (.slice a3 M.2.2.2.length k3) M.2.2.2.length ((M.2.2.2.map itP).flatMap Wi.itl)
  rw [← isl_map]
  exact h.2.2
theorem SS.rk {w W : World} {vr : Value} {ts : List Tr} {bs : List (List Int × List Int)} {ms : List (Array Value)} {ax : Option Addr} {cs : Nat} (h : SS w W vr (.slice ax ms.length cs) ts bs ms) {i : Nat} (hi : i < ms.length) :
    ∃ g a1 a2 a3 k1 k2 k3, ax = some ⟨g, 0, none⟩ ∧ W.rangeAt g (i * 4) (rka (rM ts bs i) a1 a2 a3 k1 k2 k3).toList ∧ RL W (rM ts bs i) a1 a2 a3 := by
  obtain ⟨g, a1, a2, a3, k1, k2, k3, e, c0, c1, c2, c3, hr⟩ := h.msg hi
  have e3 : (rM ts bs i).2.2.2.length = (mB ts bs i).2.2.2.length := List.length_map ..
  refine ⟨g, a1, a2, a3, k1, k2, k3, e, ?_, hr.rl⟩
  intro j v hv
  unfold rka at hv
  rw [e3] at hv
  match j, hv with
  | 0, hv => simp at hv; subst hv; exact c0
  | 1, hv => simp at hv; subst hv; exact c1
  | 2, hv => simp at hv; subst hv; exact c2
  | 3, hv => simp at hv; subst hv; exact c3
  | n + 4, hv => simp at hv
/- Who sits at a slot of the row's beginning, at a tree of the row. -/
structure Sits (t : Tr) (ts : List Tr) (s a : Nat) (b : Int) : Prop where
  tk : tkn ((ts.getD a (tz 0)).ro s) = true
  ro : (ts.getD a (tz 0)).ro s = t.ro s
  bh : b = 0 ∨ ((ts.getD a (tz 0)).ep < b ∧ b ≤ 200)
inductive RunW (t : Tr) (ts : List Tr) (bs : List (List Int × List Int)) (s a i : Nat) (b : Int) : Prop where
  | old (h : i < a) (e : apl (atS (ts.getD a (tz 0)) s b) (rM ts bs i) = (21, atS (ts.getD a (tz 0)) s b))
  | gap (h : a < i) (b' : Int) (e : apl (atS (ts.getD a (tz 0)) s b) (rM ts bs i) = (22, atS (ts.getD a (tz 0)) s b')) (hs : Sits t ts s a b') (hb : (rM ts bs i).1 ≤ b')
  | out (h : i = a) (e : apl (atS (ts.getD a (tz 0)) s b) (rM ts bs i) = (0, outM (t.ro s).who ((ts.getD a (tz 0)).ep + 1))) (hf : fnd (ts.getD (a + 1) (tz 0)).ro (t.ro s).who = -1)
  | stay (h : i = a) (b' : Int) (e : apl (atS (ts.getD a (tz 0)) s b) (rM ts bs i) = (0, atS (ts.getD (a + 1) (tz 0)) s b')) (hs : Sits t ts s (a + 1) b')
theorem run_way {t : Tr} {ts : List Tr} {bs : List (List Int × List Int)} (h : RowM t ts bs) {s a i : Nat} {b : Int} (hs : s < 64) (ha : a ≤ bs.length) (hi : i < bs.length) (hS : Sits t ts s a b) : RunW t ts bs s a i b := by
  have hck := h.ck (by omega) a ha
  have hk := atS_kind hck hs hS.tk hS.bh
  have hep : (atS (ts.getD a (tz 0)) s b).ep = t.ep + (a : Int) := h.ep a ha
  have hre := rM_ep h hi
  have hg := rM_good h hi
  rcases Nat.lt_trichotomy i a with c | c | c
  · exact .old c (apl_old hk rfl hg (by rw [hre, hep]; omega))
  · subst c
    obtain ⟨hst, hnx⟩ := h.stp i hi
    have e1 := rM_pR h hi
    by_cases hL : ((ts.getD i (tz 0)).ro s).who ∈ (bs.getD i ([], [])).1
    · refine .out rfl ?_ ?_
      · rw [e1, ap_left hst hs hS.tk hL hS.bh, hS.ro]
      · rw [hnx, ← hS.ro]
        have h5 := Rs.mv_leaves hst.m3 hL
        rw [hst.r3] at h5
        exact h5
    · have hn := hst.stays hS.tk hL
      have e2 := ap_stay hst hs hS.tk hL hS.bh
      have hep2 := h.ep (i + 1) (by omega)
      refine .stay rfl (if b ≤ (ts.getD i (tz 0)).ep + 1 then 0 else b) ?_ ⟨?_, ?_, ?_⟩
      · rw [e1, e2, hnx]
      · rw [hnx, hn]; exact hS.tk
      · rw [hnx, hn]; exact hS.ro
      · rw [hnx]
        show _ ∨ ((ts.getD i (tz 0)).ep + 1 < _ ∧ _)
        have := hS.bh
        split
        · exact .inl rfl
        · right; have := hst.rt.e0; omega
  · have hrg := Wi.gE_iff.1 (gR_ep hg)
    refine .gap c (if b < (rM ts bs i).1 then (rM ts bs i).1 else b) ?_ ⟨hS.tk, hS.ro, ?_⟩ (by split <;> omega)
    · rw [apl_gap hk hg (by rw [hre, hep]; push_cast; omega)]
      rfl
    · right
      have hep' : (ts.getD a (tz 0)).ep = t.ep + (a : Int) := h.ep a ha
      have hb := hS.bh
      rw [hep'] at hb ⊢
      split <;> omega
theorem Sits.first {t : Tr} {ts : List Tr} {bs : List (List Int × List Int)} (h : RowM t ts bs) {s : Nat} (ht : tkn (t.ro s) = true) : Sits t ts s 0 0 := by
  refine ⟨by rw [h.st]; exact ht, by rw [h.st], .inl rfl⟩
/- Stand of who sits there. -/
theorem Sits.stand {t : Tr} {ts : List Tr} {bs : List (List Int × List Int)} (h : RowM t ts bs) (h0 : 0 < bs.length) {s a : Nat} {b : Int} (hs : s < 64) (ha : a ≤ bs.length) (hS : Sits t ts s a b) : caE (ts.getD a (tz 0)) (t.ro s).who = 0 ∧ stM (ts.getD a (tz 0)) (t.ro s).who = atS (ts.getD a (tz 0)) s 0 := by
  have := stM_at (h.ck h0 a ha) hs hS.tk
  rw [hS.ro] at this
  exact this
end Go.Proofs.YtpimbpfefhkojaaGreat.Mb
/- Rows of trees alone, in memory. -/
namespace Go.Proofs.YtpimbpfefhkojaaGreat.Rv
open Go.RowKit Go.Maps Mb
open Rs (own_other own_ge owns_later owns_slice below_grown)
set_option linter.unusedVariables false
set_option linter.unusedSimpArgs false

structure SX (w W : World) (vr : Value) (ts : List Tr) : Prop where
  bel : Below w.heap.size w W
  rr : W.ownsRow w.heap.size 31 236 vr ts.length (trl ts)
section
variable {w W W' : World} {vr v' : Value} {ts : List Tr}
theorem SX.later (h : SX w W vr ts) (hb : Below W.heap.size W W') : SX w W' vr ts := ⟨h.bel.trans (hb.mono h.bel.size), owns_later h.rr hb⟩
theorem SX.one (w : World) {t : Tr} {c : Array Value} (hc : tcs t = c) : SX w (w.alloc (.cells c 31)) (.slice (some ⟨w.heap.size, 0, none⟩) 1 1) [t] := by
  subst hc
  refine ⟨below_alloc _ _, ⟨by show (trl [t]).length = 1 * 236; rw [trl_len]; rfl, .inr ⟨w.heap.size, 1, tcs t, rfl, Nat.le_refl _, heap_alloc_last _ _, Nat.le_refl _, by unfold maxLen; omega, by rw [tcs_size], ?_⟩⟩⟩
  show List.take (1 * 236) (tcs t).toList = trl [t]
  rw [List.take_of_length_le (by rw [Array.length_toList, tcs_size]; decide)]
  simp [trl]
theorem SX.app (h : SX w W vr ts) {n : Tr} {v1 : Value} (hown : W'.ownsRow w.heap.size 31 236 v1 (ts.length + 1) (trl ts ++ (tcs n).toList)) (hg : W.grownBy W' vr.ownBlock) : SX w W' v1 (ts ++ [n]) :=
  ⟨below_grown h.bel hg h.bel.size (fun j hj => (own_ge h.rr hj).1), by rw [trl_snoc, List.length_append]; exact hown⟩
end
theorem run1_eq {ts : List Tr} {bs : List (List Int × List Int)} {t : Tr} (h : lastT ts = t) (L J : List Int) : run1 (ts, bs) (L, J) = if plE t L J = 0 then (ts ++ [nx t L J], bs ++ [(L, J)]) else (ts, bs) := by
  unfold run1
  dsimp only
  rw [h]
theorem runM_take (t : Tr) {l : List (List Int × List Int)} {k : Nat} (h : k < l.length) : runM t (l.take (k + 1)) = run1 (runM t (l.take k)) (l.getD k ([], [])) := by
  rw [← runM_snoc, List.take_add_one, List.getD_eq_getElem?_getD, List.getElem?_eq_getElem h]
  rfl
theorem getD_last {ts : List Tr} {m : Nat} (h : m + 1 = ts.length) : ts.getD m (tz 0) = lastT ts := by unfold lastT; rw [← h]; rfl
structure TX (t : Tr) (c : Array Value) : Prop where
  out : tcs t = c
end Go.Proofs.YtpimbpfefhkojaaGreat.Rv
