/- Contract: the row that plan.Next leads to, and the messages, whole (the top's steps). MADE by wip/mk_pwb.py out of PmB. -/
import Derived.Test.YtdkfifnhmfbagaaGreatDoorPmA
import Derived.Test.YtdkfifnhmfbagaaGreatDoorPlJ7
import Derived.Test.YtdkfifnhmfbagaaGreatDoorPlJ1
import Derived.Test.YtdkfifnhmfbagaaGreatDoorPlJ5
namespace Go.Proofs.YtdkfifnhmfbagaaGreatDoor
open Go.RowKit Go.Maps
open Rt (Ky zK KyAt)
open Rs (En zE rcs tkn fnd RdS RdI ps Tb own_other own_ge owns_later owns_slice below_grown evl)
set_option linter.unusedVariables false
set_option linter.unusedSimpArgs false
/- The row on plain data. -/
def lastT (ts : List Tr) : Tr := ts.getD (ts.length - 1) (tz 0)
def run1 (s : List Tr × List (List Int × List Int)) (b : List Int × List Int) : List Tr × List (List Int × List Int) := if plE (lastT s.1) b.1 b.2 = 0 then (s.1 ++ [nx (lastT s.1) b.1 b.2], s.2 ++ [b]) else s
def runS (l : List (List Int × List Int)) : List Tr × List (List Int × List Int) := l.foldl run1 ([stT], [])
theorem runS_snoc (l : List (List Int × List Int)) (b : List Int × List Int) : runS (l ++ [b]) = run1 (runS l) b := by simp [runS]
structure RowB (ts : List Tr) (bs : List (List Int × List Int)) : Prop where
 len : ts.length = bs.length + 1
 st : ts.getD 0 (tz 0) = stT
 stp : ∀ i, i < bs.length → Stp (ts.getD i (tz 0)) (bs.getD i ([], [])).1 (bs.getD i ([], [])).2 ∧ ts.getD (i + 1) (tz 0) = nx (ts.getD i (tz 0)) (bs.getD i ([], [])).1 (bs.getD i ([], [])).2
 ze : ∀ i, i < bs.length → plE (ts.getD i (tz 0)) (bs.getD i ([], [])).1 (bs.getD i ([], [])).2 = 0
theorem getD_app {α : Type} {l : List α} {x d : α} {i : Nat} (h : i < l.length) : (l ++ [x]).getD i d = l.getD i d := by
 rw [List.getD_eq_getElem?_getD, List.getElem?_append_left h, ← List.getD_eq_getElem?_getD]
theorem getD_end {α : Type} {l : List α} {x d : α} : (l ++ [x]).getD l.length d = x := by
 rw [List.getD_eq_getElem?_getD, List.getElem?_append_right (Nat.le_refl _)]
 simp
theorem RowB.zero : RowB [stT] [] := ⟨rfl, rfl, fun i hi => (by cases hi), fun i hi => (by cases hi)⟩
theorem RowB.snoc {ts : List Tr} {bs : List (List Int × List Int)} (h : RowB ts bs) {b : List Int × List Int} (hs : plE (lastT ts) b.1 b.2 = 0) : RowB (ts ++ [nx (lastT ts) b.1 b.2]) (bs ++ [b]) := by
 have hl := h.len
 refine ⟨by simp; omega, by rw [getD_app (by omega)]; exact h.st, fun i hi => ?_, fun i hi => ?_⟩
 all_goals rw [List.length_append, List.length_singleton] at hi
 all_goals rcases Nat.lt_or_ge i bs.length with c | c
 ·rw [getD_app (show i < ts.length by omega), getD_app (show i < bs.length from c), getD_app (show i + 1 < ts.length by omega)]
  exact h.stp i c
 ·obtain rfl : i = bs.length := by omega
  have e1 : lastT ts = ts.getD bs.length (tz 0) := by unfold lastT; rw [hl]; rfl
  rw [getD_app (by omega), getD_end, ← e1]
  refine ⟨plE_stp hs, ?_⟩
  rw [show bs.length + 1 = ts.length by omega, getD_end]
 ·rw [getD_app (show i < ts.length by omega), getD_app (show i < bs.length from c)]
  exact h.ze i c
 ·obtain rfl : i = bs.length := by omega
  have e1 : lastT ts = ts.getD bs.length (tz 0) := by unfold lastT; rw [hl]; rfl
  rw [getD_app (by omega), getD_end, ← e1]
  exact hs
theorem runS_row (l : List (List Int × List Int)) : RowB (runS l).1 (runS l).2 := by
 have : ∀ (l : List (List Int × List Int)) (s : List Tr × List (List Int × List Int)), RowB s.1 s.2 → RowB (l.foldl run1 s).1 (l.foldl run1 s).2 := by
  intro l
  induction l with
  | nil => exact fun s h => h
  | cons b l ih =>
   intro s h
   rw [List.foldl_cons]
   refine ih _ ?_
   unfold run1
   split
   ·rename_i hE
    exact h.snoc hE
   ·exact h
 exact this l _ RowB.zero
theorem st_ok : tck stT = true := by decide +kernel
theorem RowB.row {ts : List Tr} {bs : List (List Int × List Int)} (h : RowB ts bs) : Row (fun i => ts.getD i (tz 0)) (fun i => (bs.getD i ([], [])).1) (fun i => (bs.getD i ([], [])).2) bs.length :=
 ⟨by show tck (ts.getD 0 (tz 0)) = true; rw [h.st]; exact st_ok, by show (ts.getD 0 (tz 0)).ep = 0; rw [h.st]; rfl, fun i hi => (h.stp i hi).1, fun i hi => (h.stp i hi).2⟩
theorem RowB.le {ts : List Tr} {bs : List (List Int × List Int)} (h : RowB ts bs) : ts.length ≤ 201 := by
 have h1 := h.row.le
 have h2 := h.len
 omega
theorem RowB.right {ts : List Tr} {bs : List (List Int × List Int)} (h : RowB ts bs) : RowOk ts :=
 ⟨by have := h.len; omega, h.st, fun i hi => ⟨_, _, h.stp i (by have := h.len; omega)⟩⟩
/- Messages in memory. -/
theorem grown_type {W W' : World} {e : TypeId} {b sz n : Nat} {v : Value} {xs : List Value} (row : W.ownsRow b e sz v n xs) (hg : W.grownBy W' v.ownBlock) {k : Nat} {cs : Array Value} {T : TypeId} (hk : W.heap[k]? = some (.cells cs T (0, 0))) (hT : T ≠ e) : W'.heap[k]? = some (.cells cs T (0, 0)) := by
 rw [hg.block k (Array.getElem?_eq_some_iff.1 hk).1 (own_type row hk hT)]
 exact hk
/- A step's message: its epoch, who left, who joined, its items. -/
def mS (t : Tr) (b : List Int × List Int) : Int × (List (Int × Int) × (List (Int × Int) × List It)) := (t.ep + 1, (evl t.ro b.1, (jns t b.1 b.2, its (nx t b.1 b.2) (plR t b.1) (jns t b.1 b.2))))
def mB (ts : List Tr) (bs : List (List Int × List Int)) (i : Nat) : Int × (List (Int × Int) × (List (Int × Int) × List It)) := mS (ts.getD i (tz 0)) (bs.getD i ([], []))
def rkl (ms : List (Array Value)) : List Value := ms.flatMap fun m => m.toList
def R3 (B : Nat) (W : World) (a1 : Option Addr) (k1 : Nat) (a2 : Option Addr) (k2 : Nat) (a3 : Option Addr) (k3 : Nat) (lv jn : List (Int × Int)) (li : List It) : Prop := W.ownsRow B 108 2 (.slice a1 lv.length k1) lv.length (ps lv) ∧ W.ownsRow B 108 2 (.slice a2 jn.length k2) jn.length (ps jn) ∧ W.ownsRow B 112 6 (.slice a3 li.length k3) li.length (isl li)
section
variable {B : Nat} {W W' : World} {a1 a2 a3 : Option Addr} {k1 k2 k3 : Nat} {lv jn : List (Int × Int)} {li : List It}
theorem R3.later (h : R3 B W a1 k1 a2 k2 a3 k3 lv jn li) (hb : Below W.heap.size W W') : R3 B W' a1 k1 a2 k2 a3 k3 lv jn li := ⟨owns_later h.1 hb, owns_later h.2.1 hb, owns_later h.2.2 hb⟩
theorem R3.type (h : R3 B W a1 k1 a2 k2 a3 k3 lv jn li) {C : Nat} {cs : Array Value} {t : TypeId} (hC : W.heap[C]? = some (.cells cs t (0, 0))) (n1 : 108 ≠ t) (n2 : 112 ≠ t) (cs' : Array Value) : R3 B (W.setRow C cs') a1 k1 a2 k2 a3 k3 lv jn li := ⟨Rs.owns_type h.1 hC n1 cs', Rs.owns_type h.2.1 hC n1 cs', Rs.owns_type h.2.2 hC n2 cs'⟩
theorem R3.grown (h : R3 B W a1 k1 a2 k2 a3 k3 lv jn li) {e : TypeId} {b sz n : Nat} {v : Value} {xs : List Value} (row : W.ownsRow b e sz v n xs) (hg : W.grownBy W' v.ownBlock) (n1 : e ≠ 108) (n2 : e ≠ 112) : R3 B W' a1 k1 a2 k2 a3 k3 lv jn li :=
 ⟨own_other h.1 fun g hgj => hg.block g (own_ge h.1 hgj).2 (fun e => own_ne2 row h.1 n1 hgj e.symm), own_other h.2.1 fun g hgj => hg.block g (own_ge h.2.1 hgj).2 (fun e => own_ne2 row h.2.1 n1 hgj e.symm), own_other h.2.2 fun g hgj => hg.block g (own_ge h.2.2 hgj).2 (fun e => own_ne2 row h.2.2 n2 hgj e.symm)⟩
end
def MsgAt (w W : World) (cs : Array Value) (M : Int × (List (Int × Int) × (List (Int × Int) × List It))) : Prop := ∃ (a1 a2 a3 : Option Addr) (k1 k2 k3 : Nat), cs = #[.int .i64 M.1, .slice a1 M.2.1.length k1, .slice a2 M.2.2.1.length k2, .slice a3 M.2.2.2.length k3] ∧ R3 w.heap.size W a1 k1 a2 k2 a3 k3 M.2.1 M.2.2.1 M.2.2.2
theorem MsgAt.later {w W W' : World} {cs : Array Value} {M : Int × (List (Int × Int) × (List (Int × Int) × List It))} (h : MsgAt w W cs M) (hb : Below W.heap.size W W') : MsgAt w W' cs M := by
 obtain ⟨a1, a2, a3, k1, k2, k3, e, hr⟩ := h
 exact ⟨a1, a2, a3, k1, k2, k3, e, hr.later hb⟩
theorem MsgAt.grown {w W W' : World} {cs : Array Value} {M : Int × (List (Int × Int) × (List (Int × Int) × List It))} (h : MsgAt w W cs M) {e : TypeId} {b sz n : Nat} {v : Value} {xs : List Value} (row : W.ownsRow b e sz v n xs) (hg : W.grownBy W' v.ownBlock) (n1 : e ≠ 108) (n2 : e ≠ 112) : MsgAt w W' cs M := by
 obtain ⟨a1, a2, a3, k1, k2, k3, e', hr⟩ := h
 exact ⟨a1, a2, a3, k1, k2, k3, e', hr.grown row hg n1 n2⟩
structure SS (w W : World) (vr vs : Value) (ts : List Tr) (bs : List (List Int × List Int)) (ms : List (Array Value)) : Prop where
 bel : Below w.heap.size w W
 rr : W.ownsRow w.heap.size 62 236 vr ts.length (trl ts)
 rs : W.ownsRow w.heap.size 31 4 vs ms.length (rkl ms)
 it : ∀ i, i < ms.length → MsgAt w W (ms.getD i #[]) (mB ts bs i)
 ml : ms.length = bs.length
section
variable {w W W' : World} {vr vs v' : Value} {ts : List Tr} {bs : List (List Int × List Int)} {ms : List (Array Value)}
theorem SS.later (h : SS w W vr vs ts bs ms) (hb : Below W.heap.size W W') : SS w W' vr vs ts bs ms := ⟨h.bel.trans (hb.mono h.bel.size), owns_later h.rr hb, owns_later h.rs hb, fun i hi => (h.it i hi).later hb, h.ml⟩
theorem mB_app {ts : List Tr} {bs : List (List Int × List Int)} {t : Tr} {b : List Int × List Int} {i : Nat} (h1 : i < ts.length) (h2 : i < bs.length) : mB (ts ++ [t]) (bs ++ [b]) i = mB ts bs i := by
 unfold mB
 rw [getD_app h1, getD_app h2]
/- The row grows by a tree, then the messages by one. -/
theorem SS.app (h : SS w W vr vs ts bs ms) (hrow : RowB ts bs) {n : Tr} {b : List Int × List Int} {cs : Array Value} {W1 W2 : World} {o : Obj} {v1 v2 : Value}
  (hown1 : W1.ownsRow w.heap.size 62 236 v1 (ts.length + 1) (trl ts ++ (tcs n).toList)) (hg1 : W.grownBy W1 vr.ownBlock)
  (hown2 : W2.ownsRow w.heap.size 31 4 v2 (ms.length + 1) (rkl ms ++ cs.toList)) (hg2 : (W1.alloc o).grownBy W2 vs.ownBlock)
  (hm : MsgAt w W cs (mS (lastT ts) b)) (hn : n = nx (lastT ts) b.1 b.2) :
  SS w W2 v1 v2 (ts ++ [n]) (bs ++ [b]) (ms ++ [cs]) := by
 have hl := hrow.len
 have hml := h.ml
 have rs1 : W1.ownsRow w.heap.size 31 4 vs ms.length (rkl ms) := own_other h.rs fun g hgj => hg1.block g (own_ge h.rs hgj).2 (fun e => own_ne2 h.rr h.rs (by decide) hgj e.symm)
 have rs2 := owns_later rs1 (below_alloc W1 o)
 have b1 : Below w.heap.size w W1 := below_grown h.bel hg1 h.bel.size (fun j hj => (own_ge h.rr hj).1)
 have b1a := b1.trans ((below_alloc W1 o).mono b1.size)
 have step : ∀ {cs : Array Value} {M : Int × (List (Int × Int) × (List (Int × Int) × List It))}, MsgAt w W cs M → MsgAt w W2 cs M := fun hm => ((hm.grown h.rr hg1 (by decide) (by decide)).later (below_alloc W1 o)).grown rs2 hg2 (by decide) (by decide)
 have hown1a := owns_later hown1 (below_alloc W1 o)
 refine ⟨below_grown b1a hg2 b1a.size (fun j hj => (own_ge rs2 hj).1), ?_, ?_, fun i hi => ?_, by simp; omega⟩
 ·rw [trl_snoc, List.length_append]
  exact own_other hown1a fun g hgj => hg2.block g (own_ge hown1a hgj).2 (fun e => own_ne2 rs2 hown1a (by decide) hgj e.symm)
 ·have e : rkl (ms ++ [cs]) = rkl ms ++ cs.toList := by simp [rkl]
  rw [e, List.length_append]
  exact hown2
 ·rw [List.length_append, List.length_singleton] at hi
  rcases Nat.lt_or_ge i ms.length with c | c
  ·rw [getD_app c, mB_app (by omega) (by omega)]
   exact step (h.it i c)
  ·obtain rfl : i = ms.length := by omega
   rw [getD_end]
   have e1 : mB (ts ++ [n]) (bs ++ [b]) ms.length = mS (lastT ts) b := by
    unfold mB
    have e2 : lastT ts = ts.getD ms.length (tz 0) := by unfold lastT; rw [hl, hml]; rfl
    rw [getD_app (by omega), show (bs ++ [b]).getD ms.length ([], []) = b by rw [hml, getD_end], ← e2]
   rw [e1]
   exact step hm
end
/- Batches that came in. -/
def RdB (w : World) (a : Option Addr) (l : List (List Int × List Int)) : Prop := ∀ i, i < l.length → ∃ b o aL cL aJ cJ, a = some ⟨b, o, none⟩ ∧ w.cell? ⟨b, o + i * 2, none⟩ = some (.slice aL (l.getD i ([], [])).1.length cL) ∧ w.cell? ⟨b, o + i * 2 + 1, none⟩ = some (.slice aJ (l.getD i ([], [])).2.length cJ) ∧ RdI w aL (l.getD i ([], [])).1 ∧ RdI w aJ (l.getD i ([], [])).2
theorem RdB.later {w w' : World} {a : Option Addr} {l : List (List Int × List Int)} (h : RdB w a l) (hb : Below w.heap.size w w') : RdB w' a l := fun i hi => by
 obtain ⟨b, o, aL, cL, aJ, cJ, e, h1, h2, h3, h4⟩ := h i hi
 exact ⟨b, o, aL, cL, aJ, cJ, e, Rs.cell_later hb h1, Rs.cell_later hb h2, h3.later hb, h4.later hb⟩
def StepsP (w w' : World) (l : List (List Int × List Int)) (e : Ending) : Prop := ∃ vr vs ms, e = .returned (.tuple #[vr, vs, .bool true]) ∧ SS w w' vr vs (runS l).1 (runS l).2 ms
theorem zero_of {n : Nat} {w X : World} (h : Below n w (X.alloc (.cells Tryz.zeroCells62 62))) : TrAt (X.alloc (.cells Tryz.zeroCells62 62)) X.heap.size (tz 0) := TrAt.zero X
theorem rkz_of {n : Nat} {w X : World} (h : Below n w (X.alloc (.cells #[.int .i64 0, .slice none 0 0, .slice none 0 0, .slice none 0 0] 31))) : RkAt (X.alloc (.cells #[.int .i64 0, .slice none 0 0, .slice none 0 0, .slice none 0 0] 31)) X.heap.size #[.int .i64 0, .slice none 0 0, .slice none 0 0, .slice none 0 0] := heap_alloc_last X _
theorem zero_of' {n : Nat} {w X : World} (h : Below n w (X.alloc (.cells Tryz.zeroCells62 62)).drew) : TrAt (X.alloc (.cells Tryz.zeroCells62 62)).drew X.heap.size (tz 0) := (TrAt.zero X).later (drew_below _)
theorem rkz_of' {n : Nat} {w X : World} (h : Below n w (X.alloc (.cells #[.int .i64 0, .slice none 0 0, .slice none 0 0, .slice none 0 0] 31)).drew) : RkAt (X.alloc (.cells #[.int .i64 0, .slice none 0 0, .slice none 0 0, .slice none 0 0] 31)).drew X.heap.size #[.int .i64 0, .slice none 0 0, .slice none 0 0, .slice none 0 0] := RkAt.later (heap_alloc_last X _) (drew_below _)
theorem info_tree : ∃ i, Tryz.prog.info? 62 = some i ∧ i.zero = some (.agg (tcs (tz 0))) ∧ i.size = 236 ∧ i.bytes = 1888 := by
 have hz : (Tryz.prog.info? 62).bind (·.zero) = some (.agg (tcs (tz 0))) := by rw [← zero236]; kernel_rfl
 have hs : (Tryz.prog.info? 62).map (fun i => (i.size, i.bytes)) = some (236, 1888) := by kernel_rfl
 cases hq : Tryz.prog.info? 62 with
 | none => rw [hq] at hs; cases hs
 | some i =>
  rw [hq] at hs hz
  simp at hs hz
  exact ⟨i, rfl, hz, hs.1, hs.2⟩
theorem info_rk : ∃ i, Tryz.prog.info? 31 = some i ∧ i.zero = some (.agg #[.int .i64 0, .slice none 0 0, .slice none 0 0, .slice none 0 0]) ∧ i.size = 4 ∧ i.bytes = 80 := by
 have h : (Tryz.prog.info? 31).map (fun i => (i.zero, i.size, i.bytes)) = some (some (.agg #[.int .i64 0, .slice none 0 0, .slice none 0 0, .slice none 0 0]), 4, 80) := by kernel_rfl
 cases hq : Tryz.prog.info? 31 with
 | none => rw [hq] at h; cases h
 | some i =>
  rw [hq] at h
  simp at h
  exact ⟨i, rfl, h.1, h.2.1, h.2.2⟩
theorem results_ttt {fn : Func} {p q r : Tmp} (hf : fn.results = #[.tmp p, .tmp q, .tmp r]) (tmps : Array Value) (W : World) : (results fn tmps).run Tryz.prog W = .ok (.tuple #[tmps.getD p undef, tmps.getD q undef, tmps.getD r undef]) W := by
 simp [results, hf]
set_option maxRecDepth 100000 in
set_option maxHeartbeats 1000000 in
theorem steps_any (a : Option Addr) (c : Nat) (l : List (List Int × List Int)) (w : World) (hTb : Tb w) (hl : l.length ≤ 17592186044416) (hb : ∀ i, i < l.length → (l.getD i ([], [])).1.length ≤ 17592186044416 ∧ (l.getD i ([], [])).2.length ≤ 17592186044416) (hr : RdB w a l) :
  Calls Tryz.prog 5 #[.slice a l.length c] w fun e w' => StepsP w w' l e := by
 obtain ⟨it, hti, htz, hts, htb⟩ := info_tree
 obtain ⟨ik, hki, hkz, hks, hkb⟩ := info_rk
 obtain ⟨c0, hc0⟩ : ∃ c, tcs stT = c := ⟨_, rfl⟩
 have HC0 : Hid (tcs stT = c0) := hc0
 have hst := rStart_any w
 rw [hc0] at hst
 clear hc0
 go_enter Tryz.func5, Tryz.ntmps5
 go_wp2_with fail
 refine hst.mono ?_
 rintro r w1 ⟨rfl, hb1⟩
 clear hst
 have HS0 : Hid (SS w (w1.alloc (.cells c0 62)) (.slice (some ⟨w1.heap.size, 0, none⟩) 1 1) (.slice none 0 0) (runS (l.take 0)).1 (runS (l.take 0)).2 []) := by
  refine ⟨hb1.trans ((below_alloc _ _).mono hb1.size), ⟨by show (trl [stT]).length = 1 * 236; rw [trl_len]; rfl, .inr ⟨w1.heap.size, 1, c0, rfl, hb1.size, heap_alloc_last _ _, Nat.le_refl _, by unfold maxLen; omega, by rw [← HC0.out, tcs_size], ?_⟩⟩, World.ownsRow_nil _ _ _ _, fun i hi => (by cases hi), rfl⟩
  show List.take (1 * 236) c0.toList = trl [stT]
  rw [← HC0.out, List.take_of_length_le (by rw [Array.length_toList, tcs_size]; decide)]
  simp [trl]
 clear hb1
 go_wp2_with (refine bsT HC0.out rfl _ rfl rfl ?_)
 go_loopw [5, 6, 16] (fun x y i wx => ∃ (k : Nat) (vr vs : Value) (ms : List (Array Value)), k ≤ l.length ∧ i = .int .i64 (k : Int) ∧ vr = x ∧ vs = y ∧ SS w wx vr vs (runS (l.take k)).1 (runS (l.take k)).2 ms) (fun _ _ i _ => l.length - (intOf i).toNat)
 case atStart => exact ⟨0, _, _, [], by omega, rfl, rfl, rfl, HS0.out⟩
 case round =>
  obtain ⟨k, vr, vs, ms, hk, rfl, rfl, rfl, hss⟩ := hrel
  have HS : Hid (SS w wr vr vs (runS (l.take k)).1 (runS (l.take k)).2 ms) := hss
  have HROW : Hid (RowB (runS (l.take k)).1 (runS (l.take k)).2) := runS_row _
  clear hss HS0
  by_cases hkN : k < l.length
  ·have i1 : (0 : Int) ≤ (k : Int) := by omega
   have i2 : (k : Int) < (l.length : Int) := by omega
   obtain ⟨b0, o0, aL, cL, aJ, cJ, hal, hc0, hc1, rL, rJ⟩ := (hr.later HS.out.bel) k hkN
   obtain ⟨hbL, hbJ⟩ := hb k hkN
   have HTK : Hid (runS (l.take (k + 1)) = run1 (runS (l.take k)) (l.getD k ([], []))) := by
    unfold Hid
    rw [← runS_snoc, List.take_add_one, List.getD_eq_getElem?_getD, List.getElem?_eq_getElem hkN]
    rfl
   obtain ⟨q, hq⟩ : ∃ q, l.getD k ([], []) = q := ⟨_, rfl⟩
   rw [hq] at hc0 hc1 rL rJ hbL hbJ HTK
   obtain ⟨L, J⟩ := q
   dsimp only at hc0 hc1 rL rJ hbL hbJ
   obtain ⟨st, hst⟩ : ∃ s, runS (l.take k) = s := ⟨_, rfl⟩
   rw [hst] at HTK HS HROW
   obtain ⟨ts, bs⟩ := st
   dsimp only at HS HROW
   clear hq hst
   subst hal
   have hlen := HROW.out.len
   have hle := HROW.out.le
   obtain ⟨m, hm⟩ : ∃ m, m + 1 = ts.length := ⟨ts.length - 1, by omega⟩
   obtain ⟨t, ht⟩ : ∃ t, lastT ts = t := ⟨_, rfl⟩
   have ht2 : ts.getD m (tz 0) = t := by rw [← ht]; unfold lastT; rw [← hm]; rfl
   have HR1 : Hid (run1 (ts, bs) (L, J) = if plE t L J = 0 then (ts ++ [nx t L J], bs ++ [(L, J)]) else (ts, bs)) := by
    unfold Hid run1
    dsimp only
    rw [ht]
   have HLT : Hid (lastT ts = t) := ht
   obtain ⟨ar, cr, rfl⟩ := owns_slice HS.out.rr
   obtain ⟨ax, cs, rfl⟩ := owns_slice HS.out.rs
   have HS5 : Hid (SS w (wr.alloc (.cells #[.slice aL L.length cL, .slice aJ J.length cJ] 54)) (.slice ar ts.length cr) (.slice ax ms.length cs) ts bs ms) := HS.out.later (below_alloc _ _)
   have hBT : BtAt (wr.alloc (.cells #[.slice aL L.length cL, .slice aJ J.length cJ] 54)) wr.heap.size aL aJ L.length J.length cL cJ := heap_alloc_last wr _
   have rL5 := rL.later (below_alloc wr (.cells #[.slice aL L.length cL, .slice aJ J.length cJ] 54))
   have rJ5 := rJ.later (below_alloc wr (.cells #[.slice aL L.length cL, .slice aJ J.length cJ] 54))
   clear HS rL rJ
   go_upto_region 6 with (fail)
   clear hc0 hc1
   generalize wr.alloc (.cells #[.slice aL L.length cL, .slice aJ J.length cJ] 54) = w5 at *
   generalize wr.heap.size = C at *
   have HBT : Hid (BtAt w5 C aL aJ L.length J.length cL cJ) := hBT
   have hrd := owns_rdR HS5.out.rr
   obtain ⟨g, eg, -, -⟩ := hrd.tree (i := m) (by omega) ht2
   have HTR : Hid (∀ W, Below w5.heap.size w5 W → (Instr.loadAt 62 (.pointer (some ⟨g, m * 236, none⟩))).run Tryz.prog W = .ok (.agg (tcs t)) W) := fun W hW => by
    obtain ⟨b', e', h2, -⟩ := (hrd.later hW).tree (i := m) (by omega) ht2
    rw [eg] at e'
    simp at e'
    subst e'
    exact h2
   have hnx := fun W (hW : Below w5.heap.size w5 W) => next_any t aL aJ cL cJ L J W ((hTb.later HS5.out.bel).later hW) (by omega) (by omega) (rL5.later hW) (rJ5.later hW)
   have HN3 : Hid ((pnI t L J).length ≤ 4096) := pnI_short t L J
   have HOK : Hid (plE t L J = 0 → pnT t L J = nx t L J ∧ (pnP t L J, (pnL t L J, (pnJ t L J, pnI t L J))) = mS t (L, J)) := fun h => by
    refine ⟨?_, ?_⟩
    ·unfold pnT; rw [if_pos h]
    ·unfold pnP pnL pnJ pnI mS; rw [if_pos h, if_pos h, if_pos h, if_pos h]
   obtain ⟨n, hn⟩ : ∃ n, pnT t L J = n := ⟨_, rfl⟩
   obtain ⟨lv, hn1⟩ : ∃ n, pnL t L J = n := ⟨_, rfl⟩
   obtain ⟨jn, hn2⟩ : ∃ n, pnJ t L J = n := ⟨_, rfl⟩
   obtain ⟨li, hli⟩ : ∃ n, pnI t L J = n := ⟨_, rfl⟩
   obtain ⟨E, hE⟩ : ∃ n, plE t L J = n := ⟨_, rfl⟩
   obtain ⟨p, hp⟩ : ∃ n, pnP t L J = n := ⟨_, rfl⟩
   obtain ⟨cn, hcn⟩ : ∃ c, tcs n = c := ⟨_, rfl⟩
   have HCN : Hid (tcs n = cn) := hcn
   have HEQ : Hid (pnT t L J = n ∧ pnL t L J = lv ∧ pnJ t L J = jn ∧ pnI t L J = li ∧ plE t L J = E ∧ pnP t L J = p) := ⟨hn, hn1, hn2, hli, hE, hp⟩
   rw [hli] at HN3
   rw [hli, hn, hE, hn1, hn2, hp] at HOK
   rw [hE] at HR1
   obtain ⟨ct, hct⟩ : ∃ c, tcs t = c := ⟨_, rfl⟩
   have HCT : Hid (tcs t = ct) := hct
   rw [hct] at HTR
   rw [hct] at hnx
   subst eg
   obtain ⟨NT, hNT⟩ : ∃ x, ts.length = x := ⟨_, rfl⟩
   have HNT : Hid (ts.length = NT) := hNT
   obtain ⟨NL, hNL⟩ : ∃ x, L.length = x := ⟨_, rfl⟩
   obtain ⟨NJ, hNJ⟩ : ∃ x, J.length = x := ⟨_, rfl⟩
   rw [hNL, hNJ] at HBT hnx
   rw [hNT] at hm hle HS5 ⊢
   have hw1 : IntKind.i64.wrap ((NT : Int) - 1) = (m : Int) := by rw [show (NT : Int) - 1 = (m : Int) by omega]; exact Rs.i64_fit _ (by omega) (by omega)
   have m1 : (0 : Int) ≤ (m : Int) := by omega
   have m2 : (m : Int) < (NT : Int) := by omega
   have HMN : Hid (m + 1 = NT) := hm
   clear hn hn1 hn2 hli hE hp hcn hct ht ht2 hrd hBT hNT hNL hNJ hm hlen rL5 rJ5 hbL hbJ
   go_cut [9, 10, 11] (fun s9 s10 s11 wx => ∃ T M a1 k1 a2 k2 a3 k3, s9 = .pointer (some ⟨T, 0, none⟩) ∧ s10 = .pointer (some ⟨M, 0, none⟩) ∧ s11 = .int .i64 E ∧ Below w5.heap.size w5 wx ∧ TrAt wx T n ∧ RkAt wx M #[.int .i64 p, .slice a1 lv.length k1, .slice a2 jn.length k2, .slice a3 li.length k3] ∧ R3 w.heap.size wx a1 k1 a2 k2 a3 k3 lv jn li)
   case first =>
    have hS0 : Below w5.heap.size w5 w5.drew := drew_below _
    have HW5 : Hid (w.heap.size ≤ w5.heap.size) := HS5.out.bel.size
    refine wp_region_held_drew (S := fun X => Below w5.heap.size w5 X) (by kernel_rfl) hS0 (fun hHeld => ?_)
    refine wpAnyH_take (i := 0) (oi := ⟨some 21, Op.move (.tmp 5), _, _, _, none⟩) (v := .slice (some ⟨g, 0, none⟩) NT cr) rfl (by kernel_rfl) (by kernel_rfl) (by kernel_rfl) (fun _ _ _ h => h) (Or.inl ⟨by rfl, fun w hSw => by (try dsimp only at hSw); go_simp⟩) (by assumption) ?_
    simp only [Act.put, List.setIfInBounds_toArray, List.set_cons_zero, List.set_cons_succ]
    refine wpAnyH_take (i := 1) (oi := ⟨some 22, Op.move (.tmp 5), _, _, _, none⟩) (v := .slice (some ⟨g, 0, none⟩) NT cr) rfl (by kernel_rfl) (by kernel_rfl) (by kernel_rfl) (fun _ _ _ h => h) (Or.inl ⟨by rfl, fun w hSw => by (try dsimp only at hSw); go_simp⟩) (by assumption) ?_
    simp only [Act.put, List.setIfInBounds_toArray, List.set_cons_zero, List.set_cons_succ]
    refine wpAnyH_take (i := 2) (oi := ⟨some 23, Op.call { callee := Callee.builtin Builtin.len, args := #[(.tmp 22)], argTypes := #[24] }, _, _, _, none⟩) (v := .int .i64 (NT : Int)) rfl (by kernel_rfl) (by kernel_rfl) (by kernel_rfl) (fun _ _ _ h => h) (Or.inl ⟨by rfl, fun w hSw => by (try dsimp only at hSw); go_simp⟩) (by assumption) ?_
    simp only [Act.put, List.setIfInBounds_toArray, List.set_cons_zero, List.set_cons_succ]
    refine wpAnyH_take (i := 3) (oi := ⟨some 24, Op.binOp BinOp.sub 3 (.tmp 23) (Operand.const (Value.int IntKind.i64 1)) 3, _, _, _, none⟩) (v := .int .i64 (m : Int)) rfl (by kernel_rfl) (by kernel_rfl) (by kernel_rfl) (fun _ _ _ h => h) (Or.inl ⟨by rfl, fun w hSw => by (try dsimp only at hSw); go_simp⟩) (by assumption) ?_
    simp only [Act.put, List.setIfInBounds_toArray, List.set_cons_zero, List.set_cons_succ]
    refine wpAnyH_take (i := 4) (oi := ⟨some 25, Op.indexAddr 24 (.tmp 21) (.tmp 24), _, _, _, none⟩) (v := .pointer (some ⟨g, m * 236, none⟩)) rfl (by kernel_rfl) (by kernel_rfl) (by kernel_rfl) (fun _ _ _ h => h) (Or.inl ⟨by rfl, fun w hSw => by (try dsimp only at hSw); go_simp⟩) (by assumption) ?_
    simp only [Act.put, List.setIfInBounds_toArray, List.set_cons_zero, List.set_cons_succ]
    refine wpAnyH_take (i := 5) (oi := ⟨some 26, Op.load 62 (.tmp 25), _, _, _, none⟩) (v := .agg ct) rfl (by kernel_rfl) (by kernel_rfl) (by kernel_rfl) (fun _ _ _ h => h) (Or.inl ⟨by rfl, fun w hSw => ld_exec (HTR.out _ hSw) rfl rfl⟩) (by assumption) ?_
    simp only [Act.put, List.setIfInBounds_toArray, List.set_cons_zero, List.set_cons_succ]
    refine wpAnyH_take (i := 6) (oi := ⟨some 27, Op.load 54 (.tmp 8), _, _, _, none⟩) (v := .agg #[.slice aL NL cL, .slice aJ NJ cJ]) rfl (by kernel_rfl) (by kernel_rfl) (by kernel_rfl) (fun _ _ _ h => h) (Or.inl ⟨by rfl, fun w hSw => by obtain ⟨x0, x1⟩ := (HBT.out.later hSw).cells; clear hSw; go_simp⟩) (by assumption) ?_
    simp only [Act.put, List.setIfInBounds_toArray, List.set_cons_zero, List.set_cons_succ]
    refine wpAnyH_ready (rs := [7, 12, 13]) (by kernel_rfl) (by simp) ?_
    refine (AllReadyH.cons rfl (fun K hK => ?_) (AllReadyH.cons rfl (fun K hK => ?_) (AllReadyH.cons rfl (fun K hK => ?_) AllReadyH.nil)))
    ·go_simp
     have hle7 := hHeld.size
     refine (hnx _ hHeld).mono ?_
     rintro r w7 ⟨⟨vl, vj, vi, rfl, hl1, hl2, hl3, -⟩, hb7⟩
     rw [HEQ.out.2.1] at hl1
     rw [HEQ.out.2.2.1] at hl2
     rw [HEQ.out.2.2.2.1] at hl3
     rw [HEQ.out.1, HEQ.out.2.2.2.2.1, HEQ.out.2.2.2.2.2, HCN.out]
     obtain ⟨a1, k1, rfl⟩ := owns_slice hl1
     obtain ⟨a2, k2, rfl⟩ := owns_slice hl2
     obtain ⟨a3, k3, rfl⟩ := owns_slice hl3
     go_wp2_with fail
     have hrow : R3 w.heap.size w7 a1 k1 a2 k2 a3 k3 lv jn li := ⟨Rs.owns_wide hl1 (Nat.le_trans HW5.out hle7), Rs.owns_wide hl2 (Nat.le_trans HW5.out hle7), Rs.owns_wide hl3 (Nat.le_trans HW5.out hle7)⟩
     try (have hz := hz.later hb7)
     try (have hq := hq.later hb7)
     refine hK.out _ _ (hHeld.trans (hb7.mono hHeld.size)) (fun hHd1 => ?_)
     clear hHeld hb7 hl1 hl2 hl3 hle7
     clear hK K
     try simp only [Act.put, List.setIfInBounds_toArray, List.set_cons_zero, List.set_cons_succ]
     refine wpAnyH_take (i := 8) (oi := ⟨some 20, Op.move (.tmp 28), _, _, _, none⟩) (v := .tuple #[.agg cn, .agg #[.int .i64 p, .slice a1 lv.length k1, .slice a2 jn.length k2, .slice a3 li.length k3], .int .i64 E]) rfl (by kernel_rfl) (by kernel_rfl) (by kernel_rfl) (fun _ _ _ h => h) (Or.inl ⟨by rfl, fun w hSw => by (try dsimp only at hSw); go_simp⟩) (by assumption) ?_
     simp only [Act.put, List.setIfInBounds_toArray, List.set_cons_zero, List.set_cons_succ]
     refine wpAnyH_take (i := 9) (oi := ⟨some 29, Op.extract (.tmp 20) 0, _, _, _, none⟩) (v := .agg cn) rfl (by kernel_rfl) (by kernel_rfl) (by kernel_rfl) (fun _ _ _ h => h) (Or.inl ⟨by rfl, fun w hSw => by (try dsimp only at hSw); go_simp⟩) (by assumption) ?_
     simp only [Act.put, List.setIfInBounds_toArray, List.set_cons_zero, List.set_cons_succ]
     refine wpAnyH_take (i := 10) (oi := ⟨some 30, Op.extract (.tmp 20) 1, _, _, _, none⟩) (v := .agg #[.int .i64 p, .slice a1 lv.length k1, .slice a2 jn.length k2, .slice a3 li.length k3]) rfl (by kernel_rfl) (by kernel_rfl) (by kernel_rfl) (fun _ _ _ h => h) (Or.inl ⟨by rfl, fun w hSw => by (try dsimp only at hSw); go_simp⟩) (by assumption) ?_
     simp only [Act.put, List.setIfInBounds_toArray, List.set_cons_zero, List.set_cons_succ]
     refine wpAnyH_take (i := 11) (oi := ⟨some 31, Op.extract (.tmp 20) 2, _, _, _, none⟩) (v := .int .i64 E) rfl (by kernel_rfl) (by kernel_rfl) (by kernel_rfl) (fun _ _ _ h => h) (Or.inl ⟨by rfl, fun w hSw => by (try dsimp only at hSw); go_simp⟩) (by assumption) ?_
     simp only [Act.put, List.setIfInBounds_toArray, List.set_cons_zero, List.set_cons_succ]
     refine wpAnyH_ready (rs := [12, 13]) (by kernel_rfl) (by simp) ?_
     refine (AllReadyH.cons rfl (fun K hK => ?_) (AllReadyH.cons rfl (fun K hK => ?_) AllReadyH.nil))
     ·go_simp
      have hgT := hHd1.size
      refine hK.out _ _ (hHd1.trans ((below_alloc _ _).mono hHd1.size)) (fun hHd2 => ?_)
      first | have hz := zero_of hHd2 | have hz := zero_of' hHd2
      try simp only [World.size_alloc] at hz
      try simp only [World.size_alloc] at hgT
      try (have hq := RkAt.later hq (below_alloc _ (.cells Tryz.zeroCells62 62)))
      try (have hrow := R3.later hrow (below_alloc _ (.cells Tryz.zeroCells62 62)))
      clear hHd1
      clear hK K
      try simp only [Act.put, List.setIfInBounds_toArray, List.set_cons_zero, List.set_cons_succ]
      refine wpAnyH_ready (rs := [13]) (by kernel_rfl) (by simp) ?_
      refine AllReadyH.cons rfl (fun K hK => ?_) AllReadyH.nil
      go_simp
      have hgM := hHd2.size
      refine hK.out _ _ (hHd2.trans ((below_alloc _ _).mono hHd2.size)) (fun hHd3 => ?_)
      first | have hq := rkz_of hHd3 | have hq := rkz_of' hHd3
      try simp only [World.size_alloc] at hq
      try simp only [World.size_alloc] at hgM
      try (have hz := hz.later (below_alloc _ (.cells #[.int .i64 0, .slice none 0 0, .slice none 0 0, .slice none 0 0] 31)))
      try (have hrow := R3.later hrow (below_alloc _ (.cells #[.int .i64 0, .slice none 0 0, .slice none 0 0, .slice none 0 0] 31)))
      clear hHd2
      clear hK K
      try simp only [Act.put, List.setIfInBounds_toArray, List.set_cons_zero, List.set_cons_succ]
      refine wpAnyH_ready (rs := [14]) (by kernel_rfl) (by simp) ?_
      refine AllReadyH.cons rfl (fun Kc hK => ?_) AllReadyH.nil
      refine if_wp rfl (wp_stRow0 62 _ _ rfl _ cn rfl rfl 62 _ hz (by rw [← HCN.out, tcs_size]; exact infoT) (by rw [← HCN.out, tcs_size, tcs_size]) (by rw [← HCN.out]; exact tcs_one n) rfl ?_)
      have hTM := block_ne hz hq (by decide)
      have hzZ := Rt.heap_setRow_same hz cn
      have hq2 := (Rt.row_other (Ne.symm hTM) cn).trans hq
      have hrow2 := R3.type hrow hz (by decide) (by decide) cn
      refine hK.out _ _ (Rt.setRow_below (by first | exact hgT | omega) hHd3 _) (fun hHd4 => ?_)
      clear hHd3
      clear hK Kc
      try simp only [Act.put, List.setIfInBounds_toArray, List.set_cons_zero, List.set_cons_succ]
      refine wpAnyH_ready (rs := [15]) (by kernel_rfl) (by simp) ?_
      refine AllReadyH.cons rfl (fun Kc hK => ?_) AllReadyH.nil
      refine if_wp rfl (wp_stRow0 31 _ _ rfl _ #[.int .i64 p, .slice a1 lv.length k1, .slice a2 jn.length k2, .slice a3 li.length k3] rfl rfl 31 _ hq2 infoRk rfl (rk_one _ _ _ _ _ _ _ _ _ _) rfl ?_)
      have hqZ := Rt.heap_setRow_same hq2 #[.int .i64 p, .slice a1 lv.length k1, .slice a2 jn.length k2, .slice a3 li.length k3]
      have hzZ2 := (Rt.row_other hTM #[.int .i64 p, .slice a1 lv.length k1, .slice a2 jn.length k2, .slice a3 li.length k3]).trans hzZ
      have hrow3 := R3.type hrow2 hq2 (by decide) (by decide) #[.int .i64 p, .slice a1 lv.length k1, .slice a2 jn.length k2, .slice a3 li.length k3]
      refine hK.out _ _ (Rt.setRow_below (by first | exact hgM | omega) hHd4 _) (fun hHd5 => ?_)
      clear hK Kc
      try simp only [Act.put, List.setIfInBounds_toArray, List.set_cons_zero, List.set_cons_succ]
      refine wpAnyH_take (i := 16) (oi := ⟨some 11, Op.assign (.tmp 31), _, _, _, none⟩) (v := .int .i64 E) rfl (by kernel_rfl) (by kernel_rfl) (by kernel_rfl) (fun _ _ _ h => h) (Or.inl ⟨by rfl, fun w hSw => by (try dsimp only at hSw); go_simp⟩) (by assumption) ?_
      simp only [Act.put, List.setIfInBounds_toArray, List.set_cons_zero, List.set_cons_succ]
      refine wpAnyH_done (by kernel_rfl) ?_ _
      go_wp2_with fail
      go_meet
      case rel => exact ⟨_, _, a1, k1, a2, k2, a3, k3, rfl, rfl, rfl, hHd5, by unfold TrAt; rw [HCN.out]; exact hzZ2, hqZ, hrow3⟩
     ·go_simp
      have hgM := hHd1.size
      refine hK.out _ _ (hHd1.trans ((below_alloc _ _).mono hHd1.size)) (fun hHd2 => ?_)
      first | have hq := rkz_of hHd2 | have hq := rkz_of' hHd2
      try simp only [World.size_alloc] at hq
      try simp only [World.size_alloc] at hgM
      try (have hz := hz.later (below_alloc _ (.cells #[.int .i64 0, .slice none 0 0, .slice none 0 0, .slice none 0 0] 31)))
      try (have hrow := R3.later hrow (below_alloc _ (.cells #[.int .i64 0, .slice none 0 0, .slice none 0 0, .slice none 0 0] 31)))
      clear hHd1
      clear hK K
      try simp only [Act.put, List.setIfInBounds_toArray, List.set_cons_zero, List.set_cons_succ]
      refine wpAnyH_ready (rs := [12]) (by kernel_rfl) (by simp) ?_
      refine AllReadyH.cons rfl (fun K hK => ?_) AllReadyH.nil
      go_simp
      have hgT := hHd2.size
      refine hK.out _ _ (hHd2.trans ((below_alloc _ _).mono hHd2.size)) (fun hHd3 => ?_)
      first | have hz := zero_of hHd3 | have hz := zero_of' hHd3
      try simp only [World.size_alloc] at hz
      try simp only [World.size_alloc] at hgT
      try (have hq := RkAt.later hq (below_alloc _ (.cells Tryz.zeroCells62 62)))
      try (have hrow := R3.later hrow (below_alloc _ (.cells Tryz.zeroCells62 62)))
      clear hHd2
      clear hK K
      try simp only [Act.put, List.setIfInBounds_toArray, List.set_cons_zero, List.set_cons_succ]
      refine wpAnyH_ready (rs := [14]) (by kernel_rfl) (by simp) ?_
      refine AllReadyH.cons rfl (fun Kc hK => ?_) AllReadyH.nil
      refine if_wp rfl (wp_stRow0 62 _ _ rfl _ cn rfl rfl 62 _ hz (by rw [← HCN.out, tcs_size]; exact infoT) (by rw [← HCN.out, tcs_size, tcs_size]) (by rw [← HCN.out]; exact tcs_one n) rfl ?_)
      have hTM := block_ne hz hq (by decide)
      have hzZ := Rt.heap_setRow_same hz cn
      have hq2 := (Rt.row_other (Ne.symm hTM) cn).trans hq
      have hrow2 := R3.type hrow hz (by decide) (by decide) cn
      refine hK.out _ _ (Rt.setRow_below (by first | exact hgT | omega) hHd3 _) (fun hHd4 => ?_)
      clear hHd3
      clear hK Kc
      try simp only [Act.put, List.setIfInBounds_toArray, List.set_cons_zero, List.set_cons_succ]
      refine wpAnyH_ready (rs := [15]) (by kernel_rfl) (by simp) ?_
      refine AllReadyH.cons rfl (fun Kc hK => ?_) AllReadyH.nil
      refine if_wp rfl (wp_stRow0 31 _ _ rfl _ #[.int .i64 p, .slice a1 lv.length k1, .slice a2 jn.length k2, .slice a3 li.length k3] rfl rfl 31 _ hq2 infoRk rfl (rk_one _ _ _ _ _ _ _ _ _ _) rfl ?_)
      have hqZ := Rt.heap_setRow_same hq2 #[.int .i64 p, .slice a1 lv.length k1, .slice a2 jn.length k2, .slice a3 li.length k3]
      have hzZ2 := (Rt.row_other hTM #[.int .i64 p, .slice a1 lv.length k1, .slice a2 jn.length k2, .slice a3 li.length k3]).trans hzZ
      have hrow3 := R3.type hrow2 hq2 (by decide) (by decide) #[.int .i64 p, .slice a1 lv.length k1, .slice a2 jn.length k2, .slice a3 li.length k3]
      refine hK.out _ _ (Rt.setRow_below (by first | exact hgM | omega) hHd4 _) (fun hHd5 => ?_)
      clear hK Kc
      try simp only [Act.put, List.setIfInBounds_toArray, List.set_cons_zero, List.set_cons_succ]
      refine wpAnyH_take (i := 16) (oi := ⟨some 11, Op.assign (.tmp 31), _, _, _, none⟩) (v := .int .i64 E) rfl (by kernel_rfl) (by kernel_rfl) (by kernel_rfl) (fun _ _ _ h => h) (Or.inl ⟨by rfl, fun w hSw => by (try dsimp only at hSw); go_simp⟩) (by assumption) ?_
      simp only [Act.put, List.setIfInBounds_toArray, List.set_cons_zero, List.set_cons_succ]
      refine wpAnyH_done (by kernel_rfl) ?_ _
      go_wp2_with fail
      go_meet
      case rel => exact ⟨_, _, a1, k1, a2, k2, a3, k3, rfl, rfl, rfl, hHd5, by unfold TrAt; rw [HCN.out]; exact hzZ2, hqZ, hrow3⟩
    ·go_simp
     have hgT := hHeld.size
     refine hK.out _ _ (hHeld.trans ((below_alloc _ _).mono hHeld.size)) (fun hHd1 => ?_)
     first | have hz := zero_of hHd1 | have hz := zero_of' hHd1
     try simp only [World.size_alloc] at hz
     try simp only [World.size_alloc] at hgT
     try (have hq := RkAt.later hq (below_alloc _ (.cells Tryz.zeroCells62 62)))
     try (have hrow := R3.later hrow (below_alloc _ (.cells Tryz.zeroCells62 62)))
     clear hHeld
     clear hK K
     try simp only [Act.put, List.setIfInBounds_toArray, List.set_cons_zero, List.set_cons_succ]
     refine wpAnyH_ready (rs := [7, 13]) (by kernel_rfl) (by simp) ?_
     refine (AllReadyH.cons rfl (fun K hK => ?_) (AllReadyH.cons rfl (fun K hK => ?_) AllReadyH.nil))
     ·go_simp
      have hle7 := hHd1.size
      refine (hnx _ hHd1).mono ?_
      rintro r w7 ⟨⟨vl, vj, vi, rfl, hl1, hl2, hl3, -⟩, hb7⟩
      rw [HEQ.out.2.1] at hl1
      rw [HEQ.out.2.2.1] at hl2
      rw [HEQ.out.2.2.2.1] at hl3
      rw [HEQ.out.1, HEQ.out.2.2.2.2.1, HEQ.out.2.2.2.2.2, HCN.out]
      obtain ⟨a1, k1, rfl⟩ := owns_slice hl1
      obtain ⟨a2, k2, rfl⟩ := owns_slice hl2
      obtain ⟨a3, k3, rfl⟩ := owns_slice hl3
      go_wp2_with fail
      have hrow : R3 w.heap.size w7 a1 k1 a2 k2 a3 k3 lv jn li := ⟨Rs.owns_wide hl1 (Nat.le_trans HW5.out hle7), Rs.owns_wide hl2 (Nat.le_trans HW5.out hle7), Rs.owns_wide hl3 (Nat.le_trans HW5.out hle7)⟩
      try (have hz := hz.later hb7)
      try (have hq := hq.later hb7)
      refine hK.out _ _ (hHd1.trans (hb7.mono hHd1.size)) (fun hHd2 => ?_)
      clear hHd1 hb7 hl1 hl2 hl3 hle7
      clear hK K
      try simp only [Act.put, List.setIfInBounds_toArray, List.set_cons_zero, List.set_cons_succ]
      refine wpAnyH_take (i := 8) (oi := ⟨some 20, Op.move (.tmp 28), _, _, _, none⟩) (v := .tuple #[.agg cn, .agg #[.int .i64 p, .slice a1 lv.length k1, .slice a2 jn.length k2, .slice a3 li.length k3], .int .i64 E]) rfl (by kernel_rfl) (by kernel_rfl) (by kernel_rfl) (fun _ _ _ h => h) (Or.inl ⟨by rfl, fun w hSw => by (try dsimp only at hSw); go_simp⟩) (by assumption) ?_
      simp only [Act.put, List.setIfInBounds_toArray, List.set_cons_zero, List.set_cons_succ]
      refine wpAnyH_take (i := 9) (oi := ⟨some 29, Op.extract (.tmp 20) 0, _, _, _, none⟩) (v := .agg cn) rfl (by kernel_rfl) (by kernel_rfl) (by kernel_rfl) (fun _ _ _ h => h) (Or.inl ⟨by rfl, fun w hSw => by (try dsimp only at hSw); go_simp⟩) (by assumption) ?_
      simp only [Act.put, List.setIfInBounds_toArray, List.set_cons_zero, List.set_cons_succ]
      refine wpAnyH_take (i := 10) (oi := ⟨some 30, Op.extract (.tmp 20) 1, _, _, _, none⟩) (v := .agg #[.int .i64 p, .slice a1 lv.length k1, .slice a2 jn.length k2, .slice a3 li.length k3]) rfl (by kernel_rfl) (by kernel_rfl) (by kernel_rfl) (fun _ _ _ h => h) (Or.inl ⟨by rfl, fun w hSw => by (try dsimp only at hSw); go_simp⟩) (by assumption) ?_
      simp only [Act.put, List.setIfInBounds_toArray, List.set_cons_zero, List.set_cons_succ]
      refine wpAnyH_take (i := 11) (oi := ⟨some 31, Op.extract (.tmp 20) 2, _, _, _, none⟩) (v := .int .i64 E) rfl (by kernel_rfl) (by kernel_rfl) (by kernel_rfl) (fun _ _ _ h => h) (Or.inl ⟨by rfl, fun w hSw => by (try dsimp only at hSw); go_simp⟩) (by assumption) ?_
      simp only [Act.put, List.setIfInBounds_toArray, List.set_cons_zero, List.set_cons_succ]
      refine wpAnyH_ready (rs := [13]) (by kernel_rfl) (by simp) ?_
      refine AllReadyH.cons rfl (fun K hK => ?_) AllReadyH.nil
      go_simp
      have hgM := hHd2.size
      refine hK.out _ _ (hHd2.trans ((below_alloc _ _).mono hHd2.size)) (fun hHd3 => ?_)
      first | have hq := rkz_of hHd3 | have hq := rkz_of' hHd3
      try simp only [World.size_alloc] at hq
      try simp only [World.size_alloc] at hgM
      try (have hz := hz.later (below_alloc _ (.cells #[.int .i64 0, .slice none 0 0, .slice none 0 0, .slice none 0 0] 31)))
      try (have hrow := R3.later hrow (below_alloc _ (.cells #[.int .i64 0, .slice none 0 0, .slice none 0 0, .slice none 0 0] 31)))
      clear hHd2
      clear hK K
      try simp only [Act.put, List.setIfInBounds_toArray, List.set_cons_zero, List.set_cons_succ]
      refine wpAnyH_ready (rs := [14]) (by kernel_rfl) (by simp) ?_
      refine AllReadyH.cons rfl (fun Kc hK => ?_) AllReadyH.nil
      refine if_wp rfl (wp_stRow0 62 _ _ rfl _ cn rfl rfl 62 _ hz (by rw [← HCN.out, tcs_size]; exact infoT) (by rw [← HCN.out, tcs_size, tcs_size]) (by rw [← HCN.out]; exact tcs_one n) rfl ?_)
      have hTM := block_ne hz hq (by decide)
      have hzZ := Rt.heap_setRow_same hz cn
      have hq2 := (Rt.row_other (Ne.symm hTM) cn).trans hq
      have hrow2 := R3.type hrow hz (by decide) (by decide) cn
      refine hK.out _ _ (Rt.setRow_below (by first | exact hgT | omega) hHd3 _) (fun hHd4 => ?_)
      clear hHd3
      clear hK Kc
      try simp only [Act.put, List.setIfInBounds_toArray, List.set_cons_zero, List.set_cons_succ]
      refine wpAnyH_ready (rs := [15]) (by kernel_rfl) (by simp) ?_
      refine AllReadyH.cons rfl (fun Kc hK => ?_) AllReadyH.nil
      refine if_wp rfl (wp_stRow0 31 _ _ rfl _ #[.int .i64 p, .slice a1 lv.length k1, .slice a2 jn.length k2, .slice a3 li.length k3] rfl rfl 31 _ hq2 infoRk rfl (rk_one _ _ _ _ _ _ _ _ _ _) rfl ?_)
      have hqZ := Rt.heap_setRow_same hq2 #[.int .i64 p, .slice a1 lv.length k1, .slice a2 jn.length k2, .slice a3 li.length k3]
      have hzZ2 := (Rt.row_other hTM #[.int .i64 p, .slice a1 lv.length k1, .slice a2 jn.length k2, .slice a3 li.length k3]).trans hzZ
      have hrow3 := R3.type hrow2 hq2 (by decide) (by decide) #[.int .i64 p, .slice a1 lv.length k1, .slice a2 jn.length k2, .slice a3 li.length k3]
      refine hK.out _ _ (Rt.setRow_below (by first | exact hgM | omega) hHd4 _) (fun hHd5 => ?_)
      clear hK Kc
      try simp only [Act.put, List.setIfInBounds_toArray, List.set_cons_zero, List.set_cons_succ]
      refine wpAnyH_take (i := 16) (oi := ⟨some 11, Op.assign (.tmp 31), _, _, _, none⟩) (v := .int .i64 E) rfl (by kernel_rfl) (by kernel_rfl) (by kernel_rfl) (fun _ _ _ h => h) (Or.inl ⟨by rfl, fun w hSw => by (try dsimp only at hSw); go_simp⟩) (by assumption) ?_
      simp only [Act.put, List.setIfInBounds_toArray, List.set_cons_zero, List.set_cons_succ]
      refine wpAnyH_done (by kernel_rfl) ?_ _
      go_wp2_with fail
      go_meet
      case rel => exact ⟨_, _, a1, k1, a2, k2, a3, k3, rfl, rfl, rfl, hHd5, by unfold TrAt; rw [HCN.out]; exact hzZ2, hqZ, hrow3⟩
     ·go_simp
      have hgM := hHd1.size
      refine hK.out _ _ (hHd1.trans ((below_alloc _ _).mono hHd1.size)) (fun hHd2 => ?_)
      first | have hq := rkz_of hHd2 | have hq := rkz_of' hHd2
      try simp only [World.size_alloc] at hq
      try simp only [World.size_alloc] at hgM
      try (have hz := hz.later (below_alloc _ (.cells #[.int .i64 0, .slice none 0 0, .slice none 0 0, .slice none 0 0] 31)))
      try (have hrow := R3.later hrow (below_alloc _ (.cells #[.int .i64 0, .slice none 0 0, .slice none 0 0, .slice none 0 0] 31)))
      clear hHd1
      clear hK K
      try simp only [Act.put, List.setIfInBounds_toArray, List.set_cons_zero, List.set_cons_succ]
      refine wpAnyH_ready (rs := [7]) (by kernel_rfl) (by simp) ?_
      refine AllReadyH.cons rfl (fun K hK => ?_) AllReadyH.nil
      go_simp
      have hle7 := hHd2.size
      refine (hnx _ hHd2).mono ?_
      rintro r w7 ⟨⟨vl, vj, vi, rfl, hl1, hl2, hl3, -⟩, hb7⟩
      rw [HEQ.out.2.1] at hl1
      rw [HEQ.out.2.2.1] at hl2
      rw [HEQ.out.2.2.2.1] at hl3
      rw [HEQ.out.1, HEQ.out.2.2.2.2.1, HEQ.out.2.2.2.2.2, HCN.out]
      obtain ⟨a1, k1, rfl⟩ := owns_slice hl1
      obtain ⟨a2, k2, rfl⟩ := owns_slice hl2
      obtain ⟨a3, k3, rfl⟩ := owns_slice hl3
      go_wp2_with fail
      have hrow : R3 w.heap.size w7 a1 k1 a2 k2 a3 k3 lv jn li := ⟨Rs.owns_wide hl1 (Nat.le_trans HW5.out hle7), Rs.owns_wide hl2 (Nat.le_trans HW5.out hle7), Rs.owns_wide hl3 (Nat.le_trans HW5.out hle7)⟩
      try (have hz := hz.later hb7)
      try (have hq := hq.later hb7)
      refine hK.out _ _ (hHd2.trans (hb7.mono hHd2.size)) (fun hHd3 => ?_)
      clear hHd2 hb7 hl1 hl2 hl3 hle7
      clear hK K
      try simp only [Act.put, List.setIfInBounds_toArray, List.set_cons_zero, List.set_cons_succ]
      refine wpAnyH_take (i := 8) (oi := ⟨some 20, Op.move (.tmp 28), _, _, _, none⟩) (v := .tuple #[.agg cn, .agg #[.int .i64 p, .slice a1 lv.length k1, .slice a2 jn.length k2, .slice a3 li.length k3], .int .i64 E]) rfl (by kernel_rfl) (by kernel_rfl) (by kernel_rfl) (fun _ _ _ h => h) (Or.inl ⟨by rfl, fun w hSw => by (try dsimp only at hSw); go_simp⟩) (by assumption) ?_
      simp only [Act.put, List.setIfInBounds_toArray, List.set_cons_zero, List.set_cons_succ]
      refine wpAnyH_take (i := 9) (oi := ⟨some 29, Op.extract (.tmp 20) 0, _, _, _, none⟩) (v := .agg cn) rfl (by kernel_rfl) (by kernel_rfl) (by kernel_rfl) (fun _ _ _ h => h) (Or.inl ⟨by rfl, fun w hSw => by (try dsimp only at hSw); go_simp⟩) (by assumption) ?_
      simp only [Act.put, List.setIfInBounds_toArray, List.set_cons_zero, List.set_cons_succ]
      refine wpAnyH_take (i := 10) (oi := ⟨some 30, Op.extract (.tmp 20) 1, _, _, _, none⟩) (v := .agg #[.int .i64 p, .slice a1 lv.length k1, .slice a2 jn.length k2, .slice a3 li.length k3]) rfl (by kernel_rfl) (by kernel_rfl) (by kernel_rfl) (fun _ _ _ h => h) (Or.inl ⟨by rfl, fun w hSw => by (try dsimp only at hSw); go_simp⟩) (by assumption) ?_
      simp only [Act.put, List.setIfInBounds_toArray, List.set_cons_zero, List.set_cons_succ]
      refine wpAnyH_take (i := 11) (oi := ⟨some 31, Op.extract (.tmp 20) 2, _, _, _, none⟩) (v := .int .i64 E) rfl (by kernel_rfl) (by kernel_rfl) (by kernel_rfl) (fun _ _ _ h => h) (Or.inl ⟨by rfl, fun w hSw => by (try dsimp only at hSw); go_simp⟩) (by assumption) ?_
      simp only [Act.put, List.setIfInBounds_toArray, List.set_cons_zero, List.set_cons_succ]
      refine wpAnyH_ready (rs := [14]) (by kernel_rfl) (by simp) ?_
      refine AllReadyH.cons rfl (fun Kc hK => ?_) AllReadyH.nil
      refine if_wp rfl (wp_stRow0 62 _ _ rfl _ cn rfl rfl 62 _ hz (by rw [← HCN.out, tcs_size]; exact infoT) (by rw [← HCN.out, tcs_size, tcs_size]) (by rw [← HCN.out]; exact tcs_one n) rfl ?_)
      have hTM := block_ne hz hq (by decide)
      have hzZ := Rt.heap_setRow_same hz cn
      have hq2 := (Rt.row_other (Ne.symm hTM) cn).trans hq
      have hrow2 := R3.type hrow hz (by decide) (by decide) cn
      refine hK.out _ _ (Rt.setRow_below (by first | exact hgT | omega) hHd3 _) (fun hHd4 => ?_)
      clear hHd3
      clear hK Kc
      try simp only [Act.put, List.setIfInBounds_toArray, List.set_cons_zero, List.set_cons_succ]
      refine wpAnyH_ready (rs := [15]) (by kernel_rfl) (by simp) ?_
      refine AllReadyH.cons rfl (fun Kc hK => ?_) AllReadyH.nil
      refine if_wp rfl (wp_stRow0 31 _ _ rfl _ #[.int .i64 p, .slice a1 lv.length k1, .slice a2 jn.length k2, .slice a3 li.length k3] rfl rfl 31 _ hq2 infoRk rfl (rk_one _ _ _ _ _ _ _ _ _ _) rfl ?_)
      have hqZ := Rt.heap_setRow_same hq2 #[.int .i64 p, .slice a1 lv.length k1, .slice a2 jn.length k2, .slice a3 li.length k3]
      have hzZ2 := (Rt.row_other hTM #[.int .i64 p, .slice a1 lv.length k1, .slice a2 jn.length k2, .slice a3 li.length k3]).trans hzZ
      have hrow3 := R3.type hrow2 hq2 (by decide) (by decide) #[.int .i64 p, .slice a1 lv.length k1, .slice a2 jn.length k2, .slice a3 li.length k3]
      refine hK.out _ _ (Rt.setRow_below (by first | exact hgM | omega) hHd4 _) (fun hHd5 => ?_)
      clear hK Kc
      try simp only [Act.put, List.setIfInBounds_toArray, List.set_cons_zero, List.set_cons_succ]
      refine wpAnyH_take (i := 16) (oi := ⟨some 11, Op.assign (.tmp 31), _, _, _, none⟩) (v := .int .i64 E) rfl (by kernel_rfl) (by kernel_rfl) (by kernel_rfl) (fun _ _ _ h => h) (Or.inl ⟨by rfl, fun w hSw => by (try dsimp only at hSw); go_simp⟩) (by assumption) ?_
      simp only [Act.put, List.setIfInBounds_toArray, List.set_cons_zero, List.set_cons_succ]
      refine wpAnyH_done (by kernel_rfl) ?_ _
      go_wp2_with fail
      go_meet
      case rel => exact ⟨_, _, a1, k1, a2, k2, a3, k3, rfl, rfl, rfl, hHd5, by unfold TrAt; rw [HCN.out]; exact hzZ2, hqZ, hrow3⟩
    ·go_simp
     have hgM := hHeld.size
     refine hK.out _ _ (hHeld.trans ((below_alloc _ _).mono hHeld.size)) (fun hHd1 => ?_)
     first | have hq := rkz_of hHd1 | have hq := rkz_of' hHd1
     try simp only [World.size_alloc] at hq
     try simp only [World.size_alloc] at hgM
     try (have hz := hz.later (below_alloc _ (.cells #[.int .i64 0, .slice none 0 0, .slice none 0 0, .slice none 0 0] 31)))
     try (have hrow := R3.later hrow (below_alloc _ (.cells #[.int .i64 0, .slice none 0 0, .slice none 0 0, .slice none 0 0] 31)))
     clear hHeld
     clear hK K
     try simp only [Act.put, List.setIfInBounds_toArray, List.set_cons_zero, List.set_cons_succ]
     refine wpAnyH_ready (rs := [7, 12]) (by kernel_rfl) (by simp) ?_
     refine (AllReadyH.cons rfl (fun K hK => ?_) (AllReadyH.cons rfl (fun K hK => ?_) AllReadyH.nil))
     ·go_simp
      have hle7 := hHd1.size
      refine (hnx _ hHd1).mono ?_
      rintro r w7 ⟨⟨vl, vj, vi, rfl, hl1, hl2, hl3, -⟩, hb7⟩
      rw [HEQ.out.2.1] at hl1
      rw [HEQ.out.2.2.1] at hl2
      rw [HEQ.out.2.2.2.1] at hl3
      rw [HEQ.out.1, HEQ.out.2.2.2.2.1, HEQ.out.2.2.2.2.2, HCN.out]
      obtain ⟨a1, k1, rfl⟩ := owns_slice hl1
      obtain ⟨a2, k2, rfl⟩ := owns_slice hl2
      obtain ⟨a3, k3, rfl⟩ := owns_slice hl3
      go_wp2_with fail
      have hrow : R3 w.heap.size w7 a1 k1 a2 k2 a3 k3 lv jn li := ⟨Rs.owns_wide hl1 (Nat.le_trans HW5.out hle7), Rs.owns_wide hl2 (Nat.le_trans HW5.out hle7), Rs.owns_wide hl3 (Nat.le_trans HW5.out hle7)⟩
      try (have hz := hz.later hb7)
      try (have hq := hq.later hb7)
      refine hK.out _ _ (hHd1.trans (hb7.mono hHd1.size)) (fun hHd2 => ?_)
      clear hHd1 hb7 hl1 hl2 hl3 hle7
      clear hK K
      try simp only [Act.put, List.setIfInBounds_toArray, List.set_cons_zero, List.set_cons_succ]
      refine wpAnyH_take (i := 8) (oi := ⟨some 20, Op.move (.tmp 28), _, _, _, none⟩) (v := .tuple #[.agg cn, .agg #[.int .i64 p, .slice a1 lv.length k1, .slice a2 jn.length k2, .slice a3 li.length k3], .int .i64 E]) rfl (by kernel_rfl) (by kernel_rfl) (by kernel_rfl) (fun _ _ _ h => h) (Or.inl ⟨by rfl, fun w hSw => by (try dsimp only at hSw); go_simp⟩) (by assumption) ?_
      simp only [Act.put, List.setIfInBounds_toArray, List.set_cons_zero, List.set_cons_succ]
      refine wpAnyH_take (i := 9) (oi := ⟨some 29, Op.extract (.tmp 20) 0, _, _, _, none⟩) (v := .agg cn) rfl (by kernel_rfl) (by kernel_rfl) (by kernel_rfl) (fun _ _ _ h => h) (Or.inl ⟨by rfl, fun w hSw => by (try dsimp only at hSw); go_simp⟩) (by assumption) ?_
      simp only [Act.put, List.setIfInBounds_toArray, List.set_cons_zero, List.set_cons_succ]
      refine wpAnyH_take (i := 10) (oi := ⟨some 30, Op.extract (.tmp 20) 1, _, _, _, none⟩) (v := .agg #[.int .i64 p, .slice a1 lv.length k1, .slice a2 jn.length k2, .slice a3 li.length k3]) rfl (by kernel_rfl) (by kernel_rfl) (by kernel_rfl) (fun _ _ _ h => h) (Or.inl ⟨by rfl, fun w hSw => by (try dsimp only at hSw); go_simp⟩) (by assumption) ?_
      simp only [Act.put, List.setIfInBounds_toArray, List.set_cons_zero, List.set_cons_succ]
      refine wpAnyH_take (i := 11) (oi := ⟨some 31, Op.extract (.tmp 20) 2, _, _, _, none⟩) (v := .int .i64 E) rfl (by kernel_rfl) (by kernel_rfl) (by kernel_rfl) (fun _ _ _ h => h) (Or.inl ⟨by rfl, fun w hSw => by (try dsimp only at hSw); go_simp⟩) (by assumption) ?_
      simp only [Act.put, List.setIfInBounds_toArray, List.set_cons_zero, List.set_cons_succ]
      refine wpAnyH_ready (rs := [12]) (by kernel_rfl) (by simp) ?_
      refine AllReadyH.cons rfl (fun K hK => ?_) AllReadyH.nil
      go_simp
      have hgT := hHd2.size
      refine hK.out _ _ (hHd2.trans ((below_alloc _ _).mono hHd2.size)) (fun hHd3 => ?_)
      first | have hz := zero_of hHd3 | have hz := zero_of' hHd3
      try simp only [World.size_alloc] at hz
      try simp only [World.size_alloc] at hgT
      try (have hq := RkAt.later hq (below_alloc _ (.cells Tryz.zeroCells62 62)))
      try (have hrow := R3.later hrow (below_alloc _ (.cells Tryz.zeroCells62 62)))
      clear hHd2
      clear hK K
      try simp only [Act.put, List.setIfInBounds_toArray, List.set_cons_zero, List.set_cons_succ]
      refine wpAnyH_ready (rs := [14]) (by kernel_rfl) (by simp) ?_
      refine AllReadyH.cons rfl (fun Kc hK => ?_) AllReadyH.nil
      refine if_wp rfl (wp_stRow0 62 _ _ rfl _ cn rfl rfl 62 _ hz (by rw [← HCN.out, tcs_size]; exact infoT) (by rw [← HCN.out, tcs_size, tcs_size]) (by rw [← HCN.out]; exact tcs_one n) rfl ?_)
      have hTM := block_ne hz hq (by decide)
      have hzZ := Rt.heap_setRow_same hz cn
      have hq2 := (Rt.row_other (Ne.symm hTM) cn).trans hq
      have hrow2 := R3.type hrow hz (by decide) (by decide) cn
      refine hK.out _ _ (Rt.setRow_below (by first | exact hgT | omega) hHd3 _) (fun hHd4 => ?_)
      clear hHd3
      clear hK Kc
      try simp only [Act.put, List.setIfInBounds_toArray, List.set_cons_zero, List.set_cons_succ]
      refine wpAnyH_ready (rs := [15]) (by kernel_rfl) (by simp) ?_
      refine AllReadyH.cons rfl (fun Kc hK => ?_) AllReadyH.nil
      refine if_wp rfl (wp_stRow0 31 _ _ rfl _ #[.int .i64 p, .slice a1 lv.length k1, .slice a2 jn.length k2, .slice a3 li.length k3] rfl rfl 31 _ hq2 infoRk rfl (rk_one _ _ _ _ _ _ _ _ _ _) rfl ?_)
      have hqZ := Rt.heap_setRow_same hq2 #[.int .i64 p, .slice a1 lv.length k1, .slice a2 jn.length k2, .slice a3 li.length k3]
      have hzZ2 := (Rt.row_other hTM #[.int .i64 p, .slice a1 lv.length k1, .slice a2 jn.length k2, .slice a3 li.length k3]).trans hzZ
      have hrow3 := R3.type hrow2 hq2 (by decide) (by decide) #[.int .i64 p, .slice a1 lv.length k1, .slice a2 jn.length k2, .slice a3 li.length k3]
      refine hK.out _ _ (Rt.setRow_below (by first | exact hgM | omega) hHd4 _) (fun hHd5 => ?_)
      clear hK Kc
      try simp only [Act.put, List.setIfInBounds_toArray, List.set_cons_zero, List.set_cons_succ]
      refine wpAnyH_take (i := 16) (oi := ⟨some 11, Op.assign (.tmp 31), _, _, _, none⟩) (v := .int .i64 E) rfl (by kernel_rfl) (by kernel_rfl) (by kernel_rfl) (fun _ _ _ h => h) (Or.inl ⟨by rfl, fun w hSw => by (try dsimp only at hSw); go_simp⟩) (by assumption) ?_
      simp only [Act.put, List.setIfInBounds_toArray, List.set_cons_zero, List.set_cons_succ]
      refine wpAnyH_done (by kernel_rfl) ?_ _
      go_wp2_with fail
      go_meet
      case rel => exact ⟨_, _, a1, k1, a2, k2, a3, k3, rfl, rfl, rfl, hHd5, by unfold TrAt; rw [HCN.out]; exact hzZ2, hqZ, hrow3⟩
     ·go_simp
      have hgT := hHd1.size
      refine hK.out _ _ (hHd1.trans ((below_alloc _ _).mono hHd1.size)) (fun hHd2 => ?_)
      first | have hz := zero_of hHd2 | have hz := zero_of' hHd2
      try simp only [World.size_alloc] at hz
      try simp only [World.size_alloc] at hgT
      try (have hq := RkAt.later hq (below_alloc _ (.cells Tryz.zeroCells62 62)))
      try (have hrow := R3.later hrow (below_alloc _ (.cells Tryz.zeroCells62 62)))
      clear hHd1
      clear hK K
      try simp only [Act.put, List.setIfInBounds_toArray, List.set_cons_zero, List.set_cons_succ]
      refine wpAnyH_ready (rs := [7]) (by kernel_rfl) (by simp) ?_
      refine AllReadyH.cons rfl (fun K hK => ?_) AllReadyH.nil
      go_simp
      have hle7 := hHd2.size
      refine (hnx _ hHd2).mono ?_
      rintro r w7 ⟨⟨vl, vj, vi, rfl, hl1, hl2, hl3, -⟩, hb7⟩
      rw [HEQ.out.2.1] at hl1
      rw [HEQ.out.2.2.1] at hl2
      rw [HEQ.out.2.2.2.1] at hl3
      rw [HEQ.out.1, HEQ.out.2.2.2.2.1, HEQ.out.2.2.2.2.2, HCN.out]
      obtain ⟨a1, k1, rfl⟩ := owns_slice hl1
      obtain ⟨a2, k2, rfl⟩ := owns_slice hl2
      obtain ⟨a3, k3, rfl⟩ := owns_slice hl3
      go_wp2_with fail
      have hrow : R3 w.heap.size w7 a1 k1 a2 k2 a3 k3 lv jn li := ⟨Rs.owns_wide hl1 (Nat.le_trans HW5.out hle7), Rs.owns_wide hl2 (Nat.le_trans HW5.out hle7), Rs.owns_wide hl3 (Nat.le_trans HW5.out hle7)⟩
      try (have hz := hz.later hb7)
      try (have hq := hq.later hb7)
      refine hK.out _ _ (hHd2.trans (hb7.mono hHd2.size)) (fun hHd3 => ?_)
      clear hHd2 hb7 hl1 hl2 hl3 hle7
      clear hK K
      try simp only [Act.put, List.setIfInBounds_toArray, List.set_cons_zero, List.set_cons_succ]
      refine wpAnyH_take (i := 8) (oi := ⟨some 20, Op.move (.tmp 28), _, _, _, none⟩) (v := .tuple #[.agg cn, .agg #[.int .i64 p, .slice a1 lv.length k1, .slice a2 jn.length k2, .slice a3 li.length k3], .int .i64 E]) rfl (by kernel_rfl) (by kernel_rfl) (by kernel_rfl) (fun _ _ _ h => h) (Or.inl ⟨by rfl, fun w hSw => by (try dsimp only at hSw); go_simp⟩) (by assumption) ?_
      simp only [Act.put, List.setIfInBounds_toArray, List.set_cons_zero, List.set_cons_succ]
      refine wpAnyH_take (i := 9) (oi := ⟨some 29, Op.extract (.tmp 20) 0, _, _, _, none⟩) (v := .agg cn) rfl (by kernel_rfl) (by kernel_rfl) (by kernel_rfl) (fun _ _ _ h => h) (Or.inl ⟨by rfl, fun w hSw => by (try dsimp only at hSw); go_simp⟩) (by assumption) ?_
      simp only [Act.put, List.setIfInBounds_toArray, List.set_cons_zero, List.set_cons_succ]
      refine wpAnyH_take (i := 10) (oi := ⟨some 30, Op.extract (.tmp 20) 1, _, _, _, none⟩) (v := .agg #[.int .i64 p, .slice a1 lv.length k1, .slice a2 jn.length k2, .slice a3 li.length k3]) rfl (by kernel_rfl) (by kernel_rfl) (by kernel_rfl) (fun _ _ _ h => h) (Or.inl ⟨by rfl, fun w hSw => by (try dsimp only at hSw); go_simp⟩) (by assumption) ?_
      simp only [Act.put, List.setIfInBounds_toArray, List.set_cons_zero, List.set_cons_succ]
      refine wpAnyH_take (i := 11) (oi := ⟨some 31, Op.extract (.tmp 20) 2, _, _, _, none⟩) (v := .int .i64 E) rfl (by kernel_rfl) (by kernel_rfl) (by kernel_rfl) (fun _ _ _ h => h) (Or.inl ⟨by rfl, fun w hSw => by (try dsimp only at hSw); go_simp⟩) (by assumption) ?_
      simp only [Act.put, List.setIfInBounds_toArray, List.set_cons_zero, List.set_cons_succ]
      refine wpAnyH_ready (rs := [14]) (by kernel_rfl) (by simp) ?_
      refine AllReadyH.cons rfl (fun Kc hK => ?_) AllReadyH.nil
      refine if_wp rfl (wp_stRow0 62 _ _ rfl _ cn rfl rfl 62 _ hz (by rw [← HCN.out, tcs_size]; exact infoT) (by rw [← HCN.out, tcs_size, tcs_size]) (by rw [← HCN.out]; exact tcs_one n) rfl ?_)
      have hTM := block_ne hz hq (by decide)
      have hzZ := Rt.heap_setRow_same hz cn
      have hq2 := (Rt.row_other (Ne.symm hTM) cn).trans hq
      have hrow2 := R3.type hrow hz (by decide) (by decide) cn
      refine hK.out _ _ (Rt.setRow_below (by first | exact hgT | omega) hHd3 _) (fun hHd4 => ?_)
      clear hHd3
      clear hK Kc
      try simp only [Act.put, List.setIfInBounds_toArray, List.set_cons_zero, List.set_cons_succ]
      refine wpAnyH_ready (rs := [15]) (by kernel_rfl) (by simp) ?_
      refine AllReadyH.cons rfl (fun Kc hK => ?_) AllReadyH.nil
      refine if_wp rfl (wp_stRow0 31 _ _ rfl _ #[.int .i64 p, .slice a1 lv.length k1, .slice a2 jn.length k2, .slice a3 li.length k3] rfl rfl 31 _ hq2 infoRk rfl (rk_one _ _ _ _ _ _ _ _ _ _) rfl ?_)
      have hqZ := Rt.heap_setRow_same hq2 #[.int .i64 p, .slice a1 lv.length k1, .slice a2 jn.length k2, .slice a3 li.length k3]
      have hzZ2 := (Rt.row_other hTM #[.int .i64 p, .slice a1 lv.length k1, .slice a2 jn.length k2, .slice a3 li.length k3]).trans hzZ
      have hrow3 := R3.type hrow2 hq2 (by decide) (by decide) #[.int .i64 p, .slice a1 lv.length k1, .slice a2 jn.length k2, .slice a3 li.length k3]
      refine hK.out _ _ (Rt.setRow_below (by first | exact hgM | omega) hHd4 _) (fun hHd5 => ?_)
      clear hK Kc
      try simp only [Act.put, List.setIfInBounds_toArray, List.set_cons_zero, List.set_cons_succ]
      refine wpAnyH_take (i := 16) (oi := ⟨some 11, Op.assign (.tmp 31), _, _, _, none⟩) (v := .int .i64 E) rfl (by kernel_rfl) (by kernel_rfl) (by kernel_rfl) (fun _ _ _ h => h) (Or.inl ⟨by rfl, fun w hSw => by (try dsimp only at hSw); go_simp⟩) (by assumption) ?_
      simp only [Act.put, List.setIfInBounds_toArray, List.set_cons_zero, List.set_cons_succ]
      refine wpAnyH_done (by kernel_rfl) ?_ _
      go_wp2_with fail
      go_meet
      case rel => exact ⟨_, _, a1, k1, a2, k2, a3, k3, rfl, rfl, rfl, hHd5, by unfold TrAt; rw [HCN.out]; exact hzZ2, hqZ, hrow3⟩
   case rest =>
    obtain ⟨T, M, a1, k1, a2, k2, a3, k3, rfl, rfl, rfl, hbc, hT, hM, hrow⟩ := hcut
    have HS6 : Hid (SS w wc (.slice (some ⟨g, 0, none⟩) NT cr) (.slice ax ms.length cs) ts bs ms) := HS5.out.later hbc
    have HMS : Hid (MsgAt w wc #[.int .i64 p, .slice a1 lv.length k1, .slice a2 jn.length k2, .slice a3 li.length k3] (p, (lv, (jn, li)))) := ⟨a1, a2, a3, k1, k2, k3, rfl, hrow⟩
    have HRK : Hid (RkAt wc M #[.int .i64 p, .slice a1 lv.length k1, .slice a2 jn.length k2, .slice a3 li.length k3]) := hM
    have HTT : Hid (TrAt wc T n) := hT
    clear hbc hT hM hrow HS5 HTR hnx HBT
    by_cases hE0 : E = 0
    ·have hd : (E != 0) = false := by simp [hE0]
     obtain ⟨en, ei⟩ := HOK.out hE0
     have HRN : Hid (runS (l.take (k + 1)) = (ts ++ [n], bs ++ [(L, J)])) := by unfold Hid; rw [HTK.out, HR1.out, if_pos hE0, en]
     have HEN : Hid (n = nx (lastT ts) L J ∧ (p, (lv, (jn, li))) = mS (lastT ts) (L, J)) := by rw [HLT.out]; exact ⟨en, ei⟩
     clear hE0 en ei HOK
     have hrr : wc.ownsRow w.heap.size 62 236 (.slice (some ⟨g, 0, none⟩) NT cr) NT (trl ts) := by have h := HS6.out.rr; rw [HNT.out] at h; exact h
     have hbs := HS6.out.bel.size
     have hTt := HTT.out
     have hc236 : cn.toList.length = 1 * 236 := by rw [Array.length_toList, ← HCN.out, tcs_size]
     have hc1 : ∀ u ∈ cn.toList, u.oneCell' = true := fun u hu => by
      have := tcs_one n
      rw [HCN.out, Array.all_eq_true'] at this
      exact this u (Array.mem_toList_iff.1 hu)
     go_upto_region 9 with (first
      | (refine rdT hTt HCN.out _ rfl rfl rfl ?_)
      | (refine bsT HCN.out rfl _ rfl rfl ?_)
      | (at_builtin; (refine wpList_append_own _ rfl _ _ 24 rfl w.heap.size 62 it (.agg (tcs (tz 0))) 236 1888 Tryz.underlying24 hti htz hts htb (by show (tcs (tz 0)).size = 236; exact tcs_size _) (by decide) (.slice (some ⟨g, 0, none⟩) NT cr) NT (trl ts) rfl (hrr.alloc _) ⟨wc.heap.size, 0, none⟩ 1 1 cn.toList rfl hc236 (cell_row_new _ _ _) hc1 (by unfold maxLen; omega) (by omega) (by simp; omega) ?_); intro v1 w8 hown1 hg1 _; have HO1 : Hid (w8.ownsRow w.heap.size 62 236 v1 (NT + 1) (trl ts ++ cn.toList)) := hown1; have HG1 : Hid ((wc.alloc (.cells cn 62)).grownBy w8 (Value.slice (some ⟨g, 0, none⟩) NT cr).ownBlock) := hg1; have HR8 : Hid (RkAt w8 M #[.int .i64 p, .slice a1 lv.length k1, .slice a2 jn.length k2, .slice a3 li.length k3]) := grown_type (hrr.alloc _) hg1 (row_later HRK.out (below_alloc _ _)) (by decide); clear hown1 hg1))
     clear hTt HTT HRK hc236 hc1
     have rs0 := (HS6.out.later (below_alloc wc (.cells cn 62))).rs
     have hrs : w8.ownsRow w.heap.size 31 4 (.slice ax ms.length cs) ms.length (rkl ms) := own_other rs0 fun g' hgj => HG1.out.block g' (own_ge rs0 hgj).2 (fun e => own_ne2 (hrr.alloc _) rs0 (by decide) hgj e.symm)
     have hb8 : w.heap.size ≤ w8.heap.size := by have h1 := HG1.out.size; simp at h1; omega
     have hml : ms.length ≤ 300 := by have h1 := HS6.out.ml; have h2 := HROW.out.len; have h3 := HNT.out; omega
     obtain ⟨x0, x1, x2, x3⟩ := HR8.out.cells
     obtain ⟨g1, c1, rfl⟩ := owns_slice HO1.out
     clear rs0
     go_upto_region 10 with (at_builtin; (refine wpList_append_own _ rfl _ _ 25 rfl w.heap.size 31 ik (.agg #[.int .i64 0, .slice none 0 0, .slice none 0 0, .slice none 0 0]) 4 80 Tryz.underlying25 hki hkz hks hkb rfl (by decide) (.slice ax ms.length cs) ms.length (rkl ms) rfl (hrs.alloc _) ⟨w8.heap.size, 0, none⟩ 1 1 [.int .i64 p, .slice a1 lv.length k1, .slice a2 jn.length k2, .slice a3 li.length k3] rfl rfl (cell_row_new _ #[.int .i64 p, .slice a1 lv.length k1, .slice a2 jn.length k2, .slice a3 li.length k3] _) (by simp [Value.oneCell']) (by unfold maxLen; omega) (by omega) (by simp; omega) ?_); intro v2 w9 hown2 hg2 _; have HO2 : Hid (w9.ownsRow w.heap.size 31 4 v2 (ms.length + 1) (rkl ms ++ [.int .i64 p, .slice a1 lv.length k1, .slice a2 jn.length k2, .slice a3 li.length k3])) := hown2; have HG2 : Hid ((w8.alloc (.cells #[.int .i64 p, .slice a1 lv.length k1, .slice a2 jn.length k2, .slice a3 li.length k3] 31)).grownBy w9 (Value.slice ax ms.length cs).ownBlock) := hg2; clear hown2 hg2)
     have HSF : Hid (SS w w9 (.slice g1 (NT + 1) c1) v2 (ts ++ [n]) (bs ++ [(L, J)]) (ms ++ [#[.int .i64 p, .slice a1 lv.length k1, .slice a2 jn.length k2, .slice a3 li.length k3]])) := by
      have hm' : MsgAt w (wc.alloc (.cells cn 62)) #[.int .i64 p, .slice a1 lv.length k1, .slice a2 jn.length k2, .slice a3 li.length k3] (mS (lastT ts) (L, J)) := by
       have h := HMS.out.later (below_alloc wc (.cells cn 62))
       have e2 := HEN.out.2
       rw [← e2]
       exact h
      have ho1 : w8.ownsRow w.heap.size 62 236 (.slice g1 (NT + 1) c1) (ts.length + 1) (trl ts ++ (tcs n).toList) := by
       rw [HNT.out, HCN.out]
       exact HO1.out
      have h6 := HS6.out.later (below_alloc wc (.cells cn 62))
      exact SS.app h6 HROW.out (b := (L, J)) ho1 HG1.out HO2.out HG2.out hm' HEN.out.1
     clear HO1 HG1 HO2 HG2 HMS HS6 HR8 hrs hrr x0 x1 x2 x3
     go_wp2_with fail
     go_roundw
     case rel => exact ⟨k + 1, _, _, _, by omega, by go_num, rfl, rfl, by rw [HRN.out]; exact HSF.out⟩
     case measure => simp [intOf]; omega
    ·have hd : (E != 0) = true := by simpa using hE0
     have HRN : Hid (runS (l.take (k + 1)) = (ts, bs)) := by unfold Hid; rw [HTK.out, HR1.out, if_neg hE0]
     clear hE0
     go_wp2_with fail
     go_roundw
     case rel => exact ⟨k + 1, _, _, ms, by omega, by go_num, rfl, rfl, by rw [HRN.out]; exact HS6.out⟩
     case measure => simp [intOf]; omega
  ·obtain rfl : k = l.length := by omega
   have hdk : decide ((l.length : Int) < (l.length : Int)) = false := by simp
   rw [List.take_length] at HS HROW
   obtain ⟨ar, cr, rfl⟩ := owns_slice HS.out.rr
   have hrr := rRight_any ar cr (runS l).1 wr (by have := HROW.out.le; omega) (owns_rdR HS.out.rr) HROW.out.right
   obtain ⟨NT, hNT⟩ : ∃ n, (runS l).1.length = n := ⟨_, rfl⟩
   have HNT : Hid ((runS l).1.length = NT) := hNT
   rw [hNT] at hrr ⊢
   clear hNT
   go_wp2_with fail
   refine hrr.mono ?_
   rintro r w9 ⟨rfl, hb9⟩
   go_wp2_with fail
   refine bodyPost_ret (results_ttt (p := 2) (q := 3) (r := 4) rfl _ _) rfl ?_
   refine ⟨_, _, ms, rfl, ?_⟩
   have h := HS.out.later hb9
   rw [HNT.out] at h
   exact h
theorem rkl_get : ∀ (ms : List (Array Value)) (i k : Nat), (∀ j, j < ms.length → (ms.getD j #[]).size = 4) → i < ms.length → k < 4 → (rkl ms)[i * 4 + k]? = (ms.getD i #[])[k]?
 | [], i, k, _, hi, _ => by cases hi
 | x :: l, 0, k, hs, _, hk => by
  have h0 := hs 0 (by simp)
  have e : rkl (x :: l) = x.toList ++ rkl l := rfl
  have hx : x.size = 4 := h0
  rw [e, Nat.zero_mul, Nat.zero_add, List.getElem?_append_left (by rw [Array.length_toList, hx]; exact hk)]
  simp
 | x :: l, i + 1, k, hs, hi, hk => by
  have h0 := hs 0 (by simp)
  have hx : x.size = 4 := h0
  have e : rkl (x :: l) = x.toList ++ rkl l := rfl
  rw [e, List.getElem?_append_right (by rw [Array.length_toList, hx]; omega), Array.length_toList, hx, show (i + 1) * 4 + k - 4 = i * 4 + k by omega, rkl_get l i k (fun j hj => hs (j + 1) (by simpa using hj)) (by simpa using hi) hk]
  rfl
section
variable {w W W' : World} {vr vs v' : Value} {ts : List Tr} {bs : List (List Int × List Int)} {ms : List (Array Value)}
theorem SS.msg {ax : Option Addr} {cs : Nat} (h : SS w W vr (.slice ax ms.length cs) ts bs ms) {i : Nat} (hi : i < ms.length) : ∃ g a1 a2 a3 k1 k2 k3, ax = some ⟨g, 0, none⟩ ∧ W.cell? ⟨g, i * 4, none⟩ = some (.int .i64 (mB ts bs i).1) ∧ W.cell? ⟨g, i * 4 + 1, none⟩ = some (.slice a1 (mB ts bs i).2.1.length k1) ∧ W.cell? ⟨g, i * 4 + 2, none⟩ = some (.slice a2 (mB ts bs i).2.2.1.length k2) ∧ W.cell? ⟨g, i * 4 + 3, none⟩ = some (.slice a3 (mB ts bs i).2.2.2.length k3) ∧ R3 w.heap.size W a1 k1 a2 k2 a3 k3 (mB ts bs i).2.1 (mB ts bs i).2.2.1 (mB ts bs i).2.2.2 := by
 obtain ⟨a1, a2, a3, k1, k2, k3, e, hr⟩ := h.it i hi
 have hsz : ∀ j, j < ms.length → (ms.getD j #[]).size = 4 := fun j hj => by
  obtain ⟨a1, a2, a3, k1, k2, k3, e, _⟩ := h.it j hj
  rw [e]
  rfl
 rcases h.rs.2 with ⟨_, h0⟩ | ⟨g, cap', cur, e2, h3, h4, h5, h6, h7, h8⟩
 ·omega
 ·simp at e2
  obtain ⟨rfl, rfl⟩ := e2
  have cell : ∀ k v, k < 4 → (ms.getD i #[])[k]? = some v → W.cell? ⟨g, i * 4 + k, none⟩ = some v := fun k v hk hv => by
   rw [cell_of_row W g _ _ _ _ h4, ← hv, ← rkl_get ms i k hsz hi hk, ← h8, List.getElem?_take_of_lt (by omega)]
   simp
  refine ⟨g, a1, a2, a3, k1, k2, k3, rfl, cell 0 _ (by omega) ?_, cell 1 _ (by omega) ?_, cell 2 _ (by omega) ?_, cell 3 _ (by omega) ?_, hr⟩
  all_goals rw [e]; rfl
end
theorem live12 : plE stT [] [1, 2] = 0 ∧ (its (nx stT [] [1, 2]) (plR stT []) (jns stT [] [1, 2])).length = 6 := by decide +kernel
theorem live12_run : runS [([], [1, 2])] = ([stT, nx stT [] [1, 2]], [([], [1, 2])]) := by
 show run1 ([stT], []) ([], [1, 2]) = _
 unfold run1
 have e : lastT ([stT], ([] : List (List Int × List Int))).1 = stT := rfl
 rw [e, if_pos live12.1]
 rfl
set_option maxRecDepth 100000 in
set_option maxHeartbeats 1000000 in
theorem lives12_any (w : World) (hTb : Tb w) : Calls Tryz.prog 4 #[] w fun e w' => e = .returned (.bool true) ∧ Below w.heap.size w w' := by
 have hst : Calls Tryz.prog 5 #[.slice (some ⟨w.heap.size + 1, 0, none⟩) 1 1] ((w.alloc (.cells #[.int .i64 1, .int .i64 2] 3)).alloc (.cells #[.slice none 0 0, .slice (some ⟨w.heap.size, 0, none⟩) 2 2] 54)) fun e w' => StepsP ((w.alloc (.cells #[.int .i64 1, .int .i64 2] 3)).alloc (.cells #[.slice none 0 0, .slice (some ⟨w.heap.size, 0, none⟩) 2 2] 54)) w' [([], [1, 2])] e := by
  have b1 := below_alloc w (.cells #[.int .i64 1, .int .i64 2] 3)
  have b2 := below_alloc (w.alloc (.cells #[.int .i64 1, .int .i64 2] 3)) (.cells #[.slice none 0 0, .slice (some ⟨w.heap.size, 0, none⟩) 2 2] 54)
  have c1 : (w.alloc (.cells #[.int .i64 1, .int .i64 2] 3)).heap[w.heap.size]? = some (.cells #[.int .i64 1, .int .i64 2] 3 (0, 0)) := heap_alloc_last w _
  have c2 := heap_alloc_last (w.alloc (.cells #[.int .i64 1, .int .i64 2] 3)) (.cells #[.slice none 0 0, .slice (some ⟨w.heap.size, 0, none⟩) 2 2] 54)
  have c3 := (b2.block w.heap.size (Array.getElem?_eq_some_iff.1 c1).1).trans c1
  rw [World.size_alloc] at c2
  refine steps_any (some ⟨w.heap.size + 1, 0, none⟩) 1 [([], [1, 2])] _ ((hTb.later b1).later b2) (by simp) (fun i hi => ?_) (fun i hi => ?_)
  ·obtain rfl : i = 0 := by simp at hi; omega
   simp
  ·obtain rfl : i = 0 := by simp at hi; omega
   refine ⟨w.heap.size + 1, 0, none, 0, some ⟨w.heap.size, 0, none⟩, 2, rfl, (cell_of_row _ _ _ _ _ _ c2).trans rfl, (cell_of_row _ _ _ _ _ _ c2).trans rfl, fun j hj => (by cases hj), fun j hj => ?_⟩
   have : j = 0 ∨ j = 1 := by simp at hj; omega
   rcases this with rfl | rfl
   ·exact ⟨_, _, rfl, (cell_of_row _ _ _ _ _ _ c3).trans rfl⟩
   ·exact ⟨_, _, rfl, (cell_of_row _ _ _ _ _ _ c3).trans rfl⟩
 have HB0 : Hid (Below w.heap.size w ((w.alloc (.cells #[.int .i64 1, .int .i64 2] 3)).alloc (.cells #[.slice none 0 0, .slice (some ⟨w.heap.size, 0, none⟩) 2 2] 54))) := (below_alloc _ _).trans ((below_alloc _ _).mono (below_alloc _ _).size)
 go_enter Tryz.func4, Tryz.ntmps4
 go_wp2_with fail
 refine hst.mono ?_
 rintro e w3 ⟨vr, vs, ms, rfl, hss⟩
 rw [live12_run] at hss
 have hml := hss.ml
 obtain ⟨ar, cr, rfl⟩ := owns_slice hss.rr
 obtain ⟨ax, cs, rfl⟩ := owns_slice hss.rs
 obtain ⟨g, a1, a2, a3, k1, k2, k3, rfl, x0, x1, x2, x3, hrow⟩ := hss.msg (i := 0) (by rw [hml]; simp)
 have e6 : (mB [stT, nx stT [] [1, 2] ] [([], [1, 2])] 0).2.2.2.length = 6 := live12.2
 rw [e6] at x3
 have HB3 : Hid (Below w.heap.size w w3) := HB0.out.trans (hss.bel.mono HB0.out.size)
 have e1 : ms.length = 1 := hml
 have e2 : [stT, nx stT [] [1, 2] ].length = 2 := rfl
 rw [e1, e2]
 clear hss hst HB0 hml hrow e6
 generalize (mB [stT, nx stT [] [1, 2] ] [([], [1, 2])] 0).1 = y0 at *
 generalize (mB [stT, nx stT [] [1, 2] ] [([], [1, 2])] 0).2.1.length = y1 at *
 generalize (mB [stT, nx stT [] [1, 2] ] [([], [1, 2])] 0).2.2.1.length = y2 at *
 go_wp2_with fail
 go_ret
 exact ⟨rfl, HB3.out⟩
end Go.Proofs.YtdkfifnhmfbagaaGreatDoor
