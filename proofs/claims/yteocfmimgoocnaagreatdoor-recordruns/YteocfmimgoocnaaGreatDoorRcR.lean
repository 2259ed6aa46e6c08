/- Records of a run: the trees that batches lead to, the texts of their records; a log and its trees in memory. -/
import Derived.Test.YteocfmimgoocnaaGreatDoorPlV1
import Derived.Test.YteocfmimgoocnaaGreatDoorPlW0
import Derived.Test.YteocfmimgoocnaaGreatDoorRcN
namespace Go.Proofs.YteocfmimgoocnaaGreatDoor.Rc
open Go.ChangeShapes Go.WideShapes Go.ChangeAt Go.RowKit Go.Maps Go.Shelf
open Rs (Slot own_set own_ge own_ne own_other ps RdI i64s row_frozen grown_bel owns_later adl)
set_option linter.unusedVariables false
set_option linter.unusedSimpArgs false

theorem step_rgt {t : Tr} {L J : List Int} (h : plE t L J = 0) : rgt (pnT t L J).ep (pnT t L J).fr L (pnJ t L J) = true := by
  have hs := plE_stp h
  have hr := hs.right
  have e0 := hs.rt.e0
  have hT : pnT t L J = nx t L J := by unfold pnT; rw [if_pos h]
  have hj : pnJ t L J = adl (Rs.mvT t.ro L J) J J.length := by unfold pnJ; rw [if_pos h]; rfl
  have hJ := pnJ_len t L J
  have wk : ∀ x : Int, Rs.wok x = true → who x = true := fun x hx => by
    rw [who_iff]
    unfold Rs.wok at hx
    simp at hx
    omega
  rw [hT]
  refine rgt_iff.2 ⟨by show 1 ≤ t.ep + 1; omega, hr.e1, hr.f0, hr.f1, hs.fit.lenL, hJ, fun x hx => ?_, fun p hp => ?_⟩
  · obtain ⟨k, hk, e⟩ := List.getElem_of_mem hx
    have q := (hs.fit.lv k hk).1
    rw [List.getD_eq_getElem?_getD, List.getElem?_eq_getElem hk] at q
    rw [← e]
    exact wk _ q
  · rw [hj] at hp
    obtain ⟨k, hk, e⟩ := List.getElem_of_mem hp
    have hk' : k < J.length := by simpa using hk
    have q := Rs.adl_get (Rs.mvT t.ro L J) J J.length hk'
    rw [List.getD_eq_getElem?_getD, List.getElem?_eq_getElem hk] at q
    have q2 : p = (J.getD k 0, (((Rs.mvT t.ro L J).getD k 0 : Nat) : Int)) := by rw [← e]; exact q
    have q3 := (hs.fit.slots (sc := 0) (bs := 1) (by omega) hk').lt
    have q4 := who_iff.1 (wk _ (hs.fit.jn k hk').1)
    rw [q2]
    exact sea_iff.2 ⟨q4, by dsimp only; omega, by dsimp only; omega⟩
/- The row on plain data. -/
def lastT (ts : List Tr) : Tr := ts.getD (ts.length - 1) (tz 0)
structure RowB (ts : List Tr) (bs : List (List Int × List Int)) : Prop where
  len : ts.length = bs.length + 1
  st : ts.getD 0 (tz 0) = stT
  stp : ∀ i, i < bs.length → Stp (ts.getD i (tz 0)) (bs.getD i ([], [])).1 (bs.getD i ([], [])).2 ∧ ts.getD (i + 1) (tz 0) = nx (ts.getD i (tz 0)) (bs.getD i ([], [])).1 (bs.getD i ([], [])).2
  ze : ∀ i, i < bs.length → plE (ts.getD i (tz 0)) (bs.getD i ([], [])).1 (bs.getD i ([], [])).2 = 0
theorem getD_app {α : Type} {l : List α} {x d : α} {i : Nat} (h : i < l.length) : (l ++ [x]).getD i d = l.getD i d := by
  rw [List.getD_eq_getElem?_getD, List.getElem?_append_left h, ← List.getD_eq_getElem?_getD]
theorem getD_end {α : Type} {l : List α} {x d : α} : (l ++ [x]).getD l.length d = x := by
  rw [List.getD_eq_getElem?_getD, List.getElem?_append_right (Nat.le_refl _)]
  simp
theorem RowB.zero : RowB [stT] [] := ⟨rfl, rfl, fun i hi => (by cases hi), fun i hi => (by cases hi)⟩
theorem last_app (ts : List Tr) (n : Tr) : lastT (ts ++ [n]) = n := by
  unfold lastT
  rw [List.length_append, List.length_singleton, Nat.add_sub_cancel, getD_end]
theorem RowB.last {ts : List Tr} {bs : List (List Int × List Int)} (h : RowB ts bs) : lastT ts = ts.getD bs.length (tz 0) := by unfold lastT; rw [h.len]; rfl
theorem RowB.snoc {ts : List Tr} {bs : List (List Int × List Int)} (h : RowB ts bs) {b : List Int × List Int} (hs : plE (lastT ts) b.1 b.2 = 0) : RowB (ts ++ [nx (lastT ts) b.1 b.2]) (bs ++ [b]) := by
  have hl := h.len
  have e1 := h.last
  refine ⟨by simp; omega, by rw [getD_app (by omega)]; exact h.st, fun i hi => ?_, fun i hi => ?_⟩
  all_goals rw [List.length_append, List.length_singleton] at hi
  all_goals rcases Nat.lt_or_ge i bs.length with c | c
  · rw [getD_app (show i < ts.length by omega), getD_app (show i < bs.length from c), getD_app (show i + 1 < ts.length by omega)]
    exact h.stp i c
  · obtain rfl : i = bs.length := by omega
    rw [getD_app (by omega), getD_end, ← e1]
    refine ⟨plE_stp hs, ?_⟩
    rw [show bs.length + 1 = ts.length by omega, getD_end]
  · rw [getD_app (show i < ts.length by omega), getD_app (show i < bs.length from c)]
    exact h.ze i c
  · obtain rfl : i = bs.length := by omega
    rw [getD_app (by omega), getD_end, ← e1]
    exact hs
theorem st_ok : tck stT = true := by decide +kernel
theorem RowB.ep {ts : List Tr} {bs : List (List Int × List Int)} (h : RowB ts bs) : ∀ i, i ≤ bs.length → (ts.getD i (tz 0)).ep = (i : Int)
  | 0, _ => by rw [h.st]; rfl
  | i + 1, hi => by
    rw [(h.stp i (by omega)).2]
    show (ts.getD i (tz 0)).ep + 1 = _
    rw [h.ep i (by omega)]
    omega
theorem RowB.le {ts : List Tr} {bs : List (List Int × List Int)} (h : RowB ts bs) : bs.length ≤ 200 := by
  rcases Nat.eq_zero_or_pos bs.length with h0 | h0
  · omega
  · have h1 := (h.stp (bs.length - 1) (by omega)).1.ep
    rw [h.ep (bs.length - 1) (by omega)] at h1
    omega
/- The texts. -/
def lg (t : Tr) (b : List Int × List Int) : ByteArray := wrS (pnT t b.1 b.2).ep (pnT t b.1 b.2).fr b.1 (pnJ t b.1 b.2)
def lgs (ns : List Tr) (bs : List (List Int × List Int)) : List ByteArray := (List.range bs.length).map fun i => lg ((stT :: ns).getD i (tz 0)) (bs.getD i ([], []))
@[simp] theorem lgs_len (ns : List Tr) (bs : List (List Int × List Int)) : (lgs ns bs).length = bs.length := by simp [lgs]
theorem lgs_get (ns : List Tr) (bs : List (List Int × List Int)) {i : Nat} (h : i < bs.length) : (lgs ns bs)[i]? = some (lg ((stT :: ns).getD i (tz 0)) (bs.getD i ([], []))) := by simp [lgs, h]
theorem lgs_snoc {ns : List Tr} {bs : List (List Int × List Int)} (h : RowB (stT :: ns) bs) (n : Tr) (b : List Int × List Int) : lgs (ns ++ [n]) (bs ++ [b]) = lgs ns bs ++ [lg (lastT (stT :: ns)) b] := by
  have hl := h.len
  unfold lgs
  rw [List.length_append, List.length_singleton, List.range_succ, List.map_append, List.map_singleton, getD_end, h.last, show stT :: (ns ++ [n]) = (stT :: ns) ++ [n] from rfl, getD_app (show bs.length < (stT :: ns).length by omega)]
  refine congrArg (· ++ _) (List.map_congr_left fun i hi => ?_)
  have hi' := List.mem_range.1 hi
  rw [getD_app (show i < (stT :: ns).length by omega), getD_app hi']
/- In memory. -/
def sts (l : List ByteArray) : List Value := l.map Value.string
structure RR (w W : World) (BT : Nat) (v4 v5 : Value) (ns : List Tr) (bs : List (List Int × List Int)) : Prop where
  bel : Below w.heap.size w W
  tr : TrAt W BT (lastT (stT :: ns))
  gT : w.heap.size ≤ BT
  lg : W.ownsRow w.heap.size 9 1 v4 bs.length (sts (lgs ns bs))
  rr : W.ownsRow w.heap.size 31 236 v5 ns.length (trl ns)
  ap : v5.ownBlock ≠ some BT
section
variable {w W W1 W2 : World} {BT : Nat} {v4 v5 v4' v5' : Value} {ns : List Tr} {bs : List (List Int × List Int)}
theorem RR.later (h : RR w W BT v4 v5 ns bs) (hb : Below W.heap.size W W1) : RR w W1 BT v4 v5 ns bs := ⟨h.bel.trans (hb.mono h.bel.size), h.tr.later hb, h.gT, owns_later h.lg hb, owns_later h.rr hb, h.ap⟩
theorem tr_slot {B : Nat} {t : Tr} (h : TrAt W B t) : Slot W B 31 0 := ⟨_, h, Nat.zero_le _⟩
theorem tr_lt {B : Nat} {t : Tr} (h : TrAt W B t) : B < W.heap.size := (Array.getElem?_eq_some_iff.1 h).1
theorem RR.rr1 {o : Obj} (h : RR w W BT v4 v5 ns bs) (hg : (W.alloc o).grownBy W1 v4.ownBlock) : W1.ownsRow w.heap.size 31 236 v5 ns.length (trl ns) := own_other h.rr fun g hg' => grown_lt hg (own_ge h.rr hg').2 (own_ne2 h.lg h.rr (by decide) hg')
theorem RR.tr1 {o : Obj} {B : Nat} {t : Tr} (h : RR w W BT v4 v5 ns bs) (hg : (W.alloc o).grownBy W1 v4.ownBlock) (ht : TrAt W B t) : TrAt W1 B t := (grown_lt hg (tr_lt ht) (own_ne h.lg (tr_slot ht) (by decide))).trans ht
theorem RR.fin {o1 o2 : Obj} {s : ByteArray} {n : Tr} {b : List Int × List Int} (h : RR w W BT v4 v5 ns bs) (hrow : RowB (stT :: ns) bs) (hs : s = Rc.lg (lastT (stT :: ns)) b)
    (hown1 : W1.ownsRow w.heap.size 9 1 v4' (bs.length + 1) (sts (lgs ns bs) ++ [.string s])) (hg1 : (W.alloc o1).grownBy W1 v4.ownBlock)
    (hown2 : W2.ownsRow w.heap.size 31 236 v5' (ns.length + 1) (trl ns ++ (tcs n).toList)) (hg2 : (W1.alloc o2).grownBy W2 v5.ownBlock) (hat : v5'.ownBlock = v5.ownBlock ∨ v5'.ownBlock = some (W1.alloc o2).heap.size) :
    RR w (W2.setRow BT (tcs n)) BT v4' v5' (ns ++ [n]) (bs ++ [b]) := by
  have bel1 := grown_bel h.bel h.lg (Nat.le_refl _) hg1
  have rr1 := h.rr1 hg1
  have tr1 := h.tr1 hg1 h.tr
  have bel2 := grown_bel bel1 rr1 (Nat.le_refl _) hg2
  have tr2 : TrAt W2 BT (lastT (stT :: ns)) := (grown_lt hg2 (tr_lt tr1) h.ap).trans tr1
  have lg2 : W2.ownsRow w.heap.size 9 1 v4' (bs.length + 1) (sts (lgs ns bs) ++ [.string s]) := own_other hown1 fun g hg' => grown_lt hg2 (own_ge hown1 hg').2 (own_ne2 rr1 hown1 (by decide) hg')
  have hap : v5'.ownBlock ≠ some BT := by
    rcases hat with e | e
    · rw [e]; exact h.ap
    · rw [e]
      have := tr_lt tr1
      simp
      omega
  refine ⟨Rt.setRow_below h.gT bel2 _, ?_, h.gT, ?_, ?_, hap⟩
  · rw [show stT :: (ns ++ [n]) = (stT :: ns) ++ [n] from rfl, last_app]
    exact Rt.heap_setRow_same tr2 (tcs n)
  · rw [lgs_snoc hrow, ← hs, List.length_append, List.length_singleton]
    have e : sts (lgs ns bs ++ [s]) = sts (lgs ns bs) ++ [.string s] := by simp [sts]
    rw [e]
    exact Rs.owns_type lg2 tr2 (by decide) (tcs n)
  · rw [trl_snoc, List.length_append, List.length_singleton]
    exact own_other hown2 fun g hg' => Rt.row_other (fun e => hap (by rw [hg', e])) (tcs n)
end
/- Batches that came in. -/
def RdB (w : World) (a : Option Addr) (l : List (List Int × List Int)) : Prop := ∀ i, i < l.length → ∃ b o aL cL aJ cJ, a = some ⟨b, o, none⟩ ∧ w.cell? ⟨b, o + i * 2, none⟩ = some (.slice aL (l.getD i ([], [])).1.length cL) ∧ w.cell? ⟨b, o + i * 2 + 1, none⟩ = some (.slice aJ (l.getD i ([], [])).2.length cJ) ∧ RdI w aL (l.getD i ([], [])).1 ∧ RdI w aJ (l.getD i ([], [])).2
theorem RdB.later {w w' : World} {a : Option Addr} {l : List (List Int × List Int)} (h : RdB w a l) (hb : Below w.heap.size w w') : RdB w' a l := fun i hi => by
  obtain ⟨b, o, aL, cL, aJ, cJ, e, h1, h2, h3, h4⟩ := h i hi
  exact ⟨b, o, aL, cL, aJ, cJ, e, Rs.cell_later hb h1, Rs.cell_later hb h2, h3.later hb, h4.later hb⟩
end Go.Proofs.YteocfmimgoocnaaGreatDoor.Rc
