/- Contracts: the closure that gathers fields, fields, Write. -/
import Derived.Test.YteocfmimgoocnaaGreatDoorRcJ1
import Derived.Test.YteocfmimgoocnaaGreatDoorPlB
import Derived.Test.YteocfmimgoocnaaGreatDoorBtJ2
namespace Go.Proofs.YteocfmimgoocnaaGreatDoor.Rc
open Go.RowKit Go.Maps
open Rs (RdI cell_later)
open Bt (RdF pkS pkE)
set_option linter.unusedVariables false
set_option linter.unusedSimpArgs false

/- Fields as cells. -/
def fcs (x : Nat × Int) : List Value := [.int .u64 (x.1 : Int), .int .i64 x.2]
def fsl (l : List (Nat × Int)) : List Value := l.flatMap fcs
theorem fsl_snoc (l : List (Nat × Int)) (x : Nat × Int) : fsl (l ++ [x]) = fsl l ++ fcs x := by simp [fsl]
theorem fsl_len (l : List (Nat × Int)) : (fsl l).length = l.length * 2 := by
  induction l with
  | nil => rfl
  | cons x l ih =>
    show (fcs x ++ fsl l).length = _
    rw [List.length_append, ih, List.length_cons]
    show 2 + _ = _
    omega
theorem fsl_get : ∀ (l : List (Nat × Int)) (i : Nat), i < l.length → (fsl l)[i * 2]? = some (.int .u64 ((l.getD i (0, 0)).1 : Int)) ∧ (fsl l)[i * 2 + 1]? = some (.int .i64 (l.getD i (0, 0)).2)
  | [], i, h => by cases h
  | x :: l, i, hi => by
    have e : fsl (x :: l) = .int .u64 (x.1 : Int) :: .int .i64 x.2 :: fsl l := rfl
    rw [e]
    cases i with
    | zero => exact ⟨rfl, rfl⟩
    | succ i =>
      have := fsl_get l i (by simpa using hi)
      rw [show (i + 1) * 2 = i * 2 + 1 + 1 by omega, show i * 2 + 1 + 1 + 1 = (i * 2 + 1) + 1 + 1 by omega]
      simpa using this
theorem infoF : (Tryz.prog.info? 109).map (fun i => (i.zero, i.size, i.bytes)) = some (some (.agg #[.int .u64 0, .int .i64 0]), 2, 16) := by kernel_rfl
theorem infoF_parts : ∃ i, Tryz.prog.info? 109 = some i ∧ i.zero = some (.agg #[.int .u64 0, .int .i64 0]) ∧ i.size = 2 ∧ i.bytes = 16 := by
  have h := infoF
  cases hq : Tryz.prog.info? 109 with
  | none => rw [hq] at h; cases h
  | some i =>
    rw [hq] at h
    simp at h
    exact ⟨i, rfl, h.1, h.2.1, h.2.2⟩
def KeptF (W W' : World) : Prop := ∀ (k : Nat) (cs : Array Value) (T : TypeId), W.heap[k]? = some (.cells cs T (0, 0)) → T ≠ 109 → T ≠ 74 → W'.heap[k]? = some (.cells cs T (0, 0))
/- The record, boxed, and the list that is gathered. -/
structure FL (w W : World) (BR BL n0 : Nat) (rc : Array Value) (vl : Value) (l : List (Nat × Int)) : Prop where
  rc : RcAt W BR rc
  li : W.heap[BL]? = some (.cells #[vl] 74 (0, 0))
  row : W.ownsRow n0 109 2 vl l.length (fsl l)
  bel : Below w.heap.size w W
  bt : BR < n0
  bl : BL < n0
  ne : BR ≠ BL
  wl : w.heap.size ≤ BL
  sz : n0 ≤ W.heap.size
theorem FL.later {w W W' : World} {BR BL n0 : Nat} {rc : Array Value} {vl : Value} {l : List (Nat × Int)} (h : FL w W BR BL n0 rc vl l) (hb : Below W.heap.size W W') : FL w W' BR BL n0 rc vl l :=
  ⟨h.rc.later hb, (hb.block BL (Array.getElem?_eq_some_iff.1 h.li).1).trans h.li, Rs.owns_later h.row hb, h.bel.trans (hb.mono h.bel.size), h.bt, h.bl, h.ne, h.wl, Nat.le_trans h.sz hb.size⟩
theorem FL.cell {w W : World} {BR BL n0 : Nat} {rc : Array Value} {vl : Value} {l : List (Nat × Int)} (h : FL w W BR BL n0 rc vl l) : W.cell? ⟨BL, 0, none⟩ = some vl := cell_of_row W BL 0 _ _ _ h.li
theorem FL.app {w W W1 : World} {BR BL n0 : Nat} {rc : Array Value} {vl v' : Value} {l : List (Nat × Int)} {o : Obj} {x : Nat × Int} (h : FL w W BR BL n0 rc vl l) (hown : W1.ownsRow n0 109 2 v' (l.length + 1) (fsl l ++ fcs x)) (hg : (W.alloc o).grownBy W1 vl.ownBlock) :
    W1.heap[BL]? = some (.cells #[vl] 74 (0, 0)) ∧ FL w (W1.setCell ⟨BL, 0, none⟩ v') BR BL n0 rc v' (l ++ [x]) := by
  have hs1 := (Array.getElem?_eq_some_iff.1 h.rc).1
  have hs2 := (Array.getElem?_eq_some_iff.1 h.li).1
  have blk : ∀ k, k < n0 → k < W.heap.size → W1.heap[k]? = W.heap[k]? := fun k hk hk2 => by
    rw [hg.block k (by simp; omega) (Rs.row_far h.row hk)]
    exact ((Below.refl _ W).alloc (Nat.le_refl _) o).block k (by omega)
  have hli : W1.heap[BL]? = some (.cells #[vl] 74 (0, 0)) := (blk _ h.bl hs2).trans h.li
  have hwl := h.wl
  have hbl := h.bl
  have hsz : n0 ≤ W1.heap.size := by have h1 := hg.size; have h2 := h.sz; simp at h1; omega
  refine ⟨hli, ⟨?_, ?_, ?_, ?_, h.bt, h.bl, h.ne, h.wl, by simpa using hsz⟩⟩
  · exact (Rt.other_setCell h.ne _ _).trans ((blk _ h.bt hs1).trans h.rc)
  · exact Rt.row_setCell hli 0 v'
  · rw [fsl_snoc, List.length_append]
    exact Rs.owns_block hown fun j hj _ => Rt.other_setCell (by omega) _ _
  · refine Below.setCell (p := ⟨BL, 0, none⟩) ?_ h.wl _
    have b1 := h.bel.alloc h.bel.size o
    exact Below.grown b1 hg (by have := h.bel.size; simp; omega) fun j hj => by
      rcases Nat.lt_or_ge j n0 with hlt | hge
      · exact absurd hj.symm (Rs.row_far h.row hlt)
      · omega
theorem FL.appK {w W W1 : World} {BR BL n0 : Nat} {rc : Array Value} {vl v' : Value} {l : List (Nat × Int)} {o : Obj} (h : FL w W BR BL n0 rc vl l) (hg : (W.alloc o).grownBy W1 vl.ownBlock) : KeptF W (W1.setCell ⟨BL, 0, none⟩ v') := fun k cs T hk h1 h2 => by
  have hkl := (Array.getElem?_eq_some_iff.1 hk).1
  have hne : k ≠ BL := block_ne hk h.li h2
  rw [Rt.other_setCell hne, hg.block k (by simp; omega) (own_type h.row hk h1)]
  exact (((Below.refl _ W).alloc (Nat.le_refl _) o).block k (by omega)).trans hk
def FP (w W W' : World) (BR BL n0 : Nat) (rc : Array Value) (l : List (Nat × Int)) : Prop := ∃ vl', FL w W' BR BL n0 rc vl' l ∧ KeptF W W'
theorem FP.of {w W W' : World} {BR BL n0 : Nat} {rc : Array Value} {l : List (Nat × Int)} {v : Value} (h : FL w W' BR BL n0 rc v l) (k : KeptF W W') : FP w W W' BR BL n0 rc l := ⟨v, h, k⟩
def FX (w W : World) (BR BL n0 : Nat) (rc : Array Value) (l : List (Nat × Int)) : Prop := ∃ vl, FL w W BR BL n0 rc vl l
theorem wrap_u64 (v : Nat) (h : v < 18446744073709551616) : IntKind.u64.wrap (v : Int) = (v : Int) := by rw [IntKind.wrap_u64]; omega
set_option maxRecDepth 100000 in
set_option maxHeartbeats 1000000 in
theorem add_any (v : Nat) (q : Int) (hv : v < 18446744073709551616) {w W : World} {BR BL n0 : Nat} {rc : Array Value} {vl : Value} {l : List (Nat × Int)} (hG : FL w W BR BL n0 rc vl l) (hlen : l.length ≤ 4096) :
    Calls Tryz.prog 57 #[.int .i64 (v : Int), .int .i64 q, .pointer (some ⟨BL, 0, none⟩)] W fun e W' => e = .returned (.tuple #[]) ∧ FP w W W' BR BL n0 rc (l ++ [(v, q)]) := by
  obtain ⟨i0, hi, hz0, hz1, hz2⟩ := infoF_parts
  have hwr := wrap_u64 v hv
  have hcl := hG.cell
  have hrow := hG.row
  obtain ⟨a1, cap1, rfl⟩ := Rs.owns_slice hrow
  have HG : Hid (FL w W BR BL n0 rc (.slice a1 l.length cap1) l) := hG
  have hn0 : n0 ≤ W.heap.size := HG.out.sz
  clear hG
  go_enter Tryz.func57, Tryz.ntmps57
  go_wp2_with (at_builtin; (refine wpList_append_own _ rfl _ _ 74 rfl n0 109 i0 (.agg #[.int .u64 0, .int .i64 0]) 2 16 Tryz.underlying74 hi hz0 hz1 hz2 rfl (by decide) (.slice a1 l.length cap1) l.length (fsl l) rfl (hrow.alloc _) ⟨W.heap.size, 0, none⟩ 1 1 [.int .u64 (v : Int), .int .i64 q] rfl rfl (cell_row_new _ _ _) (by simp [Value.oneCell']) (by unfold maxLen; omega) (by omega) (by simp; omega) ?_); intro v' w3 hown' hg3 _; obtain ⟨a2, cap2, hv2⟩ := Rs.owns_slice hown'; subst hv2; have HAP : Hid (w3.heap[BL]? = some (.cells #[.slice a1 l.length cap1] 74 (0, 0)) ∧ FL w (w3.setCell ⟨BL, 0, none⟩ (.slice a2 (l.length + 1) cap2)) BR BL n0 rc (.slice a2 (l.length + 1) cap2) (l ++ [(v, q)])) := HG.out.app (x := (v, q)) hown' hg3; have HKP : Hid (KeptF W (w3.setCell ⟨BL, 0, none⟩ (.slice a2 (l.length + 1) cap2))) := HG.out.appK (v' := .slice a2 (l.length + 1) cap2) hg3; clear hown' hg3; have hcB : w3.cell? ⟨BL, 0, none⟩ = some (.slice a1 l.length cap1) := cell_of_row w3 BL 0 _ _ _ HAP.out.1; have hfB : w3.frozen? ⟨BL, 0, none⟩ = false := Rt.row_frozen HAP.out.1 0)
  go_end0
  exact ⟨rfl, FP.of HAP.out.2 HKP.out⟩
/- A seat in a block. -/
def SeAt (w : World) (B : Nat) (a b : Int) : Prop := w.heap[B]? = some (.cells #[.int .i64 a, .int .i64 b] 62 (0, 0))
theorem SeAt.cells {w : World} {B : Nat} {a b : Int} (h : SeAt w B a b) : w.cell? ⟨B, 0, none⟩ = some (.int .i64 a) ∧ w.cell? ⟨B, 1, none⟩ = some (.int .i64 b) := ⟨cell_of_row w B 0 _ _ _ h, cell_of_row w B 1 _ _ _ h⟩
theorem SeAt.kept {w w' : World} {B : Nat} {a b : Int} (h : SeAt w B a b) (k : KeptF w w') : SeAt w' B a b := k _ _ _ h (by decide) (by decide)
theorem fL_take {L : List Int} {k : Nat} (h : k < L.length) : fL (L.take (k + 1)) = fL (L.take k) ++ [((L.getD k 0).toNat, 8)] := by rw [take_nx 0 h, fL_snoc]
theorem fJ_take {J : List (Int × Int)} {k : Nat} (h : k < J.length) : fJ (J.take (k + 1)) = fJ (J.take k) ++ [((J.getD k (0, 0)).1.toNat, 8)] ++ [((J.getD k (0, 0)).2.toNat, 6)] := by rw [take_nx (0, 0) h, fJ_snoc]; simp
theorem rdF_of {W : World} {n0 : Nat} {a : Option Addr} {cap : Nat} {l : List (Nat × Int)} (h : W.ownsRow n0 109 2 (.slice a l.length cap) l.length (fsl l)) (hl : ∀ x ∈ l, x.1 < 18446744073709551616) : RdF W a l := by
  rcases h.2 with ⟨e, h0⟩ | ⟨g, cap', cur, e, h3, h4, h5, h6, h7, h8⟩
  · intro i hi; omega
  · cases e
    intro i hi
    obtain ⟨p0, p1⟩ := fsl_get l i hi
    have cell : ∀ j v, j < l.length * 2 → (fsl l)[j]? = some v → W.cell? ⟨g, j, none⟩ = some v := fun j v hj hv => by
      rw [cell_of_row W g j _ _ _ h4, ← hv, ← h8, List.getElem?_take_of_lt hj]
      simp
    refine ⟨g, 0, rfl, ?_, ?_, hl _ (getD_mem' (0, 0) hi)⟩
    · rw [Nat.zero_add]; exact cell _ _ (by omega) p0
    · rw [Nat.zero_add]; exact cell _ _ (by omega) p1
set_option maxRecDepth 100000 in
set_option maxHeartbeats 4000000 in
theorem fields_any (e f : Int) (aL aJ : Option Addr) (cL cJ : Nat) (L : List Int) (J : List (Int × Int)) (w : World) (rL : RdI w aL L) (rJ : RdP w aJ J) (hr : rgt e f L J = true) :
    Calls Tryz.prog 29 #[.agg #[.int .i64 e, .int .i64 f, .slice aL L.length cL, .slice aJ J.length cJ] ] w fun r w' => ∃ a cap, r = .returned (.slice a (flds e f L J).length cap) ∧ RdF w' a (flds e f L J) ∧ Below w.heap.size w w' := by
  have HR := rgt_iff.1 hr
  clear hr
  obtain ⟨ev, rfl⟩ : ∃ ev : Nat, e = (ev : Int) := ⟨e.toNat, by have := HR.e1; omega⟩
  obtain ⟨fv, rfl⟩ : ∃ fv : Nat, f = (fv : Int) := ⟨f.toNat, by have := HR.f1; omega⟩
  have hev : ev ≤ 200 := by have := HR.e2; omega
  have hfv : fv ≤ 32768 := by have := HR.f2; omega
  have hnL := HR.l1
  have hnJ := HR.j1
  obtain ⟨nL, hnl⟩ : ∃ n, L.length = n := ⟨_, rfl⟩
  obtain ⟨nJ, hnj⟩ : ∃ n, J.length = n := ⟨_, rfl⟩
  have HNL : Hid (L.length = nL) := hnl
  have HNJ : Hid (J.length = nJ) := hnj
  have HF : Hid (flds (ev : Int) (fv : Int) L J = [(ev, 8), (fv, 16), (nL, 7)] ++ fL L ++ [(nJ, 7)] ++ fJ J) := by unfold Hid flds; rw [hnl, hnj]; simp
  have HRR : Hid (Rgt (ev : Int) (fv : Int) L J) := HR
  clear HR
  rw [hnl] at hnL ⊢
  rw [hnj] at hnJ ⊢
  clear hnl hnj
  have hwL : IntKind.i64.wrap ((nL : Nat) : Int) = (nL : Int) := Bt.wrap_fit _ (by omega) (by omega)
  obtain ⟨rec, hrec⟩ : ∃ r, r = (#[.int .i64 (ev : Int), .int .i64 (fv : Int), .slice aL nL cL, .slice aJ nJ cJ] : Array Value) := ⟨_, rfl⟩
  have h1 := RcAt.new w #[.int .i64 (ev : Int), .int .i64 (fv : Int), .slice aL nL cL, .slice aJ nJ cJ]
  have hb1 := below_alloc w (.cells #[.int .i64 (ev : Int), .int .i64 (fv : Int), .slice aL nL cL, .slice aJ nJ cJ] 38)
  have h2 := heap_alloc_last (w.alloc (.cells #[.int .i64 (ev : Int), .int .i64 (fv : Int), .slice aL nL cL, .slice aJ nJ cJ] 38)) (.cells #[.slice none 0 0] 74)
  have hb2 := below_alloc (w.alloc (.cells #[.int .i64 (ev : Int), .int .i64 (fv : Int), .slice aL nL cL, .slice aJ nJ cJ] 38)) (.cells #[.slice none 0 0] 74)
  rw [World.size_alloc] at h2
  have hG0 : FL w ((w.alloc (.cells #[.int .i64 (ev : Int), .int .i64 (fv : Int), .slice aL nL cL, .slice aJ nJ cJ] 38)).alloc (.cells #[.slice none 0 0] 74)) w.heap.size (w.heap.size + 1) (w.heap.size + 2) #[.int .i64 (ev : Int), .int .i64 (fv : Int), .slice aL nL cL, .slice aJ nJ cJ] (.slice none 0 0) [] :=
    ⟨h1.later hb2, h2, World.ownsRow_nil _ _ _ _, hb1.trans (hb2.mono hb1.size), by omega, by omega, by omega, by omega, by simp⟩
  clear h1 hb1 h2 hb2
  go_enter Tryz.func29, Tryz.ntmps29
  go_upto_region 3 with (fail)
  generalize (w.alloc (.cells #[.int .i64 (ev : Int), .int .i64 (fv : Int), .slice aL nL cL, .slice aJ nJ cJ] 38)).alloc (.cells #[.slice none 0 0] 74) = w1 at *
  obtain ⟨BR, hBR⟩ : ∃ B, w.heap.size = B := ⟨_, rfl⟩
  obtain ⟨BL, hBL⟩ : ∃ B, w.heap.size + 1 = B := ⟨_, rfl⟩
  obtain ⟨n0, hn0⟩ : ∃ B, w.heap.size + 2 = B := ⟨_, rfl⟩
  rw [hn0, hBL, hBR] at hG0
  rw [hBL, hBR]
  clear hn0 hBL hBR
  rw [← hrec] at hG0
  have HRC : Hid (rec = (#[.int .i64 (ev : Int), .int .i64 (fv : Int), .slice aL nL cL, .slice aJ nJ cJ] : Array Value)) := hrec
  clear hrec
  have ha1 := add_any ev 8 (by omega) hG0 (by simp)
  obtain ⟨r0, r1, r2, r3⟩ := RcAt.cells (HRC.out ▸ hG0.rc)
  go_wp2_with fail
  refine ha1.mono ?_
  rintro r w2 ⟨rfl, vl2, hG2, _⟩
  clear ha1 hG0 r0 r1 r2 r3
  have ha2 := add_any fv 16 (by omega) hG2 (by simp)
  obtain ⟨r0, r1, r2, r3⟩ := RcAt.cells (HRC.out ▸ hG2.rc)
  go_wp2_with fail
  refine ha2.mono ?_
  rintro r w3 ⟨rfl, vl3, hG3, _⟩
  clear ha2 hG2 r0 r1 r2 r3
  have ha3 := add_any nL 7 (by omega) hG3 (by simp)
  obtain ⟨r0, r1, r2, r3⟩ := RcAt.cells (HRC.out ▸ hG3.rc)
  go_wp2_with fail
  refine ha3.mono ?_
  rintro r w4 ⟨rfl, vl4, hG4, _⟩
  have HG4 : Hid (FX w w4 BR BL n0 rec ([(ev, 8), (fv, 16), (nL, 7)] ++ fL (L.take 0))) := ⟨vl4, by simpa [fL] using hG4⟩
  obtain ⟨r0', r1', r2', r3'⟩ := RcAt.cells (HRC.out ▸ hG4.rc)
  clear ha3 hG3 hG4 r0 r1 r2 r3
  go_wp2_with fail
  go_loopw [26] (fun i wx => ∃ k : Nat, k ≤ nL ∧ i = .int .i64 (k : Int) ∧ FX w wx BR BL n0 rec ([(ev, 8), (fv, 16), (nL, 7)] ++ fL (L.take k))) (fun i _ => nL - (intOf i).toNat)
  case atStart => exact ⟨0, by omega, rfl, HG4.out⟩
  case round =>
    obtain ⟨k, hk, rfl, hGX⟩ := hrel
    have HGX : Hid (FX w wr BR BL n0 rec ([(ev, 8), (fv, 16), (nL, 7)] ++ fL (L.take k))) := hGX
    clear hGX HG4 r0' r1' r2' r3'
    by_cases hkn : k < nL
    · have hkL : k < L.length := by rw [HNL.out]; exact hkn
      obtain ⟨vl, hG⟩ := HGX.out
      obtain ⟨b, o, rfl, c0⟩ := rL k hkL
      have c0 := cell_later hG.bel c0
      have i1 : (0 : Int) ≤ (k : Int) := by omega
      have i2 : (k : Int) < (nL : Int) := by omega
      have HS : Hid (fL (L.take (k + 1)) = fL (L.take k) ++ [((L.getD k 0).toNat, 8)]) := fL_take hkL
      have hwx := who_iff.1 (HRR.out.lw _ (getD_mem' 0 hkL))
      obtain ⟨x, hx⟩ : ∃ x : Nat, L.getD k 0 = (x : Int) := ⟨(L.getD k 0).toNat, by omega⟩
      rw [hx] at c0 hwx HS
      rw [Int.toNat_natCast] at HS
      have hx256 : x < 256 := by omega
      have ha := add_any x 8 (by omega) hG (by simp; omega)
      clear hx hwx hG HGX hkL rL rJ
      go_wp2_with fail
      refine ha.mono ?_
      rintro r w6 ⟨rfl, vl6, hG6, _⟩
      have HG6 : Hid (FX w w6 BR BL n0 rec ([(ev, 8), (fv, 16), (nL, 7)] ++ fL (L.take (k + 1)))) := ⟨vl6, by rw [HS.out, ← List.append_assoc]; exact hG6⟩
      clear hG6 ha
      go_wp2_with fail
      go_roundw
      case rel => exact ⟨k + 1, by omega, by go_num, HG6.out⟩
      case measure => simp [intOf]; omega
    · have hkn' : decide ((k : Int) < (nL : Int)) = false := by simp; omega
      have e : L.take k = L := List.take_of_length_le (by rw [HNL.out]; omega)
      rw [e] at HGX
      obtain ⟨vl, hG⟩ := HGX.out
      have ha := add_any nJ 7 (by omega) hG (by simp; have := HNL.out; omega)
      obtain ⟨r0, r1, r2, r3⟩ := RcAt.cells (HRC.out ▸ hG.rc)
      clear e hG HGX rL
      go_wp2_with fail
      refine ha.mono ?_
      rintro r w7 ⟨rfl, vl7, hG7, _⟩
      have HG7 : Hid (FX w w7 BR BL n0 rec ([(ev, 8), (fv, 16), (nL, 7)] ++ fL L ++ [(nJ, 7)] ++ fJ (J.take 0))) := ⟨vl7, by simpa [fJ] using hG7⟩
      clear r0 r1 r2 r3 ha
      obtain ⟨r0, r1, r2, r3⟩ := RcAt.cells (HRC.out ▸ hG7.rc)
      clear hG7 hkn
      go_wp2_with fail
      go_loopw [42] (fun i wx => ∃ k : Nat, k ≤ nJ ∧ i = .int .i64 (k : Int) ∧ FX w wx BR BL n0 rec ([(ev, 8), (fv, 16), (nL, 7)] ++ fL L ++ [(nJ, 7)] ++ fJ (J.take k))) (fun i _ => nJ - (intOf i).toNat)
      case atStart => exact ⟨0, by omega, rfl, HG7.out⟩
      case round =>
        obtain ⟨k, hk, rfl, hGX⟩ := hrel
        have HGX : Hid (FX w wr BR BL n0 rec ([(ev, 8), (fv, 16), (nL, 7)] ++ fL L ++ [(nJ, 7)] ++ fJ (J.take k))) := hGX
        clear hGX HG7 r0 r1 r2 r3
        by_cases hkn : k < nJ
        · have hkJ : k < J.length := by rw [HNJ.out]; exact hkn
          obtain ⟨vl, hG⟩ := HGX.out
          obtain ⟨b, o, rfl, c0, c1⟩ := rJ k hkJ
          have c0 := cell_later hG.bel c0
          have c1 := cell_later hG.bel c1
          have i1 : (0 : Int) ≤ (k : Int) := by omega
          have i2 : (k : Int) < (nJ : Int) := by omega
          have HS : Hid (fJ (J.take (k + 1)) = fJ (J.take k) ++ [((J.getD k (0, 0)).1.toNat, 8)] ++ [((J.getD k (0, 0)).2.toNat, 6)]) := fJ_take hkJ
          have hsx := sea_iff.1 (HRR.out.js _ (getD_mem' (0, 0) hkJ))
          obtain ⟨x, hx⟩ : ∃ x : Nat, (J.getD k (0, 0)).1 = (x : Int) := ⟨(J.getD k (0, 0)).1.toNat, by omega⟩
          obtain ⟨y, hy⟩ : ∃ y : Nat, (J.getD k (0, 0)).2 = (y : Int) := ⟨(J.getD k (0, 0)).2.toNat, by omega⟩
          rw [hx] at c0 hsx HS
          rw [hy] at c1 hsx HS
          rw [Int.toNat_natCast, Int.toNat_natCast] at HS
          have hx256 : x < 256 := by omega
          have hy64 : y < 64 := by omega
          have hl1 : ([(ev, 8), (fv, 16), (nL, 7)] ++ fL L ++ [(nJ, 7)] ++ fJ (J.take k) : List (Nat × Int)).length ≤ 4000 := by simp; have := HNL.out; omega
          have HL1 : Hid (([(ev, 8), (fv, 16), (nL, 7)] ++ fL L ++ [(nJ, 7)] ++ fJ (J.take k) : List (Nat × Int)).length ≤ 4000) := hl1
          have hSE : SeAt (wr.alloc (.cells #[.int .i64 (x : Int), .int .i64 (y : Int)] 62)) wr.heap.size (x : Int) (y : Int) := heap_alloc_last wr _
          have hGa := hG.later (below_alloc wr (.cells #[.int .i64 (x : Int), .int .i64 (y : Int)] 62))
          have ha := add_any x 8 (by omega) hGa (by omega)
          obtain ⟨s0, s1⟩ := hSE.cells
          clear hx hy hsx hG HGX hkJ rJ hl1
          go_upto_region 15 with (fail)
          generalize wr.alloc (.cells #[.int .i64 (x : Int), .int .i64 (y : Int)] 62) = wa at *
          generalize wr.heap.size = A at *
          go_wp2_with fail
          refine ha.mono ?_
          rintro r w6 ⟨rfl, vl6, hG6, hK6⟩
          have hSE6 := hSE.kept hK6
          clear ha hGa hSE s0 s1 hK6 c0 c1
          have ha := add_any y 6 (by omega) hG6 (by have := HL1.out; simp at this ⊢; omega)
          obtain ⟨s0, s1⟩ := hSE6.cells
          clear hSE6
          go_wp2_with fail
          refine ha.mono ?_
          rintro r w8 ⟨rfl, vl8, hG8, _⟩
          have HG8 : Hid (FX w w8 BR BL n0 rec ([(ev, 8), (fv, 16), (nL, 7)] ++ fL L ++ [(nJ, 7)] ++ fJ (J.take (k + 1)))) := ⟨vl8, by rw [HS.out, ← List.append_assoc, ← List.append_assoc]; exact hG8⟩
          clear hG8 hG6 ha s0 s1
          go_wp2_with fail
          go_roundw
          case rel => exact ⟨k + 1, by omega, by go_num, HG8.out⟩
          case measure => simp [intOf]; omega
        · have hkn' : decide ((k : Int) < (nJ : Int)) = false := by simp; omega
          have e : J.take k = J := List.take_of_length_le (by rw [HNJ.out]; omega)
          rw [e] at HGX
          rw [← HF.out] at HGX
          obtain ⟨vl, hG⟩ := HGX.out
          obtain ⟨a1, cap1, rfl⟩ := Rs.owns_slice hG.row
          have hcl := hG.cell
          have HG : Hid (FL w wr BR BL n0 rec (.slice a1 (flds (ev : Int) (fv : Int) L J).length cap1) (flds (ev : Int) (fv : Int) L J)) := hG
          have HRD : Hid (RdF wr a1 (flds (ev : Int) (fv : Int) L J)) := rdF_of hG.row (fun x hx => by
            have := Bt.okF_width (HRR.out.fit.ok x hx)
            have h2 : 2 ^ x.2.toNat ≤ 2 ^ 64 := Nat.pow_le_pow_right (by decide) (by omega)
            omega)
          obtain ⟨FN, hFN⟩ : ∃ n, (flds (ev : Int) (fv : Int) L J).length = n := ⟨_, rfl⟩
          rw [hFN] at hcl
          have HFN : Hid ((flds (ev : Int) (fv : Int) L J).length = FN) := hFN
          clear e HGX hG hFN
          go_wp2_with fail
          go_ret
          exact ⟨a1, cap1, by rw [HFN.out]; rfl, HRD.out, HG.out.bel⟩
set_option maxRecDepth 100000 in
set_option maxHeartbeats 1000000 in
theorem write_any (e f : Int) (aL aJ : Option Addr) (cL cJ : Nat) (L : List Int) (J : List (Int × Int)) (w : World) (rL : RdI w aL L) (rJ : RdP w aJ J) :
    Calls Tryz.prog 16 #[.agg #[.int .i64 e, .int .i64 f, .slice aL L.length cL, .slice aJ J.length cJ] ] w fun r w' => r = .returned (.tuple #[.string (wrS e f L J), .int .i64 (wrE e f L J)]) ∧ Below w.heap.size w w' := by
  have h1 := RcAt.new w #[.int .i64 e, .int .i64 f, .slice aL L.length cL, .slice aJ J.length cJ]
  have hb1 := below_alloc w (.cells #[.int .i64 e, .int .i64 f, .slice aL L.length cL, .slice aJ J.length cJ] 38)
  have hri := right_any e f aL aJ cL cJ L J _ (rL.later hb1) (rJ.later hb1)
  cases hr : rgt e f L J with
  | false =>
    rw [hr] at hri
    have HE : Hid (wrS e f L J = ⟨#[]⟩ ∧ wrE e f L J = 12) := by unfold Hid wrS wrE; rw [hr]; exact ⟨rfl, rfl⟩
    clear hr rL rJ h1
    generalize L.length = nL at *
    generalize J.length = nJ at *
    go_enter Tryz.func16, Tryz.ntmps16
    go_wp2_with fail
    refine hri.mono ?_
    rintro r w2 ⟨rfl, hb2⟩
    have HB : Hid (Below w.heap.size w w2) := hb1.trans (hb2.mono hb1.size)
    clear hb1 hb2 hri
    go_wp2_with fail
    go_ret2
    exact ⟨by rw [HE.out.1, HE.out.2]; rfl, HB.out⟩
  | true =>
    rw [hr] at hri
    have HE : Hid (pkS (flds e f L J) = wrS e f L J ∧ pkE (flds e f L J) = 0 ∧ wrE e f L J = 0) := by
      have := wr_pk hr
      exact ⟨this.1, this.2, by unfold wrE; rw [hr]; rfl⟩
    have hfl := fields_any e f aL aJ cL cJ L J
    have HLN : Hid ((flds e f L J).length ≤ 16777216) := by
      have hR := rgt_iff.1 hr
      have h1 := hR.l1
      have h2 := hR.j1
      unfold Hid
      rw [flds_length]; omega
    have HHR : Hid (rgt e f L J = true) := hr
    have HRL : Hid (RdI w aL L ∧ RdP w aJ J) := ⟨rL, rJ⟩
    clear hr rL rJ
    obtain ⟨nL, hnL⟩ : ∃ n, L.length = n := ⟨_, rfl⟩
    obtain ⟨nJ, hnJ⟩ : ∃ n, J.length = n := ⟨_, rfl⟩
    simp only [hnL, hnJ] at h1 hb1 hri hfl
    rw [hnL, hnJ]
    clear hnL hnJ
    go_enter Tryz.func16, Tryz.ntmps16
    go_upto_region 1 with (fail)
    generalize w.alloc (.cells #[.int .i64 e, .int .i64 f, .slice aL nL cL, .slice aJ nJ cJ] 38) = w1 at *
    obtain ⟨B, hB⟩ : ∃ B, w.heap.size = B := ⟨_, rfl⟩
    rw [hB] at h1 ⊢
    clear hB
    obtain ⟨r0, r1, r2, r3⟩ := h1.cells
    go_wp2_with fail
    refine hri.mono ?_
    rintro r w2 ⟨rfl, hb2⟩
    have HB2 : Hid (Below w.heap.size w w2) := hb1.trans (hb2.mono hb1.size)
    have hf2 := hfl w2 (HRL.out.1.later HB2.out) (HRL.out.2.later HB2.out) HHR.out
    clear r0 r1 r2 r3
    obtain ⟨r0, r1, r2, r3⟩ := (h1.later hb2).cells
    clear hb1 hb2 hri h1 hfl
    go_wp2_with fail
    refine hf2.mono ?_
    rintro r w3 ⟨a, cap, rfl, hrd, hb3⟩
    have hpk := Bt.pack_any a cap _ (flds e f L J) rfl w3 HLN.out hrd
    rw [HE.out.1, HE.out.2.1] at hpk
    have HB3 : Hid (Below w.heap.size w w3) := HB2.out.trans (hb3.mono HB2.out.size)
    clear r0 r1 r2 r3 hb3 hf2 hrd
    generalize (flds e f L J).length = FN at *
    go_wp2_with fail
    refine hpk.mono ?_
    rintro r w4 ⟨rfl, hb4⟩
    clear hpk
    go_wp2_with fail
    go_ret2
    exact ⟨by rw [HE.out.2.2]; rfl, HB3.out.trans (hb4.mono HB3.out.size)⟩
end Go.Proofs.YteocfmimgoocnaaGreatDoor.Rc
