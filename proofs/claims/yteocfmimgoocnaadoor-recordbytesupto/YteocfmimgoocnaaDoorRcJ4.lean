/- RcH, RcI, RcJ, joined. -/
import Derived.Test.YteocfmimgoocnaaDoorRcB
import Derived.Test.YteocfmimgoocnaaDoorBtJ3
import Derived.Test.YteocfmimgoocnaaDoorRcJ2
/- Contracts of the document's answers: Right, field. -/
namespace Go.Proofs.YteocfmimgoocnaaDoor.Rc
open Go.RowKit Go.Maps
open Rs (RdI cell_later)
set_option linter.unusedVariables false
set_option linter.unusedSimpArgs false

set_option maxRecDepth 100000 in
set_option maxHeartbeats 2000000 in
theorem rRight_any (e f : Int) (aL aJ : Option Addr) (cL cJ : Nat) (L : List Int) (J : List (Int × Int)) (w : World) (rL : RdI w aL L) (rJ : RdP w aJ J) :
    Calls Tryd.prog 11 #[.agg #[.int .i64 e, .int .i64 f, .slice aL L.length cL, .slice aJ J.length cJ] ] w fun r w' => r = .returned (.bool (rgt e f L J)) ∧ Below w.heap.size w w' := by
  have hB := below_alloc w (.cells #[.int .i64 e, .int .i64 f, .slice aL L.length cL, .slice aJ J.length cJ] 25)
  have HNO : Hid (¬ Rgt e f L J → rgt e f L J = false) := rgt_no
  by_cases g1 : e < 1
  · have HE : Hid (rgt e f L J = false) := HNO.out fun h => by have := h.e1; omega
    go_enter Tryd.func11, Tryd.ntmps11
    go_wp2_with fail
    go_ret
    exact ⟨ret_bool HE.out.symm, hB⟩
  by_cases g2 : 200 < e
  · have HE : Hid (rgt e f L J = false) := HNO.out fun h => by have := h.e2; omega
    have d1 : decide (e < 1) = false := by simp; omega
    go_enter Tryd.func11, Tryd.ntmps11
    go_wp2_with fail
    go_ret
    exact ⟨ret_bool HE.out.symm, hB⟩
  have d1 : decide (e < 1) = false := by simp; omega
  have d2 : decide (200 < e) = false := by simp; omega
  by_cases g3 : f < 22
  · have HE : Hid (rgt e f L J = false) := HNO.out fun h => by have := h.f1; omega
    clear g1 g2
    go_enter Tryd.func11, Tryd.ntmps11
    go_wp2_with fail
    go_ret
    exact ⟨ret_bool HE.out.symm, hB⟩
  have d3 : decide (f < 22) = false := by simp; omega
  by_cases g4 : 32768 < f
  · have HE : Hid (rgt e f L J = false) := HNO.out fun h => by have := h.f2; omega
    clear g1 g2 g3
    go_enter Tryd.func11, Tryd.ntmps11
    go_wp2_with fail
    go_ret
    exact ⟨ret_bool HE.out.symm, hB⟩
  have d4 : decide (32768 < f) = false := by simp; omega
  by_cases g5 : 64 < L.length
  · have HE : Hid (rgt e f L J = false) := HNO.out fun h => by have := h.l1; omega
    have d5 : decide ((64 : Int) < (L.length : Int)) = true := by simp; omega
    have d6 : (64 : Int) < (L.length : Int) := by omega
    clear g1 g2 g3 g4
    generalize L.length = nL at *
    go_enter Tryd.func11, Tryd.ntmps11
    go_wp2_with fail
    go_ret
    exact ⟨ret_bool HE.out.symm, hB⟩
  have d5 : decide ((64 : Int) < (L.length : Int)) = false := by simp; omega
  have d5' : decide (64 < L.length) = false := by simp; omega
  by_cases g6 : 64 < J.length
  · have HE : Hid (rgt e f L J = false) := HNO.out fun h => by have := h.j1; omega
    have d6 : (64 : Int) < (J.length : Int) := by omega
    clear g1 g2 g3 g4 g5
    generalize L.length = nL at *
    generalize J.length = nJ at *
    go_enter Tryd.func11, Tryd.ntmps11
    go_wp2_with fail
    go_ret
    exact ⟨ret_bool HE.out.symm, hB⟩
  have d6 : decide ((64 : Int) < (J.length : Int)) = false := by simp; omega
  have d6' : decide (64 < J.length) = false := by simp; omega
  have HY : Hid ((∀ x ∈ L, who x = true) → (∀ p ∈ J, sea p = true) → rgt e f L J = true) := fun h1 h2 => rgt_iff.2 ⟨by omega, by omega, by omega, by omega, by omega, by omega, h1, h2⟩
  have HNL : Hid (∀ k, k < L.length → who (L.getD k 0) = false → rgt e f L J = false) := fun k hk h => HNO.out fun hr => by rw [hr.lw _ (getD_mem' 0 hk)] at h; cases h
  have HNJ : Hid (∀ k, k < J.length → sea (J.getD k (0, 0)) = false → rgt e f L J = false) := fun k hk h => HNO.out fun hr => by rw [hr.js _ (getD_mem' (0, 0) hk)] at h; cases h
  have hRC := RcAt.new w #[.int .i64 e, .int .i64 f, .slice aL L.length cL, .slice aJ J.length cJ]
  have nL64 : L.length ≤ 64 := by omega
  have nJ64 : J.length ≤ 64 := by omega
  clear g1 g2 g3 g4 g5 g6 HNO
  go_enter Tryd.func11, Tryd.ntmps11
  go_wp2_with fail
  go_loopw [40] (fun i wr => ∃ k : Nat, k ≤ L.length ∧ i = .int .i64 (k : Int) ∧ (∀ x ∈ L.take k, who x = true) ∧ wr = w.alloc (.cells #[.int .i64 e, .int .i64 f, .slice aL L.length cL, .slice aJ J.length cJ] 25)) (fun i _ => L.length - (intOf i).toNat)
  case atStart => exact ⟨0, by omega, rfl, by simp, rfl⟩
  case round =>
    obtain ⟨k, hk, rfl, hok, rfl⟩ := hrel
    have HOK : Hid (∀ x ∈ L.take k, who x = true) := hok
    clear hok
    by_cases hkn : k < L.length
    · obtain ⟨b, o, rfl, c0⟩ := rL k hkn
      have c1 := cell_later hB c0
      have i1 : (0 : Int) ≤ (k : Int) := by omega
      have i2 : (k : Int) < (L.length : Int) := by omega
      have HN := HNL.out k hkn
      have HS : Hid (who (L.getD k 0) = true → ∀ x ∈ L.take (k + 1), who x = true) := fun h => all_nx 0 hkn HOK.out h
      generalize L.getD k 0 = x at *
      have hlt : k < L.length := hkn
      have HLT : Hid (k < L.length) := hlt
      have HL64 : Hid (L.length ≤ 64) := nL64
      by_cases hx0 : x < 0
      · have HE : Hid (rgt e f L J = false) := HN (by simp [who]; omega)
        clear HN c0 rL rJ hlt hkn
        generalize L.length = nL at *
        generalize J.length = nJ at *
        generalize w.alloc (.cells #[.int .i64 e, .int .i64 f, .slice (some ⟨b, o, none⟩) nL cL, .slice aJ nJ cJ] 25) = w0 at *
        go_wp2_with fail
        go_ret
        exact ⟨ret_bool HE.out.symm, hB⟩
      have x0 : decide (x < 0) = false := by simp; omega
      by_cases hx1 : 256 ≤ x
      · have HE : Hid (rgt e f L J = false) := HN (by simp [who]; omega)
        clear HN c0 rL rJ hlt hkn hx0
        generalize L.length = nL at *
        generalize J.length = nJ at *
        generalize w.alloc (.cells #[.int .i64 e, .int .i64 f, .slice (some ⟨b, o, none⟩) nL cL, .slice aJ nJ cJ] 25) = w0 at *
        go_wp2_with fail
        go_ret
        exact ⟨ret_bool HE.out.symm, hB⟩
      have x1 : decide (256 ≤ x) = false := by simp; omega
      have HS2 : Hid (∀ x ∈ L.take (k + 1), who x = true) := HS.out (who_iff.2 ⟨by omega, by omega⟩)
      clear HN c0 rL rJ hlt hkn HS HNL HNJ HY HOK hB hRC hx0 hx1
      go_wp2_with fail
      go_roundw
      case rel => exact ⟨k + 1, by have := HLT.out; omega, by go_num, HS2.out, by first | rfl | trivial⟩
      case measure => simp [intOf]; have := HLT.out; omega
    · have hkn' : decide ((k : Int) < (L.length : Int)) = false := by simp; omega
      have HLA : Hid (∀ x ∈ L, who x = true) := by
        have e : L.take k = L := List.take_of_length_le (by omega)
        have := HOK.out
        rw [e] at this
        exact this
      obtain ⟨r0, r1, r2, r3⟩ := hRC.cells
      have hRJ := rJ.later hB
      have HB0 : Hid (Below w.heap.size w (w.alloc (.cells #[.int .i64 e, .int .i64 f, .slice aL L.length cL, .slice aJ J.length cJ] 25))) := hB
      have HL64 : Hid (L.length ≤ 64) := nL64
      clear rL rJ hRC hB HNL HOK d5' nL64
      generalize w.alloc (.cells #[.int .i64 e, .int .i64 f, .slice aL L.length cL, .slice aJ J.length cJ] 25) = w0 at *
      obtain ⟨B, hBq⟩ : ∃ B, w.heap.size = B := ⟨_, rfl⟩
      rw [hBq] at r0 r1 r2 r3 ⊢
      clear hBq
      generalize L.length = nL at *
      go_wp2_with fail
      go_loopw [54] (fun i wr => ∃ k : Nat, k ≤ J.length ∧ i = .int .i64 (k : Int) ∧ (∀ x ∈ J.take k, sea x = true) ∧ Below w0.heap.size w0 wr) (fun i _ => J.length - (intOf i).toNat)
      case atStart => exact ⟨0, by omega, rfl, by simp, Below.refl _ _⟩
      case round =>
        obtain ⟨k, hk, rfl, hok, hb⟩ := hrel
        have HOK : Hid (∀ x ∈ J.take k, sea x = true) := hok
        have HB : Hid (Below w0.heap.size w0 wr) := hb
        clear hok
        by_cases hkn : k < J.length
        · obtain ⟨b, o, rfl, c0, c1⟩ := hRJ k hkn
          have c0 := cell_later hb c0
          have c1 := cell_later hb c1
          have i1 : (0 : Int) ≤ (k : Int) := by omega
          have i2 : (k : Int) < (J.length : Int) := by omega
          have HN := HNJ.out k hkn
          have HS : Hid (sea (J.getD k (0, 0)) = true → ∀ x ∈ J.take (k + 1), sea x = true) := fun h => all_nx (0, 0) hkn HOK.out h
          have HLT : Hid (k < J.length) := hkn
          generalize J.getD k (0, 0) = x at *
          obtain ⟨x1, x2⟩ := x
          dsimp only at c0 c1
          have HBA : Hid (Below w.heap.size w (wr.alloc (.cells #[.int .i64 x1, .int .i64 x2] 57))) := HB0.out.trans ((HB.out.alloc HB.out.size _).mono HB0.out.size)
          have HBB : Hid (Below w0.heap.size w0 (wr.alloc (.cells #[.int .i64 x1, .int .i64 x2] 57))) := HB.out.alloc HB.out.size _
          by_cases hx0 : x1 < 0
          · have HE : Hid (rgt e f L J = false) := HN (by simp [sea, who]; omega)
            clear HN hRJ hkn hb r0 r1 r2 r3 HS HNJ HY
            go_wp2_with fail
            go_ret
            exact ⟨ret_bool HE.out.symm, HBA.out⟩
          have dhx0 : decide (x1 < 0) = false := by simp; omega
          by_cases hx1 : 256 ≤ x1
          · have HE : Hid (rgt e f L J = false) := HN (by simp [sea, who]; omega)
            clear HN hRJ hkn hb r0 r1 r2 r3 HS HNJ HY hx0
            go_wp2_with fail
            go_ret
            exact ⟨ret_bool HE.out.symm, HBA.out⟩
          have dhx1 : decide (256 ≤ x1) = false := by simp; omega
          by_cases hx2 : x2 < 0
          · have HE : Hid (rgt e f L J = false) := HN (by simp [sea, who]; omega)
            clear HN hRJ hkn hb r0 r1 r2 r3 HS HNJ HY hx0 hx1
            go_wp2_with fail
            go_ret
            exact ⟨ret_bool HE.out.symm, HBA.out⟩
          have dhx2 : decide (x2 < 0) = false := by simp; omega
          by_cases hx3 : 64 ≤ x2
          · have HE : Hid (rgt e f L J = false) := HN (by simp [sea, who]; omega)
            clear HN hRJ hkn hb r0 r1 r2 r3 HS HNJ HY hx0 hx1 hx2
            go_wp2_with fail
            go_ret
            exact ⟨ret_bool HE.out.symm, HBA.out⟩
          have dhx3 : decide (64 ≤ x2) = false := by simp; omega
          have HS2 : Hid (∀ x ∈ J.take (k + 1), sea x = true) := HS.out (sea_iff.2 (by dsimp only; omega))
          clear HN hRJ hkn hb r0 r1 r2 r3 HS HNJ HY HOK hx0 hx1 hx2 hx3
          go_wp2_with fail
          go_roundw
          case rel => exact ⟨k + 1, by have := HLT.out; omega, by go_num, HS2.out, HBB.out⟩
          case measure => simp [intOf]; have := HLT.out; omega
        · have hkn' : decide ((k : Int) < (J.length : Int)) = false := by simp; omega
          have HE : Hid (rgt e f L J = true) := HY.out HLA.out (by
            have e : J.take k = J := List.take_of_length_le (by omega)
            have := HOK.out
            rw [e] at this
            exact this)
          go_wp2_with fail
          go_ret
          exact ⟨ret_bool HE.out.symm, HB0.out.trans (HB.out.mono HB0.out.size)⟩
def FdAt (w : World) (B : Nat) (cs : Array Value) : Prop := w.heap[B]? = some (.cells cs 54 (0, 0))
theorem infoFd : (Tryd.prog.info? 54).map (·.size) = some 2 := by kernel_rfl
theorem results_fd {fn : Func} {p : Tmp} (hf : fn.results = #[.cell p 54 ]) (tmps : Array Value) (W : World) (B : Nat) (cs : Array Value) (hp : tmps[p]? = some (.pointer (some ⟨B, 0, none⟩))) (hb : FdAt W B cs) (hc : cs.size = 2) :
    (results fn tmps).run Tryd.prog W = .ok (.agg cs) W := by
  have h := run_loadVar_row W B _ 54 _ _ _ hb Tryd.underlying54 rfl (by rw [hc]; exact infoFd)
  simp [results, hf, hp, asAddr, h]
set_option maxRecDepth 100000 in
theorem field_any (v : Nat) (q : Int) (hv : v < 18446744073709551616) (w : World) : Calls Tryd.prog 17 #[.int .i64 (v : Int), .int .i64 q] w fun e w' => e = .returned (.agg #[.int .u64 (v : Int), .int .i64 q]) ∧ Below w.heap.size w w' := by
  have hwr := wrap_u64 v hv
  have hA : FdAt (w.alloc (.cells #[.int .u64 (v : Int), .int .i64 q] 54)) w.heap.size #[.int .u64 (v : Int), .int .i64 q] := heap_alloc_last w _
  go_enter Tryd.func17, Tryd.ntmps17
  go_wp2_with fail
  refine bodyPost_ret (results_fd (p := 4) rfl _ _ w.heap.size #[.int .u64 (v : Int), .int .i64 q] rfl (by first | exact hA | (simp; exact hA)) rfl) rfl ?_
  exact ⟨rfl, below_alloc _ _⟩
end Go.Proofs.YteocfmimgoocnaaDoor.Rc
/- Contract of the document's answer: Write. -/
namespace Go.Proofs.YteocfmimgoocnaaDoor.Rc
open Go.RowKit Go.Maps
open Rs (RdI cell_later owns_later owns_slice)
open Bt (RdF pkS pkE)
set_option linter.unusedVariables false
set_option linter.unusedSimpArgs false

structure FW (w W : World) (B n0 : Nat) (rc : Array Value) (v : Value) (l : List (Nat × Int)) : Prop where
  rc : RcAt W B rc
  row : W.ownsRow n0 54 2 v l.length (fsl l)
  bel : Below w.heap.size w W
  lt : B < n0
  wl : w.heap.size ≤ n0
  sz : n0 ≤ W.heap.size
theorem FW.later {w W W' : World} {B n0 : Nat} {rc : Array Value} {v : Value} {l : List (Nat × Int)} (h : FW w W B n0 rc v l) (hb : Below W.heap.size W W') : FW w W' B n0 rc v l :=
  ⟨h.rc.later hb, owns_later h.row hb, h.bel.trans (hb.mono h.bel.size), h.lt, h.wl, Nat.le_trans h.sz hb.size⟩
theorem FW.app {w W W1 : World} {B n0 : Nat} {rc : Array Value} {v v' : Value} {l m : List (Nat × Int)} (h : FW w W B n0 rc v l) (hown : W1.ownsRow n0 54 2 v' (l ++ m).length (fsl (l ++ m))) (hg : W.grownBy W1 v.ownBlock) : FW w W1 B n0 rc v' (l ++ m) := by
  have hB := (Array.getElem?_eq_some_iff.1 h.rc).1
  refine ⟨(hg.block B hB (Rs.row_far h.row h.lt)).trans h.rc, hown, ?_, h.lt, h.wl, Nat.le_trans h.sz hg.size⟩
  exact Below.grown h.bel hg h.bel.size fun j hj => by
    rcases Nat.lt_or_ge j n0 with hlt | hge
    · exact absurd hj.symm (Rs.row_far h.row hlt)
    · have := h.wl; omega
theorem SeAt.later {w w' : World} {B : Nat} {a b : Int} (h : SeAt w B a b) (hb : Below w.heap.size w w') : SeAt w' B a b := (hb.block B (Array.getElem?_eq_some_iff.1 h).1).trans h
theorem fsl_app (l m : List (Nat × Int)) : fsl (l ++ m) = fsl l ++ fsl m := by simp [fsl]
theorem appF2 {ops : Array Oper} {o : Oper} {a : Act} {w : World} {K : Act → World → Prop} {Q : Exit → Act → World → Prop} {E : Prop} (hw : Region.wanted o (yielded ops a.tmps) = true) (d : Tmp) (hd : o.dst = some d) (s x : Operand)
    (ho : o.op = .call { callee := .builtin .append, args := #[s, x], argTypes := #[ 50, 50 ] })
    (n0 : Nat) (v : Value) (l : List (Nat × Int)) (hs : a.eval s = v) (hown : w.ownsRow n0 54 2 v l.length (fsl l)) (g : Nat) (y z : Nat × Int) (hx : a.eval x = .slice (some ⟨g, 0, none⟩) 2 2)
    (hnews : ∀ j u, [Value.int .u64 (y.1 : Int), .int .i64 y.2, .int .u64 (z.1 : Int), .int .i64 z.2][j]? = some u → w.cell? ((⟨g, 0, none⟩ : Addr).add j) = some u) (hl : l.length ≤ 4096) (hb : n0 ≤ w.heap.size)
    (h : ∀ v' w', w'.ownsRow n0 54 2 v' (l ++ [y, z]).length (fsl (l ++ [y, z])) → w.grownBy w' v.ownBlock → K (a.put (some d) v') w') :
    if Region.wanted o (yielded ops a.tmps) = true then Oper.wp Tryd.prog o a w K Q else E := by
  obtain ⟨i0, hi, hz0, hz1, hz2⟩ := infoF_parts
  rw [if_pos hw]
  refine wp_append_own w s x 50 ho n0 54 i0 _ 2 16 Tryd.underlying50 hi hz0 hz1 hz2 rfl (by omega) v l.length (fsl l) hs hown ⟨g, 0, none⟩ 2 2 [Value.int .u64 (y.1 : Int), .int .i64 y.2, .int .u64 (z.1 : Int), .int .i64 z.2] hx rfl hnews (by simp [Value.oneCell']) (by unfold maxLen; omega) (by omega) hb ?_
  intro v' w' h2 h3 h4
  rw [hd]
  refine h v' w' ?_ h3
  rw [fsl_app, List.length_append]
  exact h2
set_option maxRecDepth 100000 in
set_option maxHeartbeats 4000000 in
theorem rWrite_any (e f : Int) (aL aJ : Option Addr) (cL cJ : Nat) (L : List Int) (J : List (Int × Int)) (w : World) (rL : RdI w aL L) (rJ : RdP w aJ J) :
    Calls Tryd.prog 7 #[.agg #[.int .i64 e, .int .i64 f, .slice aL L.length cL, .slice aJ J.length cJ] ] w fun r w' => r = .returned (.tuple #[.string (wrS e f L J), .int .i64 (wrE e f L J)]) ∧ Below w.heap.size w w' := by
  have h1 := RcAt.new w #[.int .i64 e, .int .i64 f, .slice aL L.length cL, .slice aJ J.length cJ]
  have hb1 := below_alloc w (.cells #[.int .i64 e, .int .i64 f, .slice aL L.length cL, .slice aJ J.length cJ] 25)
  have hri := rRight_any e f aL aJ cL cJ L J _ (rL.later hb1) (rJ.later hb1)
  cases hr : rgt e f L J with
  | false =>
    rw [hr] at hri
    have HE : Hid (wrS e f L J = ⟨#[]⟩ ∧ wrE e f L J = 12) := by unfold Hid wrS wrE; rw [hr]; exact ⟨rfl, rfl⟩
    clear hr rL rJ h1
    generalize L.length = nL at *
    generalize J.length = nJ at *
    go_enter Tryd.func7, Tryd.ntmps7
    go_wp2_with fail
    refine hri.mono ?_
    rintro r w2 ⟨rfl, hb2⟩
    have HB : Hid (Below w.heap.size w w2) := hb1.trans (hb2.mono hb1.size)
    clear hb1 hb2 hri
    go_wp2_with fail
    go_ret2
    exact ⟨by rw [HE.out.1, HE.out.2]; rfl, HB.out⟩
  | true =>
    rw [hr] at hri
    have HE : Hid (pkS (flds e f L J) = wrS e f L J ∧ pkE (flds e f L J) = 0 ∧ wrE e f L J = 0) := by
      have := wr_pk hr
      exact ⟨this.1, this.2, by unfold wrE; rw [hr]; rfl⟩
    have HR := rgt_iff.1 hr
    clear hr
    obtain ⟨ev, rfl⟩ : ∃ ev : Nat, e = (ev : Int) := ⟨e.toNat, by have := HR.e1; omega⟩
    obtain ⟨fv, rfl⟩ : ∃ fv : Nat, f = (fv : Int) := ⟨f.toNat, by have := HR.f1; omega⟩
    have hev : ev ≤ 200 := by have := HR.e2; omega
    have hfv : fv ≤ 32768 := by have := HR.f2; omega
    have hnL := HR.l1
    have hnJ := HR.j1
    have HRR : Hid (Rgt (ev : Int) (fv : Int) L J) := HR
    clear HR
    obtain ⟨nL, hnl⟩ : ∃ n, L.length = n := ⟨_, rfl⟩
    obtain ⟨nJ, hnj⟩ : ∃ n, J.length = n := ⟨_, rfl⟩
    have HNL : Hid (L.length = nL) := hnl
    have HNJ : Hid (J.length = nJ) := hnj
    have HF : Hid (flds (ev : Int) (fv : Int) L J = [(ev, 8), (fv, 16), (nL, 7)] ++ fL L ++ [(nJ, 7)] ++ fJ J) := by unfold Hid flds; rw [hnl, hnj]; simp
    simp only [hnl, hnj] at h1 hb1 hri
    rw [hnl] at hnL ⊢
    rw [hnj] at hnJ ⊢
    clear hnl hnj
    go_enter Tryd.func7, Tryd.ntmps7
    go_upto_region 1 with (fail)
    generalize w.alloc (.cells #[.int .i64 (ev : Int), .int .i64 (fv : Int), .slice aL nL cL, .slice aJ nJ cJ] 25) = w1 at *
    obtain ⟨B, hB⟩ : ∃ B, w.heap.size = B := ⟨_, rfl⟩
    have HBW : Hid (B < w1.heap.size) := by unfold Hid; rw [← hB]; exact (Array.getElem?_eq_some_iff.1 h1).1
    rw [hB] at h1 ⊢
    clear hB
    obtain ⟨r0, r1, r2, r3⟩ := h1.cells
    go_wp2_with fail
    refine hri.mono ?_
    rintro r w2 ⟨rfl, hb2⟩
    have HB2 : Hid (Below w.heap.size w w2) := hb1.trans (hb2.mono hb1.size)
    have h2 := h1.later hb2
    have HBS : Hid (B < w2.heap.size) := Nat.lt_of_lt_of_le HBW.out hb2.size
    clear r0 r1 r2 r3 h1 hri hb1 hb2
    go_upto_region 3 with (fail)
    have hS0 : RcAt w2.drew B #[.int .i64 (ev : Int), .int .i64 (fv : Int), .slice aL nL cL, .slice aJ nJ cJ] := h2.later (drew_below _)
    have HB3 : Hid (Below w.heap.size w w2.drew) := HB2.out.drew
    have HBS3 : Hid (B < w2.drew.heap.size) := HBS.out
    have hf1 := field_any ev 8 (by omega)
    have hf2 := field_any fv 16 (by omega)
    have hf3 := field_any nL 7 (by omega)
    clear h2 HB2 HBS
    refine wp_region_held_drew (S := fun X => RcAt X B #[.int .i64 (ev : Int), .int .i64 (fv : Int), .slice aL nL cL, .slice aJ nJ cJ]) (by kernel_rfl) hS0 (fun hHeld => ?_)
    refine wpAnyH_take (i := 0) (oi := { dst := some 14, op := Op.fieldAddr 25 (Operand.tmp 1) 0, type := _, pos := _, after := _, guard := none }) (v := .pointer (some ⟨B, 0, none⟩)) rfl (by kernel_rfl) (by kernel_rfl) (by kernel_rfl) (fun _ _ _ h => h) (Or.inl ⟨by rfl, fun w hSw => by (try dsimp only at hSw); go_simp⟩) (by assumption) ?_
    simp only [Act.put, List.setIfInBounds_toArray, List.set_cons_zero, List.set_cons_succ]
    refine wpAnyH_take (i := 1) (oi := { dst := some 15, op := Op.load 3 (Operand.tmp 14), type := _, pos := _, after := _, guard := none }) (v := .int .i64 (ev : Int)) rfl (by kernel_rfl) (by kernel_rfl) (by kernel_rfl) (fun _ _ _ h => h) (Or.inl ⟨by rfl, fun w hSw => by obtain ⟨z0, z1, z2, z3⟩ := RcAt.cells hSw; clear hSw; go_simp⟩) (by assumption) ?_
    simp only [Act.put, List.setIfInBounds_toArray, List.set_cons_zero, List.set_cons_succ]
    refine wpAnyH_take (i := 3) (oi := { dst := some 17, op := Op.fieldAddr 25 (Operand.tmp 1) 1, type := _, pos := _, after := _, guard := none }) (v := .pointer (some ⟨B, 1, none⟩)) rfl (by kernel_rfl) (by kernel_rfl) (by kernel_rfl) (fun _ _ _ h => h) (Or.inl ⟨by rfl, fun w hSw => by (try dsimp only at hSw); go_simp⟩) (by assumption) ?_
    simp only [Act.put, List.setIfInBounds_toArray, List.set_cons_zero, List.set_cons_succ]
    refine wpAnyH_take (i := 4) (oi := { dst := some 18, op := Op.load 3 (Operand.tmp 17), type := _, pos := _, after := _, guard := none }) (v := .int .i64 (fv : Int)) rfl (by kernel_rfl) (by kernel_rfl) (by kernel_rfl) (fun _ _ _ h => h) (Or.inl ⟨by rfl, fun w hSw => by obtain ⟨z0, z1, z2, z3⟩ := RcAt.cells hSw; clear hSw; go_simp⟩) (by assumption) ?_
    simp only [Act.put, List.setIfInBounds_toArray, List.set_cons_zero, List.set_cons_succ]
    refine wpAnyH_take (i := 6) (oi := { dst := some 20, op := Op.fieldAddr 25 (Operand.tmp 1) 2, type := _, pos := _, after := _, guard := none }) (v := .pointer (some ⟨B, 2, none⟩)) rfl (by kernel_rfl) (by kernel_rfl) (by kernel_rfl) (fun _ _ _ h => h) (Or.inl ⟨by rfl, fun w hSw => by (try dsimp only at hSw); go_simp⟩) (by assumption) ?_
    simp only [Act.put, List.setIfInBounds_toArray, List.set_cons_zero, List.set_cons_succ]
    refine wpAnyH_take (i := 7) (oi := { dst := some 21, op := Op.load 22 (Operand.tmp 20), type := _, pos := _, after := _, guard := none }) (v := .slice aL nL cL) rfl (by kernel_rfl) (by kernel_rfl) (by kernel_rfl) (fun _ _ _ h => h) (Or.inl ⟨by rfl, fun w hSw => by obtain ⟨z0, z1, z2, z3⟩ := RcAt.cells hSw; clear hSw; go_simp⟩) (by assumption) ?_
    simp only [Act.put, List.setIfInBounds_toArray, List.set_cons_zero, List.set_cons_succ]
    refine wpAnyH_take (i := 8) (oi := { dst := some 22, op := Op.call { callee := Callee.builtin Builtin.len, args := #[(Operand.tmp 21)], argTypes := #[22] }, type := _, pos := _, after := _, guard := none }) (v := .int .i64 (nL : Int)) rfl (by kernel_rfl) (by kernel_rfl) (by kernel_rfl) (fun _ _ _ h => h) (Or.inl ⟨by rfl, fun w hSw => by (try dsimp only at hSw); go_simp⟩) (by assumption) ?_
    simp only [Act.put, List.setIfInBounds_toArray, List.set_cons_zero, List.set_cons_succ]
    refine wpAnyH_ready (rs := [2]) (by kernel_rfl) (by simp) ?_
    refine AllReadyH.cons rfl (fun K hK => ?_) AllReadyH.nil
    go_simp
    refine (hf1 _).mono ?_
    rintro r w3 ⟨rfl, hb3⟩
    go_wp2_with fail
    refine hK.out _ _ (hHeld.later hb3) (fun hHeld2 => ?_)
    clear hHeld
    clear hK K
    try simp only [Act.put, List.setIfInBounds_toArray, List.set_cons_zero, List.set_cons_succ]
    refine wpAnyH_ready (rs := [5]) (by kernel_rfl) (by simp) ?_
    refine AllReadyH.cons rfl (fun K hK => ?_) AllReadyH.nil
    go_simp
    refine (hf2 _).mono ?_
    rintro r w4 ⟨rfl, hb4⟩
    go_wp2_with fail
    refine hK.out _ _ (hHeld2.later hb4) (fun hHeld3 => ?_)
    clear hHeld2
    clear hK K
    try simp only [Act.put, List.setIfInBounds_toArray, List.set_cons_zero, List.set_cons_succ]
    refine wpAnyH_ready (rs := [9]) (by kernel_rfl) (by simp) ?_
    refine AllReadyH.cons rfl (fun K hK => ?_) AllReadyH.nil
    go_simp
    refine (hf3 _).mono ?_
    rintro r w5 ⟨rfl, hb5⟩
    go_wp2_with fail
    refine hK.out _ _ (hHeld3.later hb5) (fun hHeld4 => ?_)
    clear hHeld3
    clear hK K
    try simp only [Act.put, List.setIfInBounds_toArray, List.set_cons_zero, List.set_cons_succ]
    refine wpAnyH_ready (rs := [10]) (by kernel_rfl) (by simp) ?_
    refine AllReadyH.cons rfl (fun K hK => ?_) AllReadyH.nil
    go_simp
    refine hK.out _ _ (hHeld4.later (below_alloc _ _)) (fun hHeld5 => ?_)
    clear hHeld4
    clear hK K
    try simp only [Act.put, List.setIfInBounds_toArray, List.set_cons_zero, List.set_cons_succ]
    refine wpAnyH_take (i := 11) (oi := { dst := some 4, op := Op.assign (Operand.tmp 24), type := _, pos := _, after := _, guard := none }) (v := .slice (some ⟨w5.heap.size, 0, none⟩) 3 3) rfl (by kernel_rfl) (by kernel_rfl) (by kernel_rfl) (fun _ _ _ h => h) (Or.inl ⟨by rfl, fun w hSw => by (try dsimp only at hSw); go_simp⟩) (by assumption) ?_
    simp only [Act.put, List.setIfInBounds_toArray, List.set_cons_zero, List.set_cons_succ]
    refine wpAnyH_done (by kernel_rfl) ?_ _
    have HB5 : Hid (Below w.heap.size w w5) := ((HB3.out.trans (hb3.mono HB3.out.size)).trans (hb4.mono (Nat.le_trans HB3.out.size hb3.size))).trans (hb5.mono (Nat.le_trans (Nat.le_trans HB3.out.size hb3.size) hb4.size))
    have HBS5 : Hid (B < w5.heap.size) := Nat.lt_of_lt_of_le HBS3.out (Nat.le_trans hb3.size (Nat.le_trans hb4.size hb5.size))
    have hW6 : FW w (w5.alloc (.cells #[.int .u64 (ev : Int), .int .i64 8, .int .u64 (fv : Int), .int .i64 16, .int .u64 (nL : Int), .int .i64 7] 54)) B w5.heap.size #[.int .i64 (ev : Int), .int .i64 (fv : Int), .slice aL nL cL, .slice aJ nJ cJ] (.slice (some ⟨w5.heap.size, 0, none⟩) 3 3) [(ev, 8), (fv, 16), (nL, 7)] :=
      ⟨hHeld5, World.ownsRow_lit w5 _ 3 (Nat.le_refl _) (by unfold maxLen; omega) rfl, HB5.out.alloc HB5.out.size _, HBS5.out, HB5.out.size, by simp⟩
    clear hHeld5 hb3 hb4 hb5 HB3 HBS3 hS0 hf1 hf2 hf3 HB5 HBS5
    generalize w5.alloc (.cells #[.int .u64 (ev : Int), .int .i64 8, .int .u64 (fv : Int), .int .i64 16, .int .u64 (nL : Int), .int .i64 7] 54) = w6 at *
    generalize w5.heap.size = n0 at *
    obtain ⟨r0, r1, r2, r3⟩ := hW6.rc.cells
    obtain ⟨v6, hv6⟩ : ∃ v : Value, v = .slice (some ⟨n0, 0, none⟩) 3 3 := ⟨_, rfl⟩
    rw [← hv6] at hW6 ⊢
    have HW6 : Hid (FW w w6 B n0 #[.int .i64 (ev : Int), .int .i64 (fv : Int), .slice aL nL cL, .slice aJ nJ cJ] v6 ([(ev, 8), (fv, 16), (nL, 7)] ++ fL (L.take 0))) := by unfold Hid; simpa [fL] using hW6
    clear hW6 hv6
    obtain ⟨i0, hi, hz0, hz1, hz2⟩ := infoF_parts
    go_wp2_with fail
    go_loopw [4, 28] (fun v i wx => ∃ k : Nat, k ≤ nL ∧ i = .int .i64 (k : Int) ∧ FW w wx B n0 #[.int .i64 (ev : Int), .int .i64 (fv : Int), .slice aL nL cL, .slice aJ nJ cJ] v ([(ev, 8), (fv, 16), (nL, 7)] ++ fL (L.take k))) (fun _ i _ => nL - (intOf i).toNat)
    case atStart => exact ⟨0, by omega, rfl, HW6.out⟩
    case round =>
      obtain ⟨k, hk, rfl, hG⟩ := hrel
      have HG : Hid (FW w wr B n0 #[.int .i64 (ev : Int), .int .i64 (fv : Int), .slice aL nL cL, .slice aJ nJ cJ] u4 ([(ev, 8), (fv, 16), (nL, 7)] ++ fL (L.take k))) := hG
      obtain ⟨a1, k1, rfl⟩ := owns_slice hG.row
      have HLN : Hid (([(ev, 8), (fv, 16), (nL, 7)] ++ fL (L.take k) : List (Nat × Int)).length ≤ 4000) := by unfold Hid; simp; omega
      clear HW6 r0 r1 r2 r3 hG
      by_cases hkn : k < nL
      · have hkL : k < L.length := by rw [HNL.out]; exact hkn
        obtain ⟨b, o, rfl, c0⟩ := rL k hkL
        have c0 := cell_later HG.out.bel c0
        have i1 : (0 : Int) ≤ (k : Int) := by omega
        have i2 : (k : Int) < (nL : Int) := by omega
        have HS : Hid (fL (L.take (k + 1)) = fL (L.take k) ++ [((L.getD k 0).toNat, 8)]) := fL_take hkL
        have hwx := who_iff.1 (HRR.out.lw _ (getD_mem' 0 hkL))
        obtain ⟨x, hx⟩ : ∃ x : Nat, L.getD k 0 = (x : Int) := ⟨(L.getD k 0).toNat, by omega⟩
        rw [hx] at c0 hwx HS
        rw [Int.toNat_natCast] at HS
        have hx256 : x < 256 := by omega
        have hf := field_any x 8 (by omega)
        obtain ⟨l, hl⟩ : ∃ l, [(ev, 8), (fv, 16), (nL, 7)] ++ fL (L.take k) = l := ⟨_, rfl⟩
        have HS2 : Hid ([(ev, 8), (fv, 16), (nL, 7)] ++ fL (L.take (k + 1)) = l ++ [(x, 8)]) := by unfold Hid; rw [HS.out, ← List.append_assoc, hl]
        rw [hl] at HG HLN ⊢
        clear hx hwx hkL rL rJ HS hl
        go_wp2_with fail
        refine (hf _).mono ?_
        rintro r w6 ⟨rfl, hb6⟩
        have hG6 := HG.out.later hb6
        have HG6 : Hid (FW w w6 B n0 #[.int .i64 (ev : Int), .int .i64 (fv : Int), .slice (some ⟨b, o, none⟩) nL cL, .slice aJ nJ cJ] (.slice a1 l.length k1) l) := hG6
        have hrow := hG6.row
        have hsz := hG6.sz
        have hlen := HLN.out
        clear hG6 hb6 hf HG c0
        go_wp2_with (at_builtin; (refine wpList_append_own _ rfl _ _ 50 rfl n0 54 i0 (.agg #[.int .u64 0, .int .i64 0]) 2 16 Tryd.underlying50 hi hz0 hz1 hz2 rfl (by decide) (.slice a1 l.length k1) l.length (fsl l) rfl (hrow.alloc _) ⟨w6.heap.size, 0, none⟩ 1 1 [.int .u64 (x : Int), .int .i64 8] rfl rfl (cell_row_new _ _ _) (by simp [Value.oneCell']) (by unfold maxLen; omega) (by omega) (by simp; omega) ?_); intro v' w7 hown' hg7 _; obtain ⟨a2, k2, rfl⟩ := owns_slice hown'; have HO7 : Hid (w7.ownsRow n0 54 2 (.slice a2 (l.length + 1) k2) (l.length + 1) (fsl l ++ [.int .u64 (x : Int), .int .i64 8])) := hown'; have HG7 : Hid ((w6.alloc (.cells #[.int .u64 (x : Int), .int .i64 8] 54)).grownBy w7 (Value.slice a1 l.length k1).ownBlock) := hg7; clear hown' hg7)
        go_roundw
        case rel => exact ⟨k + 1, by omega, by go_num, by rw [HS2.out]; exact (HG6.out.later (below_alloc _ _)).app (m := [(x, 8)]) (by rw [fsl_app, List.length_append]; exact HO7.out) HG7.out⟩
        case measure => simp [intOf]; omega
      · have hkn' : decide ((k : Int) < (nL : Int)) = false := by simp; omega
        have hf := field_any nJ 7 (by omega)
        have e : L.take k = L := List.take_of_length_le (by rw [HNL.out]; omega)
        rw [e] at HG HLN ⊢
        clear e
        obtain ⟨l, hl⟩ : ∃ l, [(ev, 8), (fv, 16), (nL, 7)] ++ fL L = l := ⟨_, rfl⟩
        have HL : Hid ([(ev, 8), (fv, 16), (nL, 7)] ++ fL L = l) := hl
        rw [hl] at HG HLN ⊢
        clear hl rL
        obtain ⟨r0, r1, r2, r3⟩ := HG.out.rc.cells
        go_wp2_with fail
        refine (hf _).mono ?_
        rintro r w6 ⟨rfl, hb6⟩
        have hG6 := HG.out.later hb6
        have HG6 : Hid (FW w w6 B n0 #[.int .i64 (ev : Int), .int .i64 (fv : Int), .slice aL nL cL, .slice aJ nJ cJ] (.slice a1 l.length k1) l) := hG6
        have hrow := hG6.row
        have hsz := hG6.sz
        have hlen := HLN.out
        clear hG6 hb6 hf HG r0 r1 r2 r3
        have HZ7 : Hid (∀ W', (w6.alloc (.cells #[.int .u64 (nJ : Int), .int .i64 7] 54)).grownBy W' (Value.slice a1 l.length k1).ownBlock → W'.cell? ⟨B, 3, none⟩ = some (.slice aJ nJ cJ)) := fun W' hg => by
          have h := HG6.out.later (below_alloc w6 (.cells #[.int .u64 (nJ : Int), .int .i64 7] 54))
          have hB := (Array.getElem?_eq_some_iff.1 h.rc).1
          exact (RcAt.cells ((hg.block B hB (Rs.row_far h.row h.lt)).trans h.rc)).2.2.2
        go_upto_region 10 with (at_builtin; (refine wpList_append_own _ rfl _ _ 50 rfl n0 54 i0 (.agg #[.int .u64 0, .int .i64 0]) 2 16 Tryd.underlying50 hi hz0 hz1 hz2 rfl (by decide) (.slice a1 l.length k1) l.length (fsl l) rfl (hrow.alloc _) ⟨w6.heap.size, 0, none⟩ 1 1 [.int .u64 (nJ : Int), .int .i64 7] rfl rfl (cell_row_new _ _ _) (by simp [Value.oneCell']) (by unfold maxLen; omega) (by omega) (by simp; omega) ?_); intro v' w7 hown' hg7 _; obtain ⟨a2, k2, rfl⟩ := owns_slice hown'; have HO7 : Hid (w7.ownsRow n0 54 2 (.slice a2 (l.length + 1) k2) (l.length + 1) (fsl l ++ [.int .u64 (nJ : Int), .int .i64 7])) := hown'; have HG7 : Hid ((w6.alloc (.cells #[.int .u64 (nJ : Int), .int .i64 7] 54)).grownBy w7 (Value.slice a1 l.length k1).ownBlock) := hg7; clear hown' hg7)
        have r3 := HZ7.out _ HG7.out
        have HW7 : Hid (FW w w7 B n0 #[.int .i64 (ev : Int), .int .i64 (fv : Int), .slice aL nL cL, .slice aJ nJ cJ] (.slice a2 (l.length + 1) k2) (l ++ [(nJ, 7)] ++ fJ (J.take 0))) := by
          have h := (HG6.out.later (below_alloc _ _)).app (m := [(nJ, 7)]) (by rw [fsl_app, List.length_append]; exact HO7.out) HG7.out
          unfold Hid
          simpa [fJ] using h
        have HLN2 : Hid (l.length ≤ 4 + nL) := by
          unfold Hid
          rw [← HL.out]
          simp
          have := HNL.out
          omega
        clear HG6 HO7 HG7 HZ7 hrow hsz hlen HLN
        obtain ⟨v7, hv7⟩ : ∃ v : Value, v = .slice a2 (l.length + 1) k2 := ⟨_, rfl⟩
        rw [← hv7] at HW7 ⊢
        clear hv7
        go_wp2_with fail
        go_loopw [4, 48] (fun v i wx => ∃ m : Nat, m ≤ nJ ∧ i = .int .i64 (m : Int) ∧ FW w wx B n0 #[.int .i64 (ev : Int), .int .i64 (fv : Int), .slice aL nL cL, .slice aJ nJ cJ] v (l ++ [(nJ, 7)] ++ fJ (J.take m))) (fun _ i _ => nJ - (intOf i).toNat)
        case atStart => exact ⟨0, by omega, rfl, HW7.out⟩
        case round =>
          obtain ⟨m, hm, rfl, hG⟩ := hrel
          have HG : Hid (FW w wr B n0 #[.int .i64 (ev : Int), .int .i64 (fv : Int), .slice aL nL cL, .slice aJ nJ cJ] u4 (l ++ [(nJ, 7)] ++ fJ (J.take m))) := hG
          obtain ⟨a3, k3, rfl⟩ := owns_slice hG.row
          have HLM : Hid ((l ++ [(nJ, 7)] ++ fJ (J.take m) : List (Nat × Int)).length ≤ 4000) := by unfold Hid; have := HLN2.out; simp; omega
          clear HW7 r3 hG
          by_cases hmn : m < nJ
          · have hmJ : m < J.length := by rw [HNJ.out]; exact hmn
            obtain ⟨b, o, rfl, c0, c1⟩ := rJ m hmJ
            have c0 := cell_later HG.out.bel c0
            have c1 := cell_later HG.out.bel c1
            have i1 : (0 : Int) ≤ (m : Int) := by omega
            have i2 : (m : Int) < (nJ : Int) := by omega
            have HS : Hid (fJ (J.take (m + 1)) = fJ (J.take m) ++ [((J.getD m (0, 0)).1.toNat, 8)] ++ [((J.getD m (0, 0)).2.toNat, 6)]) := fJ_take hmJ
            have hsx := sea_iff.1 (HRR.out.js _ (getD_mem' (0, 0) hmJ))
            obtain ⟨x, hx⟩ : ∃ x : Nat, (J.getD m (0, 0)).1 = (x : Int) := ⟨(J.getD m (0, 0)).1.toNat, by omega⟩
            obtain ⟨y, hy⟩ : ∃ y : Nat, (J.getD m (0, 0)).2 = (y : Int) := ⟨(J.getD m (0, 0)).2.toNat, by omega⟩
            rw [hx] at c0 hsx HS
            rw [hy] at c1 hsx HS
            rw [Int.toNat_natCast, Int.toNat_natCast] at HS
            have hx256 : x < 256 := by omega
            have hy64 : y < 64 := by omega
            have hf1 := field_any x 8 (by omega)
            have hf2 := field_any y 6 (by omega)
            obtain ⟨lm, hlm⟩ : ∃ l', l ++ [(nJ, 7)] ++ fJ (J.take m) = l' := ⟨_, rfl⟩
            have HS2 : Hid (l ++ [(nJ, 7)] ++ fJ (J.take (m + 1)) = lm ++ [(x, 8), (y, 6)]) := by unfold Hid; rw [HS.out, ← hlm]; simp
            rw [hlm] at HG HLM ⊢
            have hSE : SeAt (wr.alloc (.cells #[.int .i64 (x : Int), .int .i64 (y : Int)] 57)) wr.heap.size (x : Int) (y : Int) := heap_alloc_last wr _
            have hGa := HG.out.later (below_alloc wr (.cells #[.int .i64 (x : Int), .int .i64 (y : Int)] 57))
            clear hx hy hsx hmJ rJ HS hlm HG
            go_upto_region 13 with (fail)
            generalize wr.alloc (.cells #[.int .i64 (x : Int), .int .i64 (y : Int)] 57) = wa at *
            generalize wr.heap.size = A at *
            have hS0 : SeAt wa.drew A (x : Int) (y : Int) := hSE
            have HG0 : Hid (FW w wa.drew B n0 #[.int .i64 (ev : Int), .int .i64 (fv : Int), .slice aL nL cL, .slice (some ⟨b, o, none⟩) nJ cJ] (.slice a3 lm.length k3) lm) := hGa.later (drew_below _)
            clear hSE hGa c0 c1
            refine wp_region_held_drew (S := fun X => SeAt X A (x : Int) (y : Int)) (by kernel_rfl) hS0 (fun hHeld => ?_)
            refine wpAnyH_take (i := 0) (oi := { dst := some 52, op := Op.move (Operand.tmp 4), type := _, pos := _, after := _, guard := none }) (v := .slice a3 lm.length k3) rfl (by kernel_rfl) (by kernel_rfl) (by kernel_rfl) (fun _ _ _ h => h) (Or.inl ⟨by rfl, fun w hSw => by (try dsimp only at hSw); go_simp⟩) (by assumption) ?_
            simp only [Act.put, List.setIfInBounds_toArray, List.set_cons_zero, List.set_cons_succ]
            refine wpAnyH_take (i := 1) (oi := { dst := some 53, op := Op.fieldAddr 57 (Operand.tmp 8) 0, type := _, pos := _, after := _, guard := none }) (v := .pointer (some ⟨A, 0, none⟩)) rfl (by kernel_rfl) (by kernel_rfl) (by kernel_rfl) (fun _ _ _ h => h) (Or.inl ⟨by rfl, fun w hSw => by (try dsimp only at hSw); go_simp⟩) (by assumption) ?_
            simp only [Act.put, List.setIfInBounds_toArray, List.set_cons_zero, List.set_cons_succ]
            refine wpAnyH_take (i := 2) (oi := { dst := some 54, op := Op.load 3 (Operand.tmp 53), type := _, pos := _, after := _, guard := none }) (v := .int .i64 (x : Int)) rfl (by kernel_rfl) (by kernel_rfl) (by kernel_rfl) (fun _ _ _ h => h) (Or.inl ⟨by rfl, fun w hSw => by obtain ⟨z0, z1⟩ := SeAt.cells hSw; clear hSw; go_simp⟩) (by assumption) ?_
            simp only [Act.put, List.setIfInBounds_toArray, List.set_cons_zero, List.set_cons_succ]
            refine wpAnyH_take (i := 4) (oi := { dst := some 56, op := Op.fieldAddr 57 (Operand.tmp 8) 1, type := _, pos := _, after := _, guard := none }) (v := .pointer (some ⟨A, 1, none⟩)) rfl (by kernel_rfl) (by kernel_rfl) (by kernel_rfl) (fun _ _ _ h => h) (Or.inl ⟨by rfl, fun w hSw => by (try dsimp only at hSw); go_simp⟩) (by assumption) ?_
            simp only [Act.put, List.setIfInBounds_toArray, List.set_cons_zero, List.set_cons_succ]
            refine wpAnyH_take (i := 5) (oi := { dst := some 57, op := Op.load 3 (Operand.tmp 56), type := _, pos := _, after := _, guard := none }) (v := .int .i64 (y : Int)) rfl (by kernel_rfl) (by kernel_rfl) (by kernel_rfl) (fun _ _ _ h => h) (Or.inl ⟨by rfl, fun w hSw => by obtain ⟨z0, z1⟩ := SeAt.cells hSw; clear hSw; go_simp⟩) (by assumption) ?_
            simp only [Act.put, List.setIfInBounds_toArray, List.set_cons_zero, List.set_cons_succ]
            refine wpAnyH_ready (rs := [3]) (by kernel_rfl) (by simp) ?_
            refine AllReadyH.cons rfl (fun K hK => ?_) AllReadyH.nil
            go_simp
            refine (hf1 _).mono ?_
            rintro r w3 ⟨rfl, hb3⟩
            go_wp2_with fail
            have HG3 : Hid (FW w w3 B n0 #[.int .i64 (ev : Int), .int .i64 (fv : Int), .slice aL nL cL, .slice (some ⟨b, o, none⟩) nJ cJ] (.slice a3 lm.length k3) lm) := HG0.out.later hb3
            refine hK.out _ _ (hHeld.later hb3) (fun hHeld2 => ?_)
            clear hHeld hb3 HG0
            clear hK K
            try simp only [Act.put, List.setIfInBounds_toArray, List.set_cons_zero, List.set_cons_succ]
            refine wpAnyH_ready (rs := [6]) (by kernel_rfl) (by simp) ?_
            refine AllReadyH.cons rfl (fun K hK => ?_) AllReadyH.nil
            go_simp
            refine (hf2 _).mono ?_
            rintro r w4 ⟨rfl, hb4⟩
            go_wp2_with fail
            have HG4 : Hid (FW w w4 B n0 #[.int .i64 (ev : Int), .int .i64 (fv : Int), .slice aL nL cL, .slice (some ⟨b, o, none⟩) nJ cJ] (.slice a3 lm.length k3) lm) := HG3.out.later hb4
            refine hK.out _ _ (hHeld2.later hb4) (fun hHeld3 => ?_)
            clear hHeld2 hb4 HG3
            clear hK K
            try simp only [Act.put, List.setIfInBounds_toArray, List.set_cons_zero, List.set_cons_succ]
            refine wpAnyH_ready (rs := [7]) (by kernel_rfl) (by simp) ?_
            refine AllReadyH.cons rfl (fun K hK => ?_) AllReadyH.nil
            go_simp
            refine hK.out _ _ (hHeld3.later (below_alloc _ _)) (fun hHeld4 => ?_)
            clear hHeld3
            clear hK K
            try simp only [Act.put, List.setIfInBounds_toArray, List.set_cons_zero, List.set_cons_succ]
            refine wpAnyH_ready (rs := [8]) (by kernel_rfl) (by simp) ?_
            refine AllReadyH.cons rfl (fun Kc hK => ?_) AllReadyH.nil
            have hG5 := HG4.out.later (below_alloc w4 (.cells #[.int .u64 (x : Int), .int .i64 8, .int .u64 (y : Int), .int .i64 6] 54))
            refine appF2 rfl 60 rfl _ _ rfl n0 (.slice a3 lm.length k3) lm rfl hG5.row w4.heap.size (x, 8) (y, 6) rfl (cell_row_new _ _ _) (by have := HLM.out; omega) hG5.sz ?_
            intro v9 w9 hown9 hg9
            obtain ⟨a9, k9, rfl⟩ := owns_slice hown9
            have HG9 : Hid (FW w w9 B n0 #[.int .i64 (ev : Int), .int .i64 (fv : Int), .slice aL nL cL, .slice (some ⟨b, o, none⟩) nJ cJ] (.slice a9 (lm ++ [(x, 8), (y, 6)]).length k9) (lm ++ [(x, 8), (y, 6)])) := hG5.app hown9 hg9
            refine hK.out _ _ ((hg9.block A (Array.getElem?_eq_some_iff.1 hHeld4).1 (own_type hG5.row hHeld4 (by decide))).trans hHeld4) (fun hHeld5 => ?_)
            clear hHeld4 hG5 hown9 hg9 HG4
            clear hK Kc
            try simp only [Act.put, List.setIfInBounds_toArray, List.set_cons_zero, List.set_cons_succ]
            refine wpAnyH_take (i := 9) (oi := { dst := some 4, op := Op.assign (Operand.tmp 60), type := _, pos := _, after := _, guard := none }) (v := .slice a9 (lm ++ [(x, 8), (y, 6)]).length k9) rfl (by kernel_rfl) (by kernel_rfl) (by kernel_rfl) (fun _ _ _ h => h) (Or.inl ⟨by rfl, fun w hSw => by (try dsimp only at hSw); go_simp⟩) (by assumption) ?_
            simp only [Act.put, List.setIfInBounds_toArray, List.set_cons_zero, List.set_cons_succ]
            refine wpAnyH_done (by kernel_rfl) ?_ _
            obtain ⟨nn, hnn⟩ : ∃ n, (lm ++ [(x, 8), (y, 6)] : List (Nat × Int)).length = n := ⟨_, rfl⟩
            have HNN : Hid ((lm ++ [(x, 8), (y, 6)] : List (Nat × Int)).length = nn) := hnn
            rw [hnn] at HG9 ⊢
            clear hnn
            go_wp2_with fail
            go_roundw
            case rel => exact ⟨m + 1, by omega, by go_num, by rw [HS2.out]; exact HG9.out⟩
            case measure => simp [intOf]; omega
          · have hmn' : decide ((m : Int) < (nJ : Int)) = false := by simp; omega
            have e : J.take m = J := List.take_of_length_le (by rw [HNJ.out]; omega)
            rw [e, ← HL.out, ← HF.out] at HG
            rw [e, ← HL.out, ← HF.out]
            have HLF : Hid ((flds (ev : Int) (fv : Int) L J).length ≤ 16777216) := by
              unfold Hid
              rw [flds_length]
              have := HNL.out
              have := HNJ.out
              omega
            have hrd := rdF_of HG.out.row (fun x hx => by
              have := Bt.okF_width (HRR.out.fit.ok x hx)
              have h2 : 2 ^ x.2.toNat ≤ 2 ^ 64 := Nat.pow_le_pow_right (by decide) (by omega)
              omega)
            have hpk := Bt.rPack_any a3 k3 _ (flds (ev : Int) (fv : Int) L J) rfl wr HLF.out hrd
            rw [HE.out.1, HE.out.2.1] at hpk
            have HBR : Hid (Below w.heap.size w wr) := HG.out.bel
            clear HG hrd e
            generalize (flds (ev : Int) (fv : Int) L J).length = FN at *
            go_wp2_with fail
            refine hpk.mono ?_
            rintro r w4 ⟨rfl, hb4⟩
            clear hpk
            go_wp2_with fail
            go_ret2
            exact ⟨by rw [HE.out.2.2]; rfl, HBR.out.trans (hb4.mono HBR.out.size)⟩
end Go.Proofs.YteocfmimgoocnaaDoor.Rc
/- Contract of the document's answer: Read. -/
namespace Go.Proofs.YteocfmimgoocnaaDoor.Rc
open Go.RowKit Go.Maps
open Rs (RdI cell_later i64s i64s_length own_other owns_later owns_slice ps infoInt)
open Bt (Rm tb bys tb_length bys_length dn)
set_option linter.unusedVariables false
set_option linter.unusedSimpArgs false

theorem rNum_any {b g : Nat} {p : Nat × Bool} {T : List Bool} {v : Value} (q : Nat) {w : World} (h : Rm b w g p.1 T v) (hT : T.length < 4611686018427387904) (h1 : 1 ≤ q) (h2 : q ≤ 62) :
    Calls Tryd.prog 23 #[.pointer (some ⟨g, 0, none⟩), .int .i64 (q : Int)] w fun e w' => (∃ E : Int, e = .returned (.tuple #[.int .u64 ((nm1 T p q).1 : Int), .int .i64 E])) ∧ Rm b w' g (nm1 T p q).2.1 T v ∧ Bt.Kept (fun k => k = g) w w' := by
  obtain ⟨c, sh⟩ := p
  dsimp only at h
  by_cases hc : c + q ≤ T.length
  · refine (Bt.rTake_yes b g c q T v w h hT h1 (by omega) hc).mono ?_
    rintro e w' ⟨rfl, hr, hk⟩
    have HN : nm1 T (c, sh) q = (Bt.bv ((T.drop c).take q), (c + q, sh)) := by unfold nm1; rw [if_pos hc]
    rw [HN]
    exact ⟨⟨_, rfl⟩, hr, hk⟩
  · refine (Bt.rTake_no b g c T v (q : Int) w h hT (by rintro ⟨_, h⟩; omega)).mono ?_
    rintro e w' ⟨rfl, m, rfl⟩
    have HN : nm1 T (c, sh) q = (0, (c, true)) := by unfold nm1; rw [if_neg hc]
    rw [HN]
    exact ⟨⟨_, rfl⟩, h.drewN m, ⟨rfl, rfl, rfl, Nat.le_refl _, fun _ _ _ => rfl⟩⟩
structure RD (w W : World) (b R g A n0 : Nat) (p : Nat × Bool) (T : List Bool) (v : Value) (e f : Int) (vL vJ : Value) (L : List Int) (J : List (Int × Int)) : Prop where
  rm : Rm b W g p.1 T v
  rc : RcAt W A #[.int .i64 e, .int .i64 f, vL, vJ]
  rs : RcAt W R rz
  rl : W.ownsRow n0 3 1 vL L.length (i64s L)
  rj : W.ownsRow n0 57 2 vJ J.length (ps J)
  bel : Below w.heap.size w W
  ne : R ≠ A
  le : w.heap.size ≤ R ∧ w.heap.size ≤ g ∧ w.heap.size ≤ A
  lt : R < n0 ∧ g < n0 ∧ A < n0
  sz : n0 ≤ W.heap.size
section
variable {w W W' : World} {b R g A n0 : Nat} {p p' : Nat × Bool} {T : List Bool} {v : Value} {e f : Int} {vL vJ v' : Value} {L : List Int} {J : List (Int × Int)}
theorem rm_block {b g c : Nat} {T : List Bool} {v : Value} {W W' : World} (h : Rm b W g c T v) (hg : W'.heap[g]? = W.heap[g]?) (hr : W'.ownsRow b 5 1 v T.length (Bt.b01 T)) : Rm b W' g c T v := ⟨hg.trans h.blk, hr, h.far, h.le⟩
theorem RD.num (h : RD w W b R g A n0 p T v e f vL vJ L J) (hr : Rm b W' g p'.1 T v) (hk : Bt.Kept (fun k => k = g) W W') : RD w W' b R g A n0 p' T v e f vL vJ L J := by
  obtain ⟨l1, l2, l4⟩ := h.lt
  obtain ⟨m1, m2, m4⟩ := h.le
  have a1 : A ≠ g := block_ne h.rc h.rm.blk (by decide)
  have r1 : R ≠ g := block_ne h.rs h.rm.blk (by decide)
  have far : ∀ k, n0 ≤ k → k < W.heap.size → W'.heap[k]? = W.heap[k]? := fun k hk0 hk1 => hk.block k hk1 (by omega)
  exact ⟨hr, (hk.block A (Array.getElem?_eq_some_iff.1 h.rc).1 (by omega)).trans h.rc, (hk.block R (Array.getElem?_eq_some_iff.1 h.rs).1 (by omega)).trans h.rs, Rs.owns_block h.rl far, Rs.owns_block h.rj far, h.bel.trans (hk.below h.bel.size (fun k hk => by omega)), h.ne, h.le, h.lt, Nat.le_trans h.sz hk.size⟩
theorem RD.later (h : RD w W b R g A n0 p T v e f vL vJ L J) (hb : Below W.heap.size W W') : RD w W' b R g A n0 p T v e f vL vJ L J :=
  ⟨rm_block h.rm (hb.block g (Array.getElem?_eq_some_iff.1 h.rm.blk).1) (owns_later h.rm.row hb), h.rc.later hb, h.rs.later hb, owns_later h.rl hb, owns_later h.rj hb, h.bel.trans (hb.mono h.bel.size), h.ne, h.le, h.lt, Nat.le_trans h.sz hb.size⟩
theorem own_cell2 {W : World} {b : Nat} {e : TypeId} {sz : Nat} {v : Value} {n : Nat} {xs : List Value} (h : W.ownsRow b e sz v n xs) {B : Nat} {cs : Array Value} {T : TypeId} (hB : W.heap[B]? = some (.cells cs T (0, 0))) (hne : e ≠ T) (j : Nat) (u : Value) : (W.setCell ⟨B, j, none⟩ u).ownsRow b e sz v n xs :=
  own_other h fun g hg => Rt.other_setCell (fun e => own_type h hB (Ne.symm hne) (by rw [hg, e])) _ _
theorem RD.app2 (h : RD w W b R g A n0 p T v e f vL vJ L J) {y : Int} (hown : W'.ownsRow n0 3 1 v' (L ++ [y]).length (i64s (L ++ [y]))) (hg : W.grownBy W' vL.ownBlock) : RcAt W' A #[.int .i64 e, .int .i64 f, vL, vJ] ∧ RD w (W'.setCell ⟨A, 2, none⟩ v') b R g A n0 p T v e f v' vJ (L ++ [y]) J := by
  obtain ⟨l1, l2, l4⟩ := h.lt
  obtain ⟨m1, m2, m4⟩ := h.le
  have a1 : g ≠ A := Ne.symm (block_ne h.rc h.rm.blk (by decide))
  have blk : ∀ k, k < n0 → W'.heap[k]? = W.heap[k]? := fun k hk => hg.block k (by have := h.sz; omega) (Rs.row_far h.rl hk)
  have far : ∀ k, n0 ≤ k → k < W'.heap.size → (W'.setCell ⟨A, 2, none⟩ v').heap[k]? = W'.heap[k]? := fun k hk0 hk1 => Rt.other_setCell (by omega) _ _
  have hrc : RcAt W' A #[.int .i64 e, .int .i64 f, vL, vJ] := (blk _ l4).trans h.rc
  refine ⟨hrc, rm_block h.rm ((Rt.other_setCell a1 _ _).trans (blk _ l2)) (own_cell2 (own_grown h.rm.row h.rl (by decide) hg) hrc (by decide) _ _), Rt.row_setCell hrc 2 v', (Rt.other_setCell h.ne _ _).trans ((blk _ l1).trans h.rs), Rs.owns_block hown far, Rs.owns_block (own_grown h.rj h.rl (by decide) hg) far, ?_, h.ne, h.le, h.lt, ?_⟩
  · refine Below.setCell (p := ⟨A, 2, none⟩) ?_ m4 _
    exact Below.grown h.bel hg h.bel.size fun j hj => by
      rcases Nat.lt_or_ge j n0 with hlt | hge
      · exact absurd hj.symm (Rs.row_far h.rl hlt)
      · omega
  · have := hg.size; have := h.sz; simp; omega
theorem RD.app3 (h : RD w W b R g A n0 p T v e f vL vJ L J) {y : Int × Int} (hown : W'.ownsRow n0 57 2 v' (J ++ [y]).length (ps (J ++ [y]))) (hg : W.grownBy W' vJ.ownBlock) : RcAt W' A #[.int .i64 e, .int .i64 f, vL, vJ] ∧ RD w (W'.setCell ⟨A, 3, none⟩ v') b R g A n0 p T v e f vL v' L (J ++ [y]) := by
  obtain ⟨l1, l2, l4⟩ := h.lt
  obtain ⟨m1, m2, m4⟩ := h.le
  have a1 : g ≠ A := Ne.symm (block_ne h.rc h.rm.blk (by decide))
  have blk : ∀ k, k < n0 → W'.heap[k]? = W.heap[k]? := fun k hk => hg.block k (by have := h.sz; omega) (Rs.row_far h.rj hk)
  have far : ∀ k, n0 ≤ k → k < W'.heap.size → (W'.setCell ⟨A, 3, none⟩ v').heap[k]? = W'.heap[k]? := fun k hk0 hk1 => Rt.other_setCell (by omega) _ _
  have hrc : RcAt W' A #[.int .i64 e, .int .i64 f, vL, vJ] := (blk _ l4).trans h.rc
  refine ⟨hrc, rm_block h.rm ((Rt.other_setCell a1 _ _).trans (blk _ l2)) (own_cell2 (own_grown h.rm.row h.rj (by decide) hg) hrc (by decide) _ _), Rt.row_setCell hrc 3 v', (Rt.other_setCell h.ne _ _).trans ((blk _ l1).trans h.rs), Rs.owns_block (own_grown h.rl h.rj (by decide) hg) far, Rs.owns_block hown far, ?_, h.ne, h.le, h.lt, ?_⟩
  · refine Below.setCell (p := ⟨A, 3, none⟩) ?_ m4 _
    exact Below.grown h.bel hg h.bel.size fun j hj => by
      rcases Nat.lt_or_ge j n0 with hlt | hge
      · exact absurd hj.symm (Rs.row_far h.rj hlt)
      · omega
  · have := hg.size; have := h.sz; simp; omega
end
theorem str_ne {X Y : ByteArray} (h : X ≠ Y) : (X.toList == Y.toList) = false := by
  rw [beq_eq_false_iff_ne, ByteArray.toList_eq, ByteArray.toList_eq]
  intro e
  exact h (ByteArray.ext (Array.ext' e))
theorem wrapI (v : Nat) (h : v < 4611686018427387904) : IntKind.i64.wrap (v : Int) = (v : Int) := Bt.wrap_fit _ (by omega) (by omega)
set_option maxRecDepth 100000 in
set_option maxHeartbeats 2000000 in
theorem rRead_any (s : ByteArray) (w : World) (hs : s.size ≤ 16777216) :
    Calls Tryd.prog 9 #[.string s] w fun r w' => RdRec w w' (tb (bys s)) r := by
  have hR0 := RcAt.new w #[.int .i64 0, .int .i64 0, .slice none 0 0, .slice none 0 0]
  have hB0 := below_alloc w (.cells #[.int .i64 0, .int .i64 0, .slice none 0 0, .slice none 0 0] 25)
  have hrd := Bt.rRead_any s (w.alloc (.cells #[.int .i64 0, .int .i64 0, .slice none 0 0, .slice none 0 0] 25)) hs
  have HOK : Hid (okR (tb (bys s)) = (rgt (rEp (tb (bys s))) (rFr (tb (bys s))) (rLv (tb (bys s))) (rJn (tb (bys s))) && decide (wrS (rEp (tb (bys s))) (rFr (tb (bys s))) (rLv (tb (bys s))) (rJn (tb (bys s))) = s))) := okR_doc s
  have HTL : Hid ((tb (bys s)).length < 4611686018427387904) := by unfold Hid; rw [tb_length, bys_length]; omega
  obtain ⟨T, hT⟩ : ∃ T, tb (bys s) = T := ⟨_, rfl⟩
  rw [hT] at hrd HOK HTL
  rw [hT]
  clear hT hs
  go_enter Tryd.func9, Tryd.ntmps9
  go_wp2_with fail
  refine hrd.mono ?_
  rintro r w1 ⟨g, v, rfl, hm, hge, hb1⟩
  have hR1 := hR0.later hb1
  have HB1 : Hid (Below w.heap.size w w1) := hB0.trans (hb1.mono hB0.size)
  have HGE : Hid (w.heap.size + 1 ≤ g ∧ w.heap.size < w1.heap.size ∧ g < w1.heap.size) := ⟨by have := hge; rw [World.size_alloc] at this; exact this, (Array.getElem?_eq_some_iff.1 hR1).1, (Array.getElem?_eq_some_iff.1 hm.blk).1⟩
  clear hrd hb1 hge hR0 hB0
  obtain ⟨b, hb⟩ : ∃ b, (w.alloc (.cells #[.int .i64 0, .int .i64 0, .slice none 0 0, .slice none 0 0] 25)).heap.size = b := ⟨_, rfl⟩
  rw [hb] at hm
  clear hb
  obtain ⟨R, hR⟩ : ∃ R, w.heap.size = R := ⟨_, rfl⟩
  have HRW : Hid (w.heap.size = R) := hR
  rw [hR] at hR1 HGE ⊢
  clear hR
  have hn := rNum_any (p := (0, false)) 8 hm HTL.out (by omega) (by omega)
  rw [show nm1 T ((0 : Nat), false) 8 = e1 T from rfl] at hn
  go_wp2_with fail
  refine hn.mono ?_
  rintro r w2 ⟨⟨E1, rfl⟩, hm2, hk2⟩
  have hR2 : RcAt w2 R rz := (hk2.block R (Array.getElem?_eq_some_iff.1 hR1).1 (by have := HGE.out; omega)).trans hR1
  have HB2 : Hid (Below w.heap.size w w2) := HB1.out.trans (hk2.below HB1.out.size (fun k hk => by have := HGE.out; have := HRW.out; omega))
  have HS2 : Hid (w1.heap.size ≤ w2.heap.size) := hk2.size
  clear hn hm hR1 hk2
  have hn := rNum_any (p := (e1 T).2) 16 hm2 HTL.out (by omega) (by omega)
  rw [show nm1 T (e1 T).2 16 = e2 T from rfl] at hn
  go_wp2_with fail
  refine hn.mono ?_
  rintro r w3 ⟨⟨E2, rfl⟩, hm3, hk3⟩
  have hR3 : RcAt w3 R rz := (hk3.block R (Array.getElem?_eq_some_iff.1 hR2).1 (by have := HGE.out; omega)).trans hR2
  have HB3 : Hid (Below w.heap.size w w3) := HB2.out.trans (hk3.below HB2.out.size (fun k hk => by have := HGE.out; have := HRW.out; omega))
  have HS3 : Hid (w1.heap.size ≤ w3.heap.size) := Nat.le_trans HS2.out hk3.size
  clear hn hm2 hR2 hk3 HB2 HS2
  have hw1 : IntKind.i64.wrap ((e1 T).1 : Int) = rEp T := wrapI _ (by have h := nm1_lt T (0, false) 8; have e : (e1 T).1 = (nm1 T (0, false) 8).1 := rfl; omega)
  have hw2 : IntKind.i64.wrap ((e2 T).1 : Int) = rFr T := wrapI _ (by have h := nm1_lt T (e1 T).2 16; have e : (e2 T).1 = (nm1 T (e1 T).2 16).1 := rfl; omega)
  have hS4 : RD w (w3.alloc (.cells #[.int .i64 (rEp T), .int .i64 (rFr T), .slice none 0 0, .slice none 0 0] 25)) b R g w3.heap.size (w3.heap.size + 1) (e2 T).2 T v (rEp T) (rFr T) (.slice none 0 0) (.slice none 0 0) [] [] := by
    have hbA := below_alloc w3 (.cells #[.int .i64 (rEp T), .int .i64 (rFr T), .slice none 0 0, .slice none 0 0] 25)
    have q1 := HGE.out
    have q2 := HS3.out
    have q3 := HRW.out
    have q4 := HB3.out.size
    exact ⟨rm_block hm3 (hbA.block g (by omega)) (owns_later hm3.row hbA), RcAt.new _ _, hR3.later hbA, World.ownsRow_nil _ _ _ _, World.ownsRow_nil _ _ _ _, HB3.out.trans (hbA.mono q4), by omega, by omega, by omega, by simp⟩
  have HN0 : Hid (w.heap.size ≤ w3.heap.size + 1) := by have q4 := HB3.out.size; unfold Hid; omega
  clear hm3 hR3 HGE HB1 HB3 HS3 HRW
  go_upto_region 5 with (fail)
  clear hw1 hw2
  generalize w3.alloc (.cells #[.int .i64 (rEp T), .int .i64 (rFr T), .slice none 0 0, .slice none 0 0] 25) = w4 at *
  obtain ⟨n0, hn0⟩ : ∃ n, w3.heap.size + 1 = n := ⟨_, rfl⟩
  rw [hn0] at hS4 HN0
  clear hn0
  generalize w3.heap.size = A at *
  have hn := rNum_any (p := (e2 T).2) 7 hS4.rm HTL.out (by omega) (by omega)
  rw [show nm1 T (e2 T).2 7 = e3 T from rfl] at hn
  go_wp2_with fail
  refine hn.mono ?_
  rintro r w5 ⟨⟨E3, rfl⟩, hm5, hk5⟩
  have HS5 : Hid (RD w w5 b R g A n0 (nsS T 8 (e3 T).2 0) T v (rEp T) (rFr T) (.slice none 0 0) (.slice none 0 0) (inI (nsL T 8 (e3 T).2 0)) []) := hS4.num hm5 hk5
  clear hn hS4 hm5 hk5
  have hnl : (e3 T).1 < 128 := nm1_lt T (e2 T).2 7
  obtain ⟨nl, hnle⟩ : ∃ n, (e3 T).1 = n := ⟨_, rfl⟩
  have HNL : Hid ((e3 T).1 = nl) := hnle
  rw [hnle] at hnl
  rw [hnle]
  clear hnle
  obtain ⟨ii, hii, hi0, hi1, hi2⟩ := info_parts infoInt
  go_wp2_with fail
  go_loopw [12] (fun i wx => ∃ k : Nat, k ≤ nl ∧ i = .int .u64 (k : Int) ∧ ∃ vL, RD w wx b R g A n0 (nsS T 8 (e3 T).2 k) T v (rEp T) (rFr T) vL (.slice none 0 0) (inI (nsL T 8 (e3 T).2 k)) []) (fun i _ => nl - (intOf i).toNat)
  case atStart => exact ⟨0, by omega, rfl, _, HS5.out⟩
  case round =>
    obtain ⟨k, hk, rfl, vL, hS⟩ := hrel
    obtain ⟨aL, cL, rfl⟩ := owns_slice hS.rl
    have HS : Hid (RD w wr b R g A n0 (nsS T 8 (e3 T).2 k) T v (rEp T) (rFr T) (.slice aL (inI (nsL T 8 (e3 T).2 k)).length cL) (.slice none 0 0) (inI (nsL T 8 (e3 T).2 k)) []) := hS
    clear hS HS5
    have HLEN : Hid ((inI (nsL T 8 (e3 T).2 k)).length = k) := inI_ns T _ k
    by_cases hkn : k < nl
    · have i2 : (k : Int) < (nl : Int) := by omega
      have hk1 : IntKind.u64.wrap ((k : Int) + 1) = ((k + 1 : Nat) : Int) := by rw [IntKind.wrap_u64]; omega
      have HNX : Hid (inI (nsL T 8 (e3 T).2 (k + 1)) = inI (nsL T 8 (e3 T).2 k) ++ [((nm1 T (nsS T 8 (e3 T).2 k) 8).1 : Int)]) := nsL_next T _ k
      have HNS : Hid (nsS T 8 (e3 T).2 (k + 1) = (nm1 T (nsS T 8 (e3 T).2 k) 8).2) := rfl
      obtain ⟨l, hl⟩ : ∃ l, inI (nsL T 8 (e3 T).2 k) = l := ⟨_, rfl⟩
      obtain ⟨p, hp⟩ : ∃ p, nsS T 8 (e3 T).2 k = p := ⟨_, rfl⟩
      rw [hl] at HNX HS HLEN
      rw [hp] at HNX HNS HS
      clear hl hp
      have hlt := nm1_lt T p 8
      have hn := rNum_any 8 HS.out.rm HTL.out (by omega) (by omega)
      obtain ⟨x, hx⟩ : ∃ x, nm1 T p 8 = x := ⟨_, rfl⟩
      rw [hx] at hn HNX HNS hlt
      clear hx
      have hwx : IntKind.i64.wrap (x.1 : Int) = (x.1 : Int) := wrapI _ (by omega)
      go_wp2_with fail
      refine hn.mono ?_
      rintro r w6 ⟨⟨E4, rfl⟩, hm6, hk6⟩
      have hS6 := HS.out.num hm6 hk6
      have HS6 : Hid (RD w w6 b R g A n0 x.2 T v (rEp T) (rFr T) (.slice aL l.length cL) (.slice none 0 0) l []) := hS6
      obtain ⟨c0, c1, c2, c3⟩ := hS6.rc.cells
      have hrow := hS6.rl
      have hsz := hS6.sz
      have hlen : l.length ≤ 4096 := by have := HLEN.out; omega
      clear hS6 hn hm6 hk6 HS hlt
      obtain ⟨xv, hxv⟩ : ∃ z : Int, (x.1 : Int) = z := ⟨_, rfl⟩
      rw [hxv] at HNX hwx ⊢
      clear hxv
      have HZ7 : Hid (∀ v' W', (w6.alloc (.cells #[.int .i64 xv] 3)).grownBy W' (Value.slice aL l.length cL).ownBlock → W'.ownsRow n0 3 1 v' (l.length + 1) (i64s l ++ [.int .i64 xv]) → RcAt W' A #[.int .i64 (rEp T), .int .i64 (rFr T), .slice aL l.length cL, .slice none 0 0] ∧ RD w (W'.setCell ⟨A, 2, none⟩ v') b R g A n0 x.2 T v (rEp T) (rFr T) v' (.slice none 0 0) (l ++ [xv]) []) := fun v' W' hg ho => by
        refine (HS6.out.later (below_alloc _ _)).app2 (y := xv) ?_ hg
        have e : i64s (l ++ [xv]) = i64s l ++ [Value.int .i64 xv] := by simp [Rs.i64s]
        rw [e, List.length_append]
        exact ho
      go_wp2_with (at_builtin; (refine wpList_append_own _ rfl _ _ 22 rfl n0 3 ii (.int .i64 0) 1 8 Tryd.underlying22 hii hi0 hi1 hi2 rfl (by decide) (.slice aL l.length cL) l.length (i64s l) rfl (hrow.alloc _) ⟨w6.heap.size, 0, none⟩ 1 1 [.int .i64 xv] rfl rfl (cell_row_new _ _ _) (by simp [Value.oneCell']) (by unfold maxLen; omega) (by omega) (by simp; omega) ?_); intro v' w7 hown' hg7 _; obtain ⟨a2, k2, rfl⟩ := owns_slice hown'; have HO7 : Hid (w7.ownsRow n0 3 1 (.slice a2 (l.length + 1) k2) (l.length + 1) (i64s l ++ [.int .i64 xv])) := hown'; have HG7 : Hid ((w6.alloc (.cells #[.int .i64 xv] 3)).grownBy w7 (Value.slice aL l.length cL).ownBlock) := hg7; obtain ⟨z0, z1, z2, z3⟩ := (HZ7.out _ _ hg7 hown').1.cells; have zf := Rt.row_frozen (HZ7.out _ _ hg7 hown').1 2; clear hown' hg7)
      have HS8 : Hid (RD w (w7.setCell ⟨A, 2, none⟩ (.slice a2 (l.length + 1) k2)) b R g A n0 x.2 T v (rEp T) (rFr T) (.slice a2 (l.length + 1) k2) (.slice none 0 0) (l ++ [xv]) []) := (HZ7.out _ _ HG7.out HO7.out).2
      go_roundw
      case rel => exact ⟨k + 1, by omega, by first | rfl | (rw [hk1]) | go_num, _, by rw [HNX.out, HNS.out]; exact HS8.out⟩
      case measure => simp [intOf]; omega
    · have hkn' : decide ((k : Int) < (nl : Int)) = false := by simp; omega
      obtain rfl : k = nl := by omega
      have HS2 : Hid (RD w wr b R g A n0 (s4 T) T v (rEp T) (rFr T) (.slice aL (rLv T).length cL) (.slice none 0 0) (rLv T) []) := by
        have h := HS.out
        unfold Hid s4 rLv
        rw [HNL.out]
        exact h
      clear HS
      have hn := rNum_any 7 HS2.out.rm HTL.out (by omega) (by omega)
      rw [show nm1 T (s4 T) 7 = e5 T from rfl] at hn
      go_wp2_with fail
      refine hn.mono ?_
      rintro r w6 ⟨⟨E4, rfl⟩, hm6, hk6⟩
      have HS6 : Hid (RD w w6 b R g A n0 (psS T (e5 T).2 0) T v (rEp T) (rFr T) (.slice aL (rLv T).length cL) (.slice none 0 0) (rLv T) (inP (psL T (e5 T).2 0))) := HS2.out.num hm6 hk6
      clear hn HS2 hm6 hk6
      have hnj : (e5 T).1 < 128 := nm1_lt T (s4 T) 7
      obtain ⟨nj, hnje⟩ : ∃ n, (e5 T).1 = n := ⟨_, rfl⟩
      have HNJ : Hid ((e5 T).1 = nj) := hnje
      rw [hnje] at hnj
      rw [hnje]
      clear hnje
      obtain ⟨i0, hi, hz0, hz1, hz2⟩ := infoSeat_parts
      go_wp2_with fail
      go_loopw [15] (fun i wx => ∃ m : Nat, m ≤ nj ∧ i = .int .u64 (m : Int) ∧ ∃ vJ, RD w wx b R g A n0 (psS T (e5 T).2 m) T v (rEp T) (rFr T) (.slice aL (rLv T).length cL) vJ (rLv T) (inP (psL T (e5 T).2 m))) (fun i _ => nj - (intOf i).toNat)
      case atStart => exact ⟨0, by omega, rfl, _, HS6.out⟩
      case round =>
        obtain ⟨m, hm, rfl, vJ, hS⟩ := hrel
        obtain ⟨aJ, cJ, rfl⟩ := owns_slice hS.rj
        have HS : Hid (RD w wr b R g A n0 (psS T (e5 T).2 m) T v (rEp T) (rFr T) (.slice aL (rLv T).length cL) (.slice aJ (inP (psL T (e5 T).2 m)).length cJ) (rLv T) (inP (psL T (e5 T).2 m))) := hS
        clear hS HS6
        have HLEN : Hid ((inP (psL T (e5 T).2 m)).length = m) := inP_ps T _ m
        by_cases hmn : m < nj
        · have i2 : (m : Int) < (nj : Int) := by omega
          have hk1 : IntKind.u64.wrap ((m : Int) + 1) = ((m + 1 : Nat) : Int) := by rw [IntKind.wrap_u64]; omega
          have HNX : Hid (inP (psL T (e5 T).2 (m + 1)) = inP (psL T (e5 T).2 m) ++ [(((nm1 T (psS T (e5 T).2 m) 8).1 : Int), ((nm1 T (nm1 T (psS T (e5 T).2 m) 8).2 6).1 : Int))]) := psL_next T _ m
          have HNS : Hid (psS T (e5 T).2 (m + 1) = (nm1 T (nm1 T (psS T (e5 T).2 m) 8).2 6).2) := rfl
          obtain ⟨l, hl⟩ : ∃ l, inP (psL T (e5 T).2 m) = l := ⟨_, rfl⟩
          obtain ⟨p, hp⟩ : ∃ p, psS T (e5 T).2 m = p := ⟨_, rfl⟩
          rw [hl] at HNX HS HLEN
          rw [hp] at HNX HNS HS
          clear hl hp
          have hlt := nm1_lt T p 8
          have hn := rNum_any 8 HS.out.rm HTL.out (by omega) (by omega)
          obtain ⟨x, hx⟩ : ∃ x, nm1 T p 8 = x := ⟨_, rfl⟩
          rw [hx] at hn HNX HNS hlt
          clear hx
          have hwx : IntKind.i64.wrap (x.1 : Int) = (x.1 : Int) := wrapI _ (by omega)
          go_wp2_with fail
          refine hn.mono ?_
          rintro r w8 ⟨⟨E5, rfl⟩, hm6, hk6⟩
          have hS8 := HS.out.num hm6 hk6
          clear hn HS hm6 hk6 hlt
          have hlt := nm1_lt T x.2 6
          have hn := rNum_any 6 hS8.rm HTL.out (by omega) (by omega)
          obtain ⟨y, hy⟩ : ∃ y, nm1 T x.2 6 = y := ⟨_, rfl⟩
          rw [hy] at hn HNX HNS hlt
          clear hy
          have hwy : IntKind.i64.wrap (y.1 : Int) = (y.1 : Int) := wrapI _ (by omega)
          go_wp2_with fail
          refine hn.mono ?_
          rintro r w9 ⟨⟨E6, rfl⟩, hm6, hk6⟩
          have hS9 := hS8.num hm6 hk6
          have HS9 : Hid (RD w w9 b R g A n0 y.2 T v (rEp T) (rFr T) (.slice aL (rLv T).length cL) (.slice aJ l.length cJ) (rLv T) l) := hS9
          obtain ⟨c0, c1, c2, c3⟩ := hS9.rc.cells
          have hrow := hS9.rj
          have hsz := hS9.sz
          have hlen : l.length ≤ 4096 := by have := HLEN.out; omega
          clear hS9 hS8 hn hm6 hk6 hlt
          obtain ⟨xv, hxv⟩ : ∃ z : Int, (x.1 : Int) = z := ⟨_, rfl⟩
          obtain ⟨yv, hyv⟩ : ∃ z : Int, (y.1 : Int) = z := ⟨_, rfl⟩
          rw [hxv] at HNX hwx ⊢
          rw [hyv] at HNX hwy ⊢
          clear hxv hyv
          have HZ7 : Hid (∀ v' W', (w9.alloc (.cells #[.int .i64 xv, .int .i64 yv] 57)).grownBy W' (Value.slice aJ l.length cJ).ownBlock → W'.ownsRow n0 57 2 v' (l.length + 1) (ps l ++ [.int .i64 xv, .int .i64 yv]) → RcAt W' A #[.int .i64 (rEp T), .int .i64 (rFr T), .slice aL (rLv T).length cL, .slice aJ l.length cJ] ∧ RD w (W'.setCell ⟨A, 3, none⟩ v') b R g A n0 y.2 T v (rEp T) (rFr T) (.slice aL (rLv T).length cL) v' (rLv T) (l ++ [(xv, yv)])) := fun v' W' hg ho => by
            refine (HS9.out.later (below_alloc _ _)).app3 (y := (xv, yv)) ?_ hg
            rw [ps_snoc, List.length_append]
            exact ho
          go_wp2_with (at_builtin; (refine wpList_append_own _ rfl _ _ 23 rfl n0 57 i0 (.agg #[.int .i64 0, .int .i64 0]) 2 16 Tryd.underlying23 hi hz0 hz1 hz2 rfl (by decide) (.slice aJ l.length cJ) l.length (ps l) rfl (hrow.alloc _) ⟨w9.heap.size, 0, none⟩ 1 1 [.int .i64 xv, .int .i64 yv] rfl rfl (cell_row_new _ _ _) (by simp [Value.oneCell']) (by unfold maxLen; omega) (by omega) (by simp; omega) ?_); intro v' w7 hown' hg7 _; obtain ⟨a2, k2, rfl⟩ := owns_slice hown'; have HO7 : Hid (w7.ownsRow n0 57 2 (.slice a2 (l.length + 1) k2) (l.length + 1) (ps l ++ [.int .i64 xv, .int .i64 yv])) := hown'; have HG7 : Hid ((w9.alloc (.cells #[.int .i64 xv, .int .i64 yv] 57)).grownBy w7 (Value.slice aJ l.length cJ).ownBlock) := hg7; obtain ⟨z0, z1, z2, z3⟩ := (HZ7.out _ _ hg7 hown').1.cells; have zf := Rt.row_frozen (HZ7.out _ _ hg7 hown').1 3; clear hown' hg7)
          have HS10 : Hid (RD w (w7.setCell ⟨A, 3, none⟩ (.slice a2 (l.length + 1) k2)) b R g A n0 y.2 T v (rEp T) (rFr T) (.slice aL (rLv T).length cL) (.slice a2 (l.length + 1) k2) (rLv T) (l ++ [(xv, yv)])) := (HZ7.out _ _ HG7.out HO7.out).2
          go_roundw
          case rel => exact ⟨m + 1, by omega, by first | rfl | (rw [hk1]) | go_num, _, by rw [HNX.out, HNS.out]; exact HS10.out⟩
          case measure => simp [intOf]; omega
        · have hmn' : decide ((m : Int) < (nj : Int)) = false := by simp; omega
          obtain rfl : m = nj := by omega
          have HS2 : Hid (RD w wr b R g A n0 (s6 T) T v (rEp T) (rFr T) (.slice aL (rLv T).length cL) (.slice aJ (rJn T).length cJ) (rLv T) (rJn T)) := by
            have h := HS.out
            unfold Hid s6 rJn
            rw [HNJ.out]
            exact h
          clear HS
          have hwt := rWrite_any (rEp T) (rFr T) aL aJ cL cJ (rLv T) (rJn T) wr (rdI_of HS2.out.rl) (rdP_of HS2.out.rj)
          obtain ⟨c0, c1, c2, c3⟩ := HS2.out.rc.cells
          have HWE : Hid (wrE (rEp T) (rFr T) (rLv T) (rJn T) = if rgt (rEp T) (rFr T) (rLv T) (rJn T) then 0 else 12) := rfl
          obtain ⟨tt, htt⟩ : ∃ t, wrS (rEp T) (rFr T) (rLv T) (rJn T) = t := ⟨_, rfl⟩
          rw [htt] at hwt HOK
          clear htt
          cases hbr : rgt (rEp T) (rFr T) (rLv T) (rJn T) with
          | false =>
            rw [hbr] at HWE HOK
            rw [HWE.out] at hwt
            simp only [Bool.false_eq_true, if_false] at hwt
            clear hbr HWE
            go_wp2_with fail
            refine hwt.mono ?_
            rintro r w11 ⟨rfl, hb11⟩
            have hS11 := HS2.out.later hb11
            have HS11 : Hid (RD w w11 b R g A n0 (s6 T) T v (rEp T) (rFr T) (.slice aL (rLv T).length cL) (.slice aJ (rJn T).length cJ) (rLv T) (rJn T)) := hS11
            have hrs := hS11.rs
            clear hwt HS2 hb11 hS11 c0 c1 c2 c3
            go_wp2_with (refine stRw infoRc (cs := rz) rfl hrs #[.int .i64 0, .int .i64 0, .slice none 0 0, .slice none 0 0] rfl (rc_one _ _ _ _ _ _ _ _) rfl _ _ rfl rfl rfl ?_)
            refine bodyPost_ret (results_rc (p := 2) (t := 3) rfl _ _ R rz rfl (Rt.heap_setRow_same hrs _) rfl) rfl ?_
            exact RdRec.no (by rw [HOK.out]; rfl) (Rt.setRow_below HS11.out.le.1 HS11.out.bel _)
          | true =>
            rw [hbr, Bool.true_and] at HOK
            rw [hbr] at HWE
            rw [HWE.out] at hwt
            simp only [if_true] at hwt
            clear hbr HWE
            by_cases hts : tt = s
            · subst hts
              go_wp2_with fail
              refine hwt.mono ?_
              rintro r w12 ⟨rfl, hb12⟩
              have hS12 := HS2.out.later hb12
              have HS12 : Hid (RD w w12 b R g A n0 (s6 T) T v (rEp T) (rFr T) (.slice aL (rLv T).length cL) (.slice aJ (rJn T).length cJ) (rLv T) (rJn T)) := hS12
              have hrs := hS12.rs
              clear c0 c1 c2 c3
              obtain ⟨c0, c1, c2, c3⟩ := hS12.rc.cells
              clear hwt hS12 hb12 HS2
              go_wp2_with (refine stRw infoRc (cs := rz) rfl hrs #[.int .i64 (rEp T), .int .i64 (rFr T), .slice aL (rLv T).length cL, .slice aJ (rJn T).length cJ] rfl (rc_one _ _ _ _ _ _ _ _) rfl _ _ rfl rfl rfl ?_)
              refine bodyPost_ret (results_rc (p := 2) (t := 3) rfl _ _ R _ rfl (Rt.heap_setRow_same hrs _) rfl) rfl ?_
              have hlt := HS12.out.lt
              have hle := HS12.out.le
              have far : ∀ k, n0 ≤ k → k < w12.heap.size → (w12.setRow R #[.int .i64 (rEp T), .int .i64 (rFr T), .slice aL (rLv T).length cL, .slice aJ (rJn T).length cJ]).heap[k]? = w12.heap[k]? := fun k h1 h2 => Rt.row_other (by omega) _
              exact RdRec.yes (by rw [HOK.out]; simp) (Rs.owns_block HS12.out.rl far) (Rs.owns_block HS12.out.rj far) HN0.out (Rt.setRow_below hle.1 HS12.out.bel _)
            · have hne := str_ne hts
              have HOK2 : Hid (okR T = false) := by unfold Hid; rw [HOK.out]; exact decide_eq_false hts
              go_wp2_with fail
              refine hwt.mono ?_
              rintro r w11 ⟨rfl, hb11⟩
              have hS11 := HS2.out.later hb11
              have HS11 : Hid (RD w w11 b R g A n0 (s6 T) T v (rEp T) (rFr T) (.slice aL (rLv T).length cL) (.slice aJ (rJn T).length cJ) (rLv T) (rJn T)) := hS11
              have hrs := hS11.rs
              clear hwt HS2 hb11 hS11 c0 c1 c2 c3
              go_wp2_with (refine stRw infoRc (cs := rz) rfl hrs #[.int .i64 0, .int .i64 0, .slice none 0 0, .slice none 0 0] rfl (rc_one _ _ _ _ _ _ _ _) rfl _ _ rfl rfl rfl ?_)
              refine bodyPost_ret (results_rc (p := 2) (t := 3) rfl _ _ R rz rfl (Rt.heap_setRow_same hrs _) rfl) rfl ?_
              exact RdRec.no HOK2.out (Rt.setRow_below HS11.out.le.1 HS11.out.bel _)
end Go.Proofs.YteocfmimgoocnaaDoor.Rc
