/- Contracts of the document's answers: Right, field. -/
import Derived.Test.YteocfmimgoocnaaDoorRcB
namespace Go.Proofs.YteocfmimgoocnaaDoor.Rc
open Go.RowKit Go.Maps
open Rs (RdI cell_later)
set_option linter.unusedVariables false
set_option linter.unusedSimpArgs false

set_option maxRecDepth 100000 in
set_option maxHeartbeats 2000000 in
theorem rRight_any (e f : Int) (aL aJ : Option Addr) (cL cJ : Nat) (L : List Int) (J : List (Int × Int)) (w : World) (rL : RdI w aL L) (rJ : RdP w aJ J) :
    Calls Tryd.prog 11 #[.agg #[.int .i64 e, .int .i64 f, .slice aL L.length cL, .slice aJ J.length cJ] ] w fun r w' => r = .returned (.bool (rgt e f L J)) ∧ Below w.heap.size w w' := by
  have hB := below_alloc w (.cells #[.int .i64 e, .int .i64 f, .slice aL L.length cL, .slice aJ J.length cJ] 25)
  have HNO : Hid (¬ Rgt e f L J → rgt e f L J = false) := rgt_no
  by_cases g1 : e < 1
  · have HE : Hid (rgt e f L J = false) := HNO.out fun h => by have := h.e1; omega
    go_enter Tryd.func11, Tryd.ntmps11
    go_wp2_with fail
    go_ret
    exact ⟨ret_bool HE.out.symm, hB⟩
  by_cases g2 : 200 < e
  · have HE : Hid (rgt e f L J = false) := HNO.out fun h => by have := h.e2; omega
    have d1 : decide (e < 1) = false := by simp; omega
    go_enter Tryd.func11, Tryd.ntmps11
    go_wp2_with fail
    go_ret
    exact ⟨ret_bool HE.out.symm, hB⟩
  have d1 : decide (e < 1) = false := by simp; omega
  have d2 : decide (200 < e) = false := by simp; omega
  by_cases g3 : f < 22
  · have HE : Hid (rgt e f L J = false) := HNO.out fun h => by have := h.f1; omega
    clear g1 g2
    go_enter Tryd.func11, Tryd.ntmps11
    go_wp2_with fail
    go_ret
    exact ⟨ret_bool HE.out.symm, hB⟩
  have d3 : decide (f < 22) = false := by simp; omega
  by_cases g4 : 32768 < f
  · have HE : Hid (rgt e f L J = false) := HNO.out fun h => by have := h.f2; omega
    clear g1 g2 g3
    go_enter Tryd.func11, Tryd.ntmps11
    go_wp2_with fail
    go_ret
    exact ⟨ret_bool HE.out.symm, hB⟩
  have d4 : decide (32768 < f) = false := by simp; omega
  by_cases g5 : 64 < L.length
  · have HE : Hid (rgt e f L J = false) := HNO.out fun h => by have := h.l1; omega
    have d5 : decide ((64 : Int) < (L.length : Int)) = true := by simp; omega
    have d6 : (64 : Int) < (L.length : Int) := by omega
    clear g1 g2 g3 g4
    generalize L.length = nL at *
    go_enter Tryd.func11, Tryd.ntmps11
    go_wp2_with fail
    go_ret
    exact ⟨ret_bool HE.out.symm, hB⟩
  have d5 : decide ((64 : Int) < (L.length : Int)) = false := by simp; omega
  have d5' : decide (64 < L.length) = false := by simp; omega
  by_cases g6 : 64 < J.length
  · have HE : Hid (rgt e f L J = false) := HNO.out fun h => by have := h.j1; omega
    have d6 : (64 : Int) < (J.length : Int) := by omega
    clear g1 g2 g3 g4 g5
    generalize L.length = nL at *
    generalize J.length = nJ at *
    go_enter Tryd.func11, Tryd.ntmps11
    go_wp2_with fail
    go_ret
    exact ⟨ret_bool HE.out.symm, hB⟩
  have d6 : decide ((64 : Int) < (J.length : Int)) = false := by simp; omega
  have d6' : decide (64 < J.length) = false := by simp; omega
  have HY : Hid ((∀ x ∈ L, who x = true) → (∀ p ∈ J, sea p = true) → rgt e f L J = true) := fun h1 h2 => rgt_iff.2 ⟨by omega, by omega, by omega, by omega, by omega, by omega, h1, h2⟩
  have HNL : Hid (∀ k, k < L.length → who (L.getD k 0) = false → rgt e f L J = false) := fun k hk h => HNO.out fun hr => by rw [hr.lw _ (getD_mem' 0 hk)] at h; cases h
  have HNJ : Hid (∀ k, k < J.length → sea (J.getD k (0, 0)) = false → rgt e f L J = false) := fun k hk h => HNO.out fun hr => by rw [hr.js _ (getD_mem' (0, 0) hk)] at h; cases h
  have hRC := RcAt.new w #[.int .i64 e, .int .i64 f, .slice aL L.length cL, .slice aJ J.length cJ]
  have nL64 : L.length ≤ 64 := by omega
  have nJ64 : J.length ≤ 64 := by omega
  clear g1 g2 g3 g4 g5 g6 HNO
  go_enter Tryd.func11, Tryd.ntmps11
  go_wp2_with fail
  go_loopw [40] (fun i wr => ∃ k : Nat, k ≤ L.length ∧ i = .int .i64 (k : Int) ∧ (∀ x ∈ L.take k, who x = true) ∧ wr = w.alloc (.cells #[.int .i64 e, .int .i64 f, .slice aL L.length cL, .slice aJ J.length cJ] 25)) (fun i _ => L.length - (intOf i).toNat)
  case atStart => exact ⟨0, by omega, rfl, by simp, rfl⟩
  case round =>
    obtain ⟨k, hk, rfl, hok, rfl⟩ := hrel
    have HOK : Hid (∀ x ∈ L.take k, who x = true) := hok
    clear hok
    by_cases hkn : k < L.length
    · obtain ⟨b, o, rfl, c0⟩ := rL k hkn
      have c1 := cell_later hB c0
      have i1 : (0 : Int) ≤ (k : Int) := by omega
      have i2 : (k : Int) < (L.length : Int) := by omega
      have HN := HNL.out k hkn
      have HS : Hid (who (L.getD k 0) = true → ∀ x ∈ L.take (k + 1), who x = true) := fun h => all_nx 0 hkn HOK.out h
      generalize L.getD k 0 = x at *
      have hlt : k < L.length := hkn
      have HLT : Hid (k < L.length) := hlt
      have HL64 : Hid (L.length ≤ 64) := nL64
      by_cases hx0 : x < 0
      · have HE : Hid (rgt e f L J = false) := HN (by simp [who]; omega)
        clear HN c0 rL rJ hlt hkn
        generalize L.length = nL at *
        generalize J.length = nJ at *
        generalize w.alloc (.cells #[.int .i64 e, .int .i64 f, .slice (some ⟨b, o, none⟩) nL cL, .slice aJ nJ cJ] 25) = w0 at *
        go_wp2_with fail
        go_ret
        exact ⟨ret_bool HE.out.symm, hB⟩
      have x0 : decide (x < 0) = false := by simp; omega
      by_cases hx1 : 256 ≤ x
      · have HE : Hid (rgt e f L J = false) := HN (by simp [who]; omega)
        clear HN c0 rL rJ hlt hkn hx0
        generalize L.length = nL at *
        generalize J.length = nJ at *
        generalize w.alloc (.cells #[.int .i64 e, .int .i64 f, .slice (some ⟨b, o, none⟩) nL cL, .slice aJ nJ cJ] 25) = w0 at *
        go_wp2_with fail
        go_ret
        exact ⟨ret_bool HE.out.symm, hB⟩
      have x1 : decide (256 ≤ x) = false := by simp; omega
      have HS2 : Hid (∀ x ∈ L.take (k + 1), who x = true) := HS.out (who_iff.2 ⟨by omega, by omega⟩)
      clear HN c0 rL rJ hlt hkn HS HNL HNJ HY HOK hB hRC hx0 hx1
      go_wp2_with fail
      go_roundw
      case rel => exact ⟨k + 1, by have := HLT.out; omega, by go_num, HS2.out, by first | rfl | trivial⟩
      case measure => simp [intOf]; have := HLT.out; omega
    · have hkn' : decide ((k : Int) < (L.length : Int)) = false := by simp; omega
      have HLA : Hid (∀ x ∈ L, who x = true) := by
        have e : L.take k = L := List.take_of_length_le (by omega)
        have := HOK.out
        rw [e] at this
        exact this
      obtain ⟨r0, r1, r2, r3⟩ := hRC.cells
      have hRJ := rJ.later hB
      have HB0 : Hid (Below w.heap.size w (w.alloc (.cells #[.int .i64 e, .int .i64 f, .slice aL L.length cL, .slice aJ J.length cJ] 25))) := hB
      have HL64 : Hid (L.length ≤ 64) := nL64
      clear rL rJ hRC hB HNL HOK d5' nL64
      generalize w.alloc (.cells #[.int .i64 e, .int .i64 f, .slice aL L.length cL, .slice aJ J.length cJ] 25) = w0 at *
      obtain ⟨B, hBq⟩ : ∃ B, w.heap.size = B := ⟨_, rfl⟩
      rw [hBq] at r0 r1 r2 r3 ⊢
      clear hBq
      generalize L.length = nL at *
      go_wp2_with fail
      go_loopw [54] (fun i wr => ∃ k : Nat, k ≤ J.length ∧ i = .int .i64 (k : Int) ∧ (∀ x ∈ J.take k, sea x = true) ∧ Below w0.heap.size w0 wr) (fun i _ => J.length - (intOf i).toNat)
      case atStart => exact ⟨0, by omega, rfl, by simp, Below.refl _ _⟩
      case round =>
        obtain ⟨k, hk, rfl, hok, hb⟩ := hrel
        have HOK : Hid (∀ x ∈ J.take k, sea x = true) := hok
        have HB : Hid (Below w0.heap.size w0 wr) := hb
        clear hok
        by_cases hkn : k < J.length
        · obtain ⟨b, o, rfl, c0, c1⟩ := hRJ k hkn
          have c0 := cell_later hb c0
          have c1 := cell_later hb c1
          have i1 : (0 : Int) ≤ (k : Int) := by omega
          have i2 : (k : Int) < (J.length : Int) := by omega
          have HN := HNJ.out k hkn
          have HS : Hid (sea (J.getD k (0, 0)) = true → ∀ x ∈ J.take (k + 1), sea x = true) := fun h => all_nx (0, 0) hkn HOK.out h
          have HLT : Hid (k < J.length) := hkn
          generalize J.getD k (0, 0) = x at *
          obtain ⟨x1, x2⟩ := x
          dsimp only at c0 c1
          have HBA : Hid (Below w.heap.size w (wr.alloc (.cells #[.int .i64 x1, .int .i64 x2] 57))) := HB0.out.trans ((HB.out.alloc HB.out.size _).mono HB0.out.size)
          have HBB : Hid (Below w0.heap.size w0 (wr.alloc (.cells #[.int .i64 x1, .int .i64 x2] 57))) := HB.out.alloc HB.out.size _
          by_cases hx0 : x1 < 0
          · have HE : Hid (rgt e f L J = false) := HN (by simp [sea, who]; omega)
            clear HN hRJ hkn hb r0 r1 r2 r3 HS HNJ HY
            go_wp2_with fail
            go_ret
            exact ⟨ret_bool HE.out.symm, HBA.out⟩
          have dhx0 : decide (x1 < 0) = false := by simp; omega
          by_cases hx1 : 256 ≤ x1
          · have HE : Hid (rgt e f L J = false) := HN (by simp [sea, who]; omega)
            clear HN hRJ hkn hb r0 r1 r2 r3 HS HNJ HY hx0
            go_wp2_with fail
            go_ret
            exact ⟨ret_bool HE.out.symm, HBA.out⟩
          have dhx1 : decide (256 ≤ x1) = false := by simp; omega
          by_cases hx2 : x2 < 0
          · have HE : Hid (rgt e f L J = false) := HN (by simp [sea, who]; omega)
            clear HN hRJ hkn hb r0 r1 r2 r3 HS HNJ HY hx0 hx1
            go_wp2_with fail
            go_ret
            exact ⟨ret_bool HE.out.symm, HBA.out⟩
          have dhx2 : decide (x2 < 0) = false := by simp; omega
          by_cases hx3 : 64 ≤ x2
          · have HE : Hid (rgt e f L J = false) := HN (by simp [sea, who]; omega)
            clear HN hRJ hkn hb r0 r1 r2 r3 HS HNJ HY hx0 hx1 hx2
            go_wp2_with fail
            go_ret
            exact ⟨ret_bool HE.out.symm, HBA.out⟩
          have dhx3 : decide (64 ≤ x2) = false := by simp; omega
          have HS2 : Hid (∀ x ∈ J.take (k + 1), sea x = true) := HS.out (sea_iff.2 (by dsimp only; omega))
          clear HN hRJ hkn hb r0 r1 r2 r3 HS HNJ HY HOK hx0 hx1 hx2 hx3
          go_wp2_with fail
          go_roundw
          case rel => exact ⟨k + 1, by have := HLT.out; omega, by go_num, HS2.out, HBB.out⟩
          case measure => simp [intOf]; have := HLT.out; omega
        · have hkn' : decide ((k : Int) < (J.length : Int)) = false := by simp; omega
          have HE : Hid (rgt e f L J = true) := HY.out HLA.out (by
            have e : J.take k = J := List.take_of_length_le (by omega)
            have := HOK.out
            rw [e] at this
            exact this)
          go_wp2_with fail
          go_ret
          exact ⟨ret_bool HE.out.symm, HB0.out.trans (HB.out.mono HB0.out.size)⟩
def FdAt (w : World) (B : Nat) (cs : Array Value) : Prop := w.heap[B]? = some (.cells cs 54 (0, 0))
theorem infoFd : (Tryd.prog.info? 54).map (·.size) = some 2 := by kernel_rfl
theorem results_fd {fn : Func} {p : Tmp} (hf : fn.results = #[.cell p 54 ]) (tmps : Array Value) (W : World) (B : Nat) (cs : Array Value) (hp : tmps[p]? = some (.pointer (some ⟨B, 0, none⟩))) (hb : FdAt W B cs) (hc : cs.size = 2) :
    (results fn tmps).run Tryd.prog W = .ok (.agg cs) W := by
  have h := run_loadVar_row W B _ 54 _ _ _ hb Tryd.underlying54 rfl (by rw [hc]; exact infoFd)
  simp [results, hf, hp, asAddr, h]
set_option maxRecDepth 100000 in
theorem field_any (v : Nat) (q : Int) (hv : v < 18446744073709551616) (w : World) : Calls Tryd.prog 17 #[.int .i64 (v : Int), .int .i64 q] w fun e w' => e = .returned (.agg #[.int .u64 (v : Int), .int .i64 q]) ∧ Below w.heap.size w w' := by
  have hwr := wrap_u64 v hv
  have hA : FdAt (w.alloc (.cells #[.int .u64 (v : Int), .int .i64 q] 54)) w.heap.size #[.int .u64 (v : Int), .int .i64 q] := heap_alloc_last w _
  go_enter Tryd.func17, Tryd.ntmps17
  go_wp2_with fail
  refine bodyPost_ret (results_fd (p := 4) rfl _ _ w.heap.size #[.int .u64 (v : Int), .int .i64 q] rfl (by first | exact hA | (simp; exact hA)) rfl) rfl ?_
  exact ⟨rfl, below_alloc _ _⟩
end Go.Proofs.YteocfmimgoocnaaDoor.Rc
