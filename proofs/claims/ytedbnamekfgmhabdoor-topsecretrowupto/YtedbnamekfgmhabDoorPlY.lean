/- Contract: the keys of those who stood where they were opened (the top's opened). -/
import Derived.Test.YtedbnamekfgmhabDoorPlW
import Derived.Test.YtedbnamekfgmhabDoorPlV
import Derived.Test.YtedbnamekfgmhabDoorPlP0
import Derived.Test.YtedbnamekfgmhabDoorTrN
namespace Go.Proofs.YtedbnamekfgmhabDoor
open Go.RowKit Go.Maps
open Rt (Ky zK KyAt)
open Rs (En zE rcs tkn fnd RdS RdI ps own_other own_ge)
set_option linter.unusedVariables false
set_option linter.unusedSimpArgs false

def inE (ts : List Tr) (x : Int × Int) : Bool := !decide (x.2 < 0) && (!decide ((ts.length : Int) ≤ x.2) && decide (caE (ts.getD x.2.toNat (tz 0)) x.1 = 0))
def opK (ts : List Tr) (x : Int × Int) : List (Int × Int) := if inE ts x then [kpr (caK (ts.getD x.2.toNat (tz 0)) x.1), kpr (caQ (ts.getD x.2.toNat (tz 0)) x.1 0), kpr (caQ (ts.getD x.2.toNat (tz 0)) x.1 1), kpr (caQ (ts.getD x.2.toNat (tz 0)) x.1 2)] else []
def opM (ts : List Tr) (x : Int × Int) : List (Int × Int) := if inE ts x then [x] else []
theorem opK_len (ts : List Tr) (l : List (Int × Int)) : (l.flatMap (opK ts)).length ≤ 4 * l.length := by
  induction l with
  | nil => simp
  | cons x l ih =>
    rw [List.flatMap_cons, List.length_append, List.length_cons]
    have : (opK ts x).length ≤ 4 := by unfold opK; split <;> simp
    omega
theorem opM_len (ts : List Tr) (l : List (Int × Int)) : (l.flatMap (opM ts)).length ≤ l.length := by
  induction l with
  | nil => simp
  | cons x l ih =>
    rw [List.flatMap_cons, List.length_append, List.length_cons]
    have : (opM ts x).length ≤ 1 := by unfold opM; split <;> simp
    omega
structure OP (w W : World) (vk : Value) (ks : List (Int × Int)) (vm : Value) (ms : List (Int × Int)) : Prop where
  bel : Below w.heap.size w W
  rk : W.ownsRow w.heap.size 23 2 vk ks.length (ps ks)
  rm : W.ownsRow w.heap.size 100 2 vm ms.length (ps ms)
section
variable {w W W' : World} {vk vm v' : Value} {ks ms news : List (Int × Int)}
theorem OP.later (h : OP w W vk ks vm ms) (hb : Below W.heap.size W W') : OP w W' vk ks vm ms := ⟨h.bel.trans (hb.mono h.bel.size), Rs.owns_later h.rk hb, Rs.owns_later h.rm hb⟩
theorem ps_app (l m : List (Int × Int)) : ps (l ++ m) = ps l ++ ps m := by unfold Rs.ps; rw [List.flatMap_append]
theorem grown_type {e : TypeId} {b sz n : Nat} {v : Value} {xs : List Value} (row : W.ownsRow b e sz v n xs) (hg : W.grownBy W' v.ownBlock) {k : Nat} {cs : Array Value} {T : TypeId} (hk : W.heap[k]? = some (.cells cs T (0, 0))) (hT : T ≠ e) : W'.heap[k]? = some (.cells cs T (0, 0)) := by
  rw [hg.block k (Array.getElem?_eq_some_iff.1 hk).1 (own_type row hk hT)]
  exact hk
theorem OP.appK (h : OP w W vk ks vm ms) (hown : W'.ownsRow w.heap.size 23 2 v' (ks.length + news.length) (ps ks ++ ps news)) (hg : W.grownBy W' vk.ownBlock) : OP w W' v' (ks ++ news) vm ms := by
  refine ⟨Rs.below_grown h.bel hg h.bel.size (fun j hj => (own_ge h.rk hj).1), ?_, own_other h.rm fun g hgj => hg.block g (own_ge h.rm hgj).2 (fun e => own_ne2 h.rk h.rm (by decide) hgj e.symm)⟩
  rw [ps_app, List.length_append]
  exact hown
theorem OP.appM (h : OP w W vk ks vm ms) (hown : W'.ownsRow w.heap.size 100 2 v' (ms.length + news.length) (ps ms ++ ps news)) (hg : W.grownBy W' vm.ownBlock) : OP w W' vk ks v' (ms ++ news) := by
  refine ⟨Rs.below_grown h.bel hg h.bel.size (fun j hj => (own_ge h.rm hj).1), own_other h.rk fun g hgj => hg.block g (own_ge h.rk hgj).2 (fun e => own_ne2 h.rm h.rk (by decide) hgj e.symm), ?_⟩
  rw [ps_app, List.length_append]
  exact hown
end
theorem infoRv : (Tryd.prog.info? 100).map (fun i => (i.zero, i.size, i.bytes)) = some (some (.agg #[.int .i64 0, .int .i64 0]), 2, 16) := by kernel_rfl
theorem infoRv_parts : ∃ i, Tryd.prog.info? 100 = some i ∧ i.zero = some (.agg #[.int .i64 0, .int .i64 0]) ∧ i.size = 2 ∧ i.bytes = 16 := by
  have h := infoRv
  cases hq : Tryd.prog.info? 100 with
  | none => rw [hq] at h; cases h
  | some i =>
    rw [hq] at h
    simp at h
    exact ⟨i, rfl, h.1, h.2.1, h.2.2⟩
theorem path_six {w : World} {B : Nat} {W S P : Int} {k p q r : Ky} {b : Bool} (h : MbAt w B W S P k p q r b) : ∀ j u, (ps [kpr p, kpr q, kpr r])[j]? = some u → w.cell? ((⟨B, 5, none⟩ : Addr).add j) = some u := fun j u hu => by
  have hj : j < 6 := by
    rcases Nat.lt_or_ge j 6 with c | c
    · exact c
    · rw [List.getElem?_eq_none (by show 6 ≤ j; exact c)] at hu; cases hu
  rw [Rs.add_plain, cell_of_row w B (5 + j) _ _ _ h, ← hu]
  have : j = 0 ∨ j = 1 ∨ j = 2 ∨ j = 3 ∨ j = 4 ∨ j = 5 := by omega
  rcases this with rfl | rfl | rfl | rfl | rfl | rfl <;> rfl
theorem results_tt {fn : Func} {p q : Tmp} (hf : fn.results = #[.tmp p, .tmp q]) (tmps : Array Value) (W : World) : (results fn tmps).run Tryd.prog W = .ok (.tuple #[tmps.getD p undef, tmps.getD q undef]) W := by
  simp [results, hf]
def OpP (w w' : World) (ts : List Tr) (seen : List (Int × Int)) (e : Ending) : Prop := ∃ vk vm, e = .returned (.tuple #[vk, vm]) ∧ OP w w' vk (seen.flatMap (opK ts)) vm (seen.flatMap (opM ts))
set_option maxRecDepth 100000 in
set_option maxHeartbeats 4000000 in
theorem openedT_any (a : Option Addr) (c : Nat) (ts : List Tr) (a' : Option Addr) (c' : Nat) (seen : List (Int × Int)) (w : World) (hl : ts.length ≤ 4096) (hl' : seen.length ≤ 4194304) (hr : RdR w a ts) (hs : RdP w a' seen) :
    Calls Tryd.prog 21 #[.slice a ts.length c, .slice a' seen.length c'] w fun e w' => OpP w w' ts seen e := by
  obtain ⟨i0, hi, hz0, hz1, hz2⟩ := infoKey_parts
  obtain ⟨j0, hj, hy0, hy1, hy2⟩ := infoRv_parts
  have HOP0 : Hid (OP w w (.slice none 0 0) (([] : List (Int × Int)).flatMap (opK ts)) (.slice none 0 0) (([] : List (Int × Int)).flatMap (opM ts))) := ⟨Below.refl _ _, World.ownsRow_nil _ _ _ _, World.ownsRow_nil _ _ _ _⟩
  go_enter Tryd.func21, Tryd.ntmps21
  go_wp2_with fail
  go_loopw [6, 7, 14] (fun x y i wx => ∃ (k : Nat) (vk vm : Value), k ≤ seen.length ∧ i = .int .i64 (k : Int) ∧ vk = x ∧ vm = y ∧ OP w wx vk ((seen.take k).flatMap (opK ts)) vm ((seen.take k).flatMap (opM ts))) (fun _ _ i _ => seen.length - (intOf i).toNat)
  case atStart => exact ⟨0, _, _, by omega, rfl, rfl, rfl, HOP0.out⟩
  case round =>
    obtain ⟨k, vk, vm, hk, rfl, rfl, rfl, hop⟩ := hrel
    have HO : Hid (OP w wr vk ((seen.take k).flatMap (opK ts)) vm ((seen.take k).flatMap (opM ts))) := hop
    clear hop HOP0
    by_cases hkN : k < seen.length
    · have i1 : (0 : Int) ≤ (k : Int) := by omega
      have i2 : (k : Int) < (seen.length : Int) := by omega
      obtain ⟨b0, o0, hal, hc0, hc1⟩ := (hs.later HO.out.bel) k hkN
      have HTK : Hid ((seen.take (k + 1)).flatMap (opK ts) = (seen.take k).flatMap (opK ts) ++ opK ts (seen.getD k (0, 0)) ∧ (seen.take (k + 1)).flatMap (opM ts) = (seen.take k).flatMap (opM ts) ++ opM ts (seen.getD k (0, 0))) := by
        refine ⟨?_, ?_⟩
        · rw [take_snoc2 hkN, List.flatMap_append]; simp
        · rw [take_snoc2 hkN, List.flatMap_append]; simp
      have HLK : Hid (((seen.take k).flatMap (opK ts)).length ≤ 4 * k ∧ ((seen.take k).flatMap (opM ts)).length ≤ k) := by
        have h1 := opK_len ts (seen.take k)
        have h2 := opM_len ts (seen.take k)
        rw [List.length_take] at h1 h2
        exact ⟨by omega, by omega⟩
      obtain ⟨q, hq⟩ : ∃ q, seen.getD k (0, 0) = q := ⟨_, rfl⟩
      rw [hq] at hc0 hc1 HTK
      obtain ⟨px, py⟩ := q
      dsimp only at hc0 hc1
      clear hq
      subst hal
      obtain ⟨ks, hks⟩ : ∃ l, (seen.take k).flatMap (opK ts) = l := ⟨_, rfl⟩
      obtain ⟨ms, hms⟩ : ∃ l, (seen.take k).flatMap (opM ts) = l := ⟨_, rfl⟩
      rw [hks, hms] at HTK HLK HO
      clear hks hms
      have HO1 : Hid (OP w (wr.alloc (.cells #[.int .i64 px, .int .i64 py] 100)) vk ks vm ms) := HO.out.later (below_alloc _ _)
      have hSE : (wr.alloc (.cells #[.int .i64 px, .int .i64 py] 100)).heap[wr.heap.size]? = some (.cells #[.int .i64 px, .int .i64 py] 100 (0, 0)) := heap_alloc_last wr _
      clear HO
      go_upto_region 6 with (fail)
      clear hc0 hc1
      generalize wr.alloc (.cells #[.int .i64 px, .int .i64 py] 100) = w5 at *
      generalize wr.heap.size = C at *
      have HSE : Hid (w5.heap[C]? = some (.cells #[.int .i64 px, .int .i64 py] 100 (0, 0))) := hSE
      have x0 : w5.cell? ⟨C, 0, none⟩ = some (.int .i64 px) := cell_of_row w5 C 0 _ _ _ hSE
      have x1 : w5.cell? ⟨C, 1, none⟩ = some (.int .i64 py) := cell_of_row w5 C 1 _ _ _ hSE
      clear hSE
      by_cases h1 : py < 0
      · have d1 : decide (py < 0) = true := decide_eq_true h1
        have HN : Hid (inE ts (px, py) = false) := by unfold Hid inE; rw [d1]; rfl
        clear h1
        go_wp2_with fail
        go_roundw
        case rel => exact ⟨k + 1, _, _, by omega, by go_num, rfl, rfl, by rw [HTK.out.1, HTK.out.2]; unfold opK opM; rw [HN.out]; simpa using HO1.out⟩
        case measure => simp [intOf]; omega
      · have d1 : decide (py < 0) = false := decide_eq_false h1
        by_cases h2 : (ts.length : Int) ≤ py
        · have d2 : decide ((ts.length : Int) ≤ py) = true := decide_eq_true h2
          have HN : Hid (inE ts (px, py) = false) := by unfold Hid inE; rw [d2]; simp
          clear h1 h2
          go_wp2_with fail
          go_roundw
          case rel => exact ⟨k + 1, _, _, by omega, by go_num, rfl, rfl, by rw [HTK.out.1, HTK.out.2]; unfold opK opM; rw [HN.out]; simpa using HO1.out⟩
          case measure => simp [intOf]; omega
        · have d2 : decide ((ts.length : Int) ≤ py) = false := decide_eq_false h2
          have HPY : Hid (¬ py < 0 ∧ ¬ (ts.length : Int) ≤ py) := ⟨h1, h2⟩
          clear h1 h2
          go_upto_region 7 with (fail)
          clear x0 x1
          obtain ⟨h1, h2⟩ := HPY.out
          obtain ⟨g, rfl⟩ : ∃ g : Nat, py = (g : Int) := ⟨py.toNat, by omega⟩
          have hg : g < ts.length := by omega
          clear h1 h2 HPY
          obtain ⟨t, ht⟩ : ∃ t, ts.getD g (tz 0) = t := ⟨_, rfl⟩
          obtain ⟨b, eb, -, -⟩ := hr.tree hg ht
          have HTR : Hid (∀ W, Below w.heap.size w W → (Instr.loadAt 31 (.pointer (some ⟨b, g * 236, none⟩))).run Tryd.prog W = .ok (.agg (tcs t)) W) := fun W hW => by
            obtain ⟨b', e', h2, -⟩ := (hr.later hW).tree hg ht
            rw [eb] at e'
            simp at e'
            subst e'
            exact h2
          have HIN : Hid (inE ts (px, (g : Int)) = decide (caE t px = 0) ∧ opK ts (px, (g : Int)) = (if decide (caE t px = 0) then [kpr (caK t px), kpr (caQ t px 0), kpr (caQ t px 1), kpr (caQ t px 2)] else []) ∧ opM ts (px, (g : Int)) = if decide (caE t px = 0) then [(px, (g : Int))] else []) := by
            have e0 : inE ts (px, (g : Int)) = decide (caE t px = 0) := by
              unfold inE
              rw [d1, d2]
              dsimp only
              rw [Int.toNat_natCast, ht]
              rfl
            refine ⟨e0, ?_, ?_⟩
            · unfold opK
              rw [e0]
              dsimp only
              rw [Int.toNat_natCast, ht]
            · unfold opM
              rw [e0]
          have hst := rStand_any t px
          unfold StandA at hst
          obtain ⟨E, hE⟩ : ∃ E, caE t px = E := ⟨_, rfl⟩
          obtain ⟨kk, hkk⟩ : ∃ E, caK t px = E := ⟨_, rfl⟩
          obtain ⟨q0, hq0⟩ : ∃ E, caQ t px 0 = E := ⟨_, rfl⟩
          obtain ⟨q1, hq1⟩ : ∃ E, caQ t px 1 = E := ⟨_, rfl⟩
          obtain ⟨q2, hq2⟩ : ∃ E, caQ t px 2 = E := ⟨_, rfl⟩
          obtain ⟨mw, hmw⟩ : ∃ E, caW t px = E := ⟨_, rfl⟩
          obtain ⟨mse, hmse⟩ : ∃ E, caS t px = E := ⟨_, rfl⟩
          obtain ⟨mp, hmp⟩ : ∃ E, caP t px = E := ⟨_, rfl⟩
          rw [hE, hkk, hq0, hq1, hq2, hmw, hmse, hmp] at hst
          rw [hE, hkk, hq0, hq1, hq2] at HIN
          obtain ⟨mb, hmb⟩ : ∃ c, mcs mw mse mp kk q0 q1 q2 (decide (E = 0)) = c := ⟨_, rfl⟩
          have HMC : Hid (mcs mw mse mp kk q0 q1 q2 (decide (E = 0)) = mb) := hmb
          obtain ⟨ct, hct⟩ : ∃ c, tcs t = c := ⟨_, rfl⟩
          have HCT : Hid (tcs t = ct) := hct
          rw [hct] at HTR
          rw [hct, hmb] at hst
          have HM14 : Hid (mb.size = 14 ∧ mb.all (·.oneCell') = true) := by
            rw [← hmb]
            exact ⟨rfl, mcs_one _ _ _ _ _ _ _ _⟩
          have e1 : (0 : Int) ≤ (g : Int) := by omega
          have e2 : (g : Int) < (ts.length : Int) := by omega
          subst eb
          clear hE hkk hq0 hq1 hq2 hmw hmse hmp hct ht hmb d1 d2
          go_cut [10, 11] (fun s10 s11 wx => ∃ MB, s10 = .pointer (some ⟨MB, 0, none⟩) ∧ s11 = .int .i64 E ∧ Below w5.heap.size w5 wx ∧ wx.heap[MB]? = some (.cells mb 104 (0, 0)))
          case first =>
            have hS0 : Below w5.heap.size w5 w5.drew := drew_below _
            refine wp_region_held_drew (S := fun X => Below w5.heap.size w5 X) (by kernel_rfl) hS0 (fun hHeld => ?_)
            refine wpAnyH_take (i := 0) (oi := { dst := some 29, op := Op.move (Operand.tmp 0), type := _, pos := _, after := _, guard := none }) (v := .slice (some ⟨b, 0, none⟩) ts.length c) rfl (by kernel_rfl) (by kernel_rfl) (by kernel_rfl) (fun _ _ _ h => h) (Or.inl ⟨by rfl, fun w hSw => by (try dsimp only at hSw); go_simp⟩) (by assumption) ?_
            simp only [Act.put, List.setIfInBounds_toArray, List.set_cons_zero, List.set_cons_succ]
            refine wpAnyH_take (i := 1) (oi := { dst := some 30, op := Op.fieldAddr 100 (Operand.tmp 9) 1, type := _, pos := _, after := _, guard := none }) (v := .pointer (some ⟨C, 1, none⟩)) rfl (by kernel_rfl) (by kernel_rfl) (by kernel_rfl) (fun _ _ _ h => h) (Or.inl ⟨by rfl, fun w hSw => by (try dsimp only at hSw); go_simp⟩) (by assumption) ?_
            simp only [Act.put, List.setIfInBounds_toArray, List.set_cons_zero, List.set_cons_succ]
            refine wpAnyH_take (i := 2) (oi := { dst := some 31, op := Op.load 3 (Operand.tmp 30), type := _, pos := _, after := _, guard := none }) (v := .int .i64 (g : Int)) rfl (by kernel_rfl) (by kernel_rfl) (by kernel_rfl) (fun _ _ _ h => h) (Or.inl ⟨by rfl, fun w hSw => by have x1 : w.cell? ⟨C, 1, none⟩ = some (.int .i64 (g : Int)) := cell_of_row w C 1 _ _ _ ((hSw.block C (Array.getElem?_eq_some_iff.1 HSE.out).1).trans HSE.out); clear hSw; go_simp⟩) (by assumption) ?_
            simp only [Act.put, List.setIfInBounds_toArray, List.set_cons_zero, List.set_cons_succ]
            refine wpAnyH_take (i := 3) (oi := { dst := some 32, op := Op.indexAddr 65 (Operand.tmp 29) (Operand.tmp 31), type := _, pos := _, after := _, guard := none }) (v := .pointer (some ⟨b, g * 236, none⟩)) rfl (by kernel_rfl) (by kernel_rfl) (by kernel_rfl) (fun _ _ _ h => h) (Or.inl ⟨by rfl, fun w hSw => by (try dsimp only at hSw); go_simp⟩) (by assumption) ?_
            simp only [Act.put, List.setIfInBounds_toArray, List.set_cons_zero, List.set_cons_succ]
            refine wpAnyH_take (i := 4) (oi := { dst := some 33, op := Op.load 31 (Operand.tmp 32), type := _, pos := _, after := _, guard := none }) (v := .agg ct) rfl (by kernel_rfl) (by kernel_rfl) (by kernel_rfl) (fun _ _ _ h => h) (Or.inl ⟨by rfl, fun w hSw => ld_exec (HTR.out _ (HO1.out.bel.trans (hSw.mono HO1.out.bel.size))) rfl rfl⟩) (by assumption) ?_
            simp only [Act.put, List.setIfInBounds_toArray, List.set_cons_zero, List.set_cons_succ]
            refine wpAnyH_take (i := 5) (oi := { dst := some 34, op := Op.fieldAddr 100 (Operand.tmp 9) 0, type := _, pos := _, after := _, guard := none }) (v := .pointer (some ⟨C, 0, none⟩)) rfl (by kernel_rfl) (by kernel_rfl) (by kernel_rfl) (fun _ _ _ h => h) (Or.inl ⟨by rfl, fun w hSw => by (try dsimp only at hSw); go_simp⟩) (by assumption) ?_
            simp only [Act.put, List.setIfInBounds_toArray, List.set_cons_zero, List.set_cons_succ]
            refine wpAnyH_take (i := 6) (oi := { dst := some 35, op := Op.load 3 (Operand.tmp 34), type := _, pos := _, after := _, guard := none }) (v := .int .i64 px) rfl (by kernel_rfl) (by kernel_rfl) (by kernel_rfl) (fun _ _ _ h => h) (Or.inl ⟨by rfl, fun w hSw => by have x1 : w.cell? ⟨C, 0, none⟩ = some (.int .i64 px) := cell_of_row w C 0 _ _ _ ((hSw.block C (Array.getElem?_eq_some_iff.1 HSE.out).1).trans HSE.out); clear hSw; go_simp⟩) (by assumption) ?_
            simp only [Act.put, List.setIfInBounds_toArray, List.set_cons_zero, List.set_cons_succ]
            refine wpAnyH_ready (rs := [7, 11]) (by kernel_rfl) (by simp) ?_
            refine (AllReadyH.cons rfl (fun K hK => ?_) (AllReadyH.cons rfl (fun K hK => ?_) AllReadyH.nil))
            · go_simp
              refine (hst _).mono ?_
              rintro r w7 ⟨rfl, hb7⟩
              go_wp2_with fail
              have hge7 : w5.heap.size ≤ w7.heap.size := Nat.le_trans hHeld.size hb7.size
              refine hK.out _ _ (hHeld.trans (hb7.mono hHeld.size)) (fun hHd1 => ?_)
              clear hHeld hb7
              clear hK K
              try simp only [Act.put, List.setIfInBounds_toArray, List.set_cons_zero, List.set_cons_succ]
              refine wpAnyH_take (i := 8) (oi := { dst := some 28, op := Op.move (Operand.tmp 36), type := _, pos := _, after := _, guard := none }) (v := .tuple #[.agg mb, .int .i64 E]) rfl (by kernel_rfl) (by kernel_rfl) (by kernel_rfl) (fun _ _ _ h => h) (Or.inl ⟨by rfl, fun w hSw => by (try dsimp only at hSw); go_simp⟩) (by assumption) ?_
              simp only [Act.put, List.setIfInBounds_toArray, List.set_cons_zero, List.set_cons_succ]
              refine wpAnyH_take (i := 9) (oi := { dst := some 37, op := Op.extract (Operand.tmp 28) 0, type := _, pos := _, after := _, guard := none }) (v := .agg mb) rfl (by kernel_rfl) (by kernel_rfl) (by kernel_rfl) (fun _ _ _ h => h) (Or.inl ⟨by rfl, fun w hSw => by (try dsimp only at hSw); go_simp⟩) (by assumption) ?_
              simp only [Act.put, List.setIfInBounds_toArray, List.set_cons_zero, List.set_cons_succ]
              refine wpAnyH_take (i := 10) (oi := { dst := some 38, op := Op.extract (Operand.tmp 28) 1, type := _, pos := _, after := _, guard := none }) (v := .int .i64 E) rfl (by kernel_rfl) (by kernel_rfl) (by kernel_rfl) (fun _ _ _ h => h) (Or.inl ⟨by rfl, fun w hSw => by (try dsimp only at hSw); go_simp⟩) (by assumption) ?_
              simp only [Act.put, List.setIfInBounds_toArray, List.set_cons_zero, List.set_cons_succ]
              refine wpAnyH_ready (rs := [11]) (by kernel_rfl) (by simp) ?_
              refine AllReadyH.cons rfl (fun K hK => ?_) AllReadyH.nil
              go_simp
              have hmb2 := heap_alloc_last w7 (.cells #[.int .i64 0, .int .i64 0, .int .i64 0, .int .i64 0, .int .i64 0, .int .i64 0, .int .i64 0, .int .i64 0, .int .i64 0, .int .i64 0, .int .i64 0, .bool false, .bool false, .int .i64 0] 104)
              refine hK.out _ _ (hHd1.trans ((below_alloc _ _).mono hHd1.size)) (fun hHd2 => ?_)
              clear hK K
              try simp only [Act.put, List.setIfInBounds_toArray, List.set_cons_zero, List.set_cons_succ]
              refine wpAnyH_ready (rs := [12]) (by kernel_rfl) (by simp) ?_
              refine AllReadyH.cons rfl (fun Kc hK => ?_) AllReadyH.nil
              refine if_wp rfl (wp_stRow0 104 _ _ rfl _ mb rfl rfl 104 _ hmb2 (by rw [HM14.out.1]; exact infoMb) (by rw [HM14.out.1]; rfl) HM14.out.2 rfl ?_)
              have hmbZ := Rt.heap_setRow_same hmb2 mb
              refine hK.out _ _ (Rt.setRow_below hge7 hHd2 _) (fun hHd3 => ?_)
              clear hK Kc
              try simp only [Act.put, List.setIfInBounds_toArray, List.set_cons_zero, List.set_cons_succ]
              refine wpAnyH_take (i := 13) (oi := { dst := some 11, op := Op.assign (Operand.tmp 38), type := _, pos := _, after := _, guard := none }) (v := .int .i64 E) rfl (by kernel_rfl) (by kernel_rfl) (by kernel_rfl) (fun _ _ _ h => h) (Or.inl ⟨by rfl, fun w hSw => by (try dsimp only at hSw); go_simp⟩) (by assumption) ?_
              simp only [Act.put, List.setIfInBounds_toArray, List.set_cons_zero, List.set_cons_succ]
              refine wpAnyH_done (by kernel_rfl) ?_ _
              go_wp2_with fail
              go_meet
              case rel => exact ⟨_, rfl, rfl, hHd3, hmbZ⟩
            · go_simp
              have hmb0 := heap_alloc_last w5.drew (.cells #[.int .i64 0, .int .i64 0, .int .i64 0, .int .i64 0, .int .i64 0, .int .i64 0, .int .i64 0, .int .i64 0, .int .i64 0, .int .i64 0, .int .i64 0, .bool false, .bool false, .int .i64 0] 104)
              have hge7 : w5.heap.size ≤ w5.heap.size := Nat.le_refl _
              refine hK.out _ _ (hHeld.trans ((below_alloc _ _).mono hHeld.size)) (fun hHd1 => ?_)
              clear hHeld
              clear hK K
              try simp only [Act.put, List.setIfInBounds_toArray, List.set_cons_zero, List.set_cons_succ]
              refine wpAnyH_ready (rs := [7]) (by kernel_rfl) (by simp) ?_
              refine AllReadyH.cons rfl (fun K hK => ?_) AllReadyH.nil
              go_simp
              refine (hst _).mono ?_
              rintro r w7 ⟨rfl, hb7⟩
              go_wp2_with fail
              have hmb2 := row_later hmb0 hb7
              refine hK.out _ _ (hHd1.trans (hb7.mono hHd1.size)) (fun hHd2 => ?_)
              clear hHd1 hb7 hmb0
              clear hK K
              try simp only [Act.put, List.setIfInBounds_toArray, List.set_cons_zero, List.set_cons_succ]
              refine wpAnyH_take (i := 8) (oi := { dst := some 28, op := Op.move (Operand.tmp 36), type := _, pos := _, after := _, guard := none }) (v := .tuple #[.agg mb, .int .i64 E]) rfl (by kernel_rfl) (by kernel_rfl) (by kernel_rfl) (fun _ _ _ h => h) (Or.inl ⟨by rfl, fun w hSw => by (try dsimp only at hSw); go_simp⟩) (by assumption) ?_
              simp only [Act.put, List.setIfInBounds_toArray, List.set_cons_zero, List.set_cons_succ]
              refine wpAnyH_take (i := 9) (oi := { dst := some 37, op := Op.extract (Operand.tmp 28) 0, type := _, pos := _, after := _, guard := none }) (v := .agg mb) rfl (by kernel_rfl) (by kernel_rfl) (by kernel_rfl) (fun _ _ _ h => h) (Or.inl ⟨by rfl, fun w hSw => by (try dsimp only at hSw); go_simp⟩) (by assumption) ?_
              simp only [Act.put, List.setIfInBounds_toArray, List.set_cons_zero, List.set_cons_succ]
              refine wpAnyH_take (i := 10) (oi := { dst := some 38, op := Op.extract (Operand.tmp 28) 1, type := _, pos := _, after := _, guard := none }) (v := .int .i64 E) rfl (by kernel_rfl) (by kernel_rfl) (by kernel_rfl) (fun _ _ _ h => h) (Or.inl ⟨by rfl, fun w hSw => by (try dsimp only at hSw); go_simp⟩) (by assumption) ?_
              simp only [Act.put, List.setIfInBounds_toArray, List.set_cons_zero, List.set_cons_succ]
              refine wpAnyH_ready (rs := [12]) (by kernel_rfl) (by simp) ?_
              refine AllReadyH.cons rfl (fun Kc hK => ?_) AllReadyH.nil
              refine if_wp rfl (wp_stRow0 104 _ _ rfl _ mb rfl rfl 104 _ hmb2 (by rw [HM14.out.1]; exact infoMb) (by rw [HM14.out.1]; rfl) HM14.out.2 rfl ?_)
              have hmbZ := Rt.heap_setRow_same hmb2 mb
              refine hK.out _ _ (Rt.setRow_below hge7 hHd2 _) (fun hHd3 => ?_)
              clear hK Kc
              try simp only [Act.put, List.setIfInBounds_toArray, List.set_cons_zero, List.set_cons_succ]
              refine wpAnyH_take (i := 13) (oi := { dst := some 11, op := Op.assign (Operand.tmp 38), type := _, pos := _, after := _, guard := none }) (v := .int .i64 E) rfl (by kernel_rfl) (by kernel_rfl) (by kernel_rfl) (fun _ _ _ h => h) (Or.inl ⟨by rfl, fun w hSw => by (try dsimp only at hSw); go_simp⟩) (by assumption) ?_
              simp only [Act.put, List.setIfInBounds_toArray, List.set_cons_zero, List.set_cons_succ]
              refine wpAnyH_done (by kernel_rfl) ?_ _
              go_wp2_with fail
              go_meet
              case rel => exact ⟨_, rfl, rfl, hHd3, hmbZ⟩
          case rest =>
            obtain ⟨MB, rfl, rfl, hbc, hmb⟩ := hcut
            have HOC : Hid (OP w wc vk ks vm ms) := HO1.out.later hbc
            have HSC : Hid (wc.heap[C]? = some (.cells #[.int .i64 px, .int .i64 (g : Int)] 100 (0, 0))) := row_later HSE.out hbc
            have HMB : Hid (MbAt wc MB mw mse mp kk q0 q1 q2 (decide (E = 0))) := by unfold Hid MbAt; rw [HMC.out]; exact hmb
            clear hbc hmb HO1 HSE hst
            by_cases hE0 : E = 0
            · have hd : (E != 0) = false := by simp [hE0]
              have HK1 : Hid (opK ts (px, (g : Int)) = [kpr kk] ++ [kpr q0, kpr q1, kpr q2] ∧ opM ts (px, (g : Int)) = [(px, (g : Int))]) := by
                refine ⟨?_, ?_⟩
                · rw [HIN.out.2.1, decide_eq_true hE0]; rfl
                · rw [HIN.out.2.2, decide_eq_true hE0]; rfl
              clear hE0
              obtain ⟨ak, ck, rfl⟩ := Rs.owns_slice HOC.out.rk
              obtain ⟨am, cm, rfl⟩ := Rs.owns_slice HOC.out.rm
              have hrow := HOC.out.rk
              have hbs := HOC.out.bel.size
              have hlk := HLK.out.1
              have m3 : wc.cell? ⟨MB, 3, none⟩ = some (.int .i64 kk.bas) := cell_of_row wc MB 3 _ _ _ HMB.out
              have m4 : wc.cell? ⟨MB, 4, none⟩ = some (.int .i64 kk.stp) := cell_of_row wc MB 4 _ _ _ HMB.out
              go_upto_region 10 with (at_builtin; (refine wpList_append_own _ rfl _ _ 70 rfl w.heap.size 23 i0 (.agg #[.int .i64 0, .int .i64 0]) 2 16 Tryd.underlying70 hi hz0 hz1 hz2 rfl (by decide) (.slice ak ks.length ck) ks.length (ps ks) rfl (hrow.alloc _) ⟨wc.heap.size, 0, none⟩ 1 1 (ps [kpr kk]) rfl rfl (Rs.cell_two_new _ _ _ _) (by simp [Rs.ps, kpr, Value.oneCell']) (by unfold maxLen; omega) (by omega) (by simp; omega) ?_); intro v' w8 hown' hg8 _; have HB8 : Hid (OP w w8 v' (ks ++ [kpr kk]) (.slice am ms.length cm) ms) := (HOC.out.later (below_alloc _ _)).appK (news := [kpr kk]) hown' hg8; have HM8 : Hid (MbAt w8 MB mw mse mp kk q0 q1 q2 (decide (E = 0))) := grown_type (hrow.alloc _) hg8 (row_later HMB.out (below_alloc _ _)) (by decide); have HS8 : Hid (w8.heap[C]? = some (.cells #[.int .i64 px, .int .i64 (g : Int)] 100 (0, 0))) := grown_type (hrow.alloc _) hg8 (row_later HSC.out (below_alloc _ _)) (by decide); clear hown' hg8)
              clear HOC HSC HMB hrow hbs m3 m4
              obtain ⟨k5, hk5⟩ : ∃ l5, ks ++ [kpr kk] = l5 := ⟨_, rfl⟩
              have hl5 : k5.length ≤ 4 * k + 1 := by rw [← hk5]; simp; omega
              have HK5 : Hid (ks ++ [kpr kk] = k5) := hk5
              rw [hk5] at HB8
              clear hk5
              obtain ⟨ak5, ck5, rfl⟩ := Rs.owns_slice HB8.out.rk
              have hrow := HB8.out.rk
              have hbs := HB8.out.bel.size
              have hsix := path_six HM8.out
              go_upto_region 11 with (at_builtin; (refine wpList_append_own _ rfl _ _ 70 rfl w.heap.size 23 i0 (.agg #[.int .i64 0, .int .i64 0]) 2 16 Tryd.underlying70 hi hz0 hz1 hz2 rfl (by decide) (.slice ak5 k5.length ck5) k5.length (ps k5) rfl hrow ⟨MB, 5, none⟩ 3 3 (ps [kpr q0, kpr q1, kpr q2]) rfl rfl hsix (ps_one _) (by unfold maxLen; omega) (by omega) (by omega) ?_); intro v' w9 hown' hg9 _; have HB9 : Hid (OP w w9 v' (k5 ++ [kpr q0, kpr q1, kpr q2]) (.slice am ms.length cm) ms) := HB8.out.appK (news := [kpr q0, kpr q1, kpr q2]) hown' hg9; have HS9 : Hid (w9.heap[C]? = some (.cells #[.int .i64 px, .int .i64 (g : Int)] 100 (0, 0))) := grown_type hrow hg9 HS8.out (by decide); clear hown' hg9)
              clear HB8 HM8 HS8 hrow hbs hsix
              obtain ⟨k6, hk6⟩ : ∃ l5, k5 ++ [kpr q0, kpr q1, kpr q2] = l5 := ⟨_, rfl⟩
              have HK6 : Hid (ks ++ opK ts (px, (g : Int)) = k6) := by unfold Hid; rw [HK1.out.1, ← List.append_assoc, HK5.out, hk6]
              rw [hk6] at HB9
              clear hk6 HK5
              obtain ⟨ak6, ck6, rfl⟩ := Rs.owns_slice HB9.out.rk
              have hrow := HB9.out.rm
              have hbs := HB9.out.bel.size
              have hlm := HLK.out.2
              have x0 : w9.cell? ⟨C, 0, none⟩ = some (.int .i64 px) := cell_of_row w9 C 0 _ _ _ HS9.out
              have x1 : w9.cell? ⟨C, 1, none⟩ = some (.int .i64 (g : Int)) := cell_of_row w9 C 1 _ _ _ HS9.out
              go_wp2_with (at_builtin; (refine wpList_append_own _ rfl _ _ 64 rfl w.heap.size 100 j0 (.agg #[.int .i64 0, .int .i64 0]) 2 16 Tryd.underlying64 hj hy0 hy1 hy2 rfl (by decide) (.slice am ms.length cm) ms.length (ps ms) rfl (hrow.alloc _) ⟨w9.heap.size, 0, none⟩ 1 1 (ps [(px, (g : Int))]) rfl rfl (Rs.cell_two_new _ _ _ _) (by simp [Rs.ps, Value.oneCell']) (by unfold maxLen; omega) (by omega) (by simp; omega) ?_); intro v' w10 hown' hg10 _; have HB10 : Hid (OP w w10 (.slice ak6 k6.length ck6) k6 v' (ms ++ [(px, (g : Int))])) := (HB9.out.later (below_alloc _ _)).appM (news := [(px, (g : Int))]) hown' hg10; clear hown' hg10)
              go_roundw
              case rel => exact ⟨k + 1, _, _, by omega, by go_num, rfl, rfl, by rw [HTK.out.1, HTK.out.2, HK6.out, HK1.out.2]; exact HB10.out⟩
              case measure => simp [intOf]; omega
            · have hd : (E != 0) = true := by simpa using hE0
              have HK1 : Hid (opK ts (px, (g : Int)) = [] ∧ opM ts (px, (g : Int)) = []) := by
                refine ⟨?_, ?_⟩
                · rw [HIN.out.2.1, decide_eq_false hE0]; rfl
                · rw [HIN.out.2.2, decide_eq_false hE0]; rfl
              clear hE0
              go_wp2_with fail
              go_roundw
              case rel => exact ⟨k + 1, _, _, by omega, by go_num, rfl, rfl, by rw [HTK.out.1, HTK.out.2, HK1.out.1, HK1.out.2, List.append_nil, List.append_nil]; exact HOC.out⟩
              case measure => simp [intOf]; omega
    · obtain rfl : k = seen.length := by omega
      have hdk : decide ((seen.length : Int) < (seen.length : Int)) = false := by simp
      rw [List.take_length] at HO
      go_wp2_with fail
      refine bodyPost_ret (results_tt (p := 4) (q := 5) rfl _ _) rfl ?_
      exact ⟨_, _, rfl, HO.out⟩
end Go.Proofs.YtedbnamekfgmhabDoor
