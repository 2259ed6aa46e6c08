/- For any tree, script and person: what the boxes of the last tree's reply give is no key of a node of an earlier tree; the loads are the last tree's keys. No conditions. MADE by wip/mk_ryo.py. -/
import Derived.Test.YtpimbpfefhkojaaGreatRows
import Derived.Test.YtpimbpfefhkojaaGreatRvI
import Derived.Test.YtpimbpfefhkojaaGreatMbJ7
import Derived.Test.YtpimbpfefhkojaaGreatRvJ1
import Derived.Test.YtpimbpfefhkojaaGreatRvJ2
import Derived.BigQuiet
import Derived.OpenShut
import Derived.SizedLaws
import Derived.ChangeMaps5
namespace Go.Proofs.YtpimbpfefhkojaaGreat.recoveryYoung
open Go.ChangeShapes Go.WideShapes Go.ChangeAt Go.RowKit Go.Maps
open Go.Proofs.YtpimbpfefhkojaaGreat.Mb Go.Proofs.YtpimbpfefhkojaaGreat.Rv
open Rt (Ky KyAt zK gv)
open Rs (tkn fnd RdI owns_slice own_ge own_other)
open Wi (ldM ra_of stl bxl zP)
set_option linter.unusedVariables false
set_option linter.unusedSimpArgs false

theorem tz_new (w : World) {t : Tr} {c : Array Value} (hc : tcs t = c) : TrAt ((w.alloc (.cells Tryz.zeroCells31 31)).setRow w.heap.size c) w.heap.size t := by subst hc; exact (TrAt.zero w).row t
theorem tz_later (w : World) (c : Array Value) : Below w.heap.size w ((w.alloc (.cells Tryz.zeroCells31 31)).setRow w.heap.size c) := Rt.setRow_below (Nat.le_refl _) (below_alloc _ _) _
theorem an_on {t : Tr} {x e : Int} (h : anE t x e = 0) : caE t x = 0 := by
  unfold anE at h
  by_cases h1 : tck t = true
  · rw [if_pos h1] at h
    by_cases h2 : Wi.gW x = true
    · rw [if_pos h2] at h
      by_cases h3 : caE t x = 0
      · exact h3
      · rw [if_neg h3] at h; cases h
    · rw [if_neg h2] at h; cases h
  · rw [if_neg h1] at h; cases h
def bxi (p : Rp) (i : Nat) : (Int × Int) × (Int × Int) := if i = 0 then p.2.2.1 else if i = 1 then p.2.2.2.1 else p.2.2.2.2
theorem ra_bx {w : World} {P : Nat} {p : Rp} (h : RA w P p) {i : Nat} (hi : i < 3) : w.rangeAt P (3 + i * 4) (stl (bxi p i).1) ∧ w.rangeAt P (3 + i * 4 + 2) (stl (bxi p i).2) := by
  have : i = 0 ∨ i = 1 ∨ i = 2 := by omega
  rcases this with rfl | rfl | rfl
  · exact ⟨ra_of h 3 _ rfl, ra_of h 5 _ rfl⟩
  · exact ⟨ra_of h 7 _ rfl, ra_of h 9 _ rfl⟩
  · exact ⟨ra_of h 11 _ rfl, ra_of h 13 _ rfl⟩
theorem young {t0 : Tr} {ts : List Tr} {bs : List (List Int × List Int)} (hr : RowM t0 ts bs) {N : Nat} (hN : bs.length = N) {s : Nat} (htk : tck (ts.getD N (tz 0)) = true) (hs : s < 64) (hk : tkn ((ts.getD N (tz 0)).ro s) = true) {e v : Nat} (he : e < N) (hv : v < 85) (h0 : koE (ts.getD e (tz 0)) (v : Int) = 0) {i : Nat} (hi : i < 3) :
    gv (bxi (rpOf (atS (ts.getD N (tz 0)) s 0)) i).2.1 (bxi (rpOf (atS (ts.getD N (tz 0)) s 0)) i).2.2 (koK (ts.getD e (tz 0)) (v : Int)).bas (koK (ts.getD e (tz 0)) (v : Int)).stp = false ∧
    gv (bxi (rpOf (atS (ts.getD N (tz 0)) s 0)) i).1.1 (bxi (rpOf (atS (ts.getD N (tz 0)) s 0)) i).1.2 (koK (ts.getD e (tz 0)) (v : Int)).bas (koK (ts.getD e (tz 0)) (v : Int)).stp = false := by
  subst hN
  have hx : RowX (fun i => ts.getD i (tz 0)) (fun i => (bs.getD i ([], [])).1) (fun i => (bs.getD i ([], [])).2) bs.length := ⟨hr.ck (by omega) 0 (by omega), fun i hi => (hr.stp i hi).1, fun i hi => (hr.stp i hi).2⟩
  obtain ⟨⟨l0, l1⟩, hp⟩ := rp_keys htk hs hk
  obtain ⟨p0, p1⟩ := hp i
  have y1 := hx.young he hv (c' := pn s i) (by have := pn_lt hs i; omega) h0 p0
  have y2 := hx.young he hv (c' := 21 + s) (by omega) h0 l0
  rw [p1] at y1
  rw [l1] at y2
  have e1 : (bxi (rpOf (atS (ts.getD bs.length (tz 0)) s 0)) i).2 = kp ((ts.getD bs.length (tz 0)).ks (pn s i)) := by
    have : i = 0 ∨ i = 1 ∨ i = 2 := by omega
    rcases this with rfl | rfl | rfl <;> rfl
  have e2 : (bxi (rpOf (atS (ts.getD bs.length (tz 0)) s 0)) i).1 = kp ⟨((ts.getD bs.length (tz 0)).ro s).bas, (ts.getD bs.length (tz 0)).ep - ((ts.getD bs.length (tz 0)).ro s).snc⟩ := by
    have : i = 0 ∨ i = 1 ∨ i = 2 := by omega
    rcases this with rfl | rfl | rfl <;> rfl
  rw [e1, e2]
  exact ⟨y1, y2⟩
theorem keyN {w : World} {B : Nat} {t : Tr} (h : TrAt w B t) {k : Nat} (hk : k < 21) : w.rangeAt B (2 + k * 2) (stl (kp (t.ks k))) := fun j v hv => by
  match j, hv with
  | 0, hv => simp [stl, kp] at hv; subst hv; exact (h.key k hk).1
  | 1, hv => simp [stl, kp] at hv; subst hv; exact (h.key k hk).2
  | n + 2, hv => simp [stl] at hv
theorem eqKy_exec {w : World} {x y : Int × Int} (h : x = y) {o : Oper} {a : Act} {u v : Operand} (ho : o.op = .binOp .eql 23 u v 23) (hx : a.eval u = .agg (stl x).toArray) (hy : a.eval v = .agg (stl y).toArray) : (execOp a.eval o).run Tryz.prog w = .ok (.value (.bool true)) w := by
  have h1 := Wi.run_eqPr 23 (w := w) 9998 x y (.inl rfl)
  rw [decide_eq_true h] at h1
  have h3 := run_eqGuard_agg (P := Tryz.prog) w .eql 23 u v (stl x).toArray (stl y).toArray Tryz.eqGuardType23
  have h4 := run_eql_struct (P := Tryz.prog) w 23 (stl x).toArray (stl y).toArray
  rw [h1] at h4
  simp [execOp, ho, hx, hy, h3, h4, Sem.run_bind, Result.andThen]
structure IY (wR W : World) (P X : Nat) (p : Rp) (u : Tr) : Prop where
  bel : Below wR.heap.size wR W
  rp : RA W P p
  tr : TrAt W X u
theorem IY.later {wR W W' : World} {P X : Nat} {p : Rp} {u : Tr} (h : IY wR W P X p u) (hb : Below W.heap.size W W') : IY wR W' P X p u := ⟨Wi.Below.join h.bel hb, h.rp.later hb, h.tr.later hb⟩
set_option maxHeartbeats 16000000 in
set_option maxRecDepth 100000 in
theorem walk (t0 : Tr) (a : Option Addr) (c : Nat) (l : List (List Int × List Int)) (x0 : Int) (ba0 : Bool) (bh0 : Int) (w : World) (rd0 : Rv.RdB w a l) (hl1 : l.length * 48 ≤ 140737488351232) (hn1 : ∀ i, i < l.length → (l.getD i ([], [])).1.length * 8 ≤ 140737488351232 ∧ (l.getD i ([], [])).2.length * 8 ≤ 140737488351232) :
    Calls Tryz.prog 4 #[.agg (lca t0 (.slice a l.length c) x0 ba0 bh0)] w fun e w' => e = .returned (.bool true) ∧ Below w.heap.size w w' := by
  obtain ⟨it, hti, htz, hts, htb⟩ := info_tree
  have hb : ∀ i, i < l.length → (l.getD i ([], [])).1.length ≤ 17592186044416 ∧ (l.getD i ([], [])).2.length ≤ 17592186044416 := fun i hi => by have := hn1 i hi; omega
  have hl : l.length ≤ 17592186044416 := by omega
  have hL := LAt.new w t0 (.slice a l.length c) x0 ba0 bh0
  have hB := below_alloc w (.cells (lca t0 (.slice a l.length c) x0 ba0 bh0) 34)
  obtain ⟨c0, hc0⟩ : ∃ c, tcs t0 = c := ⟨_, rfl⟩
  have HC0 : TX t0 c0 := ⟨hc0⟩
  obtain ⟨cl, hcl⟩ : ∃ x, lca t0 (.slice a l.length c) x0 ba0 bh0 = x := ⟨_, rfl⟩
  rw [hcl] at hL hB
  rw [hcl]
  clear hc0 hn1 hl1 hcl
  go_enter Tryz.func4, Tryz.ntmps4
  go_upto_region 1 with (fail)
  generalize w.alloc (.cells cl 34) = w1 at *
  obtain ⟨B, hBe⟩ : ∃ B, w.heap.size = B := ⟨_, rfl⟩
  have HB1 : Hid (Below w.heap.size w w1) := hB
  clear hB
  rw [hBe] at hL ⊢
  clear hBe
  go_wp2_with fail
  refine (lives16_any _).mono ?_
  rintro e wb ⟨rfl, hb1⟩
  have hL2 := hL.later hb1
  have HBW : Hid (Below w.heap.size w wb) := Wi.Below.join HB1.out hb1
  have HRD : Hid (Rv.RdB wb a l) := rd0.later HBW.out
  have HLG : Hid (LAt wb B t0 (.slice a l.length c) x0 ba0 bh0) := hL2
  clear hL hb1 rd0 HB1
  have HS0 : Hid (SX wb (wb.alloc (.cells c0 31)) (.slice (some ⟨wb.heap.size, 0, none⟩) 1 1) (runM t0 (l.take 0)).1) := SX.one wb HC0.out
  go_upto_region 4 with (first | (refine rdL hL2 HC0.out _ rfl rfl rfl ?_) | (refine bsT HC0.out rfl _ rfl rfl ?_))
  have r0 := (HLG.out.later (below_alloc wb (.cells c0 31))).rest.1
  clear hL2
  go_wp2_with fail
  clear r0
  go_loopw [3, 28] (fun x i wx => ∃ (k : Nat) (vr : Value), k ≤ l.length ∧ i = .int .i64 (k : Int) ∧ vr = x ∧ SX wb wx vr (runM t0 (l.take k)).1) (fun _ i _ => l.length - (intOf i).toNat)
  case atStart => exact ⟨0, _, by omega, rfl, rfl, HS0.out⟩
  case round =>
    obtain ⟨k, vr, hk, rfl, rfl, hss⟩ := hrel
    have HS : Hid (SX wb wr vr (runM t0 (l.take k)).1) := hss
    have HROW : Hid (RowM t0 (runM t0 (l.take k)).1 (runM t0 (l.take k)).2) := runM_row t0 _
    clear hss HS0
    by_cases hkN : k < l.length
    · as_aux_lemma =>
        have i1 : (0 : Int) ≤ (k : Int) := by omega
        have i2 : (k : Int) < (l.length : Int) := by omega
        obtain ⟨b0, o0, aL, cL, aJ, cJ, hal, hc0, hc1, rL, rJ⟩ := (HRD.out.later HS.out.bel) k hkN
        obtain ⟨hbL, hbJ⟩ := hb k hkN
        have HTK : Hid (runM t0 (l.take (k + 1)) = run1 (runM t0 (l.take k)) (l.getD k ([], []))) := runM_take t0 hkN
        obtain ⟨q, hq⟩ : ∃ q, l.getD k ([], []) = q := ⟨_, rfl⟩
        rw [hq] at hc0 hc1 rL rJ hbL hbJ HTK
        obtain ⟨L, J⟩ := q
        dsimp only at hc0 hc1 rL rJ hbL hbJ
        rw [← Nat.add_assoc] at hc1
        obtain ⟨st, hst⟩ : ∃ s, runM t0 (l.take k) = s := ⟨_, rfl⟩
        rw [hst] at HTK HS HROW
        obtain ⟨ts, bs⟩ := st
        dsimp only at HS HROW
        clear hq hst
        subst hal
        have hlen := HROW.out.len
        have hle := HROW.out.le
        obtain ⟨m, hm⟩ : ∃ m, m + 1 = ts.length := ⟨ts.length - 1, by omega⟩
        obtain ⟨t, ht⟩ : ∃ t, lastT ts = t := ⟨_, rfl⟩
        have ht2 : ts.getD m (tz 0) = t := (getD_last hm).trans ht
        have HR1 : Hid (run1 (ts, bs) (L, J) = if plE t L J = 0 then (ts ++ [nx t L J], bs ++ [(L, J)]) else (ts, bs)) := run1_eq ht L J
        obtain ⟨ar, cr, rfl⟩ := owns_slice HS.out.rr
        have HS5 : Hid (SX wb (wr.alloc (.cells #[.slice aL L.length cL, .slice aJ J.length cJ] 45)) (.slice ar ts.length cr) ts) := HS.out.later (below_alloc _ _)
        have hBT : BtAt (wr.alloc (.cells #[.slice aL L.length cL, .slice aJ J.length cJ] 45)) wr.heap.size aL aJ L.length J.length cL cJ := heap_alloc_last wr _
        have rL5 := rL.later (below_alloc wr (.cells #[.slice aL L.length cL, .slice aJ J.length cJ] 45))
        have rJ5 := rJ.later (below_alloc wr (.cells #[.slice aL L.length cL, .slice aJ J.length cJ] 45))
        clear HS rL rJ
        go_upto_region 7 with (fail)
        clear hc0 hc1
        generalize wr.alloc (.cells #[.slice aL L.length cL, .slice aJ J.length cJ] 45) = w5 at *
        generalize wr.heap.size = C at *
        have HBT : Hid (BtAt w5 C aL aJ L.length J.length cL cJ) := hBT
        have hrd := owns_rdR HS5.out.rr
        obtain ⟨g, eg, -, -⟩ := hrd.tree (i := m) (by omega) ht2
        have HTR : Hid (∀ W, Below w5.heap.size w5 W → (Instr.loadAt 31 (.pointer (some ⟨g, m * 236, none⟩))).run Tryz.prog W = .ok (.agg (tcs t)) W) := fun W hW => by
          obtain ⟨b', e', h2, -⟩ := (hrd.later hW).tree (i := m) (by omega) ht2
          rw [eg] at e'
          simp at e'
          subst e'
          exact h2
        have hnx := fun W (hW : Below w5.heap.size w5 W) => next_r t aL aJ cL cJ L J W (by omega) (by omega) (rL5.later hW) (rJ5.later hW)
        unfold NxA rka at hnx
        have HOK : Hid (plE t L J = 0 → pnT t L J = nx t L J) := fun h => by unfold pnT; rw [if_pos h]
        obtain ⟨n, hn⟩ : ∃ n, pnT t L J = n := ⟨_, rfl⟩
        obtain ⟨E, hE⟩ : ∃ n, plE t L J = n := ⟨_, rfl⟩
        obtain ⟨p, hp⟩ : ∃ n, pR t L J = n := ⟨_, rfl⟩
        obtain ⟨cn, hcn⟩ : ∃ c, tcs n = c := ⟨_, rfl⟩
        have HCN : TX n cn := ⟨hcn⟩
        rw [hn, hE] at HOK
        rw [hE] at HR1
        obtain ⟨ct, hct⟩ : ∃ c, tcs t = c := ⟨_, rfl⟩
        have HCT : TX t ct := ⟨hct⟩
        rw [hct] at HTR
        rw [hn, hE, hp, hct, hcn] at hnx
        subst eg
        obtain ⟨NT, hNT⟩ : ∃ x, ts.length = x := ⟨_, rfl⟩
        have HNT : Hid (ts.length = NT) := hNT
        obtain ⟨NL, hNL⟩ : ∃ x, L.length = x := ⟨_, rfl⟩
        obtain ⟨NJ, hNJ⟩ : ∃ x, J.length = x := ⟨_, rfl⟩
        rw [hNL, hNJ] at HBT hnx
        rw [hNT] at hm hle HS5 ⊢
        have hw1 : IntKind.i64.wrap ((NT : Int) - 1) = (m : Int) := by rw [show (NT : Int) - 1 = (m : Int) by omega]; exact Rs.i64_fit _ (by omega) (by omega)
        have m1 : (0 : Int) ≤ (m : Int) := by omega
        have m2 : (m : Int) < (NT : Int) := by omega
        have HMN : Hid (m + 1 = NT) := hm
        clear hn hE hp hcn hct ht ht2 hrd hBT hNT hNL hNJ hm hlen rL5 rJ5 hbL hbJ
        go_cut [6, 8] (fun sa sb wx => ∃ T, sa = .pointer (some ⟨T, 0, none⟩) ∧ sb = .int .i64 E ∧ Below w5.heap.size w5 wx ∧ TrAt wx T n)
        case first =>
          have hS0 : Below w5.heap.size w5 w5.drew := drew_below _
          refine wp_region_held_drew (S := fun X => Below w5.heap.size w5 X) (by kernel_rfl) hS0 (fun hHeld => ?_)
          refine wpAnyH_take (i := 0) (oi := { dst := some 33, op := Op.move (Operand.tmp 3), type := _, pos := _, after := _, guard := none }) (v := .slice (some ⟨g, 0, none⟩) NT cr) rfl (by kernel_rfl) (by kernel_rfl) (by kernel_rfl) (fun _ _ _ h => h) (Or.inl ⟨by rfl, fun w hSw => by (try dsimp only at hSw); go_simp⟩) (by assumption) ?_
          simp only [Act.put, List.setIfInBounds_toArray, List.set_cons_zero, List.set_cons_succ]
          refine wpAnyH_take (i := 1) (oi := { dst := some 34, op := Op.move (Operand.tmp 3), type := _, pos := _, after := _, guard := none }) (v := .slice (some ⟨g, 0, none⟩) NT cr) rfl (by kernel_rfl) (by kernel_rfl) (by kernel_rfl) (fun _ _ _ h => h) (Or.inl ⟨by rfl, fun w hSw => by (try dsimp only at hSw); go_simp⟩) (by assumption) ?_
          simp only [Act.put, List.setIfInBounds_toArray, List.set_cons_zero, List.set_cons_succ]
          refine wpAnyH_take (i := 2) (oi := { dst := some 35, op := Op.call { callee := Callee.builtin Builtin.len, args := #[(Operand.tmp 34)], argTypes := #[65] }, type := _, pos := _, after := _, guard := none }) (v := .int .i64 (NT : Int)) rfl (by kernel_rfl) (by kernel_rfl) (by kernel_rfl) (fun _ _ _ h => h) (Or.inl ⟨by rfl, fun w hSw => by (try dsimp only at hSw); go_simp⟩) (by assumption) ?_
          simp only [Act.put, List.setIfInBounds_toArray, List.set_cons_zero, List.set_cons_succ]
          refine wpAnyH_take (i := 3) (oi := { dst := some 36, op := Op.binOp BinOp.sub 3 (Operand.tmp 35) (Operand.const (Value.int IntKind.i64 1)) 3, type := _, pos := _, after := _, guard := none }) (v := .int .i64 (m : Int)) rfl (by kernel_rfl) (by kernel_rfl) (by kernel_rfl) (fun _ _ _ h => h) (Or.inl ⟨by rfl, fun w hSw => by (try dsimp only at hSw); go_simp⟩) (by assumption) ?_
          simp only [Act.put, List.setIfInBounds_toArray, List.set_cons_zero, List.set_cons_succ]
          refine wpAnyH_take (i := 4) (oi := { dst := some 37, op := Op.indexAddr 65 (Operand.tmp 33) (Operand.tmp 36), type := _, pos := _, after := _, guard := none }) (v := .pointer (some ⟨g, m * 236, none⟩)) rfl (by kernel_rfl) (by kernel_rfl) (by kernel_rfl) (fun _ _ _ h => h) (Or.inl ⟨by rfl, fun w hSw => by (try dsimp only at hSw); go_simp⟩) (by assumption) ?_
          simp only [Act.put, List.setIfInBounds_toArray, List.set_cons_zero, List.set_cons_succ]
          refine wpAnyH_take (i := 5) (oi := { dst := some 38, op := Op.load 31 (Operand.tmp 37), type := _, pos := _, after := _, guard := none }) (v := .agg ct) rfl (by kernel_rfl) (by kernel_rfl) (by kernel_rfl) (fun _ _ _ h => h) (Or.inl ⟨by rfl, fun w hSw => ld_exec (HTR.out _ hSw) rfl rfl⟩) (by assumption) ?_
          simp only [Act.put, List.setIfInBounds_toArray, List.set_cons_zero, List.set_cons_succ]
          refine wpAnyH_take (i := 6) (oi := { dst := some 39, op := Op.load 45 (Operand.tmp 5), type := _, pos := _, after := _, guard := none }) (v := .agg #[.slice aL NL cL, .slice aJ NJ cJ]) rfl (by kernel_rfl) (by kernel_rfl) (by kernel_rfl) (fun _ _ _ h => h) (Or.inl ⟨by rfl, fun w hSw => by obtain ⟨x0, x1⟩ := (HBT.out.later hSw).cells; clear hSw; go_simp⟩) (by assumption) ?_
          simp only [Act.put, List.setIfInBounds_toArray, List.set_cons_zero, List.set_cons_succ]
          refine wpAnyH_ready (rs := [7, 12, 13]) (by kernel_rfl) (by simp) ?_
          refine (AllReadyH.cons rfl (fun K hK => ?_) (AllReadyH.cons rfl (fun K hK => ?_) (AllReadyH.cons rfl (fun K hK => ?_) AllReadyH.nil)))
          · go_simp
            refine (hnx _ hHeld).mono ?_
            rintro r w7 ⟨⟨a1, a2, a3, k1, k2, k3, rfl, -⟩, hb7⟩
            go_wp2_with fail
            try (have hz := hz.later hb7)
            try (have hq := rkAt_later hq hb7)
            refine hK.out _ _ (hHeld.trans (hb7.mono hHeld.size)) (fun hHd1 => ?_)
            clear hHeld hb7
            clear hK K
            try simp only [Act.put, List.setIfInBounds_toArray, List.set_cons_zero, List.set_cons_succ]
            refine wpAnyH_take (i := 8) (oi := { dst := some 32, op := Op.move (Operand.tmp 40), type := _, pos := _, after := _, guard := none }) (v := .tuple #[.agg cn, .agg #[.int .i64 p.1, .slice a1 p.2.1.length k1, .slice a2 p.2.2.1.length k2, .slice a3 p.2.2.2.length k3], .int .i64 E]) rfl (by kernel_rfl) (by kernel_rfl) (by kernel_rfl) (fun _ _ _ h => h) (Or.inl ⟨by rfl, fun w hSw => by (try dsimp only at hSw); go_simp⟩) (by assumption) ?_
            simp only [Act.put, List.setIfInBounds_toArray, List.set_cons_zero, List.set_cons_succ]
            refine wpAnyH_take (i := 9) (oi := { dst := some 41, op := Op.extract (Operand.tmp 32) 0, type := _, pos := _, after := _, guard := none }) (v := .agg cn) rfl (by kernel_rfl) (by kernel_rfl) (by kernel_rfl) (fun _ _ _ h => h) (Or.inl ⟨by rfl, fun w hSw => by (try dsimp only at hSw); go_simp⟩) (by assumption) ?_
            simp only [Act.put, List.setIfInBounds_toArray, List.set_cons_zero, List.set_cons_succ]
            refine wpAnyH_take (i := 10) (oi := { dst := some 42, op := Op.extract (Operand.tmp 32) 1, type := _, pos := _, after := _, guard := none }) (v := .agg #[.int .i64 p.1, .slice a1 p.2.1.length k1, .slice a2 p.2.2.1.length k2, .slice a3 p.2.2.2.length k3]) rfl (by kernel_rfl) (by kernel_rfl) (by kernel_rfl) (fun _ _ _ h => h) (Or.inl ⟨by rfl, fun w hSw => by (try dsimp only at hSw); go_simp⟩) (by assumption) ?_
            simp only [Act.put, List.setIfInBounds_toArray, List.set_cons_zero, List.set_cons_succ]
            refine wpAnyH_take (i := 11) (oi := { dst := some 43, op := Op.extract (Operand.tmp 32) 2, type := _, pos := _, after := _, guard := none }) (v := .int .i64 E) rfl (by kernel_rfl) (by kernel_rfl) (by kernel_rfl) (fun _ _ _ h => h) (Or.inl ⟨by rfl, fun w hSw => by (try dsimp only at hSw); go_simp⟩) (by assumption) ?_
            simp only [Act.put, List.setIfInBounds_toArray, List.set_cons_zero, List.set_cons_succ]
            refine wpAnyH_ready (rs := [12, 13]) (by kernel_rfl) (by simp) ?_
            refine (AllReadyH.cons rfl (fun K hK => ?_) (AllReadyH.cons rfl (fun K hK => ?_) AllReadyH.nil))
            · go_simp
              have hgT := hHd1.size
              refine hK.out _ _ (hHd1.trans ((below_alloc _ _).mono hHd1.size)) (fun hHd2 => ?_)
              first | have hz := zero_of hHd2 | have hz := zero_of' hHd2
              try simp only [World.size_alloc] at hz
              try simp only [World.size_alloc] at hgT
              try (have hq := rkAt_later hq (below_alloc _ (.cells Tryz.zeroCells31 31)))
              clear hHd1
              clear hK K
              try simp only [Act.put, List.setIfInBounds_toArray, List.set_cons_zero, List.set_cons_succ]
              refine wpAnyH_ready (rs := [13]) (by kernel_rfl) (by simp) ?_
              refine AllReadyH.cons rfl (fun K hK => ?_) AllReadyH.nil
              go_simp
              have hgM := hHd2.size
              refine hK.out _ _ (hHd2.trans ((below_alloc _ _).mono hHd2.size)) (fun hHd3 => ?_)
              first | have hq := rkz_of hHd3 | have hq := rkz_of' hHd3
              try simp only [World.size_alloc] at hq
              try simp only [World.size_alloc] at hgM
              try (have hz := hz.later (below_alloc _ (.cells #[.int .i64 0, .slice none 0 0, .slice none 0 0, .slice none 0 0] 49)))
              clear hHd2
              clear hK K
              try simp only [Act.put, List.setIfInBounds_toArray, List.set_cons_zero, List.set_cons_succ]
              refine wpAnyH_ready (rs := [14]) (by kernel_rfl) (by simp) ?_
              refine AllReadyH.cons rfl (fun Kc hK => ?_) AllReadyH.nil
              refine if_wp rfl (wp_stRow0 31 _ _ rfl _ cn rfl rfl 31 _ hz (by rw [← HCN.out, tcs_size]; exact infoT) (by rw [← HCN.out, tcs_size, tcs_size]) (by rw [← HCN.out]; exact tcs_one n) rfl ?_)
              have hTM := block_ne hz hq (by decide)
              have hzZ := Rt.heap_setRow_same hz cn
              have hq2 := (Rt.row_other (Ne.symm hTM) cn).trans hq
              refine hK.out _ _ (Rt.setRow_below (by first | exact hgT | omega) hHd3 _) (fun hHd4 => ?_)
              clear hHd3
              clear hK Kc
              try simp only [Act.put, List.setIfInBounds_toArray, List.set_cons_zero, List.set_cons_succ]
              refine wpAnyH_ready (rs := [15]) (by kernel_rfl) (by simp) ?_
              refine AllReadyH.cons rfl (fun Kc hK => ?_) AllReadyH.nil
              refine if_wp rfl (wp_stRow0 49 _ _ rfl _ #[.int .i64 p.1, .slice a1 p.2.1.length k1, .slice a2 p.2.2.1.length k2, .slice a3 p.2.2.2.length k3] rfl rfl 49 _ hq2 infoRk rfl (rk_one _ _ _ _ _ _ _ _ _ _) rfl ?_)
              have hzZ2 := (Rt.row_other hTM #[.int .i64 p.1, .slice a1 p.2.1.length k1, .slice a2 p.2.2.1.length k2, .slice a3 p.2.2.2.length k3]).trans hzZ
              refine hK.out _ _ (Rt.setRow_below (by first | exact hgM | omega) hHd4 _) (fun hHd5 => ?_)
              clear hK Kc
              try simp only [Act.put, List.setIfInBounds_toArray, List.set_cons_zero, List.set_cons_succ]
              refine wpAnyH_take (i := 16) (oi := { dst := some 8, op := Op.assign (Operand.tmp 43), type := _, pos := _, after := _, guard := none }) (v := .int .i64 E) rfl (by kernel_rfl) (by kernel_rfl) (by kernel_rfl) (fun _ _ _ h => h) (Or.inl ⟨by rfl, fun w hSw => by (try dsimp only at hSw); go_simp⟩) (by assumption) ?_
              simp only [Act.put, List.setIfInBounds_toArray, List.set_cons_zero, List.set_cons_succ]
              refine wpAnyH_done (by kernel_rfl) ?_ _
              go_wp2_with fail
              go_meet
              case rel => exact ⟨_, rfl, rfl, hHd5, by unfold TrAt; rw [HCN.out]; exact hzZ2⟩
            · go_simp
              have hgM := hHd1.size
              refine hK.out _ _ (hHd1.trans ((below_alloc _ _).mono hHd1.size)) (fun hHd2 => ?_)
              first | have hq := rkz_of hHd2 | have hq := rkz_of' hHd2
              try simp only [World.size_alloc] at hq
              try simp only [World.size_alloc] at hgM
              try (have hz := hz.later (below_alloc _ (.cells #[.int .i64 0, .slice none 0 0, .slice none 0 0, .slice none 0 0] 49)))
              clear hHd1
              clear hK K
              try simp only [Act.put, List.setIfInBounds_toArray, List.set_cons_zero, List.set_cons_succ]
              refine wpAnyH_ready (rs := [12]) (by kernel_rfl) (by simp) ?_
              refine AllReadyH.cons rfl (fun K hK => ?_) AllReadyH.nil
              go_simp
              have hgT := hHd2.size
              refine hK.out _ _ (hHd2.trans ((below_alloc _ _).mono hHd2.size)) (fun hHd3 => ?_)
              first | have hz := zero_of hHd3 | have hz := zero_of' hHd3
              try simp only [World.size_alloc] at hz
              try simp only [World.size_alloc] at hgT
              try (have hq := rkAt_later hq (below_alloc _ (.cells Tryz.zeroCells31 31)))
              clear hHd2
              clear hK K
              try simp only [Act.put, List.setIfInBounds_toArray, List.set_cons_zero, List.set_cons_succ]
              refine wpAnyH_ready (rs := [14]) (by kernel_rfl) (by simp) ?_
              refine AllReadyH.cons rfl (fun Kc hK => ?_) AllReadyH.nil
              refine if_wp rfl (wp_stRow0 31 _ _ rfl _ cn rfl rfl 31 _ hz (by rw [← HCN.out, tcs_size]; exact infoT) (by rw [← HCN.out, tcs_size, tcs_size]) (by rw [← HCN.out]; exact tcs_one n) rfl ?_)
              have hTM := block_ne hz hq (by decide)
              have hzZ := Rt.heap_setRow_same hz cn
              have hq2 := (Rt.row_other (Ne.symm hTM) cn).trans hq
              refine hK.out _ _ (Rt.setRow_below (by first | exact hgT | omega) hHd3 _) (fun hHd4 => ?_)
              clear hHd3
              clear hK Kc
              try simp only [Act.put, List.setIfInBounds_toArray, List.set_cons_zero, List.set_cons_succ]
              refine wpAnyH_ready (rs := [15]) (by kernel_rfl) (by simp) ?_
              refine AllReadyH.cons rfl (fun Kc hK => ?_) AllReadyH.nil
              refine if_wp rfl (wp_stRow0 49 _ _ rfl _ #[.int .i64 p.1, .slice a1 p.2.1.length k1, .slice a2 p.2.2.1.length k2, .slice a3 p.2.2.2.length k3] rfl rfl 49 _ hq2 infoRk rfl (rk_one _ _ _ _ _ _ _ _ _ _) rfl ?_)
              have hzZ2 := (Rt.row_other hTM #[.int .i64 p.1, .slice a1 p.2.1.length k1, .slice a2 p.2.2.1.length k2, .slice a3 p.2.2.2.length k3]).trans hzZ
              refine hK.out _ _ (Rt.setRow_below (by first | exact hgM | omega) hHd4 _) (fun hHd5 => ?_)
              clear hK Kc
              try simp only [Act.put, List.setIfInBounds_toArray, List.set_cons_zero, List.set_cons_succ]
              refine wpAnyH_take (i := 16) (oi := { dst := some 8, op := Op.assign (Operand.tmp 43), type := _, pos := _, after := _, guard := none }) (v := .int .i64 E) rfl (by kernel_rfl) (by kernel_rfl) (by kernel_rfl) (fun _ _ _ h => h) (Or.inl ⟨by rfl, fun w hSw => by (try dsimp only at hSw); go_simp⟩) (by assumption) ?_
              simp only [Act.put, List.setIfInBounds_toArray, List.set_cons_zero, List.set_cons_succ]
              refine wpAnyH_done (by kernel_rfl) ?_ _
              go_wp2_with fail
              go_meet
              case rel => exact ⟨_, rfl, rfl, hHd5, by unfold TrAt; rw [HCN.out]; exact hzZ2⟩
          · go_simp
            have hgT := hHeld.size
            refine hK.out _ _ (hHeld.trans ((below_alloc _ _).mono hHeld.size)) (fun hHd1 => ?_)
            first | have hz := zero_of hHd1 | have hz := zero_of' hHd1
            try simp only [World.size_alloc] at hz
            try simp only [World.size_alloc] at hgT
            try (have hq := rkAt_later hq (below_alloc _ (.cells Tryz.zeroCells31 31)))
            clear hHeld
            clear hK K
            try simp only [Act.put, List.setIfInBounds_toArray, List.set_cons_zero, List.set_cons_succ]
            refine wpAnyH_ready (rs := [7, 13]) (by kernel_rfl) (by simp) ?_
            refine (AllReadyH.cons rfl (fun K hK => ?_) (AllReadyH.cons rfl (fun K hK => ?_) AllReadyH.nil))
            · go_simp
              refine (hnx _ hHd1).mono ?_
              rintro r w7 ⟨⟨a1, a2, a3, k1, k2, k3, rfl, -⟩, hb7⟩
              go_wp2_with fail
              try (have hz := hz.later hb7)
              try (have hq := rkAt_later hq hb7)
              refine hK.out _ _ (hHd1.trans (hb7.mono hHd1.size)) (fun hHd2 => ?_)
              clear hHd1 hb7
              clear hK K
              try simp only [Act.put, List.setIfInBounds_toArray, List.set_cons_zero, List.set_cons_succ]
              refine wpAnyH_take (i := 8) (oi := { dst := some 32, op := Op.move (Operand.tmp 40), type := _, pos := _, after := _, guard := none }) (v := .tuple #[.agg cn, .agg #[.int .i64 p.1, .slice a1 p.2.1.length k1, .slice a2 p.2.2.1.length k2, .slice a3 p.2.2.2.length k3], .int .i64 E]) rfl (by kernel_rfl) (by kernel_rfl) (by kernel_rfl) (fun _ _ _ h => h) (Or.inl ⟨by rfl, fun w hSw => by (try dsimp only at hSw); go_simp⟩) (by assumption) ?_
              simp only [Act.put, List.setIfInBounds_toArray, List.set_cons_zero, List.set_cons_succ]
              refine wpAnyH_take (i := 9) (oi := { dst := some 41, op := Op.extract (Operand.tmp 32) 0, type := _, pos := _, after := _, guard := none }) (v := .agg cn) rfl (by kernel_rfl) (by kernel_rfl) (by kernel_rfl) (fun _ _ _ h => h) (Or.inl ⟨by rfl, fun w hSw => by (try dsimp only at hSw); go_simp⟩) (by assumption) ?_
              simp only [Act.put, List.setIfInBounds_toArray, List.set_cons_zero, List.set_cons_succ]
              refine wpAnyH_take (i := 10) (oi := { dst := some 42, op := Op.extract (Operand.tmp 32) 1, type := _, pos := _, after := _, guard := none }) (v := .agg #[.int .i64 p.1, .slice a1 p.2.1.length k1, .slice a2 p.2.2.1.length k2, .slice a3 p.2.2.2.length k3]) rfl (by kernel_rfl) (by kernel_rfl) (by kernel_rfl) (fun _ _ _ h => h) (Or.inl ⟨by rfl, fun w hSw => by (try dsimp only at hSw); go_simp⟩) (by assumption) ?_
              simp only [Act.put, List.setIfInBounds_toArray, List.set_cons_zero, List.set_cons_succ]
              refine wpAnyH_take (i := 11) (oi := { dst := some 43, op := Op.extract (Operand.tmp 32) 2, type := _, pos := _, after := _, guard := none }) (v := .int .i64 E) rfl (by kernel_rfl) (by kernel_rfl) (by kernel_rfl) (fun _ _ _ h => h) (Or.inl ⟨by rfl, fun w hSw => by (try dsimp only at hSw); go_simp⟩) (by assumption) ?_
              simp only [Act.put, List.setIfInBounds_toArray, List.set_cons_zero, List.set_cons_succ]
              refine wpAnyH_ready (rs := [13]) (by kernel_rfl) (by simp) ?_
              refine AllReadyH.cons rfl (fun K hK => ?_) AllReadyH.nil
              go_simp
              have hgM := hHd2.size
              refine hK.out _ _ (hHd2.trans ((below_alloc _ _).mono hHd2.size)) (fun hHd3 => ?_)
              first | have hq := rkz_of hHd3 | have hq := rkz_of' hHd3
              try simp only [World.size_alloc] at hq
              try simp only [World.size_alloc] at hgM
              try (have hz := hz.later (below_alloc _ (.cells #[.int .i64 0, .slice none 0 0, .slice none 0 0, .slice none 0 0] 49)))
              clear hHd2
              clear hK K
              try simp only [Act.put, List.setIfInBounds_toArray, List.set_cons_zero, List.set_cons_succ]
              refine wpAnyH_ready (rs := [14]) (by kernel_rfl) (by simp) ?_
              refine AllReadyH.cons rfl (fun Kc hK => ?_) AllReadyH.nil
              refine if_wp rfl (wp_stRow0 31 _ _ rfl _ cn rfl rfl 31 _ hz (by rw [← HCN.out, tcs_size]; exact infoT) (by rw [← HCN.out, tcs_size, tcs_size]) (by rw [← HCN.out]; exact tcs_one n) rfl ?_)
              have hTM := block_ne hz hq (by decide)
              have hzZ := Rt.heap_setRow_same hz cn
              have hq2 := (Rt.row_other (Ne.symm hTM) cn).trans hq
              refine hK.out _ _ (Rt.setRow_below (by first | exact hgT | omega) hHd3 _) (fun hHd4 => ?_)
              clear hHd3
              clear hK Kc
              try simp only [Act.put, List.setIfInBounds_toArray, List.set_cons_zero, List.set_cons_succ]
              refine wpAnyH_ready (rs := [15]) (by kernel_rfl) (by simp) ?_
              refine AllReadyH.cons rfl (fun Kc hK => ?_) AllReadyH.nil
              refine if_wp rfl (wp_stRow0 49 _ _ rfl _ #[.int .i64 p.1, .slice a1 p.2.1.length k1, .slice a2 p.2.2.1.length k2, .slice a3 p.2.2.2.length k3] rfl rfl 49 _ hq2 infoRk rfl (rk_one _ _ _ _ _ _ _ _ _ _) rfl ?_)
              have hzZ2 := (Rt.row_other hTM #[.int .i64 p.1, .slice a1 p.2.1.length k1, .slice a2 p.2.2.1.length k2, .slice a3 p.2.2.2.length k3]).trans hzZ
              refine hK.out _ _ (Rt.setRow_below (by first | exact hgM | omega) hHd4 _) (fun hHd5 => ?_)
              clear hK Kc
              try simp only [Act.put, List.setIfInBounds_toArray, List.set_cons_zero, List.set_cons_succ]
              refine wpAnyH_take (i := 16) (oi := { dst := some 8, op := Op.assign (Operand.tmp 43), type := _, pos := _, after := _, guard := none }) (v := .int .i64 E) rfl (by kernel_rfl) (by kernel_rfl) (by kernel_rfl) (fun _ _ _ h => h) (Or.inl ⟨by rfl, fun w hSw => by (try dsimp only at hSw); go_simp⟩) (by assumption) ?_
              simp only [Act.put, List.setIfInBounds_toArray, List.set_cons_zero, List.set_cons_succ]
              refine wpAnyH_done (by kernel_rfl) ?_ _
              go_wp2_with fail
              go_meet
              case rel => exact ⟨_, rfl, rfl, hHd5, by unfold TrAt; rw [HCN.out]; exact hzZ2⟩
            · go_simp
              have hgM := hHd1.size
              refine hK.out _ _ (hHd1.trans ((below_alloc _ _).mono hHd1.size)) (fun hHd2 => ?_)
              first | have hq := rkz_of hHd2 | have hq := rkz_of' hHd2
              try simp only [World.size_alloc] at hq
              try simp only [World.size_alloc] at hgM
              try (have hz := hz.later (below_alloc _ (.cells #[.int .i64 0, .slice none 0 0, .slice none 0 0, .slice none 0 0] 49)))
              clear hHd1
              clear hK K
              try simp only [Act.put, List.setIfInBounds_toArray, List.set_cons_zero, List.set_cons_succ]
              refine wpAnyH_ready (rs := [7]) (by kernel_rfl) (by simp) ?_
              refine AllReadyH.cons rfl (fun K hK => ?_) AllReadyH.nil
              go_simp
              refine (hnx _ hHd2).mono ?_
              rintro r w7 ⟨⟨a1, a2, a3, k1, k2, k3, rfl, -⟩, hb7⟩
              go_wp2_with fail
              try (have hz := hz.later hb7)
              try (have hq := rkAt_later hq hb7)
              refine hK.out _ _ (hHd2.trans (hb7.mono hHd2.size)) (fun hHd3 => ?_)
              clear hHd2 hb7
              clear hK K
              try simp only [Act.put, List.setIfInBounds_toArray, List.set_cons_zero, List.set_cons_succ]
              refine wpAnyH_take (i := 8) (oi := { dst := some 32, op := Op.move (Operand.tmp 40), type := _, pos := _, after := _, guard := none }) (v := .tuple #[.agg cn, .agg #[.int .i64 p.1, .slice a1 p.2.1.length k1, .slice a2 p.2.2.1.length k2, .slice a3 p.2.2.2.length k3], .int .i64 E]) rfl (by kernel_rfl) (by kernel_rfl) (by kernel_rfl) (fun _ _ _ h => h) (Or.inl ⟨by rfl, fun w hSw => by (try dsimp only at hSw); go_simp⟩) (by assumption) ?_
              simp only [Act.put, List.setIfInBounds_toArray, List.set_cons_zero, List.set_cons_succ]
              refine wpAnyH_take (i := 9) (oi := { dst := some 41, op := Op.extract (Operand.tmp 32) 0, type := _, pos := _, after := _, guard := none }) (v := .agg cn) rfl (by kernel_rfl) (by kernel_rfl) (by kernel_rfl) (fun _ _ _ h => h) (Or.inl ⟨by rfl, fun w hSw => by (try dsimp only at hSw); go_simp⟩) (by assumption) ?_
              simp only [Act.put, List.setIfInBounds_toArray, List.set_cons_zero, List.set_cons_succ]
              refine wpAnyH_take (i := 10) (oi := { dst := some 42, op := Op.extract (Operand.tmp 32) 1, type := _, pos := _, after := _, guard := none }) (v := .agg #[.int .i64 p.1, .slice a1 p.2.1.length k1, .slice a2 p.2.2.1.length k2, .slice a3 p.2.2.2.length k3]) rfl (by kernel_rfl) (by kernel_rfl) (by kernel_rfl) (fun _ _ _ h => h) (Or.inl ⟨by rfl, fun w hSw => by (try dsimp only at hSw); go_simp⟩) (by assumption) ?_
              simp only [Act.put, List.setIfInBounds_toArray, List.set_cons_zero, List.set_cons_succ]
              refine wpAnyH_take (i := 11) (oi := { dst := some 43, op := Op.extract (Operand.tmp 32) 2, type := _, pos := _, after := _, guard := none }) (v := .int .i64 E) rfl (by kernel_rfl) (by kernel_rfl) (by kernel_rfl) (fun _ _ _ h => h) (Or.inl ⟨by rfl, fun w hSw => by (try dsimp only at hSw); go_simp⟩) (by assumption) ?_
              simp only [Act.put, List.setIfInBounds_toArray, List.set_cons_zero, List.set_cons_succ]
              refine wpAnyH_ready (rs := [14]) (by kernel_rfl) (by simp) ?_
              refine AllReadyH.cons rfl (fun Kc hK => ?_) AllReadyH.nil
              refine if_wp rfl (wp_stRow0 31 _ _ rfl _ cn rfl rfl 31 _ hz (by rw [← HCN.out, tcs_size]; exact infoT) (by rw [← HCN.out, tcs_size, tcs_size]) (by rw [← HCN.out]; exact tcs_one n) rfl ?_)
              have hTM := block_ne hz hq (by decide)
              have hzZ := Rt.heap_setRow_same hz cn
              have hq2 := (Rt.row_other (Ne.symm hTM) cn).trans hq
              refine hK.out _ _ (Rt.setRow_below (by first | exact hgT | omega) hHd3 _) (fun hHd4 => ?_)
              clear hHd3
              clear hK Kc
              try simp only [Act.put, List.setIfInBounds_toArray, List.set_cons_zero, List.set_cons_succ]
              refine wpAnyH_ready (rs := [15]) (by kernel_rfl) (by simp) ?_
              refine AllReadyH.cons rfl (fun Kc hK => ?_) AllReadyH.nil
              refine if_wp rfl (wp_stRow0 49 _ _ rfl _ #[.int .i64 p.1, .slice a1 p.2.1.length k1, .slice a2 p.2.2.1.length k2, .slice a3 p.2.2.2.length k3] rfl rfl 49 _ hq2 infoRk rfl (rk_one _ _ _ _ _ _ _ _ _ _) rfl ?_)
              have hzZ2 := (Rt.row_other hTM #[.int .i64 p.1, .slice a1 p.2.1.length k1, .slice a2 p.2.2.1.length k2, .slice a3 p.2.2.2.length k3]).trans hzZ
              refine hK.out _ _ (Rt.setRow_below (by first | exact hgM | omega) hHd4 _) (fun hHd5 => ?_)
              clear hK Kc
              try simp only [Act.put, List.setIfInBounds_toArray, List.set_cons_zero, List.set_cons_succ]
              refine wpAnyH_take (i := 16) (oi := { dst := some 8, op := Op.assign (Operand.tmp 43), type := _, pos := _, after := _, guard := none }) (v := .int .i64 E) rfl (by kernel_rfl) (by kernel_rfl) (by kernel_rfl) (fun _ _ _ h => h) (Or.inl ⟨by rfl, fun w hSw => by (try dsimp only at hSw); go_simp⟩) (by assumption) ?_
              simp only [Act.put, List.setIfInBounds_toArray, List.set_cons_zero, List.set_cons_succ]
              refine wpAnyH_done (by kernel_rfl) ?_ _
              go_wp2_with fail
              go_meet
              case rel => exact ⟨_, rfl, rfl, hHd5, by unfold TrAt; rw [HCN.out]; exact hzZ2⟩
          · go_simp
            have hgM := hHeld.size
            refine hK.out _ _ (hHeld.trans ((below_alloc _ _).mono hHeld.size)) (fun hHd1 => ?_)
            first | have hq := rkz_of hHd1 | have hq := rkz_of' hHd1
            try simp only [World.size_alloc] at hq
            try simp only [World.size_alloc] at hgM
            try (have hz := hz.later (below_alloc _ (.cells #[.int .i64 0, .slice none 0 0, .slice none 0 0, .slice none 0 0] 49)))
            clear hHeld
            clear hK K
            try simp only [Act.put, List.setIfInBounds_toArray, List.set_cons_zero, List.set_cons_succ]
            refine wpAnyH_ready (rs := [7, 12]) (by kernel_rfl) (by simp) ?_
            refine (AllReadyH.cons rfl (fun K hK => ?_) (AllReadyH.cons rfl (fun K hK => ?_) AllReadyH.nil))
            · go_simp
              refine (hnx _ hHd1).mono ?_
              rintro r w7 ⟨⟨a1, a2, a3, k1, k2, k3, rfl, -⟩, hb7⟩
              go_wp2_with fail
              try (have hz := hz.later hb7)
              try (have hq := rkAt_later hq hb7)
              refine hK.out _ _ (hHd1.trans (hb7.mono hHd1.size)) (fun hHd2 => ?_)
              clear hHd1 hb7
              clear hK K
              try simp only [Act.put, List.setIfInBounds_toArray, List.set_cons_zero, List.set_cons_succ]
              refine wpAnyH_take (i := 8) (oi := { dst := some 32, op := Op.move (Operand.tmp 40), type := _, pos := _, after := _, guard := none }) (v := .tuple #[.agg cn, .agg #[.int .i64 p.1, .slice a1 p.2.1.length k1, .slice a2 p.2.2.1.length k2, .slice a3 p.2.2.2.length k3], .int .i64 E]) rfl (by kernel_rfl) (by kernel_rfl) (by kernel_rfl) (fun _ _ _ h => h) (Or.inl ⟨by rfl, fun w hSw => by (try dsimp only at hSw); go_simp⟩) (by assumption) ?_
              simp only [Act.put, List.setIfInBounds_toArray, List.set_cons_zero, List.set_cons_succ]
              refine wpAnyH_take (i := 9) (oi := { dst := some 41, op := Op.extract (Operand.tmp 32) 0, type := _, pos := _, after := _, guard := none }) (v := .agg cn) rfl (by kernel_rfl) (by kernel_rfl) (by kernel_rfl) (fun _ _ _ h => h) (Or.inl ⟨by rfl, fun w hSw => by (try dsimp only at hSw); go_simp⟩) (by assumption) ?_
              simp only [Act.put, List.setIfInBounds_toArray, List.set_cons_zero, List.set_cons_succ]
              refine wpAnyH_take (i := 10) (oi := { dst := some 42, op := Op.extract (Operand.tmp 32) 1, type := _, pos := _, after := _, guard := none }) (v := .agg #[.int .i64 p.1, .slice a1 p.2.1.length k1, .slice a2 p.2.2.1.length k2, .slice a3 p.2.2.2.length k3]) rfl (by kernel_rfl) (by kernel_rfl) (by kernel_rfl) (fun _ _ _ h => h) (Or.inl ⟨by rfl, fun w hSw => by (try dsimp only at hSw); go_simp⟩) (by assumption) ?_
              simp only [Act.put, List.setIfInBounds_toArray, List.set_cons_zero, List.set_cons_succ]
              refine wpAnyH_take (i := 11) (oi := { dst := some 43, op := Op.extract (Operand.tmp 32) 2, type := _, pos := _, after := _, guard := none }) (v := .int .i64 E) rfl (by kernel_rfl) (by kernel_rfl) (by kernel_rfl) (fun _ _ _ h => h) (Or.inl ⟨by rfl, fun w hSw => by (try dsimp only at hSw); go_simp⟩) (by assumption) ?_
              simp only [Act.put, List.setIfInBounds_toArray, List.set_cons_zero, List.set_cons_succ]
              refine wpAnyH_ready (rs := [12]) (by kernel_rfl) (by simp) ?_
              refine AllReadyH.cons rfl (fun K hK => ?_) AllReadyH.nil
              go_simp
              have hgT := hHd2.size
              refine hK.out _ _ (hHd2.trans ((below_alloc _ _).mono hHd2.size)) (fun hHd3 => ?_)
              first | have hz := zero_of hHd3 | have hz := zero_of' hHd3
              try simp only [World.size_alloc] at hz
              try simp only [World.size_alloc] at hgT
              try (have hq := rkAt_later hq (below_alloc _ (.cells Tryz.zeroCells31 31)))
              clear hHd2
              clear hK K
              try simp only [Act.put, List.setIfInBounds_toArray, List.set_cons_zero, List.set_cons_succ]
              refine wpAnyH_ready (rs := [14]) (by kernel_rfl) (by simp) ?_
              refine AllReadyH.cons rfl (fun Kc hK => ?_) AllReadyH.nil
              refine if_wp rfl (wp_stRow0 31 _ _ rfl _ cn rfl rfl 31 _ hz (by rw [← HCN.out, tcs_size]; exact infoT) (by rw [← HCN.out, tcs_size, tcs_size]) (by rw [← HCN.out]; exact tcs_one n) rfl ?_)
              have hTM := block_ne hz hq (by decide)
              have hzZ := Rt.heap_setRow_same hz cn
              have hq2 := (Rt.row_other (Ne.symm hTM) cn).trans hq
              refine hK.out _ _ (Rt.setRow_below (by first | exact hgT | omega) hHd3 _) (fun hHd4 => ?_)
              clear hHd3
              clear hK Kc
              try simp only [Act.put, List.setIfInBounds_toArray, List.set_cons_zero, List.set_cons_succ]
              refine wpAnyH_ready (rs := [15]) (by kernel_rfl) (by simp) ?_
              refine AllReadyH.cons rfl (fun Kc hK => ?_) AllReadyH.nil
              refine if_wp rfl (wp_stRow0 49 _ _ rfl _ #[.int .i64 p.1, .slice a1 p.2.1.length k1, .slice a2 p.2.2.1.length k2, .slice a3 p.2.2.2.length k3] rfl rfl 49 _ hq2 infoRk rfl (rk_one _ _ _ _ _ _ _ _ _ _) rfl ?_)
              have hzZ2 := (Rt.row_other hTM #[.int .i64 p.1, .slice a1 p.2.1.length k1, .slice a2 p.2.2.1.length k2, .slice a3 p.2.2.2.length k3]).trans hzZ
              refine hK.out _ _ (Rt.setRow_below (by first | exact hgM | omega) hHd4 _) (fun hHd5 => ?_)
              clear hK Kc
              try simp only [Act.put, List.setIfInBounds_toArray, List.set_cons_zero, List.set_cons_succ]
              refine wpAnyH_take (i := 16) (oi := { dst := some 8, op := Op.assign (Operand.tmp 43), type := _, pos := _, after := _, guard := none }) (v := .int .i64 E) rfl (by kernel_rfl) (by kernel_rfl) (by kernel_rfl) (fun _ _ _ h => h) (Or.inl ⟨by rfl, fun w hSw => by (try dsimp only at hSw); go_simp⟩) (by assumption) ?_
              simp only [Act.put, List.setIfInBounds_toArray, List.set_cons_zero, List.set_cons_succ]
              refine wpAnyH_done (by kernel_rfl) ?_ _
              go_wp2_with fail
              go_meet
              case rel => exact ⟨_, rfl, rfl, hHd5, by unfold TrAt; rw [HCN.out]; exact hzZ2⟩
            · go_simp
              have hgT := hHd1.size
              refine hK.out _ _ (hHd1.trans ((below_alloc _ _).mono hHd1.size)) (fun hHd2 => ?_)
              first | have hz := zero_of hHd2 | have hz := zero_of' hHd2
              try simp only [World.size_alloc] at hz
              try simp only [World.size_alloc] at hgT
              try (have hq := rkAt_later hq (below_alloc _ (.cells Tryz.zeroCells31 31)))
              clear hHd1
              clear hK K
              try simp only [Act.put, List.setIfInBounds_toArray, List.set_cons_zero, List.set_cons_succ]
              refine wpAnyH_ready (rs := [7]) (by kernel_rfl) (by simp) ?_
              refine AllReadyH.cons rfl (fun K hK => ?_) AllReadyH.nil
              go_simp
              refine (hnx _ hHd2).mono ?_
              rintro r w7 ⟨⟨a1, a2, a3, k1, k2, k3, rfl, -⟩, hb7⟩
              go_wp2_with fail
              try (have hz := hz.later hb7)
              try (have hq := rkAt_later hq hb7)
              refine hK.out _ _ (hHd2.trans (hb7.mono hHd2.size)) (fun hHd3 => ?_)
              clear hHd2 hb7
              clear hK K
              try simp only [Act.put, List.setIfInBounds_toArray, List.set_cons_zero, List.set_cons_succ]
              refine wpAnyH_take (i := 8) (oi := { dst := some 32, op := Op.move (Operand.tmp 40), type := _, pos := _, after := _, guard := none }) (v := .tuple #[.agg cn, .agg #[.int .i64 p.1, .slice a1 p.2.1.length k1, .slice a2 p.2.2.1.length k2, .slice a3 p.2.2.2.length k3], .int .i64 E]) rfl (by kernel_rfl) (by kernel_rfl) (by kernel_rfl) (fun _ _ _ h => h) (Or.inl ⟨by rfl, fun w hSw => by (try dsimp only at hSw); go_simp⟩) (by assumption) ?_
              simp only [Act.put, List.setIfInBounds_toArray, List.set_cons_zero, List.set_cons_succ]
              refine wpAnyH_take (i := 9) (oi := { dst := some 41, op := Op.extract (Operand.tmp 32) 0, type := _, pos := _, after := _, guard := none }) (v := .agg cn) rfl (by kernel_rfl) (by kernel_rfl) (by kernel_rfl) (fun _ _ _ h => h) (Or.inl ⟨by rfl, fun w hSw => by (try dsimp only at hSw); go_simp⟩) (by assumption) ?_
              simp only [Act.put, List.setIfInBounds_toArray, List.set_cons_zero, List.set_cons_succ]
              refine wpAnyH_take (i := 10) (oi := { dst := some 42, op := Op.extract (Operand.tmp 32) 1, type := _, pos := _, after := _, guard := none }) (v := .agg #[.int .i64 p.1, .slice a1 p.2.1.length k1, .slice a2 p.2.2.1.length k2, .slice a3 p.2.2.2.length k3]) rfl (by kernel_rfl) (by kernel_rfl) (by kernel_rfl) (fun _ _ _ h => h) (Or.inl ⟨by rfl, fun w hSw => by (try dsimp only at hSw); go_simp⟩) (by assumption) ?_
              simp only [Act.put, List.setIfInBounds_toArray, List.set_cons_zero, List.set_cons_succ]
              refine wpAnyH_take (i := 11) (oi := { dst := some 43, op := Op.extract (Operand.tmp 32) 2, type := _, pos := _, after := _, guard := none }) (v := .int .i64 E) rfl (by kernel_rfl) (by kernel_rfl) (by kernel_rfl) (fun _ _ _ h => h) (Or.inl ⟨by rfl, fun w hSw => by (try dsimp only at hSw); go_simp⟩) (by assumption) ?_
              simp only [Act.put, List.setIfInBounds_toArray, List.set_cons_zero, List.set_cons_succ]
              refine wpAnyH_ready (rs := [14]) (by kernel_rfl) (by simp) ?_
              refine AllReadyH.cons rfl (fun Kc hK => ?_) AllReadyH.nil
              refine if_wp rfl (wp_stRow0 31 _ _ rfl _ cn rfl rfl 31 _ hz (by rw [← HCN.out, tcs_size]; exact infoT) (by rw [← HCN.out, tcs_size, tcs_size]) (by rw [← HCN.out]; exact tcs_one n) rfl ?_)
              have hTM := block_ne hz hq (by decide)
              have hzZ := Rt.heap_setRow_same hz cn
              have hq2 := (Rt.row_other (Ne.symm hTM) cn).trans hq
              refine hK.out _ _ (Rt.setRow_below (by first | exact hgT | omega) hHd3 _) (fun hHd4 => ?_)
              clear hHd3
              clear hK Kc
              try simp only [Act.put, List.setIfInBounds_toArray, List.set_cons_zero, List.set_cons_succ]
              refine wpAnyH_ready (rs := [15]) (by kernel_rfl) (by simp) ?_
              refine AllReadyH.cons rfl (fun Kc hK => ?_) AllReadyH.nil
              refine if_wp rfl (wp_stRow0 49 _ _ rfl _ #[.int .i64 p.1, .slice a1 p.2.1.length k1, .slice a2 p.2.2.1.length k2, .slice a3 p.2.2.2.length k3] rfl rfl 49 _ hq2 infoRk rfl (rk_one _ _ _ _ _ _ _ _ _ _) rfl ?_)
              have hzZ2 := (Rt.row_other hTM #[.int .i64 p.1, .slice a1 p.2.1.length k1, .slice a2 p.2.2.1.length k2, .slice a3 p.2.2.2.length k3]).trans hzZ
              refine hK.out _ _ (Rt.setRow_below (by first | exact hgM | omega) hHd4 _) (fun hHd5 => ?_)
              clear hK Kc
              try simp only [Act.put, List.setIfInBounds_toArray, List.set_cons_zero, List.set_cons_succ]
              refine wpAnyH_take (i := 16) (oi := { dst := some 8, op := Op.assign (Operand.tmp 43), type := _, pos := _, after := _, guard := none }) (v := .int .i64 E) rfl (by kernel_rfl) (by kernel_rfl) (by kernel_rfl) (fun _ _ _ h => h) (Or.inl ⟨by rfl, fun w hSw => by (try dsimp only at hSw); go_simp⟩) (by assumption) ?_
              simp only [Act.put, List.setIfInBounds_toArray, List.set_cons_zero, List.set_cons_succ]
              refine wpAnyH_done (by kernel_rfl) ?_ _
              go_wp2_with fail
              go_meet
              case rel => exact ⟨_, rfl, rfl, hHd5, by unfold TrAt; rw [HCN.out]; exact hzZ2⟩
        case rest =>
          obtain ⟨T, rfl, rfl, hbc, hT⟩ := hcut
          have HS6 : Hid (SX wb wc (.slice (some ⟨g, 0, none⟩) NT cr) ts) := HS5.out.later hbc
          have HTT : Hid (TrAt wc T n) := hT
          clear hbc hT HS5 HTR hnx HBT
          by_cases hE0 : E = 0
          · have hd : (E == 0) = true := by simp [hE0]
            have en := HOK.out hE0
            have HRN : Hid (runM t0 (l.take (k + 1)) = (ts ++ [n], bs ++ [(L, J)])) := by unfold Hid; rw [HTK.out, HR1.out, if_pos hE0, en]
            clear hE0 en HOK
            have hrr : wc.ownsRow wb.heap.size 31 236 (.slice (some ⟨g, 0, none⟩) NT cr) NT (trl ts) := by have h := HS6.out.rr; rw [HNT.out] at h; exact h
            have hbs := HS6.out.bel.size
            have hTt := HTT.out
            have hc236 : cn.toList.length = 1 * 236 := by rw [Array.length_toList, ← HCN.out, tcs_size]
            have hc1 : ∀ u ∈ cn.toList, u.oneCell' = true := fun u hu => by
              have := tcs_one n
              rw [HCN.out, Array.all_eq_true'] at this
              exact this u (Array.mem_toList_iff.1 hu)
            go_upto_region 10 with (first
              | (refine rdT hTt HCN.out _ rfl rfl rfl ?_)
              | (refine bsT HCN.out rfl _ rfl rfl ?_)
              | (at_builtin; (refine wpList_append_own _ rfl _ _ 65 rfl wb.heap.size 31 it (.agg (tcs (tz 0))) 236 1888 Tryz.underlying65 hti htz hts htb (by show (tcs (tz 0)).size = 236; exact tcs_size _) (by decide) (.slice (some ⟨g, 0, none⟩) NT cr) NT (trl ts) rfl (hrr.alloc _) ⟨wc.heap.size, 0, none⟩ 1 1 cn.toList rfl hc236 (cell_row_new _ _ _) hc1 (by unfold maxLen; omega) (by omega) (by simp; omega) ?_); intro v1 w8 hown1 hg1 _; have HO1 : Hid (w8.ownsRow wb.heap.size 31 236 v1 (NT + 1) (trl ts ++ cn.toList)) := hown1; have HG1 : Hid ((wc.alloc (.cells cn 31)).grownBy w8 (Value.slice (some ⟨g, 0, none⟩) NT cr).ownBlock) := hg1; clear hown1 hg1))
            clear hTt HTT hc236 hc1
            have HSF : Hid (SX wb w8 v1 (ts ++ [n])) := by
              have ho1 : w8.ownsRow wb.heap.size 31 236 v1 (ts.length + 1) (trl ts ++ (tcs n).toList) := by
                rw [HNT.out, HCN.out]
                exact HO1.out
              exact SX.app (HS6.out.later (below_alloc wc (.cells cn 31))) ho1 HG1.out
            clear HO1 HG1 HS6 hrr
            go_wp2_with fail
            go_roundw
            case rel => exact ⟨k + 1, _, by omega, by go_num, rfl, by rw [HRN.out]; exact HSF.out⟩
            case measure => simp [intOf]; omega
          · have hd : (E == 0) = false := by simpa using hE0
            have HRN : Hid (runM t0 (l.take (k + 1)) = (ts, bs)) := by unfold Hid; rw [HTK.out, HR1.out, if_neg hE0]
            clear hE0
            go_wp2_with fail
            go_roundw
            case rel => exact ⟨k + 1, _, by omega, by go_num, rfl, by rw [HRN.out]; exact HS6.out⟩
            case measure => simp [intOf]; omega
    · obtain rfl : k = l.length := by omega
      have hdk : decide ((l.length : Int) < (l.length : Int)) = false := by simp
      rw [List.take_length] at HS HROW
      obtain ⟨st, hst⟩ : ∃ s, runM t0 l = s := ⟨_, rfl⟩
      rw [hst] at HS HROW
      obtain ⟨ts, bs⟩ := st
      dsimp only at HS HROW
      clear hst hb hti htz hts htb hk hkN hl
      obtain ⟨ar, cr, rfl⟩ := owns_slice HS.out.rr
      have hle := HROW.out.le
      have hlen := HROW.out.len
      obtain ⟨wR, hwR⟩ : ∃ W, W = wr := ⟨_, rfl⟩
      have HBR : Hid (Below w.heap.size w wR) := by rw [hwR]; exact Wi.Below.join HBW.out HS.out.bel
      have HSR : Hid (SX wb wR (.slice ar ts.length cr) ts) := by rw [hwR]; exact HS.out
      have HLR : Hid (LAt wR B t0 (.slice a l.length c) x0 ba0 bh0) := by rw [hwR]; exact HLG.out.later HS.out.bel
      rw [← hwR]
      clear HS HBW HLG HRD hwR
      have hgt : ∃ g, ar = some ⟨g, 0, none⟩ := by
        obtain ⟨g, e, _⟩ := (owns_rdR HSR.out.rr).tree (i := 0) (by omega) rfl
        exact ⟨g, e⟩
      obtain ⟨gt, rfl⟩ := hgt
      obtain ⟨NM, hNM⟩ : ∃ n, bs.length = n := ⟨_, rfl⟩
      obtain ⟨NT, hNT⟩ : ∃ x, ts.length = x := ⟨_, rfl⟩
      have hmn : NM + 1 = NT := by omega
      have HCP : Hid (NT ≤ cr) := by
        rcases HSR.out.rr.2 with ⟨h0, h1⟩ | ⟨g, cap', cur, e, h3, h4, h5, h6, h7, h8⟩
        · omega
        · simp at e
          unfold Hid
          omega
      have HTS : Hid (∀ (i : Nat), i < NT → ∀ W, Below wR.heap.size wR W → (Instr.loadAt 31 (.pointer (some ⟨gt, i * 236, none⟩))).run Tryz.prog W = .ok (.agg (tcs (ts.getD i (tz 0)))) W) := fun i hi W hW => by
        obtain ⟨g, e, h1, h2⟩ := ((owns_rdR HSR.out.rr).later hW).tree (i := i) (by omega) rfl
        simp at e
        subst e
        exact h1
      have HYG : Hid (∀ s : Nat, tck (ts.getD NM (tz 0)) = true → s < 64 → tkn ((ts.getD NM (tz 0)).ro s) = true → ∀ e v : Nat, e < NM → v < 85 → koE (ts.getD e (tz 0)) (v : Int) = 0 → ∀ i, i < 3 → gv (bxi (rpOf (atS (ts.getD NM (tz 0)) s 0)) i).2.1 (bxi (rpOf (atS (ts.getD NM (tz 0)) s 0)) i).2.2 (koK (ts.getD e (tz 0)) (v : Int)).bas (koK (ts.getD e (tz 0)) (v : Int)).stp = false ∧ gv (bxi (rpOf (atS (ts.getD NM (tz 0)) s 0)) i).1.1 (bxi (rpOf (atS (ts.getD NM (tz 0)) s 0)) i).1.2 (koK (ts.getD e (tz 0)) (v : Int)).bas (koK (ts.getD e (tz 0)) (v : Int)).stp = false) := fun s ht hs hk e v he hv h0 i hi => young HROW.out hNM ht hs hk he hv h0 hi
      have hn201 : NT ≤ 201 := by omega
      have HNT : Hid (NM + 1 = NT ∧ NT ≤ 201) := ⟨hmn, hn201⟩
      rw [hNT]
      clear HSR HROW hle hlen hNT hNM
      have hw1 : IntKind.i64.wrap ((NT : Int) - 1) = (NM : Int) := by rw [show (NT : Int) - 1 = (NM : Int) by omega]; exact Rs.i64_fit _ (by omega) (by omega)
      have m1 : (0 : Int) ≤ (NM : Int) := by omega
      have m2 : (NM : Int) < (NT : Int) := by omega
      have hld := HTS.out NM (by omega) wR (Below.refl _ _)
      obtain ⟨u, hu⟩ : ∃ u, ts.getD NM (tz 0) = u := ⟨_, rfl⟩
      rw [hu] at hld HYG
      clear hu hmn hn201
      obtain ⟨cu, hcu⟩ : ∃ c, tcs u = c := ⟨_, rfl⟩
      have HCU : TX u cu := ⟨hcu⟩
      rw [hcu] at hld
      clear hcu
      as_aux_lemma =>
        have hz := TrAt.zero wR
        have HB5 : Hid (Below wR.heap.size wR ((wR.alloc (.cells Tryz.zeroCells31 31)).setRow wR.heap.size cu)) := tz_later wR cu
        have hT5 := tz_new wR HCU.out
        go_upto_region 12 with (first | (refine rd_guard (v := .agg cu) rfl (ld_exec hld rfl rfl) ?_) | (refine stTc hz HCU.out rfl _ _ rfl rfl rfl ?_))
        clear hld hz hw1 m1 m2
        have hL5 := HLR.out.later HB5.out
        generalize (wR.alloc (.cells Tryz.zeroCells31 31)).setRow wR.heap.size cu = w5 at *
        generalize hX : wR.heap.size = X at hT5 ⊢
        clear hX HLR
        have han := answer_any u x0 1
        have HON : Hid (anE u x0 1 = 0 → caE u x0 = 0 ∧ anP u x0 1 = rpOf (stM u x0)) := fun h => ⟨an_on h, anP_yes h⟩
        have HNO : Hid (anE u x0 1 ≠ 0 → anP u x0 1 = zP) := anP_no
        unfold AnA rqa at han
        obtain ⟨p, hp⟩ : ∃ p, anP u x0 1 = p := ⟨_, rfl⟩
        obtain ⟨pe, hpe⟩ : ∃ p, anE u x0 1 = p := ⟨_, rfl⟩
        rw [hp, hpe] at HON HNO
        simp only [hp, hpe] at han
        clear hp hpe
        obtain ⟨cp, hcp⟩ : ∃ c, rpa p = c := ⟨_, rfl⟩
        have HP : Hid (rpa p = cp) := hcp
        simp only [hcp, HCU.out] at han
        clear hcp
        have r1 := hL5.rest.2.1
        go_wp2_with (refine rdT hT5 HCU.out _ rfl rfl rfl ?_)
        refine (han _).mono ?_
        rintro r w6 ⟨rfl, hb6⟩
        have hb7 := Wi.Below.join hb6 (below_alloc w6 (.cells (rpa p) 60))
        have hI7 : IY wR (w6.alloc (.cells (rpa p) 60)) w6.heap.size X p u := ⟨Wi.Below.join HB5.out hb7, RA.new w6 p, hT5.later hb7⟩
        clear hb6 hb7 HB5 hT5 han r1 hL5
        go_upto_region 13 with (refine stRpn (w := w6) zP p rfl HP.out rfl _ _ rfl rfl rfl ?_)
        generalize w6.alloc (.cells (rpa p) 60) = w7 at *
        generalize w6.heap.size = P at *
        by_cases he0 : pe = 0
        rotate_left
        · have d0 : (pe != 0) = true := by simpa using he0
          obtain rfl := HNO.out he0
          have hP7 := hI7.rp
          have HB7 : Hid (Below w.heap.size w w7) := Wi.Below.join HBR.out hI7.bel
          have e1 := Wi.run_eqRp (w := w7) 9995 zP zP
          rw [decide_eq_true rfl] at e1
          have e2 : (Op.equalIn 10000 60 (.agg cp) (.agg #[.int .i64 0, .int .i64 0, .int .i64 0, .int .i64 0, .int .i64 0, .int .i64 0, .int .i64 0, .int .i64 0, .int .i64 0, .int .i64 0, .int .i64 0, .int .i64 0, .int .i64 0, .int .i64 0, .int .i64 0])).run Tryz.prog w7 = .ok true w7 := by rw [← HP.out]; exact e1
          clear he0 hI7 e1
          go_wp2_with (first | (refine ldRp hP7 HP.out _ rfl rfl rfl ?_) | (refine Wi.eqX e2 Tryz.eqGuardType60 _ _ rfl rfl rfl rfl ?_))
          go_ret
          exact ⟨rfl, HB7.out⟩
        subst he0
        obtain ⟨hce, hpp⟩ := HON.out rfl
        obtain ⟨htk, s, hs, _, hkk, hwx, hsm⟩ := on_at hce
        rw [hsm] at hpp
        have HY2 := HYG.out s htk hs hkk
        rw [← hpp] at HY2
        have HY : Hid _ := HY2
        have HFA : Hid (p = rpOf (atS u s 0) ∧ s < 64) := ⟨hpp, hs⟩
        clear HY2 HYG HON HNO hce hpp htk hs hkk hwx hsm HP
        have hw1 : IntKind.i64.wrap ((NT : Int) - 1) = (NM : Int) := by have h1 := HNT.out.1; have h2 := HNT.out.2; rw [show (NT : Int) - 1 = (NM : Int) by omega]; exact Rs.i64_fit _ (by omega) (by omega)
        have m1 : (0 : Int) ≤ (NM : Int) := by omega
        have m2 : (NM : Int) ≤ (cr : Int) := by have h1 := HNT.out.1; have h2 := HCP.out; omega
        have m3 : NM ≤ cr := by have h1 := HNT.out.1; have h2 := HCP.out; omega
        go_wp2_with fail
        clear hw1 m1 m2 m3
        as_aux_lemma =>
          go_loopw [76] (fun i wx => ∃ j : Nat, j ≤ NM ∧ i = .int .i64 (j : Int) ∧ IY wR wx P X p u) (fun i _ => NM - (intOf i).toNat)
          case atStart => exact ⟨0, by omega, rfl, hI7⟩
          case round =>
            clear hI7
            obtain ⟨j, hj, rfl, hIj⟩ := hrel
            have HIJ : Hid (IY wR wr P X p u) := hIj
            clear hIj
            by_cases hjn : j < NM
            · have i1 : (0 : Int) ≤ (j : Int) := by omega
              have i2 : (j : Int) < (NM : Int) := by omega
              have n201 : (NM : Int) ≤ 201 := by have := HNT.out; omega
              have hld := HTS.out j (by have := HNT.out.1; omega) wr HIJ.out.bel
              have HYJ : Hid (∀ v : Nat, v < 85 → koE (ts.getD j (tz 0)) (v : Int) = 0 → ∀ i, i < 3 → gv (bxi p i).2.1 (bxi p i).2.2 (koK (ts.getD j (tz 0)) (v : Int)).bas (koK (ts.getD j (tz 0)) (v : Int)).stp = false ∧ gv (bxi p i).1.1 (bxi p i).1.2 (koK (ts.getD j (tz 0)) (v : Int)).bas (koK (ts.getD j (tz 0)) (v : Int)).stp = false) := fun v hv => HY.out j v hjn hv
              obtain ⟨T, hT⟩ : ∃ T, ts.getD j (tz 0) = T := ⟨_, rfl⟩
              rw [hT] at hld HYJ
              clear hT
              obtain ⟨cT, hcT⟩ : ∃ c, tcs T = c := ⟨_, rfl⟩
              have HCT : TX T cT := ⟨hcT⟩
              rw [hcT] at hld
              clear hcT
              have hz := TrAt.zero wr
              have HI5 : Hid (IY wR ((wr.alloc (.cells Tryz.zeroCells31 31)).setRow wr.heap.size cT) P X p u) := HIJ.out.later (tz_later wr cT)
              have hT5 := tz_new wr HCT.out
              go_upto_region 18 with (first | (refine rd_guard (v := .agg cT) rfl (ld_exec hld rfl rfl) ?_) | (refine stTc hz HCT.out rfl _ _ rfl rfl rfl ?_))
              clear hld hz HIJ
              generalize (wr.alloc (.cells Tryz.zeroCells31 31)).setRow wr.heap.size cT = w5 at *
              generalize hXX : wr.heap.size = Z at hT5 ⊢
              clear hXX
              go_wp2_with fail
              as_aux_lemma =>
                go_loopw [14] (fun i wx => ∃ v : Nat, v ≤ 85 ∧ i = .int .i64 (v : Int) ∧ IY wR wx P X p u ∧ TrAt wx Z T) (fun i _ => 85 - (intOf i).toNat)
                case atStart => exact ⟨0, by omega, rfl, HI5.out, hT5⟩
                case round =>
                  clear HI5 hT5
                  obtain ⟨v, hv, rfl, hIv, hTv⟩ := hrel
                  have HIV : Hid (IY wR wr P X p u) := hIv
                  clear hIv
                  by_cases hvn : v < 85
                  · have i3 : (0 : Int) ≤ (v : Int) := by omega
                    have i4 : (v : Int) < 85 := by omega
                    have hko := rKeyOf_any T (v : Int)
                    unfold KeyA at hko
                    have HYV := HYJ.out v hvn
                    obtain ⟨k, hk⟩ : ∃ k, koK T (v : Int) = k := ⟨_, rfl⟩
                    obtain ⟨ke, hke⟩ : ∃ k, koE T (v : Int) = k := ⟨_, rfl⟩
                    rw [hk, hke] at hko HYV
                    rw [HCT.out] at hko
                    have HYW : Hid _ := HYV
                    clear hk hke HYV
                    go_wp2_with (refine rdT hTv HCT.out _ rfl rfl rfl ?_)
                    refine (hko _).mono ?_
                    rintro r w6 ⟨rfl, hb6⟩
                    have hb7 := Wi.Below.join hb6 (below_alloc w6 (.cells #[.int .i64 k.bas, .int .i64 k.stp] 23))
                    have HI7 : Hid (IY wR (w6.alloc (.cells #[.int .i64 k.bas, .int .i64 k.stp] 23)) P X p u) := HIV.out.later hb7
                    have HT7 : Hid (TrAt (w6.alloc (.cells #[.int .i64 k.bas, .int .i64 k.stp] 23)) Z T) := hTv.later hb7
                    have HK7 : Hid (KyAt (w6.alloc (.cells #[.int .i64 k.bas, .int .i64 k.stp] 23)) w6.heap.size k) := KyAt.new w6 k
                    clear hko hb6 hb7 hTv HIV
                    go_upto_region 22 with (fail)
                    generalize w6.alloc (.cells #[.int .i64 k.bas, .int .i64 k.stp] 23) = w7 at *
                    generalize w6.heap.size = K at *
                    by_cases hk0 : ke = 0
                    rotate_left
                    · have d0 : (ke != 0) = true := by simpa using hk0
                      clear hk0
                      go_wp2_with fail
                      go_roundw
                      case rel => exact ⟨v + 1, by omega, by go_num, HI7.out, HT7.out⟩
                      case measure => simp [intOf]; omega
                    have HYX : Hid (∀ i, i < 3 → gv (bxi p i).2.1 (bxi p i).2.2 k.bas k.stp = false ∧ gv (bxi p i).1.1 (bxi p i).1.2 k.bas k.stp = false) := HYW.out hk0
                    subst hk0
                    clear HYW
                    go_wp2_with fail
                    as_aux_lemma =>
                      go_loopw [17] (fun i wx => ∃ q : Nat, q ≤ 3 ∧ i = .int .i64 (q : Int) ∧ IY wR wx P X p u ∧ TrAt wx Z T ∧ KyAt wx K k) (fun i _ => 3 - (intOf i).toNat)
                      case atStart => exact ⟨0, by omega, rfl, HI7.out, HT7.out, HK7.out⟩
                      case round =>
                        clear HI7 HT7 HK7
                        obtain ⟨q, hq, rfl, hIq, hTq, hKq⟩ := hrel
                        have HIQ : Hid (IY wR wr P X p u ∧ TrAt wr Z T ∧ KyAt wr K k) := ⟨hIq, hTq, hKq⟩
                        clear hIq hTq hKq
                        by_cases hqn : q < 3
                        · have i5 : (0 : Int) ≤ (q : Int) := by omega
                          have i6 : (q : Int) < 3 := by omega
                          obtain ⟨y1, y2⟩ := HYX.out q hqn
                          have hg1 := Rt.rGives_any (bxi p q).2.1 (bxi p q).2.2 k.bas k.stp
                          have hg2 := Rt.rGives_any (bxi p q).1.1 (bxi p q).1.2 k.bas k.stp
                          rw [y1] at hg1
                          rw [y2] at hg2
                          have HRB : Hid (∀ W, RA W P p → W.rangeAt P (3 + q * 4) (stl (bxi p q).1) ∧ W.rangeAt P (3 + q * 4 + 2) (stl (bxi p q).2)) := fun W h => ra_bx h hqn
                          generalize bxi p q = b at *
                          obtain ⟨⟨b1, b2⟩, b3, b4⟩ := b
                          dsimp only at hg1 hg2 HRB
                          clear y1 y2
                          go_upto_region 26 with (fail)
                          have hS0 : IY wR wr.drew P X p u ∧ TrAt wr.drew Z T ∧ KyAt wr.drew K k := ⟨HIQ.out.1.later (drew_below _), HIQ.out.2.1.later (drew_below _), HIQ.out.2.2.later (drew_below _)⟩
                          clear HIQ
                          refine wp_region_held_drew (S := fun W => IY wR W P X p u ∧ TrAt W Z T ∧ KyAt W K k) (by kernel_rfl) hS0 (fun hHeld => ?_)
                          clear hS0
                          generalize wr.drew = wd at *
                          refine wpAnyH_take (i := 0) (oi := { dst := some 96, op := Op.move (Operand.tmp 17), type := _, pos := _, after := _, guard := none }) (v := .int .i64 (q : Int)) rfl (by kernel_rfl) (by kernel_rfl) (by kernel_rfl) (fun _ _ _ h => h) (Or.inl ⟨by rfl, fun w hSw => by (try dsimp only at hSw); go_simp⟩) (by assumption) ?_
                          simp only [Act.put, List.setIfInBounds_toArray, List.set_cons_zero, List.set_cons_succ]
                          refine wpAnyH_take (i := 1) (oi := { dst := some 97, op := Op.fieldAddr 60 (Operand.tmp 10) 3, type := _, pos := _, after := _, guard := none }) (v := .pointer (some ⟨P, 3, none⟩)) rfl (by kernel_rfl) (by kernel_rfl) (by kernel_rfl) (fun _ _ _ h => h) (Or.inl ⟨by rfl, fun w hSw => by (try dsimp only at hSw); go_simp⟩) (by assumption) ?_
                          simp only [Act.put, List.setIfInBounds_toArray, List.set_cons_zero, List.set_cons_succ]
                          refine wpAnyH_take (i := 2) (oi := { dst := some 98, op := Op.indexAddr 58 (Operand.tmp 97) (Operand.tmp 96), type := _, pos := _, after := _, guard := none }) (v := .pointer (some ⟨P, 3 + q * 4, none⟩)) rfl (by kernel_rfl) (by kernel_rfl) (by kernel_rfl) (fun _ _ _ h => h) (Or.inl ⟨by rfl, fun w hSw => by (try dsimp only at hSw); go_simp⟩) (by assumption) ?_
                          simp only [Act.put, List.setIfInBounds_toArray, List.set_cons_zero, List.set_cons_succ]
                          refine wpAnyH_take (i := 3) (oi := { dst := some 99, op := Op.fieldAddr 57 (Operand.tmp 98) 1, type := _, pos := _, after := _, guard := none }) (v := .pointer (some ⟨P, 3 + q * 4 + 2, none⟩)) rfl (by kernel_rfl) (by kernel_rfl) (by kernel_rfl) (fun _ _ _ h => h) (Or.inl ⟨by rfl, fun w hSw => by (try dsimp only at hSw); go_simp⟩) (by assumption) ?_
                          simp only [Act.put, List.setIfInBounds_toArray, List.set_cons_zero, List.set_cons_succ]
                          refine wpAnyH_take (i := 4) (oi := { dst := some 100, op := Op.load 23 (Operand.tmp 99), type := _, pos := _, after := _, guard := none }) (v := .agg #[.int .i64 b3, .int .i64 b4]) rfl (by kernel_rfl) (by kernel_rfl) (by kernel_rfl) (fun _ _ _ h => h) (Or.inl ⟨by rfl, fun w hSw => Wi.ld_ex (HRB.out _ hSw.1.rp).2 Tryz.underlying23 rfl Wi.szKey rfl rfl⟩) (by assumption) ?_
                          simp only [Act.put, List.setIfInBounds_toArray, List.set_cons_zero, List.set_cons_succ]
                          refine wpAnyH_take (i := 5) (oi := { dst := some 101, op := Op.load 23 (Operand.tmp 15), type := _, pos := _, after := _, guard := none }) (v := .agg #[.int .i64 k.bas, .int .i64 k.stp]) rfl (by kernel_rfl) (by kernel_rfl) (by kernel_rfl) (fun _ _ _ h => h) (Or.inl ⟨by rfl, fun w hSw => Wi.ld_ex (ra_of hSw.2.2 0 (stl (k.bas, k.stp)) rfl) Tryz.underlying23 rfl Wi.szKey rfl rfl⟩) (by assumption) ?_
                          simp only [Act.put, List.setIfInBounds_toArray, List.set_cons_zero, List.set_cons_succ]
                          refine wpAnyH_ready (rs := [6]) (by kernel_rfl) (by simp) ?_
                          refine AllReadyH.cons rfl (fun K hK => ?_) AllReadyH.nil
                          go_simp
                          refine (hg1 _).mono ?_
                          rintro r w8 ⟨rfl, hb8⟩
                          go_wp2_with fail
                          refine hK.out _ _ ⟨hHeld.1.later hb8, hHeld.2.1.later hb8, hHeld.2.2.later hb8⟩ (fun hHeld2 => ?_)
                          clear hHeld hb8
                          clear hK K
                          try simp only [Act.put, List.setIfInBounds_toArray, List.set_cons_zero, List.set_cons_succ]
                          refine wpAnyH_take (i := 7) (oi := { dst := some 103, op := Op.move (Operand.tmp 102), type := _, pos := _, after := _, guard := none }) (v := .bool false) rfl (by kernel_rfl) (by kernel_rfl) (by kernel_rfl) (fun _ _ _ h => h) (Or.inl ⟨by rfl, fun w hSw => by (try dsimp only at hSw); go_simp⟩) (by assumption) ?_
                          simp only [Act.put, List.setIfInBounds_toArray, List.set_cons_zero, List.set_cons_succ]
                          refine wpAnyH_take (i := 8) (oi := { dst := some 104, op := Op.move (Operand.tmp 17), type := _, pos := _, after := _, guard := some (7, false) }) (v := .int .i64 (q : Int)) rfl (by kernel_rfl) (by kernel_rfl) (by kernel_rfl) (fun _ _ _ h => h) (Or.inl ⟨by rfl, fun w hSw => by (try dsimp only at hSw); go_simp⟩) (by assumption) ?_
                          simp only [Act.put, List.setIfInBounds_toArray, List.set_cons_zero, List.set_cons_succ]
                          refine wpAnyH_take (i := 9) (oi := { dst := some 105, op := Op.fieldAddr 60 (Operand.tmp 10) 3, type := _, pos := _, after := _, guard := some (7, false) }) (v := .pointer (some ⟨P, 3, none⟩)) rfl (by kernel_rfl) (by kernel_rfl) (by kernel_rfl) (fun _ _ _ h => h) (Or.inl ⟨by rfl, fun w hSw => by (try dsimp only at hSw); go_simp⟩) (by assumption) ?_
                          simp only [Act.put, List.setIfInBounds_toArray, List.set_cons_zero, List.set_cons_succ]
                          refine wpAnyH_take (i := 10) (oi := { dst := some 106, op := Op.indexAddr 58 (Operand.tmp 105) (Operand.tmp 104), type := _, pos := _, after := _, guard := some (7, false) }) (v := .pointer (some ⟨P, 3 + q * 4, none⟩)) rfl (by kernel_rfl) (by kernel_rfl) (by kernel_rfl) (fun _ _ _ h => h) (Or.inl ⟨by rfl, fun w hSw => by (try dsimp only at hSw); go_simp⟩) (by assumption) ?_
                          simp only [Act.put, List.setIfInBounds_toArray, List.set_cons_zero, List.set_cons_succ]
                          refine wpAnyH_take (i := 11) (oi := { dst := some 107, op := Op.fieldAddr 57 (Operand.tmp 106) 0, type := _, pos := _, after := _, guard := some (7, false) }) (v := .pointer (some ⟨P, 3 + q * 4, none⟩)) rfl (by kernel_rfl) (by kernel_rfl) (by kernel_rfl) (fun _ _ _ h => h) (Or.inl ⟨by rfl, fun w hSw => by (try dsimp only at hSw); go_simp⟩) (by assumption) ?_
                          simp only [Act.put, List.setIfInBounds_toArray, List.set_cons_zero, List.set_cons_succ]
                          refine wpAnyH_take (i := 12) (oi := { dst := some 108, op := Op.load 23 (Operand.tmp 107), type := _, pos := _, after := _, guard := some (7, false) }) (v := .agg #[.int .i64 b1, .int .i64 b2]) rfl (by kernel_rfl) (by kernel_rfl) (by kernel_rfl) (fun _ _ _ h => h) (Or.inl ⟨by rfl, fun w hSw => Wi.ld_ex (HRB.out _ hSw.1.rp).1 Tryz.underlying23 rfl Wi.szKey rfl rfl⟩) (by assumption) ?_
                          simp only [Act.put, List.setIfInBounds_toArray, List.set_cons_zero, List.set_cons_succ]
                          refine wpAnyH_take (i := 13) (oi := { dst := some 109, op := Op.load 23 (Operand.tmp 15), type := _, pos := _, after := _, guard := some (7, false) }) (v := .agg #[.int .i64 k.bas, .int .i64 k.stp]) rfl (by kernel_rfl) (by kernel_rfl) (by kernel_rfl) (fun _ _ _ h => h) (Or.inl ⟨by rfl, fun w hSw => Wi.ld_ex (ra_of hSw.2.2 0 (stl (k.bas, k.stp)) rfl) Tryz.underlying23 rfl Wi.szKey rfl rfl⟩) (by assumption) ?_
                          simp only [Act.put, List.setIfInBounds_toArray, List.set_cons_zero, List.set_cons_succ]
                          refine wpAnyH_ready (rs := [14]) (by kernel_rfl) (by simp) ?_
                          refine AllReadyH.cons rfl (fun K hK => ?_) AllReadyH.nil
                          go_simp
                          refine (hg2 _).mono ?_
                          rintro r w9 ⟨rfl, hb9⟩
                          go_wp2_with fail
                          refine hK.out _ _ ⟨hHeld2.1.later hb9, hHeld2.2.1.later hb9, hHeld2.2.2.later hb9⟩ (fun hHeld3 => ?_)
                          clear hHeld2 hb9
                          clear hK K
                          try simp only [Act.put, List.setIfInBounds_toArray, List.set_cons_zero, List.set_cons_succ]
                          refine wpAnyH_take (i := 15) (oi := { dst := some 111, op := Op.pick (Operand.tmp 103) (Operand.const (Value.bool true)) (Operand.tmp 110), type := _, pos := _, after := _, guard := none }) (v := .bool false) rfl (by kernel_rfl) (by kernel_rfl) (by kernel_rfl) (fun _ _ _ h => h) (Or.inl ⟨by rfl, fun w hSw => by (try dsimp only at hSw); go_simp⟩) (by assumption) ?_
                          simp only [Act.put, List.setIfInBounds_toArray, List.set_cons_zero, List.set_cons_succ]
                          refine wpAnyH_done (by kernel_rfl) ?_ _
                          clear hg1 hg2
                          have HH : Hid _ := hHeld3
                          clear hHeld3
                          go_wp2_with fail
                          go_roundw
                          case rel => exact ⟨q + 1, by omega, by go_num, HH.out.1, HH.out.2.1, HH.out.2.2⟩
                          case measure => simp [intOf]; omega
                        · obtain rfl : q = 3 := by omega
                          clear hqn hq
                          go_wp2_with fail
                          go_roundw
                          case rel => exact ⟨v + 1, by omega, by go_num, HIQ.out.1, HIQ.out.2.1⟩
                          case measure => simp [intOf]; omega
                  · obtain rfl : v = 85 := by omega
                    clear hvn hv
                    go_wp2_with fail
                    go_roundw
                    case rel => exact ⟨j + 1, by omega, by go_num, HIV.out⟩
                    case measure => simp [intOf]; omega
            · obtain rfl : j = NM := by omega
              have hdk2 : decide ((j : Int) < (j : Int)) = false := by simp
              clear hjn hj
              have hpa := rPath_pn s HFA.out.2
              have hsl := HIJ.out.rp.slt
              have hpe := HFA.out.1
              rw [hpe] at hsl
              have hsl2 : wr.cell? ⟨P, 1, none⟩ = some (.int .i64 (s : Int)) := hsl
              clear hsl
              go_wp2_with fail
              refine (hpa _).mono ?_
              rintro r w6 ⟨rfl, hb6⟩
              have hb7 := Wi.Below.join hb6 (below_alloc w6 (.cells #[.int .i64 (pn s 0 : Nat), .int .i64 (pn s 1 : Nat), .int .i64 (pn s 2 : Nat)] 69))
              have HI7 : Hid (IY wR (w6.alloc (.cells #[.int .i64 (pn s 0 : Nat), .int .i64 (pn s 1 : Nat), .int .i64 (pn s 2 : Nat)] 69)) P X p u) := HIJ.out.later hb7
              have hN7 := heap_alloc_last w6 (.cells #[.int .i64 (pn s 0 : Nat), .int .i64 (pn s 1 : Nat), .int .i64 (pn s 2 : Nat)] 69)
              clear hpa hb6 hb7 HIJ hsl2
              go_upto_region 30 with (fail)
              generalize w6.alloc (.cells #[.int .i64 (pn s 0 : Nat), .int .i64 (pn s 1 : Nat), .int .i64 (pn s 2 : Nat)] 69) = w7 at *
              generalize w6.heap.size = N at *
              have c0 : w7.cell? ⟨N, 0, none⟩ = some (.int .i64 (pn s 0 : Nat)) := cell_of_row w7 N 0 _ _ _ hN7
              have p21 := pn_lt HFA.out.2 0
              have HRP : Hid (w7.rangeAt P 5 (stl (kp (u.ks (pn s 0)))) ∧ w7.rangeAt P 13 (stl (kp (u.ks 0))) ∧ w7.rangeAt X (2 + pn s 0 * 2) (stl (kp (u.ks (pn s 0)))) ∧ w7.rangeAt X 2 (stl (kp (u.ks 0)))) := by
                have h := HI7.out.rp
                rw [hpe] at h
                have h0 := (ra_bx h (i := 0) (by omega)).2
                have h2 := (ra_bx h (i := 2) (by omega)).2
                exact ⟨h0, h2, keyN HI7.out.tr p21, keyN HI7.out.tr (k := 0) (by omega)⟩
              have HB7 : Hid (Below wR.heap.size wR w7.drew) := Wi.Below.join HI7.out.bel (drew_below _)
              obtain ⟨pz, hpz⟩ : ∃ x, pn s 0 = x := ⟨_, rfl⟩
              rw [hpz] at c0 HRP p21
              have HPZ : Hid (pz < 21) := p21
              have HC0' : Hid (∀ n, (w7.drewN n).cell? ⟨N, 0, none⟩ = some (.int .i64 (pz : Nat))) := fun n => c0
              have i1 : (0 : Int) ≤ (pz : Int) := by omega
              have i2 : (pz : Int) < 21 := by omega
              clear hN7 hpz HI7
              have hS0 : Below wR.heap.size wR w7.drew ∧ w7.drew.cell? ⟨N, 0, none⟩ = some (.int .i64 (pz : Nat)) ∧ w7.drew.rangeAt P 5 (stl (kp (u.ks pz))) ∧ w7.drew.rangeAt P 13 (stl (kp (u.ks 0))) ∧ w7.drew.rangeAt X (2 + pz * 2) (stl (kp (u.ks pz))) ∧ w7.drew.rangeAt X 2 (stl (kp (u.ks 0))) := ⟨HB7.out, Rs.cell_later (drew_below _) c0, Wi.ra_later HRP.out.1 (drew_below _), Wi.ra_later HRP.out.2.1 (drew_below _), Wi.ra_later HRP.out.2.2.1 (drew_below _), Wi.ra_later HRP.out.2.2.2 (drew_below _)⟩
              clear HB7 HRP c0 HC0'
              refine wp_region_held_drew (S := fun W => Below wR.heap.size wR W ∧ W.cell? ⟨N, 0, none⟩ = some (.int .i64 (pz : Nat)) ∧ W.rangeAt P 5 (stl (kp (u.ks pz))) ∧ W.rangeAt P 13 (stl (kp (u.ks 0))) ∧ W.rangeAt X (2 + pz * 2) (stl (kp (u.ks pz))) ∧ W.rangeAt X 2 (stl (kp (u.ks 0)))) (by kernel_rfl) hS0 (fun hHeld => ?_)
              clear hS0
              generalize w7.drew = wd at *
              refine wpAnyH_take (i := 0) (oi := { dst := some 119, op := Op.move (Operand.tmp 19), type := _, pos := _, after := _, guard := none }) (v := .bool true) rfl (by kernel_rfl) (by kernel_rfl) (by kernel_rfl) (fun _ _ _ h => h) (Or.inl ⟨by rfl, fun w hSw => by (try dsimp only at hSw); go_simp⟩) (by assumption) ?_
              simp only [Act.put, List.setIfInBounds_toArray, List.set_cons_zero, List.set_cons_succ]
              refine wpAnyH_take (i := 1) (oi := { dst := some 120, op := Op.move (Operand.tmp 119), type := _, pos := _, after := _, guard := none }) (v := .bool true) rfl (by kernel_rfl) (by kernel_rfl) (by kernel_rfl) (fun _ _ _ h => h) (Or.inl ⟨by rfl, fun w hSw => by (try dsimp only at hSw); go_simp⟩) (by assumption) ?_
              simp only [Act.put, List.setIfInBounds_toArray, List.set_cons_zero, List.set_cons_succ]
              refine wpAnyH_take (i := 2) (oi := { dst := some 121, op := Op.fieldAddr 60 (Operand.tmp 10) 3, type := _, pos := _, after := _, guard := some (1, true) }) (v := .pointer (some ⟨P, 3, none⟩)) rfl (by kernel_rfl) (by kernel_rfl) (by kernel_rfl) (fun _ _ _ h => h) (Or.inl ⟨by rfl, fun w hSw => by (try dsimp only at hSw); go_simp⟩) (by assumption) ?_
              simp only [Act.put, List.setIfInBounds_toArray, List.set_cons_zero, List.set_cons_succ]
              refine wpAnyH_take (i := 3) (oi := { dst := some 122, op := Op.indexAddr 58 (Operand.tmp 121) (Operand.const (Value.int IntKind.i64 0)), type := _, pos := _, after := _, guard := some (1, true) }) (v := .pointer (some ⟨P, 3, none⟩)) rfl (by kernel_rfl) (by kernel_rfl) (by kernel_rfl) (fun _ _ _ h => h) (Or.inl ⟨by rfl, fun w hSw => by (try dsimp only at hSw); go_simp⟩) (by assumption) ?_
              simp only [Act.put, List.setIfInBounds_toArray, List.set_cons_zero, List.set_cons_succ]
              refine wpAnyH_take (i := 4) (oi := { dst := some 123, op := Op.fieldAddr 57 (Operand.tmp 122) 1, type := _, pos := _, after := _, guard := some (1, true) }) (v := .pointer (some ⟨P, 5, none⟩)) rfl (by kernel_rfl) (by kernel_rfl) (by kernel_rfl) (fun _ _ _ h => h) (Or.inl ⟨by rfl, fun w hSw => by (try dsimp only at hSw); go_simp⟩) (by assumption) ?_
              simp only [Act.put, List.setIfInBounds_toArray, List.set_cons_zero, List.set_cons_succ]
              refine wpAnyH_take (i := 5) (oi := { dst := some 124, op := Op.load 23 (Operand.tmp 123), type := _, pos := _, after := _, guard := some (1, true) }) (v := .agg (stl (kp (u.ks pz))).toArray) rfl (by kernel_rfl) (by kernel_rfl) (by kernel_rfl) (fun _ _ _ h => h) (Or.inl ⟨by rfl, fun w hSw => Wi.ld_ex hSw.2.2.1 Tryz.underlying23 rfl Wi.szKey rfl rfl⟩) (by assumption) ?_
              simp only [Act.put, List.setIfInBounds_toArray, List.set_cons_zero, List.set_cons_succ]
              refine wpAnyH_take (i := 6) (oi := { dst := some 125, op := Op.indexAddr 69 (Operand.tmp 18) (Operand.const (Value.int IntKind.i64 0)), type := _, pos := _, after := _, guard := some (1, true) }) (v := .pointer (some ⟨N, 0, none⟩)) rfl (by kernel_rfl) (by kernel_rfl) (by kernel_rfl) (fun _ _ _ h => h) (Or.inl ⟨by rfl, fun w hSw => by (try dsimp only at hSw); go_simp⟩) (by assumption) ?_
              simp only [Act.put, List.setIfInBounds_toArray, List.set_cons_zero, List.set_cons_succ]
              refine wpAnyH_take (i := 7) (oi := { dst := some 126, op := Op.load 3 (Operand.tmp 125), type := _, pos := _, after := _, guard := some (1, true) }) (v := .int .i64 (pz : Int)) rfl (by kernel_rfl) (by kernel_rfl) (by kernel_rfl) (fun _ _ _ h => h) (Or.inl ⟨by rfl, fun w hSw => by have x0 := hSw.2.1; clear hSw; go_simp⟩) (by assumption) ?_
              simp only [Act.put, List.setIfInBounds_toArray, List.set_cons_zero, List.set_cons_succ]
              refine wpAnyH_take (i := 8) (oi := { dst := some 127, op := Op.fieldAddr 31 (Operand.tmp 9) 2, type := _, pos := _, after := _, guard := some (1, true) }) (v := .pointer (some ⟨X, 2, none⟩)) rfl (by kernel_rfl) (by kernel_rfl) (by kernel_rfl) (fun _ _ _ h => h) (Or.inl ⟨by rfl, fun w hSw => by (try dsimp only at hSw); go_simp⟩) (by assumption) ?_
              simp only [Act.put, List.setIfInBounds_toArray, List.set_cons_zero, List.set_cons_succ]
              refine wpAnyH_take (i := 9) (oi := { dst := some 128, op := Op.indexAddr 25 (Operand.tmp 127) (Operand.tmp 126), type := _, pos := _, after := _, guard := some (1, true) }) (v := .pointer (some ⟨X, 2 + pz * 2, none⟩)) rfl (by kernel_rfl) (by kernel_rfl) (by kernel_rfl) (fun _ _ _ h => h) (Or.inl ⟨by rfl, fun w hSw => by (try dsimp only at hSw); go_simp⟩) (by assumption) ?_
              simp only [Act.put, List.setIfInBounds_toArray, List.set_cons_zero, List.set_cons_succ]
              refine wpAnyH_take (i := 10) (oi := { dst := some 129, op := Op.load 23 (Operand.tmp 128), type := _, pos := _, after := _, guard := some (1, true) }) (v := .agg (stl (kp (u.ks pz))).toArray) rfl (by kernel_rfl) (by kernel_rfl) (by kernel_rfl) (fun _ _ _ h => h) (Or.inl ⟨by rfl, fun w hSw => Wi.ld_ex hSw.2.2.2.2.1 Tryz.underlying23 rfl Wi.szKey rfl rfl⟩) (by assumption) ?_
              simp only [Act.put, List.setIfInBounds_toArray, List.set_cons_zero, List.set_cons_succ]
              refine wpAnyH_take (i := 11) (oi := { dst := some 130, op := Op.binOp BinOp.eql 23 (Operand.tmp 124) (Operand.tmp 129) 23, type := _, pos := _, after := _, guard := some (1, true) }) (v := .bool true) rfl (by kernel_rfl) (by kernel_rfl) (by kernel_rfl) (fun _ _ _ h => h) (Or.inl ⟨by rfl, fun w hSw => eqKy_exec rfl rfl rfl rfl⟩) (by assumption) ?_
              simp only [Act.put, List.setIfInBounds_toArray, List.set_cons_zero, List.set_cons_succ]
              refine wpAnyH_take (i := 12) (oi := { dst := some 131, op := Op.pick (Operand.tmp 120) (Operand.tmp 130) (Operand.const (Value.bool false)), type := _, pos := _, after := _, guard := none }) (v := .bool true) rfl (by kernel_rfl) (by kernel_rfl) (by kernel_rfl) (fun _ _ _ h => h) (Or.inl ⟨by rfl, fun w hSw => by (try dsimp only at hSw); go_simp⟩) (by assumption) ?_
              simp only [Act.put, List.setIfInBounds_toArray, List.set_cons_zero, List.set_cons_succ]
              refine wpAnyH_take (i := 13) (oi := { dst := some 132, op := Op.move (Operand.tmp 131), type := _, pos := _, after := _, guard := none }) (v := .bool true) rfl (by kernel_rfl) (by kernel_rfl) (by kernel_rfl) (fun _ _ _ h => h) (Or.inl ⟨by rfl, fun w hSw => by (try dsimp only at hSw); go_simp⟩) (by assumption) ?_
              simp only [Act.put, List.setIfInBounds_toArray, List.set_cons_zero, List.set_cons_succ]
              refine wpAnyH_take (i := 14) (oi := { dst := some 133, op := Op.fieldAddr 60 (Operand.tmp 10) 3, type := _, pos := _, after := _, guard := some (13, true) }) (v := .pointer (some ⟨P, 3, none⟩)) rfl (by kernel_rfl) (by kernel_rfl) (by kernel_rfl) (fun _ _ _ h => h) (Or.inl ⟨by rfl, fun w hSw => by (try dsimp only at hSw); go_simp⟩) (by assumption) ?_
              simp only [Act.put, List.setIfInBounds_toArray, List.set_cons_zero, List.set_cons_succ]
              refine wpAnyH_take (i := 15) (oi := { dst := some 134, op := Op.indexAddr 58 (Operand.tmp 133) (Operand.const (Value.int IntKind.i64 2)), type := _, pos := _, after := _, guard := some (13, true) }) (v := .pointer (some ⟨P, 11, none⟩)) rfl (by kernel_rfl) (by kernel_rfl) (by kernel_rfl) (fun _ _ _ h => h) (Or.inl ⟨by rfl, fun w hSw => by (try dsimp only at hSw); go_simp⟩) (by assumption) ?_
              simp only [Act.put, List.setIfInBounds_toArray, List.set_cons_zero, List.set_cons_succ]
              refine wpAnyH_take (i := 16) (oi := { dst := some 135, op := Op.fieldAddr 57 (Operand.tmp 134) 1, type := _, pos := _, after := _, guard := some (13, true) }) (v := .pointer (some ⟨P, 13, none⟩)) rfl (by kernel_rfl) (by kernel_rfl) (by kernel_rfl) (fun _ _ _ h => h) (Or.inl ⟨by rfl, fun w hSw => by (try dsimp only at hSw); go_simp⟩) (by assumption) ?_
              simp only [Act.put, List.setIfInBounds_toArray, List.set_cons_zero, List.set_cons_succ]
              refine wpAnyH_take (i := 17) (oi := { dst := some 136, op := Op.load 23 (Operand.tmp 135), type := _, pos := _, after := _, guard := some (13, true) }) (v := .agg (stl (kp (u.ks 0))).toArray) rfl (by kernel_rfl) (by kernel_rfl) (by kernel_rfl) (fun _ _ _ h => h) (Or.inl ⟨by rfl, fun w hSw => Wi.ld_ex hSw.2.2.2.1 Tryz.underlying23 rfl Wi.szKey rfl rfl⟩) (by assumption) ?_
              simp only [Act.put, List.setIfInBounds_toArray, List.set_cons_zero, List.set_cons_succ]
              refine wpAnyH_take (i := 18) (oi := { dst := some 137, op := Op.fieldAddr 31 (Operand.tmp 9) 2, type := _, pos := _, after := _, guard := some (13, true) }) (v := .pointer (some ⟨X, 2, none⟩)) rfl (by kernel_rfl) (by kernel_rfl) (by kernel_rfl) (fun _ _ _ h => h) (Or.inl ⟨by rfl, fun w hSw => by (try dsimp only at hSw); go_simp⟩) (by assumption) ?_
              simp only [Act.put, List.setIfInBounds_toArray, List.set_cons_zero, List.set_cons_succ]
              refine wpAnyH_take (i := 19) (oi := { dst := some 138, op := Op.indexAddr 25 (Operand.tmp 137) (Operand.const (Value.int IntKind.i64 0)), type := _, pos := _, after := _, guard := some (13, true) }) (v := .pointer (some ⟨X, 2, none⟩)) rfl (by kernel_rfl) (by kernel_rfl) (by kernel_rfl) (fun _ _ _ h => h) (Or.inl ⟨by rfl, fun w hSw => by (try dsimp only at hSw); go_simp⟩) (by assumption) ?_
              simp only [Act.put, List.setIfInBounds_toArray, List.set_cons_zero, List.set_cons_succ]
              refine wpAnyH_take (i := 20) (oi := { dst := some 139, op := Op.load 23 (Operand.tmp 138), type := _, pos := _, after := _, guard := some (13, true) }) (v := .agg (stl (kp (u.ks 0))).toArray) rfl (by kernel_rfl) (by kernel_rfl) (by kernel_rfl) (fun _ _ _ h => h) (Or.inl ⟨by rfl, fun w hSw => Wi.ld_ex hSw.2.2.2.2.2 Tryz.underlying23 rfl Wi.szKey rfl rfl⟩) (by assumption) ?_
              simp only [Act.put, List.setIfInBounds_toArray, List.set_cons_zero, List.set_cons_succ]
              refine wpAnyH_take (i := 21) (oi := { dst := some 140, op := Op.binOp BinOp.eql 23 (Operand.tmp 136) (Operand.tmp 139) 23, type := _, pos := _, after := _, guard := some (13, true) }) (v := .bool true) rfl (by kernel_rfl) (by kernel_rfl) (by kernel_rfl) (fun _ _ _ h => h) (Or.inl ⟨by rfl, fun w hSw => eqKy_exec rfl rfl rfl rfl⟩) (by assumption) ?_
              simp only [Act.put, List.setIfInBounds_toArray, List.set_cons_zero, List.set_cons_succ]
              refine wpAnyH_take (i := 22) (oi := { dst := some 141, op := Op.pick (Operand.tmp 132) (Operand.tmp 140) (Operand.const (Value.bool false)), type := _, pos := _, after := _, guard := none }) (v := .bool true) rfl (by kernel_rfl) (by kernel_rfl) (by kernel_rfl) (fun _ _ _ h => h) (Or.inl ⟨by rfl, fun w hSw => by (try dsimp only at hSw); go_simp⟩) (by assumption) ?_
              simp only [Act.put, List.setIfInBounds_toArray, List.set_cons_zero, List.set_cons_succ]
              refine wpAnyH_take (i := 23) (oi := { dst := some 2, op := Op.assign (Operand.tmp 141), type := _, pos := _, after := _, guard := none }) (v := .bool true) rfl (by kernel_rfl) (by kernel_rfl) (by kernel_rfl) (fun _ _ _ h => h) (Or.inl ⟨by rfl, fun w hSw => by (try dsimp only at hSw); go_simp⟩) (by assumption) ?_
              simp only [Act.put, List.setIfInBounds_toArray, List.set_cons_zero, List.set_cons_succ]
              refine wpAnyH_done (by kernel_rfl) ?_ _
              have HBF : Hid (Below w.heap.size w wd) := Wi.Below.join HBR.out hHeld.1
              clear hHeld
              go_wp2_with fail
              go_ret
              exact ⟨rfl, HBF.out⟩
theorem own : ownKnob Tryz.prog.godebug = none := by kernel_rfl
theorem laidOut : laidOutB Tryz.prog = true := by kernel_rfl
set_option maxRecDepth 100000 in
theorem lifted (os : Os) (started : os.Started) (H : Type) (enc : TypeId × Value → H) :
    ReturnsInHanded {} Tryz.checked os 4 .any (Rows.recoveryYoungSpec.pre6 enc Tryz.prog Tryz.f4 Rows.recoveryYoungRow.domain false) (Rows.recoveryYoungSpec.post enc Tryz.prog Tryz.f4 false true false false) := by
  refine returnsInHanded_of_change_sized (C := Tryz.checked) own started (by kernel_rfl) Tryz.func4
    (ChangeSpec.witness6 (enc := enc) (C := Tryz.checked) false ⟨#[], #[.agg (List.replicate 236 (Value.int .i64 0) ++ [Value.slice none 0 0, Value.int .i64 0, Value.bool false, Value.int .i64 0]).toArray], []⟩ 8 (by kernel_rfl) (by kernel_rfl) (by kernel_rfl) (by kernel_rfl)) ?_
  intro W base args ds gs before hval0 hW hcnd hsz0 _
  have hsz : (DataW.weightsEach Tryz.prog (Tryz.f4.params.toList ++ Rows.recoveryYoungSpec.plain.varTypes Tryz.prog) (ds ++ gs)).all (· ≤ reachBytes) = true := hsz0
  clear hsz0
  have hval : ∀ (j : Nat) t v, Tryz.f4.params[j]? = some t → args[j]? = some v → Value.okWide Tryz.prog W .any base t v := hval0
  have hW' := hW
  obtain ⟨p, q, hA0, hV, rfl, hfz, hnd⟩ := hW
  have hA : DataW.TrodAll enc Tryz.prog W 0 (fun _ => true) true Tryz.f4.params.toList args.toList ds p := hA0
  rw [Tryz.params4] at hA hval hsz
  obtain ⟨v0, vs0, d0, ds0, p0, q0, hargs, rfl, rfl, h0, r0⟩ := trodAll_cons hA
  obtain ⟨rfl, rfl, rfl⟩ := trodAll_nil r0
  obtain rfl : args = #[v0] := by cases args; simp_all
  obtain ⟨rfl, rfl⟩ := trodVars_none hV
  have k0 := h0
  have lt0 : ∀ x ∈ p0, x.block < W.heap.size := by obtain ⟨m, hm⟩ := k0; exact DataW.trod_lt m _ _ _ hm
  obtain ⟨f0, a0, c0, l0, x0, ba0, bh0, rfl, rd0, hl0, hn0⟩ := Rv.open_lag (fun parts e => by subst e; exact Wi.sized_agg hsz (j := 0) (t := 34) rfl rfl Tryz.underlying34) (hval 0 34 v0 rfl rfl) h0
  clear hA0 hval0
  refine (walk f0 a0 c0 l0 x0 ba0 bh0 W rd0 hl0 hn0).mono fun e W' ⟨he, bel⟩ => ?_
  subst he
  exact ⟨_, rfl, _, _, _, [], _, [], hW', trodAll_mk1 (shut_bool Tryz.underlying4 _), (trodAll_cons_mk (Below.trod laidOut (by kernel_rfl) (of_decide_eq_true (by kernel_rfl)) k0 bel lt0) trodAll_mk0), rfl, bel.frame _, fun h => by cases h⟩
theorem over : Rows.recoveryYoungRow.holds Tryz.pinned (OpenSpec.ofChange Rows.recoveryYoungSpec) :=
  OpenClaim.holds_of_wide 4 Tryz.f4 rfl rfl rfl rfl rfl rfl rfl ⟨rfl, rfl, rfl, rfl, rfl⟩ rfl rfl rfl rfl rfl (by kernel_rfl) Tryz.func4 (by kernel_rfl)
    (of_decide_eq_true (by kernel_rfl)) (by unfold Func.isWrapper; first | (rw [if_pos (by decide +kernel)]; kernel_rfl) | (rw [if_neg (by decide +kernel)]; exact ⟨rfl, rfl⟩))
    (fun os started H enc _ => lifted os started H enc)
end Go.Proofs.YtpimbpfefhkojaaGreat.recoveryYoung
namespace Go.Proofs.YtpimbpfefhkojaaGreat
theorem recoveryYoung_holds : Rows.RecoveryYoungSaid := recoveryYoung.over
#print axioms recoveryYoung_holds
end Go.Proofs.YtpimbpfefhkojaaGreat
