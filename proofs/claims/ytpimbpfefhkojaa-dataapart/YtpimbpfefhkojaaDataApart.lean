/- For every tree, script and person: who stands at another tree of the row that the script makes doesn't open what is sealed at this one, nor does who is out; who stands at this one does. No conditions. MADE by wip/mk_dap.py. -/
import Derived.Test.YtpimbpfefhkojaaRows
import Derived.Test.YtpimbpfefhkojaaDaC
import Derived.Test.YtpimbpfefhkojaaRvT
import Derived.Test.YtpimbpfefhkojaaOpJ2
import Derived.Test.YtpimbpfefhkojaaOpenBtm
import Derived.BigQuiet
import Derived.OpenShut
import Derived.SizedLaws
import Derived.ChangeMaps5
namespace Go.Proofs.Ytpimbpfefhkojaa.dataApart
open Go.ChangeShapes Go.WideShapes Go.ChangeAt Go.RowKit Go.Maps
open Go.Proofs.Ytpimbpfefhkojaa.Mb Go.Proofs.Ytpimbpfefhkojaa.Rv
open Rt (Ky KyAt zK)
open Rs (tkn fnd RdI owns_slice own_ge own_other)
open Wi (ldM ra_of sdl stl zD gD gW gE)
set_option linter.unusedVariables false
set_option linter.unusedSimpArgs false

theorem tz_new (w : World) {t : Tr} {c : Array Value} (hc : tcs t = c) : TrAt ((w.alloc (.cells Try.zeroCells45 45)).setRow w.heap.size c) w.heap.size t := by subst hc; exact (TrAt.zero w).row t
theorem tz_below {n : Nat} {w w' : World} (h : Below n w w') (hn : n ≤ w'.heap.size) (c : Array Value) : Below n w ((w'.alloc (.cells Try.zeroCells45 45)).setRow w'.heap.size c) := Rt.setRow_below hn (h.alloc hn _) _
theorem tz_later (w : World) (c : Array Value) : Below w.heap.size w ((w.alloc (.cells Try.zeroCells45 45)).setRow w.heap.size c) := Rt.setRow_below (Nat.le_refl _) (below_alloc _ _) _
structure IN (wR W : World) (A D : Nat) (m : Mb) (d : Sd) : Prop where
  bel : Below wR.heap.size wR W
  mb : MA W A m
  sd : DAt W D d
theorem IN.later {wR W W' : World} {A D : Nat} {m : Mb} {d : Sd} (h : IN wR W A D m d) (hb : Below W.heap.size W W') : IN wR W' A D m d := ⟨Wi.Below.join h.bel hb, h.mb.later hb, h.sd.later hb⟩
def tx1 : ByteArray := ⟨#[120]⟩
theorem q_ne : ((⟨#[]⟩ : ByteArray).toList == (⟨#[120]⟩ : ByteArray).toList) = false := beq_eq_false_iff_ne.2 fun e => by
  have h := congrArg ByteArray.size (Wi.bl_iff.1 e)
  cases h
theorem tx1_sz : tx1.size = 1 := rfl
set_option maxHeartbeats 16000000 in
set_option maxRecDepth 100000 in
theorem walk (t0 : Tr) (a : Option Addr) (c : Nat) (l : List (List Int × List Int)) (x2 : Int) (w : World) (rd1 : Mb.RdB w a l) (hl1 : l.length * 48 ≤ 140737488351232) (hn1 : ∀ i, i < l.length → (l.getD i ([], [])).1.length * 8 ≤ 140737488351232 ∧ (l.getD i ([], [])).2.length * 8 ≤ 140737488351232) (wx2 : (Lit.int .i64 x2).wf = true) :
    Calls Try.prog 6 #[.agg (tcs t0), .slice a l.length c, .int .i64 x2] w fun e w' => e = .returned (.bool true) ∧ Below w.heap.size w w' := by
  clear wx2
  obtain ⟨it, hti, htz, hts, htb⟩ := info_tree
  have hb : ∀ i, i < l.length → (l.getD i ([], [])).1.length ≤ 17592186044416 ∧ (l.getD i ([], [])).2.length ≤ 17592186044416 := fun i hi => by have := hn1 i hi; omega
  have hl : l.length ≤ 17592186044416 := by omega
  have hTN := TrAt.new w t0
  have hTB := alloc_tr w t0
  obtain ⟨c0, hc0⟩ : ∃ c, tcs t0 = c := ⟨_, rfl⟩
  have HC0 : TC t0 c0 := ⟨hc0⟩
  rw [hc0] at hTN hTB
  rw [hc0]
  clear hc0 hn1 hl1
  go_enter Try.func6, Try.ntmps6
  go_upto_region 1 with (fail)
  generalize w.alloc (.cells c0 45) = w1 at *
  obtain ⟨B, hB⟩ : ∃ B, w.heap.size = B := ⟨_, rfl⟩
  rw [hB] at hTN ⊢
  clear hB
  go_wp2_with fail
  refine (lives17_any _).mono ?_
  rintro e wb ⟨rfl, hb1⟩
  have HTR : Hid (TrAt wb B t0) := hTN.later hb1
  have HBW : Hid (Below w.heap.size w wb) := Wi.Below.join hTB hb1
  have HRD : Hid (Mb.RdB wb a l) := rd1.later HBW.out
  clear hTN hTB hb1 rd1
  have HS0 : Hid (SX wb (wb.alloc (.cells c0 45)) (.slice (some ⟨wb.heap.size, 0, none⟩) 1 1) (runM t0 (l.take 0)).1) := SX.one wb HC0.out
  go_wp2_with (first | (refine rdT HTR.out HC0.out _ rfl rfl rfl ?_) | (refine bsT HC0.out rfl _ rfl rfl ?_))
  go_loopw [7, 32] (fun x i wx => ∃ (k : Nat) (vr : Value), k ≤ l.length ∧ i = .int .i64 (k : Int) ∧ vr = x ∧ SX wb wx vr (runM t0 (l.take k)).1) (fun _ i _ => l.length - (intOf i).toNat)
  case atStart => exact ⟨0, _, by omega, rfl, rfl, HS0.out⟩
  case round =>
    obtain ⟨k, vr, hk, rfl, rfl, hss⟩ := hrel
    have HS : Hid (SX wb wr vr (runM t0 (l.take k)).1) := hss
    have HROW : Hid (RowM t0 (runM t0 (l.take k)).1 (runM t0 (l.take k)).2) := runM_row t0 _
    clear hss HS0
    by_cases hkN : k < l.length
    · as_aux_lemma =>
        have i1 : (0 : Int) ≤ (k : Int) := by omega
        have i2 : (k : Int) < (l.length : Int) := by omega
        obtain ⟨b0, o0, aL, cL, aJ, cJ, hal, hc0, hc1, rL, rJ⟩ := (HRD.out.later HS.out.bel) k hkN
        obtain ⟨hbL, hbJ⟩ := hb k hkN
        have HTK : Hid (runM t0 (l.take (k + 1)) = run1 (runM t0 (l.take k)) (l.getD k ([], []))) := runM_take t0 hkN
        obtain ⟨q, hq⟩ : ∃ q, l.getD k ([], []) = q := ⟨_, rfl⟩
        rw [hq] at hc0 hc1 rL rJ hbL hbJ HTK
        obtain ⟨L, J⟩ := q
        dsimp only at hc0 hc1 rL rJ hbL hbJ
        obtain ⟨st, hst⟩ : ∃ s, runM t0 (l.take k) = s := ⟨_, rfl⟩
        rw [hst] at HTK HS HROW
        obtain ⟨ts, bs⟩ := st
        dsimp only at HS HROW
        clear hq hst
        subst hal
        have hlen := HROW.out.len
        have hle := HROW.out.le
        obtain ⟨m, hm⟩ : ∃ m, m + 1 = ts.length := ⟨ts.length - 1, by omega⟩
        obtain ⟨t, ht⟩ : ∃ t, lastT ts = t := ⟨_, rfl⟩
        have ht2 : ts.getD m (tz 0) = t := (getD_last hm).trans ht
        have HR1 : Hid (run1 (ts, bs) (L, J) = if plE t L J = 0 then (ts ++ [nx t L J], bs ++ [(L, J)]) else (ts, bs)) := run1_eq ht L J
        obtain ⟨ar, cr, rfl⟩ := owns_slice HS.out.rr
        have HS5 : Hid (SX wb (wr.alloc (.cells #[.slice aL L.length cL, .slice aJ J.length cJ] 53)) (.slice ar ts.length cr) ts) := HS.out.later (below_alloc _ _)
        have hBT : BtAt (wr.alloc (.cells #[.slice aL L.length cL, .slice aJ J.length cJ] 53)) wr.heap.size aL aJ L.length J.length cL cJ := heap_alloc_last wr _
        have rL5 := rL.later (below_alloc wr (.cells #[.slice aL L.length cL, .slice aJ J.length cJ] 53))
        have rJ5 := rJ.later (below_alloc wr (.cells #[.slice aL L.length cL, .slice aJ J.length cJ] 53))
        clear HS rL rJ
        go_upto_region 7 with (fail)
        clear hc0 hc1
        generalize wr.alloc (.cells #[.slice aL L.length cL, .slice aJ J.length cJ] 53) = w5 at *
        generalize wr.heap.size = C at *
        have HBT : Hid (BtAt w5 C aL aJ L.length J.length cL cJ) := hBT
        have hrd := owns_rdR HS5.out.rr
        obtain ⟨g, eg, -, -⟩ := hrd.tree (i := m) (by omega) ht2
        have HTR : Hid (∀ W, Below w5.heap.size w5 W → (Instr.loadAt 45 (.pointer (some ⟨g, m * 236, none⟩))).run Try.prog W = .ok (.agg (tcs t)) W) := fun W hW => by
          obtain ⟨b', e', h2, -⟩ := (hrd.later hW).tree (i := m) (by omega) ht2
          rw [eg] at e'
          simp at e'
          subst e'
          exact h2
        have hnx := fun W (hW : Below w5.heap.size w5 W) => next_r t aL aJ cL cJ L J W (by omega) (by omega) (rL5.later hW) (rJ5.later hW)
        unfold NxA rka at hnx
        have HOK : Hid (plE t L J = 0 → pnT t L J = nx t L J) := fun h => by unfold pnT; rw [if_pos h]
        obtain ⟨n, hn⟩ : ∃ n, pnT t L J = n := ⟨_, rfl⟩
        obtain ⟨E, hE⟩ : ∃ n, plE t L J = n := ⟨_, rfl⟩
        obtain ⟨p, hp⟩ : ∃ n, pR t L J = n := ⟨_, rfl⟩
        obtain ⟨cn, hcn⟩ : ∃ c, tcs n = c := ⟨_, rfl⟩
        have HCN : TX n cn := ⟨hcn⟩
        rw [hn, hE] at HOK
        rw [hE] at HR1
        obtain ⟨ct, hct⟩ : ∃ c, tcs t = c := ⟨_, rfl⟩
        have HCT : TX t ct := ⟨hct⟩
        rw [hct] at HTR
        rw [hn, hE, hp, hct, hcn] at hnx
        subst eg
        obtain ⟨NT, hNT⟩ : ∃ x, ts.length = x := ⟨_, rfl⟩
        have HNT : Hid (ts.length = NT) := hNT
        obtain ⟨NL, hNL⟩ : ∃ x, L.length = x := ⟨_, rfl⟩
        obtain ⟨NJ, hNJ⟩ : ∃ x, J.length = x := ⟨_, rfl⟩
        rw [hNL, hNJ] at HBT hnx
        rw [hNT] at hm hle HS5 ⊢
        have hw1 : IntKind.i64.wrap ((NT : Int) - 1) = (m : Int) := by rw [show (NT : Int) - 1 = (m : Int) by omega]; exact Rs.i64_fit _ (by omega) (by omega)
        have m1 : (0 : Int) ≤ (m : Int) := by omega
        have m2 : (m : Int) < (NT : Int) := by omega
        have HMN : Hid (m + 1 = NT) := hm
        clear hn hE hp hcn hct ht ht2 hrd hBT hNT hNL hNJ hm hlen rL5 rJ5 hbL hbJ
        go_cut [10, 12] (fun sa sb wx => ∃ T, sa = .pointer (some ⟨T, 0, none⟩) ∧ sb = .int .i64 E ∧ Below w5.heap.size w5 wx ∧ TrAt wx T n)
        case first =>
          have hS0 : Below w5.heap.size w5 w5.drew := drew_below _
          refine wp_region_held_drew (S := fun X => Below w5.heap.size w5 X) (by kernel_rfl) hS0 (fun hHeld => ?_)
          refine wpAnyH_take (i := 0) (oi := { dst := some 37, op := Op.move (Operand.tmp 7), type := _, pos := _, after := _, guard := none }) (v := .slice (some ⟨g, 0, none⟩) NT cr) rfl (by kernel_rfl) (by kernel_rfl) (by kernel_rfl) (fun _ _ _ h => h) (Or.inl ⟨by rfl, fun w hSw => by (try dsimp only at hSw); go_simp⟩) (by assumption) ?_
          simp only [Act.put, List.setIfInBounds_toArray, List.set_cons_zero, List.set_cons_succ]
          refine wpAnyH_take (i := 1) (oi := { dst := some 38, op := Op.move (Operand.tmp 7), type := _, pos := _, after := _, guard := none }) (v := .slice (some ⟨g, 0, none⟩) NT cr) rfl (by kernel_rfl) (by kernel_rfl) (by kernel_rfl) (fun _ _ _ h => h) (Or.inl ⟨by rfl, fun w hSw => by (try dsimp only at hSw); go_simp⟩) (by assumption) ?_
          simp only [Act.put, List.setIfInBounds_toArray, List.set_cons_zero, List.set_cons_succ]
          refine wpAnyH_take (i := 2) (oi := { dst := some 39, op := Op.call { callee := Callee.builtin Builtin.len, args := #[(Operand.tmp 38)], argTypes := #[50] }, type := _, pos := _, after := _, guard := none }) (v := .int .i64 (NT : Int)) rfl (by kernel_rfl) (by kernel_rfl) (by kernel_rfl) (fun _ _ _ h => h) (Or.inl ⟨by rfl, fun w hSw => by (try dsimp only at hSw); go_simp⟩) (by assumption) ?_
          simp only [Act.put, List.setIfInBounds_toArray, List.set_cons_zero, List.set_cons_succ]
          refine wpAnyH_take (i := 3) (oi := { dst := some 40, op := Op.binOp BinOp.sub 3 (Operand.tmp 39) (Operand.const (Value.int IntKind.i64 1)) 3, type := _, pos := _, after := _, guard := none }) (v := .int .i64 (m : Int)) rfl (by kernel_rfl) (by kernel_rfl) (by kernel_rfl) (fun _ _ _ h => h) (Or.inl ⟨by rfl, fun w hSw => by (try dsimp only at hSw); go_simp⟩) (by assumption) ?_
          simp only [Act.put, List.setIfInBounds_toArray, List.set_cons_zero, List.set_cons_succ]
          refine wpAnyH_take (i := 4) (oi := { dst := some 41, op := Op.indexAddr 50 (Operand.tmp 37) (Operand.tmp 40), type := _, pos := _, after := _, guard := none }) (v := .pointer (some ⟨g, m * 236, none⟩)) rfl (by kernel_rfl) (by kernel_rfl) (by kernel_rfl) (fun _ _ _ h => h) (Or.inl ⟨by rfl, fun w hSw => by (try dsimp only at hSw); go_simp⟩) (by assumption) ?_
          simp only [Act.put, List.setIfInBounds_toArray, List.set_cons_zero, List.set_cons_succ]
          refine wpAnyH_take (i := 5) (oi := { dst := some 42, op := Op.load 45 (Operand.tmp 41), type := _, pos := _, after := _, guard := none }) (v := .agg ct) rfl (by kernel_rfl) (by kernel_rfl) (by kernel_rfl) (fun _ _ _ h => h) (Or.inl ⟨by rfl, fun w hSw => ld_exec (HTR.out _ hSw) rfl rfl⟩) (by assumption) ?_
          simp only [Act.put, List.setIfInBounds_toArray, List.set_cons_zero, List.set_cons_succ]
          refine wpAnyH_take (i := 6) (oi := { dst := some 43, op := Op.load 53 (Operand.tmp 9), type := _, pos := _, after := _, guard := none }) (v := .agg #[.slice aL NL cL, .slice aJ NJ cJ]) rfl (by kernel_rfl) (by kernel_rfl) (by kernel_rfl) (fun _ _ _ h => h) (Or.inl ⟨by rfl, fun w hSw => by obtain ⟨x0, x1⟩ := (HBT.out.later hSw).cells; clear hSw; go_simp⟩) (by assumption) ?_
          simp only [Act.put, List.setIfInBounds_toArray, List.set_cons_zero, List.set_cons_succ]
          refine wpAnyH_ready (rs := [7, 12, 13]) (by kernel_rfl) (by simp) ?_
          refine (AllReadyH.cons rfl (fun K hK => ?_) (AllReadyH.cons rfl (fun K hK => ?_) (AllReadyH.cons rfl (fun K hK => ?_) AllReadyH.nil)))
          · go_simp
            refine (hnx _ hHeld).mono ?_
            rintro r w7 ⟨⟨a1, a2, a3, k1, k2, k3, rfl, -⟩, hb7⟩
            go_wp2_with fail
            try (have hz := hz.later hb7)
            try (have hq := rkAt_later hq hb7)
            refine hK.out _ _ (hHeld.trans (hb7.mono hHeld.size)) (fun hHd1 => ?_)
            clear hHeld hb7
            clear hK K
            try simp only [Act.put, List.setIfInBounds_toArray, List.set_cons_zero, List.set_cons_succ]
            refine wpAnyH_take (i := 8) (oi := { dst := some 36, op := Op.move (Operand.tmp 44), type := _, pos := _, after := _, guard := none }) (v := .tuple #[.agg cn, .agg #[.int .i64 p.1, .slice a1 p.2.1.length k1, .slice a2 p.2.2.1.length k2, .slice a3 p.2.2.2.length k3], .int .i64 E]) rfl (by kernel_rfl) (by kernel_rfl) (by kernel_rfl) (fun _ _ _ h => h) (Or.inl ⟨by rfl, fun w hSw => by (try dsimp only at hSw); go_simp⟩) (by assumption) ?_
            simp only [Act.put, List.setIfInBounds_toArray, List.set_cons_zero, List.set_cons_succ]
            refine wpAnyH_take (i := 9) (oi := { dst := some 45, op := Op.extract (Operand.tmp 36) 0, type := _, pos := _, after := _, guard := none }) (v := .agg cn) rfl (by kernel_rfl) (by kernel_rfl) (by kernel_rfl) (fun _ _ _ h => h) (Or.inl ⟨by rfl, fun w hSw => by (try dsimp only at hSw); go_simp⟩) (by assumption) ?_
            simp only [Act.put, List.setIfInBounds_toArray, List.set_cons_zero, List.set_cons_succ]
            refine wpAnyH_take (i := 10) (oi := { dst := some 46, op := Op.extract (Operand.tmp 36) 1, type := _, pos := _, after := _, guard := none }) (v := .agg #[.int .i64 p.1, .slice a1 p.2.1.length k1, .slice a2 p.2.2.1.length k2, .slice a3 p.2.2.2.length k3]) rfl (by kernel_rfl) (by kernel_rfl) (by kernel_rfl) (fun _ _ _ h => h) (Or.inl ⟨by rfl, fun w hSw => by (try dsimp only at hSw); go_simp⟩) (by assumption) ?_
            simp only [Act.put, List.setIfInBounds_toArray, List.set_cons_zero, List.set_cons_succ]
            refine wpAnyH_take (i := 11) (oi := { dst := some 47, op := Op.extract (Operand.tmp 36) 2, type := _, pos := _, after := _, guard := none }) (v := .int .i64 E) rfl (by kernel_rfl) (by kernel_rfl) (by kernel_rfl) (fun _ _ _ h => h) (Or.inl ⟨by rfl, fun w hSw => by (try dsimp only at hSw); go_simp⟩) (by assumption) ?_
            simp only [Act.put, List.setIfInBounds_toArray, List.set_cons_zero, List.set_cons_succ]
            refine wpAnyH_ready (rs := [12, 13]) (by kernel_rfl) (by simp) ?_
            refine (AllReadyH.cons rfl (fun K hK => ?_) (AllReadyH.cons rfl (fun K hK => ?_) AllReadyH.nil))
            · go_simp
              have hgT := hHd1.size
              refine hK.out _ _ (hHd1.trans ((below_alloc _ _).mono hHd1.size)) (fun hHd2 => ?_)
              first | have hz := zero_of hHd2 | have hz := zero_of' hHd2
              try simp only [World.size_alloc] at hz
              try simp only [World.size_alloc] at hgT
              try (have hq := rkAt_later hq (below_alloc _ (.cells Try.zeroCells45 45)))
              clear hHd1
              clear hK K
              try simp only [Act.put, List.setIfInBounds_toArray, List.set_cons_zero, List.set_cons_succ]
              refine wpAnyH_ready (rs := [13]) (by kernel_rfl) (by simp) ?_
              refine AllReadyH.cons rfl (fun K hK => ?_) AllReadyH.nil
              go_simp
              have hgM := hHd2.size
              refine hK.out _ _ (hHd2.trans ((below_alloc _ _).mono hHd2.size)) (fun hHd3 => ?_)
              first | have hq := rkz_of hHd3 | have hq := rkz_of' hHd3
              try simp only [World.size_alloc] at hq
              try simp only [World.size_alloc] at hgM
              try (have hz := hz.later (below_alloc _ (.cells #[.int .i64 0, .slice none 0 0, .slice none 0 0, .slice none 0 0] 57)))
              clear hHd2
              clear hK K
              try simp only [Act.put, List.setIfInBounds_toArray, List.set_cons_zero, List.set_cons_succ]
              refine wpAnyH_ready (rs := [14]) (by kernel_rfl) (by simp) ?_
              refine AllReadyH.cons rfl (fun Kc hK => ?_) AllReadyH.nil
              refine if_wp rfl (wp_stRow0 45 _ _ rfl _ cn rfl rfl 45 _ hz (by rw [← HCN.out, tcs_size]; exact infoT) (by rw [← HCN.out, tcs_size, tcs_size]) (by rw [← HCN.out]; exact tcs_one n) rfl ?_)
              have hTM := block_ne hz hq (by decide)
              have hzZ := Rt.heap_setRow_same hz cn
              have hq2 := (Rt.row_other (Ne.symm hTM) cn).trans hq
              refine hK.out _ _ (Rt.setRow_below (by first | exact hgT | omega) hHd3 _) (fun hHd4 => ?_)
              clear hHd3
              clear hK Kc
              try simp only [Act.put, List.setIfInBounds_toArray, List.set_cons_zero, List.set_cons_succ]
              refine wpAnyH_ready (rs := [15]) (by kernel_rfl) (by simp) ?_
              refine AllReadyH.cons rfl (fun Kc hK => ?_) AllReadyH.nil
              refine if_wp rfl (wp_stRow0 57 _ _ rfl _ #[.int .i64 p.1, .slice a1 p.2.1.length k1, .slice a2 p.2.2.1.length k2, .slice a3 p.2.2.2.length k3] rfl rfl 57 _ hq2 infoRk rfl (rk_one _ _ _ _ _ _ _ _ _ _) rfl ?_)
              have hzZ2 := (Rt.row_other hTM #[.int .i64 p.1, .slice a1 p.2.1.length k1, .slice a2 p.2.2.1.length k2, .slice a3 p.2.2.2.length k3]).trans hzZ
              refine hK.out _ _ (Rt.setRow_below (by first | exact hgM | omega) hHd4 _) (fun hHd5 => ?_)
              clear hK Kc
              try simp only [Act.put, List.setIfInBounds_toArray, List.set_cons_zero, List.set_cons_succ]
              refine wpAnyH_take (i := 16) (oi := { dst := some 12, op := Op.assign (Operand.tmp 47), type := _, pos := _, after := _, guard := none }) (v := .int .i64 E) rfl (by kernel_rfl) (by kernel_rfl) (by kernel_rfl) (fun _ _ _ h => h) (Or.inl ⟨by rfl, fun w hSw => by (try dsimp only at hSw); go_simp⟩) (by assumption) ?_
              simp only [Act.put, List.setIfInBounds_toArray, List.set_cons_zero, List.set_cons_succ]
              refine wpAnyH_done (by kernel_rfl) ?_ _
              go_wp2_with fail
              go_meet
              case rel => exact ⟨_, rfl, rfl, hHd5, by unfold TrAt; rw [HCN.out]; exact hzZ2⟩
            · go_simp
              have hgM := hHd1.size
              refine hK.out _ _ (hHd1.trans ((below_alloc _ _).mono hHd1.size)) (fun hHd2 => ?_)
              first | have hq := rkz_of hHd2 | have hq := rkz_of' hHd2
              try simp only [World.size_alloc] at hq
              try simp only [World.size_alloc] at hgM
              try (have hz := hz.later (below_alloc _ (.cells #[.int .i64 0, .slice none 0 0, .slice none 0 0, .slice none 0 0] 57)))
              clear hHd1
              clear hK K
              try simp only [Act.put, List.setIfInBounds_toArray, List.set_cons_zero, List.set_cons_succ]
              refine wpAnyH_ready (rs := [12]) (by kernel_rfl) (by simp) ?_
              refine AllReadyH.cons rfl (fun K hK => ?_) AllReadyH.nil
              go_simp
              have hgT := hHd2.size
              refine hK.out _ _ (hHd2.trans ((below_alloc _ _).mono hHd2.size)) (fun hHd3 => ?_)
              first | have hz := zero_of hHd3 | have hz := zero_of' hHd3
              try simp only [World.size_alloc] at hz
              try simp only [World.size_alloc] at hgT
              try (have hq := rkAt_later hq (below_alloc _ (.cells Try.zeroCells45 45)))
              clear hHd2
              clear hK K
              try simp only [Act.put, List.setIfInBounds_toArray, List.set_cons_zero, List.set_cons_succ]
              refine wpAnyH_ready (rs := [14]) (by kernel_rfl) (by simp) ?_
              refine AllReadyH.cons rfl (fun Kc hK => ?_) AllReadyH.nil
              refine if_wp rfl (wp_stRow0 45 _ _ rfl _ cn rfl rfl 45 _ hz (by rw [← HCN.out, tcs_size]; exact infoT) (by rw [← HCN.out, tcs_size, tcs_size]) (by rw [← HCN.out]; exact tcs_one n) rfl ?_)
              have hTM := block_ne hz hq (by decide)
              have hzZ := Rt.heap_setRow_same hz cn
              have hq2 := (Rt.row_other (Ne.symm hTM) cn).trans hq
              refine hK.out _ _ (Rt.setRow_below (by first | exact hgT | omega) hHd3 _) (fun hHd4 => ?_)
              clear hHd3
              clear hK Kc
              try simp only [Act.put, List.setIfInBounds_toArray, List.set_cons_zero, List.set_cons_succ]
              refine wpAnyH_ready (rs := [15]) (by kernel_rfl) (by simp) ?_
              refine AllReadyH.cons rfl (fun Kc hK => ?_) AllReadyH.nil
              refine if_wp rfl (wp_stRow0 57 _ _ rfl _ #[.int .i64 p.1, .slice a1 p.2.1.length k1, .slice a2 p.2.2.1.length k2, .slice a3 p.2.2.2.length k3] rfl rfl 57 _ hq2 infoRk rfl (rk_one _ _ _ _ _ _ _ _ _ _) rfl ?_)
              have hzZ2 := (Rt.row_other hTM #[.int .i64 p.1, .slice a1 p.2.1.length k1, .slice a2 p.2.2.1.length k2, .slice a3 p.2.2.2.length k3]).trans hzZ
              refine hK.out _ _ (Rt.setRow_below (by first | exact hgM | omega) hHd4 _) (fun hHd5 => ?_)
              clear hK Kc
              try simp only [Act.put, List.setIfInBounds_toArray, List.set_cons_zero, List.set_cons_succ]
              refine wpAnyH_take (i := 16) (oi := { dst := some 12, op := Op.assign (Operand.tmp 47), type := _, pos := _, after := _, guard := none }) (v := .int .i64 E) rfl (by kernel_rfl) (by kernel_rfl) (by kernel_rfl) (fun _ _ _ h => h) (Or.inl ⟨by rfl, fun w hSw => by (try dsimp only at hSw); go_simp⟩) (by assumption) ?_
              simp only [Act.put, List.setIfInBounds_toArray, List.set_cons_zero, List.set_cons_succ]
              refine wpAnyH_done (by kernel_rfl) ?_ _
              go_wp2_with fail
              go_meet
              case rel => exact ⟨_, rfl, rfl, hHd5, by unfold TrAt; rw [HCN.out]; exact hzZ2⟩
          · go_simp
            have hgT := hHeld.size
            refine hK.out _ _ (hHeld.trans ((below_alloc _ _).mono hHeld.size)) (fun hHd1 => ?_)
            first | have hz := zero_of hHd1 | have hz := zero_of' hHd1
            try simp only [World.size_alloc] at hz
            try simp only [World.size_alloc] at hgT
            try (have hq := rkAt_later hq (below_alloc _ (.cells Try.zeroCells45 45)))
            clear hHeld
            clear hK K
            try simp only [Act.put, List.setIfInBounds_toArray, List.set_cons_zero, List.set_cons_succ]
            refine wpAnyH_ready (rs := [7, 13]) (by kernel_rfl) (by simp) ?_
            refine (AllReadyH.cons rfl (fun K hK => ?_) (AllReadyH.cons rfl (fun K hK => ?_) AllReadyH.nil))
            · go_simp
              refine (hnx _ hHd1).mono ?_
              rintro r w7 ⟨⟨a1, a2, a3, k1, k2, k3, rfl, -⟩, hb7⟩
              go_wp2_with fail
              try (have hz := hz.later hb7)
              try (have hq := rkAt_later hq hb7)
              refine hK.out _ _ (hHd1.trans (hb7.mono hHd1.size)) (fun hHd2 => ?_)
              clear hHd1 hb7
              clear hK K
              try simp only [Act.put, List.setIfInBounds_toArray, List.set_cons_zero, List.set_cons_succ]
              refine wpAnyH_take (i := 8) (oi := { dst := some 36, op := Op.move (Operand.tmp 44), type := _, pos := _, after := _, guard := none }) (v := .tuple #[.agg cn, .agg #[.int .i64 p.1, .slice a1 p.2.1.length k1, .slice a2 p.2.2.1.length k2, .slice a3 p.2.2.2.length k3], .int .i64 E]) rfl (by kernel_rfl) (by kernel_rfl) (by kernel_rfl) (fun _ _ _ h => h) (Or.inl ⟨by rfl, fun w hSw => by (try dsimp only at hSw); go_simp⟩) (by assumption) ?_
              simp only [Act.put, List.setIfInBounds_toArray, List.set_cons_zero, List.set_cons_succ]
              refine wpAnyH_take (i := 9) (oi := { dst := some 45, op := Op.extract (Operand.tmp 36) 0, type := _, pos := _, after := _, guard := none }) (v := .agg cn) rfl (by kernel_rfl) (by kernel_rfl) (by kernel_rfl) (fun _ _ _ h => h) (Or.inl ⟨by rfl, fun w hSw => by (try dsimp only at hSw); go_simp⟩) (by assumption) ?_
              simp only [Act.put, List.setIfInBounds_toArray, List.set_cons_zero, List.set_cons_succ]
              refine wpAnyH_take (i := 10) (oi := { dst := some 46, op := Op.extract (Operand.tmp 36) 1, type := _, pos := _, after := _, guard := none }) (v := .agg #[.int .i64 p.1, .slice a1 p.2.1.length k1, .slice a2 p.2.2.1.length k2, .slice a3 p.2.2.2.length k3]) rfl (by kernel_rfl) (by kernel_rfl) (by kernel_rfl) (fun _ _ _ h => h) (Or.inl ⟨by rfl, fun w hSw => by (try dsimp only at hSw); go_simp⟩) (by assumption) ?_
              simp only [Act.put, List.setIfInBounds_toArray, List.set_cons_zero, List.set_cons_succ]
              refine wpAnyH_take (i := 11) (oi := { dst := some 47, op := Op.extract (Operand.tmp 36) 2, type := _, pos := _, after := _, guard := none }) (v := .int .i64 E) rfl (by kernel_rfl) (by kernel_rfl) (by kernel_rfl) (fun _ _ _ h => h) (Or.inl ⟨by rfl, fun w hSw => by (try dsimp only at hSw); go_simp⟩) (by assumption) ?_
              simp only [Act.put, List.setIfInBounds_toArray, List.set_cons_zero, List.set_cons_succ]
              refine wpAnyH_ready (rs := [13]) (by kernel_rfl) (by simp) ?_
              refine AllReadyH.cons rfl (fun K hK => ?_) AllReadyH.nil
              go_simp
              have hgM := hHd2.size
              refine hK.out _ _ (hHd2.trans ((below_alloc _ _).mono hHd2.size)) (fun hHd3 => ?_)
              first | have hq := rkz_of hHd3 | have hq := rkz_of' hHd3
              try simp only [World.size_alloc] at hq
              try simp only [World.size_alloc] at hgM
              try (have hz := hz.later (below_alloc _ (.cells #[.int .i64 0, .slice none 0 0, .slice none 0 0, .slice none 0 0] 57)))
              clear hHd2
              clear hK K
              try simp only [Act.put, List.setIfInBounds_toArray, List.set_cons_zero, List.set_cons_succ]
              refine wpAnyH_ready (rs := [14]) (by kernel_rfl) (by simp) ?_
              refine AllReadyH.cons rfl (fun Kc hK => ?_) AllReadyH.nil
              refine if_wp rfl (wp_stRow0 45 _ _ rfl _ cn rfl rfl 45 _ hz (by rw [← HCN.out, tcs_size]; exact infoT) (by rw [← HCN.out, tcs_size, tcs_size]) (by rw [← HCN.out]; exact tcs_one n) rfl ?_)
              have hTM := block_ne hz hq (by decide)
              have hzZ := Rt.heap_setRow_same hz cn
              have hq2 := (Rt.row_other (Ne.symm hTM) cn).trans hq
              refine hK.out _ _ (Rt.setRow_below (by first | exact hgT | omega) hHd3 _) (fun hHd4 => ?_)
              clear hHd3
              clear hK Kc
              try simp only [Act.put, List.setIfInBounds_toArray, List.set_cons_zero, List.set_cons_succ]
              refine wpAnyH_ready (rs := [15]) (by kernel_rfl) (by simp) ?_
              refine AllReadyH.cons rfl (fun Kc hK => ?_) AllReadyH.nil
              refine if_wp rfl (wp_stRow0 57 _ _ rfl _ #[.int .i64 p.1, .slice a1 p.2.1.length k1, .slice a2 p.2.2.1.length k2, .slice a3 p.2.2.2.length k3] rfl rfl 57 _ hq2 infoRk rfl (rk_one _ _ _ _ _ _ _ _ _ _) rfl ?_)
              have hzZ2 := (Rt.row_other hTM #[.int .i64 p.1, .slice a1 p.2.1.length k1, .slice a2 p.2.2.1.length k2, .slice a3 p.2.2.2.length k3]).trans hzZ
              refine hK.out _ _ (Rt.setRow_below (by first | exact hgM | omega) hHd4 _) (fun hHd5 => ?_)
              clear hK Kc
              try simp only [Act.put, List.setIfInBounds_toArray, List.set_cons_zero, List.set_cons_succ]
              refine wpAnyH_take (i := 16) (oi := { dst := some 12, op := Op.assign (Operand.tmp 47), type := _, pos := _, after := _, guard := none }) (v := .int .i64 E) rfl (by kernel_rfl) (by kernel_rfl) (by kernel_rfl) (fun _ _ _ h => h) (Or.inl ⟨by rfl, fun w hSw => by (try dsimp only at hSw); go_simp⟩) (by assumption) ?_
              simp only [Act.put, List.setIfInBounds_toArray, List.set_cons_zero, List.set_cons_succ]
              refine wpAnyH_done (by kernel_rfl) ?_ _
              go_wp2_with fail
              go_meet
              case rel => exact ⟨_, rfl, rfl, hHd5, by unfold TrAt; rw [HCN.out]; exact hzZ2⟩
            · go_simp
              have hgM := hHd1.size
              refine hK.out _ _ (hHd1.trans ((below_alloc _ _).mono hHd1.size)) (fun hHd2 => ?_)
              first | have hq := rkz_of hHd2 | have hq := rkz_of' hHd2
              try simp only [World.size_alloc] at hq
              try simp only [World.size_alloc] at hgM
              try (have hz := hz.later (below_alloc _ (.cells #[.int .i64 0, .slice none 0 0, .slice none 0 0, .slice none 0 0] 57)))
              clear hHd1
              clear hK K
              try simp only [Act.put, List.setIfInBounds_toArray, List.set_cons_zero, List.set_cons_succ]
              refine wpAnyH_ready (rs := [7]) (by kernel_rfl) (by simp) ?_
              refine AllReadyH.cons rfl (fun K hK => ?_) AllReadyH.nil
              go_simp
              refine (hnx _ hHd2).mono ?_
              rintro r w7 ⟨⟨a1, a2, a3, k1, k2, k3, rfl, -⟩, hb7⟩
              go_wp2_with fail
              try (have hz := hz.later hb7)
              try (have hq := rkAt_later hq hb7)
              refine hK.out _ _ (hHd2.trans (hb7.mono hHd2.size)) (fun hHd3 => ?_)
              clear hHd2 hb7
              clear hK K
              try simp only [Act.put, List.setIfInBounds_toArray, List.set_cons_zero, List.set_cons_succ]
              refine wpAnyH_take (i := 8) (oi := { dst := some 36, op := Op.move (Operand.tmp 44), type := _, pos := _, after := _, guard := none }) (v := .tuple #[.agg cn, .agg #[.int .i64 p.1, .slice a1 p.2.1.length k1, .slice a2 p.2.2.1.length k2, .slice a3 p.2.2.2.length k3], .int .i64 E]) rfl (by kernel_rfl) (by kernel_rfl) (by kernel_rfl) (fun _ _ _ h => h) (Or.inl ⟨by rfl, fun w hSw => by (try dsimp only at hSw); go_simp⟩) (by assumption) ?_
              simp only [Act.put, List.setIfInBounds_toArray, List.set_cons_zero, List.set_cons_succ]
              refine wpAnyH_take (i := 9) (oi := { dst := some 45, op := Op.extract (Operand.tmp 36) 0, type := _, pos := _, after := _, guard := none }) (v := .agg cn) rfl (by kernel_rfl) (by kernel_rfl) (by kernel_rfl) (fun _ _ _ h => h) (Or.inl ⟨by rfl, fun w hSw => by (try dsimp only at hSw); go_simp⟩) (by assumption) ?_
              simp only [Act.put, List.setIfInBounds_toArray, List.set_cons_zero, List.set_cons_succ]
              refine wpAnyH_take (i := 10) (oi := { dst := some 46, op := Op.extract (Operand.tmp 36) 1, type := _, pos := _, after := _, guard := none }) (v := .agg #[.int .i64 p.1, .slice a1 p.2.1.length k1, .slice a2 p.2.2.1.length k2, .slice a3 p.2.2.2.length k3]) rfl (by kernel_rfl) (by kernel_rfl) (by kernel_rfl) (fun _ _ _ h => h) (Or.inl ⟨by rfl, fun w hSw => by (try dsimp only at hSw); go_simp⟩) (by assumption) ?_
              simp only [Act.put, List.setIfInBounds_toArray, List.set_cons_zero, List.set_cons_succ]
              refine wpAnyH_take (i := 11) (oi := { dst := some 47, op := Op.extract (Operand.tmp 36) 2, type := _, pos := _, after := _, guard := none }) (v := .int .i64 E) rfl (by kernel_rfl) (by kernel_rfl) (by kernel_rfl) (fun _ _ _ h => h) (Or.inl ⟨by rfl, fun w hSw => by (try dsimp only at hSw); go_simp⟩) (by assumption) ?_
              simp only [Act.put, List.setIfInBounds_toArray, List.set_cons_zero, List.set_cons_succ]
              refine wpAnyH_ready (rs := [14]) (by kernel_rfl) (by simp) ?_
              refine AllReadyH.cons rfl (fun Kc hK => ?_) AllReadyH.nil
              refine if_wp rfl (wp_stRow0 45 _ _ rfl _ cn rfl rfl 45 _ hz (by rw [← HCN.out, tcs_size]; exact infoT) (by rw [← HCN.out, tcs_size, tcs_size]) (by rw [← HCN.out]; exact tcs_one n) rfl ?_)
              have hTM := block_ne hz hq (by decide)
              have hzZ := Rt.heap_setRow_same hz cn
              have hq2 := (Rt.row_other (Ne.symm hTM) cn).trans hq
              refine hK.out _ _ (Rt.setRow_below (by first | exact hgT | omega) hHd3 _) (fun hHd4 => ?_)
              clear hHd3
              clear hK Kc
              try simp only [Act.put, List.setIfInBounds_toArray, List.set_cons_zero, List.set_cons_succ]
              refine wpAnyH_ready (rs := [15]) (by kernel_rfl) (by simp) ?_
              refine AllReadyH.cons rfl (fun Kc hK => ?_) AllReadyH.nil
              refine if_wp rfl (wp_stRow0 57 _ _ rfl _ #[.int .i64 p.1, .slice a1 p.2.1.length k1, .slice a2 p.2.2.1.length k2, .slice a3 p.2.2.2.length k3] rfl rfl 57 _ hq2 infoRk rfl (rk_one _ _ _ _ _ _ _ _ _ _) rfl ?_)
              have hzZ2 := (Rt.row_other hTM #[.int .i64 p.1, .slice a1 p.2.1.length k1, .slice a2 p.2.2.1.length k2, .slice a3 p.2.2.2.length k3]).trans hzZ
              refine hK.out _ _ (Rt.setRow_below (by first | exact hgM | omega) hHd4 _) (fun hHd5 => ?_)
              clear hK Kc
              try simp only [Act.put, List.setIfInBounds_toArray, List.set_cons_zero, List.set_cons_succ]
              refine wpAnyH_take (i := 16) (oi := { dst := some 12, op := Op.assign (Operand.tmp 47), type := _, pos := _, after := _, guard := none }) (v := .int .i64 E) rfl (by kernel_rfl) (by kernel_rfl) (by kernel_rfl) (fun _ _ _ h => h) (Or.inl ⟨by rfl, fun w hSw => by (try dsimp only at hSw); go_simp⟩) (by assumption) ?_
              simp only [Act.put, List.setIfInBounds_toArray, List.set_cons_zero, List.set_cons_succ]
              refine wpAnyH_done (by kernel_rfl) ?_ _
              go_wp2_with fail
              go_meet
              case rel => exact ⟨_, rfl, rfl, hHd5, by unfold TrAt; rw [HCN.out]; exact hzZ2⟩
          · go_simp
            have hgM := hHeld.size
            refine hK.out _ _ (hHeld.trans ((below_alloc _ _).mono hHeld.size)) (fun hHd1 => ?_)
            first | have hq := rkz_of hHd1 | have hq := rkz_of' hHd1
            try simp only [World.size_alloc] at hq
            try simp only [World.size_alloc] at hgM
            try (have hz := hz.later (below_alloc _ (.cells #[.int .i64 0, .slice none 0 0, .slice none 0 0, .slice none 0 0] 57)))
            clear hHeld
            clear hK K
            try simp only [Act.put, List.setIfInBounds_toArray, List.set_cons_zero, List.set_cons_succ]
            refine wpAnyH_ready (rs := [7, 12]) (by kernel_rfl) (by simp) ?_
            refine (AllReadyH.cons rfl (fun K hK => ?_) (AllReadyH.cons rfl (fun K hK => ?_) AllReadyH.nil))
            · go_simp
              refine (hnx _ hHd1).mono ?_
              rintro r w7 ⟨⟨a1, a2, a3, k1, k2, k3, rfl, -⟩, hb7⟩
              go_wp2_with fail
              try (have hz := hz.later hb7)
              try (have hq := rkAt_later hq hb7)
              refine hK.out _ _ (hHd1.trans (hb7.mono hHd1.size)) (fun hHd2 => ?_)
              clear hHd1 hb7
              clear hK K
              try simp only [Act.put, List.setIfInBounds_toArray, List.set_cons_zero, List.set_cons_succ]
              refine wpAnyH_take (i := 8) (oi := { dst := some 36, op := Op.move (Operand.tmp 44), type := _, pos := _, after := _, guard := none }) (v := .tuple #[.agg cn, .agg #[.int .i64 p.1, .slice a1 p.2.1.length k1, .slice a2 p.2.2.1.length k2, .slice a3 p.2.2.2.length k3], .int .i64 E]) rfl (by kernel_rfl) (by kernel_rfl) (by kernel_rfl) (fun _ _ _ h => h) (Or.inl ⟨by rfl, fun w hSw => by (try dsimp only at hSw); go_simp⟩) (by assumption) ?_
              simp only [Act.put, List.setIfInBounds_toArray, List.set_cons_zero, List.set_cons_succ]
              refine wpAnyH_take (i := 9) (oi := { dst := some 45, op := Op.extract (Operand.tmp 36) 0, type := _, pos := _, after := _, guard := none }) (v := .agg cn) rfl (by kernel_rfl) (by kernel_rfl) (by kernel_rfl) (fun _ _ _ h => h) (Or.inl ⟨by rfl, fun w hSw => by (try dsimp only at hSw); go_simp⟩) (by assumption) ?_
              simp only [Act.put, List.setIfInBounds_toArray, List.set_cons_zero, List.set_cons_succ]
              refine wpAnyH_take (i := 10) (oi := { dst := some 46, op := Op.extract (Operand.tmp 36) 1, type := _, pos := _, after := _, guard := none }) (v := .agg #[.int .i64 p.1, .slice a1 p.2.1.length k1, .slice a2 p.2.2.1.length k2, .slice a3 p.2.2.2.length k3]) rfl (by kernel_rfl) (by kernel_rfl) (by kernel_rfl) (fun _ _ _ h => h) (Or.inl ⟨by rfl, fun w hSw => by (try dsimp only at hSw); go_simp⟩) (by assumption) ?_
              simp only [Act.put, List.setIfInBounds_toArray, List.set_cons_zero, List.set_cons_succ]
              refine wpAnyH_take (i := 11) (oi := { dst := some 47, op := Op.extract (Operand.tmp 36) 2, type := _, pos := _, after := _, guard := none }) (v := .int .i64 E) rfl (by kernel_rfl) (by kernel_rfl) (by kernel_rfl) (fun _ _ _ h => h) (Or.inl ⟨by rfl, fun w hSw => by (try dsimp only at hSw); go_simp⟩) (by assumption) ?_
              simp only [Act.put, List.setIfInBounds_toArray, List.set_cons_zero, List.set_cons_succ]
              refine wpAnyH_ready (rs := [12]) (by kernel_rfl) (by simp) ?_
              refine AllReadyH.cons rfl (fun K hK => ?_) AllReadyH.nil
              go_simp
              have hgT := hHd2.size
              refine hK.out _ _ (hHd2.trans ((below_alloc _ _).mono hHd2.size)) (fun hHd3 => ?_)
              first | have hz := zero_of hHd3 | have hz := zero_of' hHd3
              try simp only [World.size_alloc] at hz
              try simp only [World.size_alloc] at hgT
              try (have hq := rkAt_later hq (below_alloc _ (.cells Try.zeroCells45 45)))
              clear hHd2
              clear hK K
              try simp only [Act.put, List.setIfInBounds_toArray, List.set_cons_zero, List.set_cons_succ]
              refine wpAnyH_ready (rs := [14]) (by kernel_rfl) (by simp) ?_
              refine AllReadyH.cons rfl (fun Kc hK => ?_) AllReadyH.nil
              refine if_wp rfl (wp_stRow0 45 _ _ rfl _ cn rfl rfl 45 _ hz (by rw [← HCN.out, tcs_size]; exact infoT) (by rw [← HCN.out, tcs_size, tcs_size]) (by rw [← HCN.out]; exact tcs_one n) rfl ?_)
              have hTM := block_ne hz hq (by decide)
              have hzZ := Rt.heap_setRow_same hz cn
              have hq2 := (Rt.row_other (Ne.symm hTM) cn).trans hq
              refine hK.out _ _ (Rt.setRow_below (by first | exact hgT | omega) hHd3 _) (fun hHd4 => ?_)
              clear hHd3
              clear hK Kc
              try simp only [Act.put, List.setIfInBounds_toArray, List.set_cons_zero, List.set_cons_succ]
              refine wpAnyH_ready (rs := [15]) (by kernel_rfl) (by simp) ?_
              refine AllReadyH.cons rfl (fun Kc hK => ?_) AllReadyH.nil
              refine if_wp rfl (wp_stRow0 57 _ _ rfl _ #[.int .i64 p.1, .slice a1 p.2.1.length k1, .slice a2 p.2.2.1.length k2, .slice a3 p.2.2.2.length k3] rfl rfl 57 _ hq2 infoRk rfl (rk_one _ _ _ _ _ _ _ _ _ _) rfl ?_)
              have hzZ2 := (Rt.row_other hTM #[.int .i64 p.1, .slice a1 p.2.1.length k1, .slice a2 p.2.2.1.length k2, .slice a3 p.2.2.2.length k3]).trans hzZ
              refine hK.out _ _ (Rt.setRow_below (by first | exact hgM | omega) hHd4 _) (fun hHd5 => ?_)
              clear hK Kc
              try simp only [Act.put, List.setIfInBounds_toArray, List.set_cons_zero, List.set_cons_succ]
              refine wpAnyH_take (i := 16) (oi := { dst := some 12, op := Op.assign (Operand.tmp 47), type := _, pos := _, after := _, guard := none }) (v := .int .i64 E) rfl (by kernel_rfl) (by kernel_rfl) (by kernel_rfl) (fun _ _ _ h => h) (Or.inl ⟨by rfl, fun w hSw => by (try dsimp only at hSw); go_simp⟩) (by assumption) ?_
              simp only [Act.put, List.setIfInBounds_toArray, List.set_cons_zero, List.set_cons_succ]
              refine wpAnyH_done (by kernel_rfl) ?_ _
              go_wp2_with fail
              go_meet
              case rel => exact ⟨_, rfl, rfl, hHd5, by unfold TrAt; rw [HCN.out]; exact hzZ2⟩
            · go_simp
              have hgT := hHd1.size
              refine hK.out _ _ (hHd1.trans ((below_alloc _ _).mono hHd1.size)) (fun hHd2 => ?_)
              first | have hz := zero_of hHd2 | have hz := zero_of' hHd2
              try simp only [World.size_alloc] at hz
              try simp only [World.size_alloc] at hgT
              try (have hq := rkAt_later hq (below_alloc _ (.cells Try.zeroCells45 45)))
              clear hHd1
              clear hK K
              try simp only [Act.put, List.setIfInBounds_toArray, List.set_cons_zero, List.set_cons_succ]
              refine wpAnyH_ready (rs := [7]) (by kernel_rfl) (by simp) ?_
              refine AllReadyH.cons rfl (fun K hK => ?_) AllReadyH.nil
              go_simp
              refine (hnx _ hHd2).mono ?_
              rintro r w7 ⟨⟨a1, a2, a3, k1, k2, k3, rfl, -⟩, hb7⟩
              go_wp2_with fail
              try (have hz := hz.later hb7)
              try (have hq := rkAt_later hq hb7)
              refine hK.out _ _ (hHd2.trans (hb7.mono hHd2.size)) (fun hHd3 => ?_)
              clear hHd2 hb7
              clear hK K
              try simp only [Act.put, List.setIfInBounds_toArray, List.set_cons_zero, List.set_cons_succ]
              refine wpAnyH_take (i := 8) (oi := { dst := some 36, op := Op.move (Operand.tmp 44), type := _, pos := _, after := _, guard := none }) (v := .tuple #[.agg cn, .agg #[.int .i64 p.1, .slice a1 p.2.1.length k1, .slice a2 p.2.2.1.length k2, .slice a3 p.2.2.2.length k3], .int .i64 E]) rfl (by kernel_rfl) (by kernel_rfl) (by kernel_rfl) (fun _ _ _ h => h) (Or.inl ⟨by rfl, fun w hSw => by (try dsimp only at hSw); go_simp⟩) (by assumption) ?_
              simp only [Act.put, List.setIfInBounds_toArray, List.set_cons_zero, List.set_cons_succ]
              refine wpAnyH_take (i := 9) (oi := { dst := some 45, op := Op.extract (Operand.tmp 36) 0, type := _, pos := _, after := _, guard := none }) (v := .agg cn) rfl (by kernel_rfl) (by kernel_rfl) (by kernel_rfl) (fun _ _ _ h => h) (Or.inl ⟨by rfl, fun w hSw => by (try dsimp only at hSw); go_simp⟩) (by assumption) ?_
              simp only [Act.put, List.setIfInBounds_toArray, List.set_cons_zero, List.set_cons_succ]
              refine wpAnyH_take (i := 10) (oi := { dst := some 46, op := Op.extract (Operand.tmp 36) 1, type := _, pos := _, after := _, guard := none }) (v := .agg #[.int .i64 p.1, .slice a1 p.2.1.length k1, .slice a2 p.2.2.1.length k2, .slice a3 p.2.2.2.length k3]) rfl (by kernel_rfl) (by kernel_rfl) (by kernel_rfl) (fun _ _ _ h => h) (Or.inl ⟨by rfl, fun w hSw => by (try dsimp only at hSw); go_simp⟩) (by assumption) ?_
              simp only [Act.put, List.setIfInBounds_toArray, List.set_cons_zero, List.set_cons_succ]
              refine wpAnyH_take (i := 11) (oi := { dst := some 47, op := Op.extract (Operand.tmp 36) 2, type := _, pos := _, after := _, guard := none }) (v := .int .i64 E) rfl (by kernel_rfl) (by kernel_rfl) (by kernel_rfl) (fun _ _ _ h => h) (Or.inl ⟨by rfl, fun w hSw => by (try dsimp only at hSw); go_simp⟩) (by assumption) ?_
              simp only [Act.put, List.setIfInBounds_toArray, List.set_cons_zero, List.set_cons_succ]
              refine wpAnyH_ready (rs := [14]) (by kernel_rfl) (by simp) ?_
              refine AllReadyH.cons rfl (fun Kc hK => ?_) AllReadyH.nil
              refine if_wp rfl (wp_stRow0 45 _ _ rfl _ cn rfl rfl 45 _ hz (by rw [← HCN.out, tcs_size]; exact infoT) (by rw [← HCN.out, tcs_size, tcs_size]) (by rw [← HCN.out]; exact tcs_one n) rfl ?_)
              have hTM := block_ne hz hq (by decide)
              have hzZ := Rt.heap_setRow_same hz cn
              have hq2 := (Rt.row_other (Ne.symm hTM) cn).trans hq
              refine hK.out _ _ (Rt.setRow_below (by first | exact hgT | omega) hHd3 _) (fun hHd4 => ?_)
              clear hHd3
              clear hK Kc
              try simp only [Act.put, List.setIfInBounds_toArray, List.set_cons_zero, List.set_cons_succ]
              refine wpAnyH_ready (rs := [15]) (by kernel_rfl) (by simp) ?_
              refine AllReadyH.cons rfl (fun Kc hK => ?_) AllReadyH.nil
              refine if_wp rfl (wp_stRow0 57 _ _ rfl _ #[.int .i64 p.1, .slice a1 p.2.1.length k1, .slice a2 p.2.2.1.length k2, .slice a3 p.2.2.2.length k3] rfl rfl 57 _ hq2 infoRk rfl (rk_one _ _ _ _ _ _ _ _ _ _) rfl ?_)
              have hzZ2 := (Rt.row_other hTM #[.int .i64 p.1, .slice a1 p.2.1.length k1, .slice a2 p.2.2.1.length k2, .slice a3 p.2.2.2.length k3]).trans hzZ
              refine hK.out _ _ (Rt.setRow_below (by first | exact hgM | omega) hHd4 _) (fun hHd5 => ?_)
              clear hK Kc
              try simp only [Act.put, List.setIfInBounds_toArray, List.set_cons_zero, List.set_cons_succ]
              refine wpAnyH_take (i := 16) (oi := { dst := some 12, op := Op.assign (Operand.tmp 47), type := _, pos := _, after := _, guard := none }) (v := .int .i64 E) rfl (by kernel_rfl) (by kernel_rfl) (by kernel_rfl) (fun _ _ _ h => h) (Or.inl ⟨by rfl, fun w hSw => by (try dsimp only at hSw); go_simp⟩) (by assumption) ?_
              simp only [Act.put, List.setIfInBounds_toArray, List.set_cons_zero, List.set_cons_succ]
              refine wpAnyH_done (by kernel_rfl) ?_ _
              go_wp2_with fail
              go_meet
              case rel => exact ⟨_, rfl, rfl, hHd5, by unfold TrAt; rw [HCN.out]; exact hzZ2⟩
        case rest =>
          obtain ⟨T, rfl, rfl, hbc, hT⟩ := hcut
          have HS6 : Hid (SX wb wc (.slice (some ⟨g, 0, none⟩) NT cr) ts) := HS5.out.later hbc
          have HTT : Hid (TrAt wc T n) := hT
          clear hbc hT HS5 HTR hnx HBT
          by_cases hE0 : E = 0
          · have hd : (E == 0) = true := by simp [hE0]
            have en := HOK.out hE0
            have HRN : Hid (runM t0 (l.take (k + 1)) = (ts ++ [n], bs ++ [(L, J)])) := by unfold Hid; rw [HTK.out, HR1.out, if_pos hE0, en]
            clear hE0 en HOK
            have hrr : wc.ownsRow wb.heap.size 45 236 (.slice (some ⟨g, 0, none⟩) NT cr) NT (trl ts) := by have h := HS6.out.rr; rw [HNT.out] at h; exact h
            have hbs := HS6.out.bel.size
            have hTt := HTT.out
            have hc236 : cn.toList.length = 1 * 236 := by rw [Array.length_toList, ← HCN.out, tcs_size]
            have hc1 : ∀ u ∈ cn.toList, u.oneCell' = true := fun u hu => by
              have := tcs_one n
              rw [HCN.out, Array.all_eq_true'] at this
              exact this u (Array.mem_toList_iff.1 hu)
            go_upto_region 10 with (first
              | (refine rdT hTt HCN.out _ rfl rfl rfl ?_)
              | (refine bsT HCN.out rfl _ rfl rfl ?_)
              | (at_builtin; (refine wpList_append_own _ rfl _ _ 50 rfl wb.heap.size 45 it (.agg (tcs (tz 0))) 236 1888 Try.underlying50 hti htz hts htb (by show (tcs (tz 0)).size = 236; exact tcs_size _) (by decide) (.slice (some ⟨g, 0, none⟩) NT cr) NT (trl ts) rfl (hrr.alloc _) ⟨wc.heap.size, 0, none⟩ 1 1 cn.toList rfl hc236 (cell_row_new _ _ _) hc1 (by unfold maxLen; omega) (by omega) (by simp; omega) ?_); intro v1 w8 hown1 hg1 _; have HO1 : Hid (w8.ownsRow wb.heap.size 45 236 v1 (NT + 1) (trl ts ++ cn.toList)) := hown1; have HG1 : Hid ((wc.alloc (.cells cn 45)).grownBy w8 (Value.slice (some ⟨g, 0, none⟩) NT cr).ownBlock) := hg1; clear hown1 hg1))
            clear hTt HTT hc236 hc1
            have HSF : Hid (SX wb w8 v1 (ts ++ [n])) := by
              have ho1 : w8.ownsRow wb.heap.size 45 236 v1 (ts.length + 1) (trl ts ++ (tcs n).toList) := by
                rw [HNT.out, HCN.out]
                exact HO1.out
              exact SX.app (HS6.out.later (below_alloc wc (.cells cn 45))) ho1 HG1.out
            clear HO1 HG1 HS6 hrr
            go_wp2_with fail
            go_roundw
            case rel => exact ⟨k + 1, _, by omega, by go_num, rfl, by rw [HRN.out]; exact HSF.out⟩
            case measure => simp [intOf]; omega
          · have hd : (E == 0) = false := by simpa using hE0
            have HRN : Hid (runM t0 (l.take (k + 1)) = (ts, bs)) := by unfold Hid; rw [HTK.out, HR1.out, if_neg hE0]
            clear hE0
            go_wp2_with fail
            go_roundw
            case rel => exact ⟨k + 1, _, by omega, by go_num, rfl, by rw [HRN.out]; exact HS6.out⟩
            case measure => simp [intOf]; omega
    · obtain rfl : k = l.length := by omega
      have hdk : decide ((l.length : Int) < (l.length : Int)) = false := by simp
      rw [List.take_length] at HS HROW
      obtain ⟨st, hst⟩ : ∃ s, runM t0 l = s := ⟨_, rfl⟩
      rw [hst] at HS HROW
      obtain ⟨ts, bs⟩ := st
      dsimp only at HS HROW
      clear hst hb hti htz hts htb hk hkN hl
      obtain ⟨ar, cr, rfl⟩ := owns_slice HS.out.rr
      have hle := HROW.out.le
      have hlen := HROW.out.len
      obtain ⟨wR, hwR⟩ : ∃ W, W = wr := ⟨_, rfl⟩
      have HBR : Hid (Below w.heap.size w wR) := by rw [hwR]; exact Wi.Below.join HBW.out HS.out.bel
      have hrefl : Below wR.heap.size wR wr := by rw [hwR]; exact Below.refl _ _
      have HSR : Hid (SX wb wR (.slice ar ts.length cr) ts) := by rw [hwR]; exact HS.out
      clear HS HBW HTR HRD hwR
      have hgt : ∃ g, ar = some ⟨g, 0, none⟩ := by
        obtain ⟨g, e, _⟩ := (owns_rdR HSR.out.rr).tree (i := 0) (by omega) rfl
        exact ⟨g, e⟩
      obtain ⟨gt, rfl⟩ := hgt
      obtain ⟨NT, hNT⟩ : ∃ x, ts.length = x := ⟨_, rfl⟩
      have HTS : Hid (∀ (i : Nat), i < NT → ∀ W, Below wR.heap.size wR W → (Instr.loadAt 45 (.pointer (some ⟨gt, i * 236, none⟩))).run Try.prog W = .ok (.agg (tcs (ts.getD i (tz 0)))) W) := fun i hi W hW => by
        obtain ⟨g, e, h1, h2⟩ := ((owns_rdR HSR.out.rr).later hW).tree (i := i) (by omega) rfl
        simp at e
        subst e
        exact h1
      have HEP : Hid (∀ i, i < NT → (ts.getD i (tz 0)).ep = t0.ep + (i : Int)) := fun i hi => HROW.out.ep i (by omega)
      have HN2 : Hid (NT ≤ 201) := by unfold Hid; omega
      rw [hNT]
      clear HSR HROW hle hlen hNT
      go_wp2_with fail
      as_aux_lemma =>
        go_loopw [57] (fun i wx => ∃ j : Nat, j ≤ NT ∧ i = .int .i64 (j : Int) ∧ Below wR.heap.size wR wx) (fun i _ => NT - (intOf i).toNat)
        case atStart => exact ⟨0, by omega, rfl, hrefl⟩
        case round =>
          clear hrefl
          obtain ⟨j, hj, rfl, hbj⟩ := hrel
          have HBJ : Hid (Below wR.heap.size wR wr) := hbj
          clear hbj
          by_cases hjn : j < NT
          · have i1 : (0 : Int) ≤ (j : Int) := by omega
            have i2 : (j : Int) < (NT : Int) := by omega
            have n201 : (NT : Int) ≤ 201 := by have := HN2.out; omega
            have hld := HTS.out j hjn wr HBJ.out
            have hep := HEP.out j hjn
            obtain ⟨T, hT⟩ : ∃ T, ts.getD j (tz 0) = T := ⟨_, rfl⟩
            have HTJ : Hid (ts.getD j (tz 0) = T) := hT
            rw [hT] at hld hep
            have HEJ : Hid (T.ep = t0.ep + (j : Int)) := hep
            clear hep hT
            obtain ⟨cT, hcT⟩ : ∃ c, tcs T = c := ⟨_, rfl⟩
            have HCT : TC T cT := ⟨hcT⟩
            rw [hcT] at hld
            have hst := stand_r T x2
            rw [hcT] at hst
            clear hcT
            obtain ⟨m, hm⟩ : ∃ m, Mb.stM T x2 = m := ⟨_, rfl⟩
            have HM : Hid (Mb.stM T x2 = m) := hm
            rw [hm] at hst
            clear hm
            obtain ⟨cm, hcm⟩ : ∃ c, mba m = c := ⟨_, rfl⟩
            have HC : MC m cm := ⟨hcm⟩
            rw [hcm] at hst
            clear hcm
            obtain ⟨ce, hce⟩ : ∃ c, caE T x2 = c := ⟨_, rfl⟩
            have HCE : Hid (caE T x2 = ce) := hce
            rw [hce] at hst
            clear hce
            have hz := TrAt.zero wr
            have HB5 : Hid (Below wr.heap.size wr ((wr.alloc (.cells Try.zeroCells45 45)).setRow wr.heap.size cT)) := tz_later wr cT
            have hT5 := tz_new wr HCT.out
            go_upto_region 14 with (first | (refine rd_guard (v := .agg cT) rfl (ld_exec hld rfl rfl) ?_) | (refine stTc hz HCT.out rfl _ _ rfl rfl rfl ?_))
            clear hld hz
            generalize (wr.alloc (.cells Try.zeroCells45 45)).setRow wr.heap.size cT = w5 at *
            generalize hX : wr.heap.size = X at hT5 ⊢
            clear hX
            go_wp2_with (refine rdT hT5 HCT.out _ rfl rfl rfl ?_)
            refine (hst _).mono ?_
            rintro r w6 ⟨rfl, hb6⟩
            have hM7 := MA.new w6 m
            have hb7 := Wi.Below.join HB5.out (Wi.Below.join hb6 (below_alloc w6 (.cells (mba m) 27)))
            rw [HC.out] at hM7 hb7
            have HB7 : Hid (Below wR.heap.size wR (w6.alloc (.cells cm 27))) := Wi.Below.join HBJ.out hb7
            clear HBJ
            clear hb6 hb7 hT5 HB5 hst
            go_upto_region 15 with (refine stMn (w := w6) HC.out rfl _ _ rfl rfl rfl ?_)
            generalize w6.alloc (.cells cm 27) = w7 at *
            generalize w6.heap.size = A at *
            by_cases h0 : ce = 0
            rotate_left
            · have d0 : (ce != 0) = true := by simpa using h0
              clear h0 hM7
              go_wp2_with fail
              go_roundw
              case rel => exact ⟨j + 1, by omega, by go_num, HB7.out⟩
              case measure => simp [intOf]; omega
            subst h0
            obtain ⟨htk, s, hs, _, hkk, hwx, hsm⟩ := on_at HCE.out
            obtain rfl : m = atS T s 0 := HM.out.symm.trans hsm
            have HFA : Hid (tck T = true ∧ s < 64 ∧ tkn (T.ro s) = true) := ⟨htk, hs, hkk⟩
            have hse := fun W => seal_any (atS T s 0) tx1 W (by rw [tx1_sz]; decide)
            unfold SlA at hse
            have h1 := at_sl1 htk hs hkk (x := tx1) (by rw [tx1_sz]; decide)
            rw [h1.1, h1.2, HC.out] at hse
            have HGD : Hid (gD (T.ep, (kpr2 (T.ks 0), tx1)) = true) := at_good htk hs hkk (by rw [tx1_sz]; decide)
            clear htk hs hkk hwx hsm HM HCE h1
            unfold sdl tx1 at hse
            dsimp only at hse
            go_wp2_with (refine ldMb hM7 HC.out _ rfl rfl rfl ?_)
            refine (hse _).mono ?_
            rintro r w8 ⟨rfl, hb8⟩
            obtain ⟨d, hd⟩ : ∃ d : Sd, (T.ep, (kpr2 (T.ks 0), tx1)) = d := ⟨_, rfl⟩
            have HDD : Hid ((T.ep, (kpr2 (T.ks 0), tx1)) = d) := hd
            have hz : (#[.int .i64 T.ep, .int .i64 (kpr2 (T.ks 0)).1, .int .i64 (kpr2 (T.ks 0)).2, .string ⟨#[120]⟩] : Array Value) = (sdl d).toArray := by rw [← hd]; rfl
            have hb9 := Wi.Below.join hb8 (below_alloc w8 (.cells #[.int .i64 T.ep, .int .i64 (kpr2 (T.ks 0)).1, .int .i64 (kpr2 (T.ks 0)).2, .string ⟨#[120]⟩] 30))
            have hI9 : IN wR (w8.alloc (.cells #[.int .i64 T.ep, .int .i64 (kpr2 (T.ks 0)).1, .int .i64 (kpr2 (T.ks 0)).2, .string ⟨#[120]⟩] 30)) A w8.heap.size (atS T s 0) d := ⟨Wi.Below.join HB7.out hb9, hM7.later hb9, by rw [hz]; exact DAt.new w8 d⟩
            rw [hd] at HGD
            clear hb8 hb9 hM7 HB7 hse hd hz
            go_upto_region 17 with (fail)
            generalize w8.alloc (.cells #[.int .i64 T.ep, .int .i64 (kpr2 (T.ks 0)).1, .int .i64 (kpr2 (T.ks 0)).2, .string ⟨#[120]⟩] 30) = w9 at *
            generalize w8.heap.size = D at *
            have hop : ∀ m W, Calls Try.prog 10 #[.agg (mba m), .agg (sdl d).toArray] W fun r w' => r = Rv.OpA m d ∧ Below W.heap.size W w' := fun m W => open_any m d W (by rw [← HDD.out]; show tx1.size < _; rw [tx1_sz]; decide)
            have HOP : Hid _ := hop
            clear hop
            go_wp2_with fail
            as_aux_lemma =>
              go_loopw [79] (fun i wx => ∃ k : Nat, k ≤ NT ∧ i = .int .i64 (k : Int) ∧ IN wR wx A D (atS T s 0) d) (fun i _ => NT - (intOf i).toNat)
              case atStart => exact ⟨0, by omega, rfl, hI9⟩
              case round =>
                clear hI9
                obtain ⟨k, hk, rfl, hIk⟩ := hrel
                have HIK : Hid (IN wR wr A D (atS T s 0) d) := hIk
                clear hIk
                by_cases hkn : k < NT
                · have k1 : (0 : Int) ≤ (k : Int) := by omega
                  have k2 : (k : Int) < (NT : Int) := by omega
                  have hld := HTS.out k hkn wr HIK.out.bel
                  have hep := HEP.out k hkn
                  obtain ⟨Y, hY⟩ : ∃ Y, ts.getD k (tz 0) = Y := ⟨_, rfl⟩
                  have HYK : Hid (ts.getD k (tz 0) = Y) := hY
                  rw [hY] at hld hep
                  have HEK : Hid (Y.ep = t0.ep + (k : Int)) := hep
                  clear hep hY
                  obtain ⟨cY, hcY⟩ : ∃ c, tcs Y = c := ⟨_, rfl⟩
                  have HCY : TC Y cY := ⟨hcY⟩
                  rw [hcY] at hld
                  have hst := stand_r Y x2
                  rw [hcY] at hst
                  clear hcY
                  obtain ⟨m, hm⟩ : ∃ m, Mb.stM Y x2 = m := ⟨_, rfl⟩
                  have HM : Hid (Mb.stM Y x2 = m) := hm
                  rw [hm] at hst
                  clear hm
                  obtain ⟨cm, hcm⟩ : ∃ c, mba m = c := ⟨_, rfl⟩
                  have HC2 : MC m cm := ⟨hcm⟩
                  rw [hcm] at hst
                  clear hcm
                  obtain ⟨ce, hce⟩ : ∃ c, caE Y x2 = c := ⟨_, rfl⟩
                  have HCE : Hid (caE Y x2 = ce) := hce
                  rw [hce] at hst
                  clear hce
                  have hz := TrAt.zero wr
                  have HB5 : Hid (Below wr.heap.size wr ((wr.alloc (.cells Try.zeroCells45 45)).setRow wr.heap.size cY)) := tz_later wr cY
                  have hT5 := tz_new wr HCY.out
                  go_upto_region 22 with (first | (refine rd_guard (v := .agg cY) rfl (ld_exec hld rfl rfl) ?_) | (refine stTc hz HCY.out rfl _ _ rfl rfl rfl ?_))
                  clear hld hz
                  generalize (wr.alloc (.cells Try.zeroCells45 45)).setRow wr.heap.size cY = w5 at *
                  generalize hX : wr.heap.size = X at hT5 ⊢
                  clear hX
                  go_wp2_with (refine rdT hT5 HCY.out _ rfl rfl rfl ?_)
                  refine (hst _).mono ?_
                  rintro r w6 ⟨rfl, hb6⟩
                  have hM7 := MA.new w6 m
                  have hb7 := Wi.Below.join HB5.out (Wi.Below.join hb6 (below_alloc w6 (.cells (mba m) 27)))
                  rw [HC2.out] at hM7 hb7
                  have HI7 : Hid (IN wR (w6.alloc (.cells cm 27)) A D (atS T s 0) d) := HIK.out.later hb7
                  clear HIK
                  clear hb6 hb7 hT5 HB5 hst
                  go_upto_region 23 with (refine stMn (w := w6) HC2.out rfl _ _ rfl rfl rfl ?_)
                  generalize w6.alloc (.cells cm 27) = w7 at *
                  generalize w6.heap.size = A2 at *
                  by_cases h0 : ce = 0
                  rotate_left
                  · have d0 : (ce != 0) = true := by simpa using h0
                    clear h0 hM7
                    go_wp2_with fail
                    go_roundw
                    case rel => exact ⟨k + 1, by omega, by go_num, HI7.out⟩
                    case measure => simp [intOf]; omega
                  subst h0
                  obtain ⟨htk, s', hs, _, hkk, hwx, hsm⟩ := on_at HCE.out
                  obtain rfl : m = atS Y s' 0 := HM.out.symm.trans hsm
                  have hp := HOP.out (atS Y s' 0)
                  unfold Rv.OpA at hp
                  rw [HC2.out] at hp
                  clear hwx hsm HM HCE
                  rcases Nat.lt_trichotomy k j with hkj | hkj | hkj
                  · have h1 := at_ahead htk hs hkk HGD.out (by rw [← HDD.out]; show Y.ep < T.ep; rw [HEJ.out, HEK.out]; omega)
                    rw [h1.1, h1.2] at hp
                    have d1 : ((j : Int) == (k : Int)) = false := by simp; omega
                    have d2 : decide ((j : Int) < (k : Int)) = false := by simp; omega
                    have d3 : decide ((k : Int) < (j : Int)) = true := by simp; omega
                    have m1 : k ≤ j := by omega
                    have m2 : ¬ j < k := by omega
                    have m3 : ¬ j = k := by omega
                    have d4 : decide ((j : Int) = (k : Int)) = false := by simp; omega
                    have q1 : ((⟨#[]⟩ : ByteArray).toList == (⟨#[120]⟩ : ByteArray).toList) = false := q_ne
                    clear h1 htk hs hkk
                    have HD : Hid (w7.rangeAt D 0 (sdl d)) := HI7.out.sd.all
                    go_wp2_with (first | (refine ldMb hM7 HC2.out _ rfl rfl rfl ?_) | (refine ldM HD.out Try.underlying30 rfl Wi.szSd _ rfl rfl rfl ?_))
                    refine (hp _).mono ?_
                    rintro r w8 ⟨rfl, hb8⟩
                    have HI8 : Hid (IN wR w8 A D (atS T s 0) d) := HI7.out.later hb8
                    clear hp hb8 HI7 hM7 HD
                    go_wp2_with fail
                    go_roundw
                    case rel => exact ⟨k + 1, by omega, by go_num, HI8.out⟩
                    case measure => simp [intOf]; omega
                  · subst hkj
                    obtain rfl : T = Y := HTJ.out.symm.trans HYK.out
                    have h1 := at_op htk hs hkk (x := tx1) (by rw [tx1_sz]; decide)
                    rw [HDD.out] at h1
                    rw [h1.1, h1.2] at hp
                    unfold tx1 at hp
                    have d1 : ((k : Int) == (k : Int)) = true := by simp
                    have d2 : decide ((k : Int) < (k : Int)) = false := by simp
                    have d4 : decide ((k : Int) = (k : Int)) = true := by simp
                    have q1 : ((⟨#[120]⟩ : ByteArray).toList == (⟨#[120]⟩ : ByteArray).toList) = true := by simp
                    clear h1 htk hs hkk
                    have HD : Hid (w7.rangeAt D 0 (sdl d)) := HI7.out.sd.all
                    go_wp2_with (first | (refine ldMb hM7 HC2.out _ rfl rfl rfl ?_) | (refine ldM HD.out Try.underlying30 rfl Wi.szSd _ rfl rfl rfl ?_))
                    refine (hp _).mono ?_
                    rintro r w8 ⟨rfl, hb8⟩
                    have HI8 : Hid (IN wR w8 A D (atS T s 0) d) := HI7.out.later hb8
                    clear hp hb8 HI7 hM7 HD
                    go_wp2_with fail
                    go_roundw
                    case rel => exact ⟨k + 1, by omega, by go_num, HI8.out⟩
                    case measure => simp [intOf]; omega
                  · have h1 := at_old htk hs hkk HGD.out (by rw [← HDD.out]; show T.ep < Y.ep; rw [HEJ.out, HEK.out]; omega)
                    rw [h1.1, h1.2] at hp
                    have d1 : ((j : Int) == (k : Int)) = false := by simp; omega
                    have d2 : decide ((j : Int) < (k : Int)) = true := by simp; omega
                    have d3 : decide ((k : Int) < (j : Int)) = false := by simp; omega
                    have m1 : ¬ k ≤ j := by omega
                    have m2 : ¬ k < j := by omega
                    have m3 : ¬ j = k := by omega
                    have m4 : j ≤ k := by omega
                    have d4 : decide ((j : Int) = (k : Int)) = false := by simp; omega
                    have q1 : ((⟨#[]⟩ : ByteArray).toList == (⟨#[120]⟩ : ByteArray).toList) = false := q_ne
                    clear h1 htk hs hkk
                    have HD : Hid (w7.rangeAt D 0 (sdl d)) := HI7.out.sd.all
                    go_wp2_with (first | (refine ldMb hM7 HC2.out _ rfl rfl rfl ?_) | (refine ldM HD.out Try.underlying30 rfl Wi.szSd _ rfl rfl rfl ?_))
                    refine (hp _).mono ?_
                    rintro r w8 ⟨rfl, hb8⟩
                    have HI8 : Hid (IN wR w8 A D (atS T s 0) d) := HI7.out.later hb8
                    clear hp hb8 HI7 hM7 HD
                    go_wp2_with fail
                    go_roundw
                    case rel => exact ⟨k + 1, by omega, by go_num, HI8.out⟩
                    case measure => simp [intOf]; omega
                · obtain rfl : k = NT := by omega
                  have hdk2 : decide ((k : Int) < (k : Int)) = false := by simp
                  clear hkn hk
                  have HD : Hid (wr.rangeAt D 0 (sdl d)) := HIK.out.sd.all
                  have c0_ := HIK.out.mb.who
                  have c2_ := HIK.out.mb.ep
                  have h1 := HFA.out
                  have hs1 := atS_sat h1.1 h1.2.1 h1.2.2 (b := 0) (.inl rfl)
                  have hoo := out_op (w := (atS T s 0).who) (e := (atS T s 0).ep) hs1.who (Wi.gE_iff.2 hs1.ep) d
                  have hp := HOP.out (outM (atS T s 0).who (atS T s 0).ep)
                  unfold Rv.OpA at hp
                  rw [hoo.1, hoo.2, show mba (outM (atS T s 0).who (atS T s 0).ep) = #[.int .i64 (atS T s 0).who, .int .i64 0, .int .i64 (atS T s 0).ep, .int .i64 0, .int .i64 0, .int .i64 0, .int .i64 0, .int .i64 0, .int .i64 0, .int .i64 0, .int .i64 0, .bool false, .bool true, .int .i64 0] from rfl] at hp
                  have HB8 : Hid (Below wR.heap.size wR wr) := HIK.out.bel
                  clear h1 hs1 hoo HIK HOP HGD HDD
                  go_wp2_with (refine ldM HD.out Try.underlying30 rfl Wi.szSd _ rfl rfl rfl ?_)
                  refine (hp _).mono ?_
                  rintro r w9 ⟨rfl, hb9⟩
                  have HB9 : Hid (Below wR.heap.size wR w9) := Wi.Below.join HB8.out hb9
                  clear hp hb9 HB8 HD c0_ c2_
                  go_wp2_with fail
                  go_roundw
                  case rel => exact ⟨j + 1, by omega, by go_num, HB9.out⟩
                  case measure => simp [intOf]; omega
          · obtain rfl : j = NT := by omega
            have hdk : decide ((j : Int) < (j : Int)) = false := by simp
            clear hjn hj
            go_wp2_with fail
            go_ret
            exact ⟨rfl, Wi.Below.join HBR.out HBJ.out⟩
theorem own : ownKnob Try.prog.godebug = none := by kernel_rfl
theorem laidOut : laidOutB Try.prog = true := by kernel_rfl
set_option maxRecDepth 100000 in
theorem lifted (os : Os) (started : os.Started) (H : Type) (enc : TypeId × Value → H) :
    ReturnsInHanded {} Try.checked os 6 .any (Rows.dataApartSpec.pre6 enc Try.prog Try.f6 Rows.dataApartRow.domain false) (Rows.dataApartSpec.post enc Try.prog Try.f6 false true false false) := by
  refine returnsInHanded_of_change_sized (C := Try.checked) own started (by kernel_rfl) Try.func6
    (ChangeSpec.witness6 (enc := enc) (C := Try.checked) false ⟨#[], #[.agg (List.replicate 236 (Value.int .i64 0)).toArray, .slice none 0 0, .int .i64 0], []⟩ 8 (by kernel_rfl) (by kernel_rfl) (by kernel_rfl) (by kernel_rfl)) ?_
  intro W base args ds gs before hval0 hW hcnd hsz0 _
  have hsz : (DataW.weightsEach Try.prog (Try.f6.params.toList ++ Rows.dataApartSpec.plain.varTypes Try.prog) (ds ++ gs)).all (· ≤ reachBytes) = true := hsz0
  clear hsz0
  have hval : ∀ (j : Nat) t v, Try.f6.params[j]? = some t → args[j]? = some v → Value.okWide Try.prog W .any base t v := hval0
  have hW' := hW
  obtain ⟨p, q, hA0, hV, rfl, hfz, hnd⟩ := hW
  have hA : DataW.TrodAll enc Try.prog W 0 (fun _ => true) true Try.f6.params.toList args.toList ds p := hA0
  rw [Try.params6] at hA hval hsz
  obtain ⟨v0, vs0, d0, ds0, p0, q0, hargs, rfl, rfl, h0, r0⟩ := trodAll_cons hA
  obtain ⟨v1, vs1, d1, ds1, p1, q1, rfl, rfl, rfl, h1, r1⟩ := trodAll_cons r0
  obtain ⟨v2, vs2, d2, ds2, p2, q2, rfl, rfl, rfl, h2, r2⟩ := trodAll_cons r1
  obtain ⟨rfl, rfl, rfl⟩ := trodAll_nil r2
  obtain rfl : args = #[v0, v1, v2] := by cases args; simp_all
  obtain ⟨rfl, rfl⟩ := trodVars_none hV
  have k0 := h0
  have lt0 : ∀ x ∈ p0, x.block < W.heap.size := by obtain ⟨m, hm⟩ := k0; exact DataW.trod_lt m _ _ _ hm
  obtain ⟨f0, rfl⟩ := open_tr (hval 0 45 v0 rfl rfl) h0
  have k1 := h1
  have lt1 : ∀ x ∈ p1, x.block < W.heap.size := by obtain ⟨m, hm⟩ := k1; exact DataW.trod_lt m _ _ _ hm
  obtain ⟨a1, c1, l1, rfl, rd1, hl1, hn1⟩ := bts_of1 (fun es sp e => by subst e; exact ⟨by have h := sized_slice hsz (j := 1) (t := 49) (e := 53) rfl rfl Try.underlying49; rw [bytesBt] at h; exact h, fun parts hm => sized_elems hsz (j := 1) (t := 49) (e := 53) rfl rfl Try.underlying49 Try.underlying53 hm⟩) (okWide_slice Try.underlying49 (hval 1 49 v1 rfl rfl)) h1
  obtain ⟨a2, rfl, rfl, rfl, w2⟩ := open_int Try.underlying3 (hval 2 3 v2 rfl rfl) h2
  clear hA0 hval0
  refine (walk f0 a1 c1 l1 a2 W rd1 hl1 hn1 w2).mono fun e W' ⟨he, bel⟩ => ?_
  subst he
  exact ⟨_, rfl, _, _, _, [], _, [], hW', trodAll_mk1 (shut_bool Try.underlying4 _), (trodAll_cons_mk (Below.trod laidOut (by kernel_rfl) (of_decide_eq_true (by kernel_rfl)) k0 bel lt0) (trodAll_cons_mk (Below.trod laidOut (by kernel_rfl) (of_decide_eq_true (by kernel_rfl)) k1 bel lt1) (trodAll_cons_mk (shut_int Try.underlying3 w2) trodAll_mk0))), rfl, bel.frame _, fun h => by cases h⟩
theorem over : Rows.dataApartRow.holds Try.pinned (OpenSpec.ofChange Rows.dataApartSpec) :=
  OpenClaim.holds_of_wide 6 Try.f6 rfl rfl rfl rfl rfl rfl rfl ⟨rfl, rfl, rfl, rfl, rfl⟩ rfl rfl rfl rfl rfl (by kernel_rfl) Try.func6 (by kernel_rfl)
    (of_decide_eq_true (by kernel_rfl)) (by unfold Func.isWrapper; first | (rw [if_pos (by decide +kernel)]; kernel_rfl) | (rw [if_neg (by decide +kernel)]; exact ⟨rfl, rfl⟩))
    (fun os started H enc _ => lifted os started H enc)
end Go.Proofs.Ytpimbpfefhkojaa.dataApart
namespace Go.Proofs.Ytpimbpfefhkojaa
theorem dataApart_holds : Rows.DataApartSaid := dataApart.over
#print axioms dataApart_holds
end Go.Proofs.Ytpimbpfefhkojaa
