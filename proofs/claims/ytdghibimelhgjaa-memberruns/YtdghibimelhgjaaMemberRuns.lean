/- For every tree, every script of batches and every row of picks: the messages of the steps, in any order, bring each device that was on at the beginning on by those that are next alone. No conditions. -/
import Derived.Test.YtdghibimelhgjaaRows
import Derived.Test.YtdghibimelhgjaaMbJ5
import Derived.Test.YtdghibimelhgjaaMbRa
import Derived.Test.YtdghibimelhgjaaOpenBtm
import Derived.Test.YtdghibimelhgjaaOpJ2
import Derived.Test.YtdghibimelhgjaaRsJ2
import Derived.BigQuiet
import Derived.OpenShut
import Derived.SizedLaws
import Derived.ChangeMaps5
namespace Go.Proofs.Ytdghibimelhgjaa.memberRuns
open Go.ChangeShapes Go.WideShapes Go.ChangeAt Go.RowKit Go.Maps
open Go.Proofs.Ytdghibimelhgjaa.Mb
open Rt (Ky KyAt)
open Rs (tkn En zE rcs fnd RdI RdS ps evl open_sl bytesI own_other own_ge owns_later owns_slice below_grown)
open Wi (ldM ra_of stl)
set_option linter.unusedVariables false
set_option linter.unusedSimpArgs false
structure TC (t : Tr) (c : Array Value) : Prop where
 out : tcs t = c
structure MC (m : Mb) (c : Array Value) : Prop where
 out : mba m = c
theorem mod_of (n m : Int) (hm0 : 0 < m) (hm1 : m ≤ 140737488351232) : ∃ v : Nat, wrap64 ((IntKind.u64.wrap n).tmod m) = (v : Int) ∧ (v : Int) < m := by
 have h0 : 0 ≤ IntKind.u64.wrap n := by simp only [IntKind.wrap_u64]; omega
 have h1 : 0 ≤ IntKind.u64.wrap n % m := Int.emod_nonneg _ (by omega)
 have h2 : IntKind.u64.wrap n % m < m := Int.emod_lt_of_pos _ hm0
 refine ⟨(IntKind.u64.wrap n % m).toNat, ?_, by omega⟩
 rw [Int.tmod_eq_emod_of_nonneg h0]
 have h3 : wrap64 (IntKind.u64.wrap n % m) = IntKind.u64.wrap n % m := by unfold wrap64; omega
 rw [h3]
 omega
theorem mb_of {n : Nat} {w X : World} (h : Below n w (X.alloc (.cells (mba zMb) 49))) : MA (X.alloc (.cells (mba zMb) 49)) X.heap.size zMb := heap_alloc_last X _
theorem mb_of2 {n : Nat} {w X : World} (h : Below n w (X.alloc (.cells #[.int .i64 0, .int .i64 0, .int .i64 0, .int .i64 0, .int .i64 0, .int .i64 0, .int .i64 0, .int .i64 0, .int .i64 0, .int .i64 0, .int .i64 0, .bool false, .bool false, .int .i64 0] 49))) : MA (X.alloc (.cells #[.int .i64 0, .int .i64 0, .int .i64 0, .int .i64 0, .int .i64 0, .int .i64 0, .int .i64 0, .int .i64 0, .int .i64 0, .int .i64 0, .int .i64 0, .bool false, .bool false, .int .i64 0] 49)) X.heap.size zMb := heap_alloc_last X _
theorem rk_at {w : World} {o : Oper} {a : Act} {g i : Nat} {r : Rk} {a1 a2 a3 : Option Addr} {k1 k2 k3 : Nat} (h : w.rangeAt g (i * 4) (rka r a1 a2 a3 k1 k2 k3).toList) {x : Operand} (ho : o.op = .load 42 x) (hx : a.eval x = .pointer (some ⟨g, i * 4, none⟩)) :
  (execOp a.eval o).run Try.prog w = .ok (.value (.agg (rka r a1 a2 a3 k1 k2 k3))) w := by
 have h2 := run_loadAt_mid w g (i * 4) 42 (rka r a1 a2 a3 k1 k2 k3).toList _ h Try.underlying42 rfl Wi.szRk
 simp [execOp, ho, hx, h2, Sem.run_bind, Result.andThen]
theorem rk_at2 {w : World} {o : Oper} {a : Act} {g i : Nat} {r : Rk} {a1 a2 a3 : Option Addr} {k1 k2 k3 : Nat} {cr : Array Value} (hc : rka r a1 a2 a3 k1 k2 k3 = cr) (h : w.rangeAt g (i * 4) (rka r a1 a2 a3 k1 k2 k3).toList) {x : Operand} (ho : o.op = .load 42 x) (hx : a.eval x = .pointer (some ⟨g, i * 4, none⟩)) :
  (execOp a.eval o).run Try.prog w = .ok (.value (.agg cr)) w := by
 subst hc
 exact rk_at h ho hx
theorem ld_exec2 {w : World} {o : Oper} {a : Act} {T : TypeId} {g k : Nat} {c d : Array Value} (hc : c = d) (h : (Instr.loadAt T (.pointer (some ⟨g, k, none⟩))).run Try.prog w = .ok (.agg c) w) {x : Operand} (ho : o.op = .load T x) (hx : a.eval x = .pointer (some ⟨g, k, none⟩)) :
  (execOp a.eval o).run Try.prog w = .ok (.value (.agg d)) w := by
 subst hc
 exact ld_exec h ho hx
theorem neM_exec {o : Oper} {a : Act} {w : World} {m n : Mb} {cm cn : Array Value} (h1 : mba m = cm) (h2 : mba n = cn) {b : Bool} (hb : mE m n = b) {x y : Operand} (ho : o.op = .binOp .neq 49 x y 49)
  (hx : a.eval x = .agg cm) (hy : a.eval y = .agg cn) : (execOp a.eval o).run Try.prog w = .ok (.value (.bool (!b))) w := by
 subst h1 h2 hb
 have h3 := run_eqGuard_agg (P := Try.prog) w .neq 49 x y (mba m) (mba n) Try.eqGuardType49
 have h4 := run_neq_struct (P := Try.prog) w 49 (mba m) (mba n)
 rw [run_eqM] at h4
 simp [execOp, ho, hx, hy, h3, h4, Sem.run_bind, Result.andThen]
theorem out_prep {t0 : Tr} {ts : List Tr} {s i NM NT gt M : Nat} {wh : Int} {wR w3 : World} (hwh : (t0.ro s).who = wh) (hin : i < NM) (hnt : NM + 1 = NT) (hnm : NM ≤ 200)
  (hts : ∀ (i : Nat), i ≤ NM → ∀ W, Below wR.heap.size wR W → (Instr.loadAt 31 (.pointer (some ⟨gt, i * 236, none⟩))).run Try.prog W = .ok (.agg (tcs (ts.getD i (tz 0)))) W ∧ (Instr.loadAt 29 (.pointer (some ⟨gt, i * 236 + 44, none⟩))).run Try.prog W = .ok (.agg (rcs (ts.getD i (tz 0)).ro)) W)
  (hhf : fnd (ts.getD (i + 1) (tz 0)).ro (t0.ro s).who = -1) (hM3 : MA w3 M (outM (t0.ro s).who ((ts.getD i (tz 0)).ep + 1))) :
  ∃ (mo : Mb) (q1 : Nat) (cro : Array Value), mo.who = wh ∧ mo.out = true ∧ MA w3 M mo ∧ IntKind.i64.wrap ((i : Int) + 1) = (q1 : Int) ∧ (0 : Int) ≤ (q1 : Int) ∧ (q1 : Int) < (NT : Int) ∧
   (∀ W, Below wR.heap.size wR W → (Instr.loadAt 29 (.pointer (some ⟨gt, q1 * 236 + 44, none⟩))).run Try.prog W = .ok (.agg cro) W) ∧
   (∀ W, Calls Try.prog 8 #[.agg cro, .int .i64 wh] W fun r w' => r = .returned (.int .i64 (-1)) ∧ Below W.heap.size W w') ∧ ((-1 : Int) == (s : Int)) = false := by
 refine ⟨_, i + 1, rcs (ts.getD (i + 1) (tz 0)).ro, hwh, rfl, hM3, ?_, by omega, by omega, fun W hW => (hts (i + 1) (by omega) W hW).2, ?_, beq_eq_false_iff_ne.2 (by omega)⟩
 ·rw [show ((i + 1 : Nat) : Int) = (i : Int) + 1 from rfl]
  exact Rs.i64_fit _ (by omega) (by omega)
 ·intro W
  have h := Rs.rFind_any (ts.getD (i + 1) (tz 0)).ro wh W
  rw [← hwh, hhf, hwh] at h
  exact h
structure EA (a b : Array Value) : Prop where
 out : a = b
set_option maxHeartbeats 16000000 in
set_option maxRecDepth 100000 in
theorem walk (t0 : Tr) (a : Option Addr) (c : Nat) (l : List (List Int × List Int)) (ap : Option Addr) (cp : Nat) (lp : List Int) (w : World) (rd1 : Mb.RdB w a l) (hl1 : l.length * 48 ≤ 140737488351232) (hn1 : ∀ i, i < l.length → (l.getD i ([], [])).1.length * 8 ≤ 140737488351232 ∧ (l.getD i ([], [])).2.length * 8 ≤ 140737488351232) (rd2 : RdI w ap lp) (hl2 : lp.length * 8 ≤ 140737488351232) :
  Calls Try.prog 3 #[.agg (tcs t0), .slice a l.length c, .slice ap lp.length cp] w fun e w' => e = .returned (.bool true) ∧ Below w.heap.size w w' := by
 obtain ⟨it, hti, htz, hts, htb⟩ := info_tree
 obtain ⟨ik, hki, hkz, hks, hkb⟩ := info_rk
 have hb : ∀ i, i < l.length → (l.getD i ([], [])).1.length ≤ 17592186044416 ∧ (l.getD i ([], [])).2.length ≤ 17592186044416 := fun i hi => by have := hn1 i hi; omega
 have hl : l.length ≤ 17592186044416 := by omega
 have hTN := TrAt.new w t0
 have hTB := alloc_tr w t0
 obtain ⟨c0, hc0⟩ : ∃ c, tcs t0 = c := ⟨_, rfl⟩
 have HC0 : TC t0 c0 := ⟨hc0⟩
 rw [hc0] at hTN hTB
 rw [hc0]
 clear hc0
 obtain ⟨nP, hnP⟩ : ∃ n, lp.length = n := ⟨_, rfl⟩
 have HNP : Hid (lp.length = nP) := hnP
 have HN2 : Hid (nP ≤ 17592186044416) := by unfold Hid; omega
 rw [hnP]
 clear hn1 hl1 hl2 hnP
 go_enter Try.func3, Try.ntmps3
 go_upto_region 1 with (fail)
 generalize w.alloc (.cells c0 31) = w1 at *
 obtain ⟨B, hB⟩ : ∃ B, w.heap.size = B := ⟨_, rfl⟩
 rw [hB] at hTN ⊢
 clear hB
 go_wp2_with fail
 refine (lives_any _).mono ?_
 rintro e wb ⟨rfl, hb1⟩
 have HTR : Hid (TrAt wb B t0) := hTN.later hb1
 have HBW : Hid (Below w.heap.size w wb) := Wi.Below.join hTB hb1
 have HRD : Hid (Mb.RdB wb a l) := rd1.later HBW.out
 have HRP : Hid (RdI wb ap lp) := rd2.later HBW.out
 clear hTN hTB hb1 rd1 rd2
 have HS0 : Hid (SS wb (wb.alloc (.cells c0 31)) (.slice (some ⟨wb.heap.size, 0, none⟩) 1 1) (.slice none 0 0) (runM t0 (l.take 0)).1 (runM t0 (l.take 0)).2 []) := by
  refine ⟨below_alloc _ _, ⟨by show (trl [t0]).length = 1 * 236; rw [trl_len]; rfl, .inr ⟨wb.heap.size, 1, c0, rfl, Nat.le_refl _, heap_alloc_last _ _, Nat.le_refl _, by unfold maxLen; omega, by rw [← HC0.out, tcs_size], ?_⟩⟩, World.ownsRow_nil _ _ _ _, fun i hi => (by cases hi), rfl⟩
  show List.take (1 * 236) c0.toList = trl [t0]
  rw [← HC0.out, List.take_of_length_le (by rw [Array.length_toList, tcs_size]; decide)]
  simp [trl]
 go_wp2_with (first | (refine rdT HTR.out HC0.out _ rfl rfl rfl ?_) | (refine bsT HC0.out rfl _ rfl rfl ?_))
 go_loopw [7, 8, 31] (fun x y i wx => ∃ (k : Nat) (vr vs : Value) (ms : List (Array Value)), k ≤ l.length ∧ i = .int .i64 (k : Int) ∧ vr = x ∧ vs = y ∧ SS wb wx vr vs (runM t0 (l.take k)).1 (runM t0 (l.take k)).2 ms) (fun _ _ i _ => l.length - (intOf i).toNat)
 case atStart => exact ⟨0, _, _, [], by omega, rfl, rfl, rfl, HS0.out⟩
 case round =>
  obtain ⟨k, vr, vs, ms, hk, rfl, rfl, rfl, hss⟩ := hrel
  have HS : Hid (SS wb wr vr vs (runM t0 (l.take k)).1 (runM t0 (l.take k)).2 ms) := hss
  have HROW : Hid (RowM t0 (runM t0 (l.take k)).1 (runM t0 (l.take k)).2) := runM_row t0 _
  clear hss HS0
  by_cases hkN : k < l.length
  ·as_aux_lemma =>
    have i1 : (0 : Int) ≤ (k : Int) := by omega
    have i2 : (k : Int) < (l.length : Int) := by omega
    obtain ⟨b0, o0, aL, cL, aJ, cJ, hal, hc0, hc1, rL, rJ⟩ := (HRD.out.later HS.out.bel) k hkN
    obtain ⟨hbL, hbJ⟩ := hb k hkN
    have HTK : Hid (runM t0 (l.take (k + 1)) = run1 (runM t0 (l.take k)) (l.getD k ([], []))) := by
     unfold Hid
     rw [← runM_snoc, List.take_add_one, List.getD_eq_getElem?_getD, List.getElem?_eq_getElem hkN]
     rfl
    obtain ⟨q, hq⟩ : ∃ q, l.getD k ([], []) = q := ⟨_, rfl⟩
    rw [hq] at hc0 hc1 rL rJ hbL hbJ HTK
    obtain ⟨L, J⟩ := q
    dsimp only at hc0 hc1 rL rJ hbL hbJ
    obtain ⟨st, hst⟩ : ∃ s, runM t0 (l.take k) = s := ⟨_, rfl⟩
    rw [hst] at HTK HS HROW
    obtain ⟨ts, bs⟩ := st
    dsimp only at HS HROW
    clear hq hst
    subst hal
    have hlen := HROW.out.len
    have hle := HROW.out.le
    obtain ⟨m, hm⟩ : ∃ m, m + 1 = ts.length := ⟨ts.length - 1, by omega⟩
    obtain ⟨t, ht⟩ : ∃ t, lastT ts = t := ⟨_, rfl⟩
    have ht2 : ts.getD m (tz 0) = t := by rw [← ht]; unfold lastT; rw [← hm]; rfl
    have HR1 : Hid (run1 (ts, bs) (L, J) = if plE t L J = 0 then (ts ++ [nx t L J], bs ++ [(L, J)]) else (ts, bs)) := by
     unfold Hid run1
     dsimp only
     rw [ht]
    have HLT : Hid (lastT ts = t) := ht
    obtain ⟨ar, cr, rfl⟩ := owns_slice HS.out.rr
    obtain ⟨ax, cs, rfl⟩ := owns_slice HS.out.rs
    have HS5 : Hid (SS wb (wr.alloc (.cells #[.slice aL L.length cL, .slice aJ J.length cJ] 38)) (.slice ar ts.length cr) (.slice ax ms.length cs) ts bs ms) := HS.out.later (below_alloc _ _)
    have hBT : BtAt (wr.alloc (.cells #[.slice aL L.length cL, .slice aJ J.length cJ] 38)) wr.heap.size aL aJ L.length J.length cL cJ := heap_alloc_last wr _
    have rL5 := rL.later (below_alloc wr (.cells #[.slice aL L.length cL, .slice aJ J.length cJ] 38))
    have rJ5 := rJ.later (below_alloc wr (.cells #[.slice aL L.length cL, .slice aJ J.length cJ] 38))
    clear HS rL rJ
    go_upto_region 8 with (fail)
    clear hc0 hc1
    generalize wr.alloc (.cells #[.slice aL L.length cL, .slice aJ J.length cJ] 38) = w5 at *
    generalize wr.heap.size = C at *
    have HBT : Hid (BtAt w5 C aL aJ L.length J.length cL cJ) := hBT
    have hrd := owns_rdR HS5.out.rr
    obtain ⟨g, eg, -, -⟩ := hrd.tree (i := m) (by omega) ht2
    have HTR : Hid (∀ W, Below w5.heap.size w5 W → (Instr.loadAt 31 (.pointer (some ⟨g, m * 236, none⟩))).run Try.prog W = .ok (.agg (tcs t)) W) := fun W hW => by
     obtain ⟨b', e', h2, -⟩ := (hrd.later hW).tree (i := m) (by omega) ht2
     rw [eg] at e'
     simp at e'
     subst e'
     exact h2
    have hnx := fun W (hW : Below w5.heap.size w5 W) => rNext_any t aL aJ cL cJ L J W (by omega) (by omega) (rL5.later hW) (rJ5.later hW)
    have HN3 : Hid ((pnI t L J).length ≤ 4096) := pnI_short t L J
    have HOK : Hid (plE t L J = 0 → pnT t L J = nx t L J ∧ (pnP t L J, (pnL t L J, (pnJ t L J, pnI t L J))) = mS t (L, J)) := fun h => by
     refine ⟨?_, ?_⟩
     ·unfold pnT; rw [if_pos h]
     ·unfold pnP pnL pnJ pnI mS; rw [if_pos h, if_pos h, if_pos h, if_pos h]
    obtain ⟨n, hn⟩ : ∃ n, pnT t L J = n := ⟨_, rfl⟩
    obtain ⟨lv, hn1⟩ : ∃ n, pnL t L J = n := ⟨_, rfl⟩
    obtain ⟨jn, hn2⟩ : ∃ n, pnJ t L J = n := ⟨_, rfl⟩
    obtain ⟨li, hli⟩ : ∃ n, pnI t L J = n := ⟨_, rfl⟩
    obtain ⟨E, hE⟩ : ∃ n, plE t L J = n := ⟨_, rfl⟩
    obtain ⟨p, hp⟩ : ∃ n, pnP t L J = n := ⟨_, rfl⟩
    obtain ⟨cn, hcn⟩ : ∃ c, tcs n = c := ⟨_, rfl⟩
    have HCN : TC n cn := ⟨hcn⟩
    have HEQ : Hid (pnT t L J = n ∧ pnL t L J = lv ∧ pnJ t L J = jn ∧ pnI t L J = li ∧ plE t L J = E ∧ pnP t L J = p) := ⟨hn, hn1, hn2, hli, hE, hp⟩
    rw [hli] at HN3
    rw [hli, hn, hE, hn1, hn2, hp] at HOK
    rw [hE] at HR1
    obtain ⟨ct, hct⟩ : ∃ c, tcs t = c := ⟨_, rfl⟩
    have HCT : TC t ct := ⟨hct⟩
    rw [hct] at HTR
    rw [hct] at hnx
    subst eg
    obtain ⟨NT, hNT⟩ : ∃ x, ts.length = x := ⟨_, rfl⟩
    have HNT : Hid (ts.length = NT) := hNT
    obtain ⟨NL, hNL⟩ : ∃ x, L.length = x := ⟨_, rfl⟩
    obtain ⟨NJ, hNJ⟩ : ∃ x, J.length = x := ⟨_, rfl⟩
    rw [hNL, hNJ] at HBT hnx
    rw [hNT] at hm hle HS5 ⊢
    have hw1 : IntKind.i64.wrap ((NT : Int) - 1) = (m : Int) := by rw [show (NT : Int) - 1 = (m : Int) by omega]; exact Rs.i64_fit _ (by omega) (by omega)
    have m1 : (0 : Int) ≤ (m : Int) := by omega
    have m2 : (m : Int) < (NT : Int) := by omega
    have HMN : Hid (m + 1 = NT) := hm
    clear hn hn1 hn2 hli hE hp hcn hct ht ht2 hrd hBT hNT hNL hNJ hm hlen rL5 rJ5 hbL hbJ
    go_cut [11, 12, 13] (fun s11 s12 s13 wx => ∃ T M a1 k1 a2 k2 a3 k3, s11 = .pointer (some ⟨T, 0, none⟩) ∧ s12 = .pointer (some ⟨M, 0, none⟩) ∧ s13 = .int .i64 E ∧ Below w5.heap.size w5 wx ∧ TrAt wx T n ∧ RkAt wx M #[.int .i64 p, .slice a1 lv.length k1, .slice a2 jn.length k2, .slice a3 li.length k3] ∧ R3 wb.heap.size wx a1 k1 a2 k2 a3 k3 lv jn li)
    case first =>
     have hS0 : Below w5.heap.size w5 w5.drew := drew_below _
     have HW5 : Hid (wb.heap.size ≤ w5.heap.size) := HS5.out.bel.size
     refine wp_region_held_drew (S := fun X => Below w5.heap.size w5 X) (by kernel_rfl) hS0 (fun hHeld => ?_)
     refine wpAnyH_take (i := 0) (oi := ⟨some 36, Op.move (.tmp 7), _, _, _, none⟩) (v := .slice (some ⟨g, 0, none⟩) NT cr) rfl (by kernel_rfl) (by kernel_rfl) (by kernel_rfl) (fun _ _ _ h => h) (Or.inl ⟨by rfl, fun w hSw => by (try dsimp only at hSw); go_simp⟩) (by assumption) ?_
     simp only [Act.put, List.setIfInBounds_toArray, List.set_cons_zero, List.set_cons_succ]
     refine wpAnyH_take (i := 1) (oi := ⟨some 37, Op.move (.tmp 7), _, _, _, none⟩) (v := .slice (some ⟨g, 0, none⟩) NT cr) rfl (by kernel_rfl) (by kernel_rfl) (by kernel_rfl) (fun _ _ _ h => h) (Or.inl ⟨by rfl, fun w hSw => by (try dsimp only at hSw); go_simp⟩) (by assumption) ?_
     simp only [Act.put, List.setIfInBounds_toArray, List.set_cons_zero, List.set_cons_succ]
     refine wpAnyH_take (i := 2) (oi := ⟨some 38, Op.call { callee := Callee.builtin Builtin.len, args := #[(.tmp 37)], argTypes := #[35] }, _, _, _, none⟩) (v := .int .i64 (NT : Int)) rfl (by kernel_rfl) (by kernel_rfl) (by kernel_rfl) (fun _ _ _ h => h) (Or.inl ⟨by rfl, fun w hSw => by (try dsimp only at hSw); go_simp⟩) (by assumption) ?_
     simp only [Act.put, List.setIfInBounds_toArray, List.set_cons_zero, List.set_cons_succ]
     refine wpAnyH_take (i := 3) (oi := ⟨some 39, Op.binOp BinOp.sub 3 (.tmp 38) (Operand.const (Value.int IntKind.i64 1)) 3, _, _, _, none⟩) (v := .int .i64 (m : Int)) rfl (by kernel_rfl) (by kernel_rfl) (by kernel_rfl) (fun _ _ _ h => h) (Or.inl ⟨by rfl, fun w hSw => by (try dsimp only at hSw); go_simp⟩) (by assumption) ?_
     simp only [Act.put, List.setIfInBounds_toArray, List.set_cons_zero, List.set_cons_succ]
     refine wpAnyH_take (i := 4) (oi := ⟨some 40, Op.indexAddr 35 (.tmp 36) (.tmp 39), _, _, _, none⟩) (v := .pointer (some ⟨g, m * 236, none⟩)) rfl (by kernel_rfl) (by kernel_rfl) (by kernel_rfl) (fun _ _ _ h => h) (Or.inl ⟨by rfl, fun w hSw => by (try dsimp only at hSw); go_simp⟩) (by assumption) ?_
     simp only [Act.put, List.setIfInBounds_toArray, List.set_cons_zero, List.set_cons_succ]
     refine wpAnyH_take (i := 5) (oi := ⟨some 41, Op.load 31 (.tmp 40), _, _, _, none⟩) (v := .agg ct) rfl (by kernel_rfl) (by kernel_rfl) (by kernel_rfl) (fun _ _ _ h => h) (Or.inl ⟨by rfl, fun w hSw => ld_exec (HTR.out _ hSw) rfl rfl⟩) (by assumption) ?_
     simp only [Act.put, List.setIfInBounds_toArray, List.set_cons_zero, List.set_cons_succ]
     refine wpAnyH_take (i := 6) (oi := ⟨some 42, Op.load 38 (.tmp 10), _, _, _, none⟩) (v := .agg #[.slice aL NL cL, .slice aJ NJ cJ]) rfl (by kernel_rfl) (by kernel_rfl) (by kernel_rfl) (fun _ _ _ h => h) (Or.inl ⟨by rfl, fun w hSw => by obtain ⟨x0, x1⟩ := (HBT.out.later hSw).cells; clear hSw; go_simp⟩) (by assumption) ?_
     simp only [Act.put, List.setIfInBounds_toArray, List.set_cons_zero, List.set_cons_succ]
     refine wpAnyH_ready (rs := [7, 12, 13]) (by kernel_rfl) (by simp) ?_
     refine (AllReadyH.cons rfl (fun K hK => ?_) (AllReadyH.cons rfl (fun K hK => ?_) (AllReadyH.cons rfl (fun K hK => ?_) AllReadyH.nil)))
     ·go_simp
      have hle7 := hHeld.size
      refine (hnx _ hHeld).mono ?_
      rintro r w7 ⟨⟨vl, vj, vi, rfl, hl1, hl2, hl3, -⟩, hb7⟩
      rw [HEQ.out.2.1] at hl1
      rw [HEQ.out.2.2.1] at hl2
      rw [HEQ.out.2.2.2.1] at hl3
      rw [HEQ.out.1, HEQ.out.2.2.2.2.1, HEQ.out.2.2.2.2.2, HCN.out]
      obtain ⟨a1, k1, rfl⟩ := owns_slice hl1
      obtain ⟨a2, k2, rfl⟩ := owns_slice hl2
      obtain ⟨a3, k3, rfl⟩ := owns_slice hl3
      go_wp2_with fail
      have hrow : R3 wb.heap.size w7 a1 k1 a2 k2 a3 k3 lv jn li := ⟨Rs.owns_wide hl1 (Nat.le_trans HW5.out hle7), Rs.owns_wide hl2 (Nat.le_trans HW5.out hle7), Rs.owns_wide hl3 (Nat.le_trans HW5.out hle7)⟩
      try (have hz := hz.later hb7)
      try (have hq := rkAt_later hq hb7)
      refine hK.out _ _ (hHeld.trans (hb7.mono hHeld.size)) (fun hHd1 => ?_)
      clear hHeld hb7 hl1 hl2 hl3 hle7
      clear hK K
      try simp only [Act.put, List.setIfInBounds_toArray, List.set_cons_zero, List.set_cons_succ]
      refine wpAnyH_take (i := 8) (oi := ⟨some 35, Op.move (.tmp 43), _, _, _, none⟩) (v := .tuple #[.agg cn, .agg #[.int .i64 p, .slice a1 lv.length k1, .slice a2 jn.length k2, .slice a3 li.length k3], .int .i64 E]) rfl (by kernel_rfl) (by kernel_rfl) (by kernel_rfl) (fun _ _ _ h => h) (Or.inl ⟨by rfl, fun w hSw => by (try dsimp only at hSw); go_simp⟩) (by assumption) ?_
      simp only [Act.put, List.setIfInBounds_toArray, List.set_cons_zero, List.set_cons_succ]
      refine wpAnyH_take (i := 9) (oi := ⟨some 44, Op.extract (.tmp 35) 0, _, _, _, none⟩) (v := .agg cn) rfl (by kernel_rfl) (by kernel_rfl) (by kernel_rfl) (fun _ _ _ h => h) (Or.inl ⟨by rfl, fun w hSw => by (try dsimp only at hSw); go_simp⟩) (by assumption) ?_
      simp only [Act.put, List.setIfInBounds_toArray, List.set_cons_zero, List.set_cons_succ]
      refine wpAnyH_take (i := 10) (oi := ⟨some 45, Op.extract (.tmp 35) 1, _, _, _, none⟩) (v := .agg #[.int .i64 p, .slice a1 lv.length k1, .slice a2 jn.length k2, .slice a3 li.length k3]) rfl (by kernel_rfl) (by kernel_rfl) (by kernel_rfl) (fun _ _ _ h => h) (Or.inl ⟨by rfl, fun w hSw => by (try dsimp only at hSw); go_simp⟩) (by assumption) ?_
      simp only [Act.put, List.setIfInBounds_toArray, List.set_cons_zero, List.set_cons_succ]
      refine wpAnyH_take (i := 11) (oi := ⟨some 46, Op.extract (.tmp 35) 2, _, _, _, none⟩) (v := .int .i64 E) rfl (by kernel_rfl) (by kernel_rfl) (by kernel_rfl) (fun _ _ _ h => h) (Or.inl ⟨by rfl, fun w hSw => by (try dsimp only at hSw); go_simp⟩) (by assumption) ?_
      simp only [Act.put, List.setIfInBounds_toArray, List.set_cons_zero, List.set_cons_succ]
      refine wpAnyH_ready (rs := [12, 13]) (by kernel_rfl) (by simp) ?_
      refine (AllReadyH.cons rfl (fun K hK => ?_) (AllReadyH.cons rfl (fun K hK => ?_) AllReadyH.nil))
      ·go_simp
       have hgT := hHd1.size
       refine hK.out _ _ (hHd1.trans ((below_alloc _ _).mono hHd1.size)) (fun hHd2 => ?_)
       first | have hz := zero_of hHd2 | have hz := zero_of' hHd2
       try simp only [World.size_alloc] at hz
       try simp only [World.size_alloc] at hgT
       try (have hq := rkAt_later hq (below_alloc _ (.cells Try.zeroCells31 31)))
       try (have hrow := R3.later hrow (below_alloc _ (.cells Try.zeroCells31 31)))
       clear hHd1
       clear hK K
       try simp only [Act.put, List.setIfInBounds_toArray, List.set_cons_zero, List.set_cons_succ]
       refine wpAnyH_ready (rs := [13]) (by kernel_rfl) (by simp) ?_
       refine AllReadyH.cons rfl (fun K hK => ?_) AllReadyH.nil
       go_simp
       have hgM := hHd2.size
       refine hK.out _ _ (hHd2.trans ((below_alloc _ _).mono hHd2.size)) (fun hHd3 => ?_)
       first | have hq := rkz_of hHd3 | have hq := rkz_of' hHd3
       try simp only [World.size_alloc] at hq
       try simp only [World.size_alloc] at hgM
       try (have hz := hz.later (below_alloc _ (.cells #[.int .i64 0, .slice none 0 0, .slice none 0 0, .slice none 0 0] 42)))
       try (have hrow := R3.later hrow (below_alloc _ (.cells #[.int .i64 0, .slice none 0 0, .slice none 0 0, .slice none 0 0] 42)))
       clear hHd2
       clear hK K
       try simp only [Act.put, List.setIfInBounds_toArray, List.set_cons_zero, List.set_cons_succ]
       refine wpAnyH_ready (rs := [14]) (by kernel_rfl) (by simp) ?_
       refine AllReadyH.cons rfl (fun Kc hK => ?_) AllReadyH.nil
       refine if_wp rfl (wp_stRow0 31 _ _ rfl _ cn rfl rfl 31 _ hz (by rw [← HCN.out, tcs_size]; exact infoT) (by rw [← HCN.out, tcs_size, tcs_size]) (by rw [← HCN.out]; exact tcs_one n) rfl ?_)
       have hTM := block_ne hz hq (by decide)
       have hzZ := Rt.heap_setRow_same hz cn
       have hq2 := (Rt.row_other (Ne.symm hTM) cn).trans hq
       have hrow2 := R3.type hrow hz (by decide) (by decide) cn
       refine hK.out _ _ (Rt.setRow_below (by first | exact hgT | omega) hHd3 _) (fun hHd4 => ?_)
       clear hHd3
       clear hK Kc
       try simp only [Act.put, List.setIfInBounds_toArray, List.set_cons_zero, List.set_cons_succ]
       refine wpAnyH_ready (rs := [15]) (by kernel_rfl) (by simp) ?_
       refine AllReadyH.cons rfl (fun Kc hK => ?_) AllReadyH.nil
       refine if_wp rfl (wp_stRow0 42 _ _ rfl _ #[.int .i64 p, .slice a1 lv.length k1, .slice a2 jn.length k2, .slice a3 li.length k3] rfl rfl 42 _ hq2 infoRk rfl (rk_one _ _ _ _ _ _ _ _ _ _) rfl ?_)
       have hqZ := Rt.heap_setRow_same hq2 #[.int .i64 p, .slice a1 lv.length k1, .slice a2 jn.length k2, .slice a3 li.length k3]
       have hzZ2 := (Rt.row_other hTM #[.int .i64 p, .slice a1 lv.length k1, .slice a2 jn.length k2, .slice a3 li.length k3]).trans hzZ
       have hrow3 := R3.type hrow2 hq2 (by decide) (by decide) #[.int .i64 p, .slice a1 lv.length k1, .slice a2 jn.length k2, .slice a3 li.length k3]
       refine hK.out _ _ (Rt.setRow_below (by first | exact hgM | omega) hHd4 _) (fun hHd5 => ?_)
       clear hK Kc
       try simp only [Act.put, List.setIfInBounds_toArray, List.set_cons_zero, List.set_cons_succ]
       refine wpAnyH_take (i := 16) (oi := ⟨some 13, Op.assign (.tmp 46), _, _, _, none⟩) (v := .int .i64 E) rfl (by kernel_rfl) (by kernel_rfl) (by kernel_rfl) (fun _ _ _ h => h) (Or.inl ⟨by rfl, fun w hSw => by (try dsimp only at hSw); go_simp⟩) (by assumption) ?_
       simp only [Act.put, List.setIfInBounds_toArray, List.set_cons_zero, List.set_cons_succ]
       refine wpAnyH_done (by kernel_rfl) ?_ _
       go_wp2_with fail
       go_meet
       case rel => exact ⟨_, _, a1, k1, a2, k2, a3, k3, rfl, rfl, rfl, hHd5, by unfold TrAt; rw [HCN.out]; exact hzZ2, hqZ, hrow3⟩
      ·go_simp
       have hgM := hHd1.size
       refine hK.out _ _ (hHd1.trans ((below_alloc _ _).mono hHd1.size)) (fun hHd2 => ?_)
       first | have hq := rkz_of hHd2 | have hq := rkz_of' hHd2
       try simp only [World.size_alloc] at hq
       try simp only [World.size_alloc] at hgM
       try (have hz := hz.later (below_alloc _ (.cells #[.int .i64 0, .slice none 0 0, .slice none 0 0, .slice none 0 0] 42)))
       try (have hrow := R3.later hrow (below_alloc _ (.cells #[.int .i64 0, .slice none 0 0, .slice none 0 0, .slice none 0 0] 42)))
       clear hHd1
       clear hK K
       try simp only [Act.put, List.setIfInBounds_toArray, List.set_cons_zero, List.set_cons_succ]
       refine wpAnyH_ready (rs := [12]) (by kernel_rfl) (by simp) ?_
       refine AllReadyH.cons rfl (fun K hK => ?_) AllReadyH.nil
       go_simp
       have hgT := hHd2.size
       refine hK.out _ _ (hHd2.trans ((below_alloc _ _).mono hHd2.size)) (fun hHd3 => ?_)
       first | have hz := zero_of hHd3 | have hz := zero_of' hHd3
       try simp only [World.size_alloc] at hz
       try simp only [World.size_alloc] at hgT
       try (have hq := rkAt_later hq (below_alloc _ (.cells Try.zeroCells31 31)))
       try (have hrow := R3.later hrow (below_alloc _ (.cells Try.zeroCells31 31)))
       clear hHd2
       clear hK K
       try simp only [Act.put, List.setIfInBounds_toArray, List.set_cons_zero, List.set_cons_succ]
       refine wpAnyH_ready (rs := [14]) (by kernel_rfl) (by simp) ?_
       refine AllReadyH.cons rfl (fun Kc hK => ?_) AllReadyH.nil
       refine if_wp rfl (wp_stRow0 31 _ _ rfl _ cn rfl rfl 31 _ hz (by rw [← HCN.out, tcs_size]; exact infoT) (by rw [← HCN.out, tcs_size, tcs_size]) (by rw [← HCN.out]; exact tcs_one n) rfl ?_)
       have hTM := block_ne hz hq (by decide)
       have hzZ := Rt.heap_setRow_same hz cn
       have hq2 := (Rt.row_other (Ne.symm hTM) cn).trans hq
       have hrow2 := R3.type hrow hz (by decide) (by decide) cn
       refine hK.out _ _ (Rt.setRow_below (by first | exact hgT | omega) hHd3 _) (fun hHd4 => ?_)
       clear hHd3
       clear hK Kc
       try simp only [Act.put, List.setIfInBounds_toArray, List.set_cons_zero, List.set_cons_succ]
       refine wpAnyH_ready (rs := [15]) (by kernel_rfl) (by simp) ?_
       refine AllReadyH.cons rfl (fun Kc hK => ?_) AllReadyH.nil
       refine if_wp rfl (wp_stRow0 42 _ _ rfl _ #[.int .i64 p, .slice a1 lv.length k1, .slice a2 jn.length k2, .slice a3 li.length k3] rfl rfl 42 _ hq2 infoRk rfl (rk_one _ _ _ _ _ _ _ _ _ _) rfl ?_)
       have hqZ := Rt.heap_setRow_same hq2 #[.int .i64 p, .slice a1 lv.length k1, .slice a2 jn.length k2, .slice a3 li.length k3]
       have hzZ2 := (Rt.row_other hTM #[.int .i64 p, .slice a1 lv.length k1, .slice a2 jn.length k2, .slice a3 li.length k3]).trans hzZ
       have hrow3 := R3.type hrow2 hq2 (by decide) (by decide) #[.int .i64 p, .slice a1 lv.length k1, .slice a2 jn.length k2, .slice a3 li.length k3]
       refine hK.out _ _ (Rt.setRow_below (by first | exact hgM | omega) hHd4 _) (fun hHd5 => ?_)
       clear hK Kc
       try simp only [Act.put, List.setIfInBounds_toArray, List.set_cons_zero, List.set_cons_succ]
       refine wpAnyH_take (i := 16) (oi := ⟨some 13, Op.assign (.tmp 46), _, _, _, none⟩) (v := .int .i64 E) rfl (by kernel_rfl) (by kernel_rfl) (by kernel_rfl) (fun _ _ _ h => h) (Or.inl ⟨by rfl, fun w hSw => by (try dsimp only at hSw); go_simp⟩) (by assumption) ?_
       simp only [Act.put, List.setIfInBounds_toArray, List.set_cons_zero, List.set_cons_succ]
       refine wpAnyH_done (by kernel_rfl) ?_ _
       go_wp2_with fail
       go_meet
       case rel => exact ⟨_, _, a1, k1, a2, k2, a3, k3, rfl, rfl, rfl, hHd5, by unfold TrAt; rw [HCN.out]; exact hzZ2, hqZ, hrow3⟩
     ·go_simp
      have hgT := hHeld.size
      refine hK.out _ _ (hHeld.trans ((below_alloc _ _).mono hHeld.size)) (fun hHd1 => ?_)
      first | have hz := zero_of hHd1 | have hz := zero_of' hHd1
      try simp only [World.size_alloc] at hz
      try simp only [World.size_alloc] at hgT
      try (have hq := rkAt_later hq (below_alloc _ (.cells Try.zeroCells31 31)))
      try (have hrow := R3.later hrow (below_alloc _ (.cells Try.zeroCells31 31)))
      clear hHeld
      clear hK K
      try simp only [Act.put, List.setIfInBounds_toArray, List.set_cons_zero, List.set_cons_succ]
      refine wpAnyH_ready (rs := [7, 13]) (by kernel_rfl) (by simp) ?_
      refine (AllReadyH.cons rfl (fun K hK => ?_) (AllReadyH.cons rfl (fun K hK => ?_) AllReadyH.nil))
      ·go_simp
       have hle7 := hHd1.size
       refine (hnx _ hHd1).mono ?_
       rintro r w7 ⟨⟨vl, vj, vi, rfl, hl1, hl2, hl3, -⟩, hb7⟩
       rw [HEQ.out.2.1] at hl1
       rw [HEQ.out.2.2.1] at hl2
       rw [HEQ.out.2.2.2.1] at hl3
       rw [HEQ.out.1, HEQ.out.2.2.2.2.1, HEQ.out.2.2.2.2.2, HCN.out]
       obtain ⟨a1, k1, rfl⟩ := owns_slice hl1
       obtain ⟨a2, k2, rfl⟩ := owns_slice hl2
       obtain ⟨a3, k3, rfl⟩ := owns_slice hl3
       go_wp2_with fail
       have hrow : R3 wb.heap.size w7 a1 k1 a2 k2 a3 k3 lv jn li := ⟨Rs.owns_wide hl1 (Nat.le_trans HW5.out hle7), Rs.owns_wide hl2 (Nat.le_trans HW5.out hle7), Rs.owns_wide hl3 (Nat.le_trans HW5.out hle7)⟩
       try (have hz := hz.later hb7)
       try (have hq := rkAt_later hq hb7)
       refine hK.out _ _ (hHd1.trans (hb7.mono hHd1.size)) (fun hHd2 => ?_)
       clear hHd1 hb7 hl1 hl2 hl3 hle7
       clear hK K
       try simp only [Act.put, List.setIfInBounds_toArray, List.set_cons_zero, List.set_cons_succ]
       refine wpAnyH_take (i := 8) (oi := ⟨some 35, Op.move (.tmp 43), _, _, _, none⟩) (v := .tuple #[.agg cn, .agg #[.int .i64 p, .slice a1 lv.length k1, .slice a2 jn.length k2, .slice a3 li.length k3], .int .i64 E]) rfl (by kernel_rfl) (by kernel_rfl) (by kernel_rfl) (fun _ _ _ h => h) (Or.inl ⟨by rfl, fun w hSw => by (try dsimp only at hSw); go_simp⟩) (by assumption) ?_
       simp only [Act.put, List.setIfInBounds_toArray, List.set_cons_zero, List.set_cons_succ]
       refine wpAnyH_take (i := 9) (oi := ⟨some 44, Op.extract (.tmp 35) 0, _, _, _, none⟩) (v := .agg cn) rfl (by kernel_rfl) (by kernel_rfl) (by kernel_rfl) (fun _ _ _ h => h) (Or.inl ⟨by rfl, fun w hSw => by (try dsimp only at hSw); go_simp⟩) (by assumption) ?_
       simp only [Act.put, List.setIfInBounds_toArray, List.set_cons_zero, List.set_cons_succ]
       refine wpAnyH_take (i := 10) (oi := ⟨some 45, Op.extract (.tmp 35) 1, _, _, _, none⟩) (v := .agg #[.int .i64 p, .slice a1 lv.length k1, .slice a2 jn.length k2, .slice a3 li.length k3]) rfl (by kernel_rfl) (by kernel_rfl) (by kernel_rfl) (fun _ _ _ h => h) (Or.inl ⟨by rfl, fun w hSw => by (try dsimp only at hSw); go_simp⟩) (by assumption) ?_
       simp only [Act.put, List.setIfInBounds_toArray, List.set_cons_zero, List.set_cons_succ]
       refine wpAnyH_take (i := 11) (oi := ⟨some 46, Op.extract (.tmp 35) 2, _, _, _, none⟩) (v := .int .i64 E) rfl (by kernel_rfl) (by kernel_rfl) (by kernel_rfl) (fun _ _ _ h => h) (Or.inl ⟨by rfl, fun w hSw => by (try dsimp only at hSw); go_simp⟩) (by assumption) ?_
       simp only [Act.put, List.setIfInBounds_toArray, List.set_cons_zero, List.set_cons_succ]
       refine wpAnyH_ready (rs := [13]) (by kernel_rfl) (by simp) ?_
       refine AllReadyH.cons rfl (fun K hK => ?_) AllReadyH.nil
       go_simp
       have hgM := hHd2.size
       refine hK.out _ _ (hHd2.trans ((below_alloc _ _).mono hHd2.size)) (fun hHd3 => ?_)
       first | have hq := rkz_of hHd3 | have hq := rkz_of' hHd3
       try simp only [World.size_alloc] at hq
       try simp only [World.size_alloc] at hgM
       try (have hz := hz.later (below_alloc _ (.cells #[.int .i64 0, .slice none 0 0, .slice none 0 0, .slice none 0 0] 42)))
       try (have hrow := R3.later hrow (below_alloc _ (.cells #[.int .i64 0, .slice none 0 0, .slice none 0 0, .slice none 0 0] 42)))
       clear hHd2
       clear hK K
       try simp only [Act.put, List.setIfInBounds_toArray, List.set_cons_zero, List.set_cons_succ]
       refine wpAnyH_ready (rs := [14]) (by kernel_rfl) (by simp) ?_
       refine AllReadyH.cons rfl (fun Kc hK => ?_) AllReadyH.nil
       refine if_wp rfl (wp_stRow0 31 _ _ rfl _ cn rfl rfl 31 _ hz (by rw [← HCN.out, tcs_size]; exact infoT) (by rw [← HCN.out, tcs_size, tcs_size]) (by rw [← HCN.out]; exact tcs_one n) rfl ?_)
       have hTM := block_ne hz hq (by decide)
       have hzZ := Rt.heap_setRow_same hz cn
       have hq2 := (Rt.row_other (Ne.symm hTM) cn).trans hq
       have hrow2 := R3.type hrow hz (by decide) (by decide) cn
       refine hK.out _ _ (Rt.setRow_below (by first | exact hgT | omega) hHd3 _) (fun hHd4 => ?_)
       clear hHd3
       clear hK Kc
       try simp only [Act.put, List.setIfInBounds_toArray, List.set_cons_zero, List.set_cons_succ]
       refine wpAnyH_ready (rs := [15]) (by kernel_rfl) (by simp) ?_
       refine AllReadyH.cons rfl (fun Kc hK => ?_) AllReadyH.nil
       refine if_wp rfl (wp_stRow0 42 _ _ rfl _ #[.int .i64 p, .slice a1 lv.length k1, .slice a2 jn.length k2, .slice a3 li.length k3] rfl rfl 42 _ hq2 infoRk rfl (rk_one _ _ _ _ _ _ _ _ _ _) rfl ?_)
       have hqZ := Rt.heap_setRow_same hq2 #[.int .i64 p, .slice a1 lv.length k1, .slice a2 jn.length k2, .slice a3 li.length k3]
       have hzZ2 := (Rt.row_other hTM #[.int .i64 p, .slice a1 lv.length k1, .slice a2 jn.length k2, .slice a3 li.length k3]).trans hzZ
       have hrow3 := R3.type hrow2 hq2 (by decide) (by decide) #[.int .i64 p, .slice a1 lv.length k1, .slice a2 jn.length k2, .slice a3 li.length k3]
       refine hK.out _ _ (Rt.setRow_below (by first | exact hgM | omega) hHd4 _) (fun hHd5 => ?_)
       clear hK Kc
       try simp only [Act.put, List.setIfInBounds_toArray, List.set_cons_zero, List.set_cons_succ]
       refine wpAnyH_take (i := 16) (oi := ⟨some 13, Op.assign (.tmp 46), _, _, _, none⟩) (v := .int .i64 E) rfl (by kernel_rfl) (by kernel_rfl) (by kernel_rfl) (fun _ _ _ h => h) (Or.inl ⟨by rfl, fun w hSw => by (try dsimp only at hSw); go_simp⟩) (by assumption) ?_
       simp only [Act.put, List.setIfInBounds_toArray, List.set_cons_zero, List.set_cons_succ]
       refine wpAnyH_done (by kernel_rfl) ?_ _
       go_wp2_with fail
       go_meet
       case rel => exact ⟨_, _, a1, k1, a2, k2, a3, k3, rfl, rfl, rfl, hHd5, by unfold TrAt; rw [HCN.out]; exact hzZ2, hqZ, hrow3⟩
      ·go_simp
       have hgM := hHd1.size
       refine hK.out _ _ (hHd1.trans ((below_alloc _ _).mono hHd1.size)) (fun hHd2 => ?_)
       first | have hq := rkz_of hHd2 | have hq := rkz_of' hHd2
       try simp only [World.size_alloc] at hq
       try simp only [World.size_alloc] at hgM
       try (have hz := hz.later (below_alloc _ (.cells #[.int .i64 0, .slice none 0 0, .slice none 0 0, .slice none 0 0] 42)))
       try (have hrow := R3.later hrow (below_alloc _ (.cells #[.int .i64 0, .slice none 0 0, .slice none 0 0, .slice none 0 0] 42)))
       clear hHd1
       clear hK K
       try simp only [Act.put, List.setIfInBounds_toArray, List.set_cons_zero, List.set_cons_succ]
       refine wpAnyH_ready (rs := [7]) (by kernel_rfl) (by simp) ?_
       refine AllReadyH.cons rfl (fun K hK => ?_) AllReadyH.nil
       go_simp
       have hle7 := hHd2.size
       refine (hnx _ hHd2).mono ?_
       rintro r w7 ⟨⟨vl, vj, vi, rfl, hl1, hl2, hl3, -⟩, hb7⟩
       rw [HEQ.out.2.1] at hl1
       rw [HEQ.out.2.2.1] at hl2
       rw [HEQ.out.2.2.2.1] at hl3
       rw [HEQ.out.1, HEQ.out.2.2.2.2.1, HEQ.out.2.2.2.2.2, HCN.out]
       obtain ⟨a1, k1, rfl⟩ := owns_slice hl1
       obtain ⟨a2, k2, rfl⟩ := owns_slice hl2
       obtain ⟨a3, k3, rfl⟩ := owns_slice hl3
       go_wp2_with fail
       have hrow : R3 wb.heap.size w7 a1 k1 a2 k2 a3 k3 lv jn li := ⟨Rs.owns_wide hl1 (Nat.le_trans HW5.out hle7), Rs.owns_wide hl2 (Nat.le_trans HW5.out hle7), Rs.owns_wide hl3 (Nat.le_trans HW5.out hle7)⟩
       try (have hz := hz.later hb7)
       try (have hq := rkAt_later hq hb7)
       refine hK.out _ _ (hHd2.trans (hb7.mono hHd2.size)) (fun hHd3 => ?_)
       clear hHd2 hb7 hl1 hl2 hl3 hle7
       clear hK K
       try simp only [Act.put, List.setIfInBounds_toArray, List.set_cons_zero, List.set_cons_succ]
       refine wpAnyH_take (i := 8) (oi := ⟨some 35, Op.move (.tmp 43), _, _, _, none⟩) (v := .tuple #[.agg cn, .agg #[.int .i64 p, .slice a1 lv.length k1, .slice a2 jn.length k2, .slice a3 li.length k3], .int .i64 E]) rfl (by kernel_rfl) (by kernel_rfl) (by kernel_rfl) (fun _ _ _ h => h) (Or.inl ⟨by rfl, fun w hSw => by (try dsimp only at hSw); go_simp⟩) (by assumption) ?_
       simp only [Act.put, List.setIfInBounds_toArray, List.set_cons_zero, List.set_cons_succ]
       refine wpAnyH_take (i := 9) (oi := ⟨some 44, Op.extract (.tmp 35) 0, _, _, _, none⟩) (v := .agg cn) rfl (by kernel_rfl) (by kernel_rfl) (by kernel_rfl) (fun _ _ _ h => h) (Or.inl ⟨by rfl, fun w hSw => by (try dsimp only at hSw); go_simp⟩) (by assumption) ?_
       simp only [Act.put, List.setIfInBounds_toArray, List.set_cons_zero, List.set_cons_succ]
       refine wpAnyH_take (i := 10) (oi := ⟨some 45, Op.extract (.tmp 35) 1, _, _, _, none⟩) (v := .agg #[.int .i64 p, .slice a1 lv.length k1, .slice a2 jn.length k2, .slice a3 li.length k3]) rfl (by kernel_rfl) (by kernel_rfl) (by kernel_rfl) (fun _ _ _ h => h) (Or.inl ⟨by rfl, fun w hSw => by (try dsimp only at hSw); go_simp⟩) (by assumption) ?_
       simp only [Act.put, List.setIfInBounds_toArray, List.set_cons_zero, List.set_cons_succ]
       refine wpAnyH_take (i := 11) (oi := ⟨some 46, Op.extract (.tmp 35) 2, _, _, _, none⟩) (v := .int .i64 E) rfl (by kernel_rfl) (by kernel_rfl) (by kernel_rfl) (fun _ _ _ h => h) (Or.inl ⟨by rfl, fun w hSw => by (try dsimp only at hSw); go_simp⟩) (by assumption) ?_
       simp only [Act.put, List.setIfInBounds_toArray, List.set_cons_zero, List.set_cons_succ]
       refine wpAnyH_ready (rs := [14]) (by kernel_rfl) (by simp) ?_
       refine AllReadyH.cons rfl (fun Kc hK => ?_) AllReadyH.nil
       refine if_wp rfl (wp_stRow0 31 _ _ rfl _ cn rfl rfl 31 _ hz (by rw [← HCN.out, tcs_size]; exact infoT) (by rw [← HCN.out, tcs_size, tcs_size]) (by rw [← HCN.out]; exact tcs_one n) rfl ?_)
       have hTM := block_ne hz hq (by decide)
       have hzZ := Rt.heap_setRow_same hz cn
       have hq2 := (Rt.row_other (Ne.symm hTM) cn).trans hq
       have hrow2 := R3.type hrow hz (by decide) (by decide) cn
       refine hK.out _ _ (Rt.setRow_below (by first | exact hgT | omega) hHd3 _) (fun hHd4 => ?_)
       clear hHd3
       clear hK Kc
       try simp only [Act.put, List.setIfInBounds_toArray, List.set_cons_zero, List.set_cons_succ]
       refine wpAnyH_ready (rs := [15]) (by kernel_rfl) (by simp) ?_
       refine AllReadyH.cons rfl (fun Kc hK => ?_) AllReadyH.nil
       refine if_wp rfl (wp_stRow0 42 _ _ rfl _ #[.int .i64 p, .slice a1 lv.length k1, .slice a2 jn.length k2, .slice a3 li.length k3] rfl rfl 42 _ hq2 infoRk rfl (rk_one _ _ _ _ _ _ _ _ _ _) rfl ?_)
       have hqZ := Rt.heap_setRow_same hq2 #[.int .i64 p, .slice a1 lv.length k1, .slice a2 jn.length k2, .slice a3 li.length k3]
       have hzZ2 := (Rt.row_other hTM #[.int .i64 p, .slice a1 lv.length k1, .slice a2 jn.length k2, .slice a3 li.length k3]).trans hzZ
       have hrow3 := R3.type hrow2 hq2 (by decide) (by decide) #[.int .i64 p, .slice a1 lv.length k1, .slice a2 jn.length k2, .slice a3 li.length k3]
       refine hK.out _ _ (Rt.setRow_below (by first | exact hgM | omega) hHd4 _) (fun hHd5 => ?_)
       clear hK Kc
       try simp only [Act.put, List.setIfInBounds_toArray, List.set_cons_zero, List.set_cons_succ]
       refine wpAnyH_take (i := 16) (oi := ⟨some 13, Op.assign (.tmp 46), _, _, _, none⟩) (v := .int .i64 E) rfl (by kernel_rfl) (by kernel_rfl) (by kernel_rfl) (fun _ _ _ h => h) (Or.inl ⟨by rfl, fun w hSw => by (try dsimp only at hSw); go_simp⟩) (by assumption) ?_
       simp only [Act.put, List.setIfInBounds_toArray, List.set_cons_zero, List.set_cons_succ]
       refine wpAnyH_done (by kernel_rfl) ?_ _
       go_wp2_with fail
       go_meet
       case rel => exact ⟨_, _, a1, k1, a2, k2, a3, k3, rfl, rfl, rfl, hHd5, by unfold TrAt; rw [HCN.out]; exact hzZ2, hqZ, hrow3⟩
     ·go_simp
      have hgM := hHeld.size
      refine hK.out _ _ (hHeld.trans ((below_alloc _ _).mono hHeld.size)) (fun hHd1 => ?_)
      first | have hq := rkz_of hHd1 | have hq := rkz_of' hHd1
      try simp only [World.size_alloc] at hq
      try simp only [World.size_alloc] at hgM
      try (have hz := hz.later (below_alloc _ (.cells #[.int .i64 0, .slice none 0 0, .slice none 0 0, .slice none 0 0] 42)))
      try (have hrow := R3.later hrow (below_alloc _ (.cells #[.int .i64 0, .slice none 0 0, .slice none 0 0, .slice none 0 0] 42)))
      clear hHeld
      clear hK K
      try simp only [Act.put, List.setIfInBounds_toArray, List.set_cons_zero, List.set_cons_succ]
      refine wpAnyH_ready (rs := [7, 12]) (by kernel_rfl) (by simp) ?_
      refine (AllReadyH.cons rfl (fun K hK => ?_) (AllReadyH.cons rfl (fun K hK => ?_) AllReadyH.nil))
      ·go_simp
       have hle7 := hHd1.size
       refine (hnx _ hHd1).mono ?_
       rintro r w7 ⟨⟨vl, vj, vi, rfl, hl1, hl2, hl3, -⟩, hb7⟩
       rw [HEQ.out.2.1] at hl1
       rw [HEQ.out.2.2.1] at hl2
       rw [HEQ.out.2.2.2.1] at hl3
       rw [HEQ.out.1, HEQ.out.2.2.2.2.1, HEQ.out.2.2.2.2.2, HCN.out]
       obtain ⟨a1, k1, rfl⟩ := owns_slice hl1
       obtain ⟨a2, k2, rfl⟩ := owns_slice hl2
       obtain ⟨a3, k3, rfl⟩ := owns_slice hl3
       go_wp2_with fail
       have hrow : R3 wb.heap.size w7 a1 k1 a2 k2 a3 k3 lv jn li := ⟨Rs.owns_wide hl1 (Nat.le_trans HW5.out hle7), Rs.owns_wide hl2 (Nat.le_trans HW5.out hle7), Rs.owns_wide hl3 (Nat.le_trans HW5.out hle7)⟩
       try (have hz := hz.later hb7)
       try (have hq := rkAt_later hq hb7)
       refine hK.out _ _ (hHd1.trans (hb7.mono hHd1.size)) (fun hHd2 => ?_)
       clear hHd1 hb7 hl1 hl2 hl3 hle7
       clear hK K
       try simp only [Act.put, List.setIfInBounds_toArray, List.set_cons_zero, List.set_cons_succ]
       refine wpAnyH_take (i := 8) (oi := ⟨some 35, Op.move (.tmp 43), _, _, _, none⟩) (v := .tuple #[.agg cn, .agg #[.int .i64 p, .slice a1 lv.length k1, .slice a2 jn.length k2, .slice a3 li.length k3], .int .i64 E]) rfl (by kernel_rfl) (by kernel_rfl) (by kernel_rfl) (fun _ _ _ h => h) (Or.inl ⟨by rfl, fun w hSw => by (try dsimp only at hSw); go_simp⟩) (by assumption) ?_
       simp only [Act.put, List.setIfInBounds_toArray, List.set_cons_zero, List.set_cons_succ]
       refine wpAnyH_take (i := 9) (oi := ⟨some 44, Op.extract (.tmp 35) 0, _, _, _, none⟩) (v := .agg cn) rfl (by kernel_rfl) (by kernel_rfl) (by kernel_rfl) (fun _ _ _ h => h) (Or.inl ⟨by rfl, fun w hSw => by (try dsimp only at hSw); go_simp⟩) (by assumption) ?_
       simp only [Act.put, List.setIfInBounds_toArray, List.set_cons_zero, List.set_cons_succ]
       refine wpAnyH_take (i := 10) (oi := ⟨some 45, Op.extract (.tmp 35) 1, _, _, _, none⟩) (v := .agg #[.int .i64 p, .slice a1 lv.length k1, .slice a2 jn.length k2, .slice a3 li.length k3]) rfl (by kernel_rfl) (by kernel_rfl) (by kernel_rfl) (fun _ _ _ h => h) (Or.inl ⟨by rfl, fun w hSw => by (try dsimp only at hSw); go_simp⟩) (by assumption) ?_
       simp only [Act.put, List.setIfInBounds_toArray, List.set_cons_zero, List.set_cons_succ]
       refine wpAnyH_take (i := 11) (oi := ⟨some 46, Op.extract (.tmp 35) 2, _, _, _, none⟩) (v := .int .i64 E) rfl (by kernel_rfl) (by kernel_rfl) (by kernel_rfl) (fun _ _ _ h => h) (Or.inl ⟨by rfl, fun w hSw => by (try dsimp only at hSw); go_simp⟩) (by assumption) ?_
       simp only [Act.put, List.setIfInBounds_toArray, List.set_cons_zero, List.set_cons_succ]
       refine wpAnyH_ready (rs := [12]) (by kernel_rfl) (by simp) ?_
       refine AllReadyH.cons rfl (fun K hK => ?_) AllReadyH.nil
       go_simp
       have hgT := hHd2.size
       refine hK.out _ _ (hHd2.trans ((below_alloc _ _).mono hHd2.size)) (fun hHd3 => ?_)
       first | have hz := zero_of hHd3 | have hz := zero_of' hHd3
       try simp only [World.size_alloc] at hz
       try simp only [World.size_alloc] at hgT
       try (have hq := rkAt_later hq (below_alloc _ (.cells Try.zeroCells31 31)))
       try (have hrow := R3.later hrow (below_alloc _ (.cells Try.zeroCells31 31)))
       clear hHd2
       clear hK K
       try simp only [Act.put, List.setIfInBounds_toArray, List.set_cons_zero, List.set_cons_succ]
       refine wpAnyH_ready (rs := [14]) (by kernel_rfl) (by simp) ?_
       refine AllReadyH.cons rfl (fun Kc hK => ?_) AllReadyH.nil
       refine if_wp rfl (wp_stRow0 31 _ _ rfl _ cn rfl rfl 31 _ hz (by rw [← HCN.out, tcs_size]; exact infoT) (by rw [← HCN.out, tcs_size, tcs_size]) (by rw [← HCN.out]; exact tcs_one n) rfl ?_)
       have hTM := block_ne hz hq (by decide)
       have hzZ := Rt.heap_setRow_same hz cn
       have hq2 := (Rt.row_other (Ne.symm hTM) cn).trans hq
       have hrow2 := R3.type hrow hz (by decide) (by decide) cn
       refine hK.out _ _ (Rt.setRow_below (by first | exact hgT | omega) hHd3 _) (fun hHd4 => ?_)
       clear hHd3
       clear hK Kc
       try simp only [Act.put, List.setIfInBounds_toArray, List.set_cons_zero, List.set_cons_succ]
       refine wpAnyH_ready (rs := [15]) (by kernel_rfl) (by simp) ?_
       refine AllReadyH.cons rfl (fun Kc hK => ?_) AllReadyH.nil
       refine if_wp rfl (wp_stRow0 42 _ _ rfl _ #[.int .i64 p, .slice a1 lv.length k1, .slice a2 jn.length k2, .slice a3 li.length k3] rfl rfl 42 _ hq2 infoRk rfl (rk_one _ _ _ _ _ _ _ _ _ _) rfl ?_)
       have hqZ := Rt.heap_setRow_same hq2 #[.int .i64 p, .slice a1 lv.length k1, .slice a2 jn.length k2, .slice a3 li.length k3]
       have hzZ2 := (Rt.row_other hTM #[.int .i64 p, .slice a1 lv.length k1, .slice a2 jn.length k2, .slice a3 li.length k3]).trans hzZ
       have hrow3 := R3.type hrow2 hq2 (by decide) (by decide) #[.int .i64 p, .slice a1 lv.length k1, .slice a2 jn.length k2, .slice a3 li.length k3]
       refine hK.out _ _ (Rt.setRow_below (by first | exact hgM | omega) hHd4 _) (fun hHd5 => ?_)
       clear hK Kc
       try simp only [Act.put, List.setIfInBounds_toArray, List.set_cons_zero, List.set_cons_succ]
       refine wpAnyH_take (i := 16) (oi := ⟨some 13, Op.assign (.tmp 46), _, _, _, none⟩) (v := .int .i64 E) rfl (by kernel_rfl) (by kernel_rfl) (by kernel_rfl) (fun _ _ _ h => h) (Or.inl ⟨by rfl, fun w hSw => by (try dsimp only at hSw); go_simp⟩) (by assumption) ?_
       simp only [Act.put, List.setIfInBounds_toArray, List.set_cons_zero, List.set_cons_succ]
       refine wpAnyH_done (by kernel_rfl) ?_ _
       go_wp2_with fail
       go_meet
       case rel => exact ⟨_, _, a1, k1, a2, k2, a3, k3, rfl, rfl, rfl, hHd5, by unfold TrAt; rw [HCN.out]; exact hzZ2, hqZ, hrow3⟩
      ·go_simp
       have hgT := hHd1.size
       refine hK.out _ _ (hHd1.trans ((below_alloc _ _).mono hHd1.size)) (fun hHd2 => ?_)
       first | have hz := zero_of hHd2 | have hz := zero_of' hHd2
       try simp only [World.size_alloc] at hz
       try simp only [World.size_alloc] at hgT
       try (have hq := rkAt_later hq (below_alloc _ (.cells Try.zeroCells31 31)))
       try (have hrow := R3.later hrow (below_alloc _ (.cells Try.zeroCells31 31)))
       clear hHd1
       clear hK K
       try simp only [Act.put, List.setIfInBounds_toArray, List.set_cons_zero, List.set_cons_succ]
       refine wpAnyH_ready (rs := [7]) (by kernel_rfl) (by simp) ?_
       refine AllReadyH.cons rfl (fun K hK => ?_) AllReadyH.nil
       go_simp
       have hle7 := hHd2.size
       refine (hnx _ hHd2).mono ?_
       rintro r w7 ⟨⟨vl, vj, vi, rfl, hl1, hl2, hl3, -⟩, hb7⟩
       rw [HEQ.out.2.1] at hl1
       rw [HEQ.out.2.2.1] at hl2
       rw [HEQ.out.2.2.2.1] at hl3
       rw [HEQ.out.1, HEQ.out.2.2.2.2.1, HEQ.out.2.2.2.2.2, HCN.out]
       obtain ⟨a1, k1, rfl⟩ := owns_slice hl1
       obtain ⟨a2, k2, rfl⟩ := owns_slice hl2
       obtain ⟨a3, k3, rfl⟩ := owns_slice hl3
       go_wp2_with fail
       have hrow : R3 wb.heap.size w7 a1 k1 a2 k2 a3 k3 lv jn li := ⟨Rs.owns_wide hl1 (Nat.le_trans HW5.out hle7), Rs.owns_wide hl2 (Nat.le_trans HW5.out hle7), Rs.owns_wide hl3 (Nat.le_trans HW5.out hle7)⟩
       try (have hz := hz.later hb7)
       try (have hq := rkAt_later hq hb7)
       refine hK.out _ _ (hHd2.trans (hb7.mono hHd2.size)) (fun hHd3 => ?_)
       clear hHd2 hb7 hl1 hl2 hl3 hle7
       clear hK K
       try simp only [Act.put, List.setIfInBounds_toArray, List.set_cons_zero, List.set_cons_succ]
       refine wpAnyH_take (i := 8) (oi := ⟨some 35, Op.move (.tmp 43), _, _, _, none⟩) (v := .tuple #[.agg cn, .agg #[.int .i64 p, .slice a1 lv.length k1, .slice a2 jn.length k2, .slice a3 li.length k3], .int .i64 E]) rfl (by kernel_rfl) (by kernel_rfl) (by kernel_rfl) (fun _ _ _ h => h) (Or.inl ⟨by rfl, fun w hSw => by (try dsimp only at hSw); go_simp⟩) (by assumption) ?_
       simp only [Act.put, List.setIfInBounds_toArray, List.set_cons_zero, List.set_cons_succ]
       refine wpAnyH_take (i := 9) (oi := ⟨some 44, Op.extract (.tmp 35) 0, _, _, _, none⟩) (v := .agg cn) rfl (by kernel_rfl) (by kernel_rfl) (by kernel_rfl) (fun _ _ _ h => h) (Or.inl ⟨by rfl, fun w hSw => by (try dsimp only at hSw); go_simp⟩) (by assumption) ?_
       simp only [Act.put, List.setIfInBounds_toArray, List.set_cons_zero, List.set_cons_succ]
       refine wpAnyH_take (i := 10) (oi := ⟨some 45, Op.extract (.tmp 35) 1, _, _, _, none⟩) (v := .agg #[.int .i64 p, .slice a1 lv.length k1, .slice a2 jn.length k2, .slice a3 li.length k3]) rfl (by kernel_rfl) (by kernel_rfl) (by kernel_rfl) (fun _ _ _ h => h) (Or.inl ⟨by rfl, fun w hSw => by (try dsimp only at hSw); go_simp⟩) (by assumption) ?_
       simp only [Act.put, List.setIfInBounds_toArray, List.set_cons_zero, List.set_cons_succ]
       refine wpAnyH_take (i := 11) (oi := ⟨some 46, Op.extract (.tmp 35) 2, _, _, _, none⟩) (v := .int .i64 E) rfl (by kernel_rfl) (by kernel_rfl) (by kernel_rfl) (fun _ _ _ h => h) (Or.inl ⟨by rfl, fun w hSw => by (try dsimp only at hSw); go_simp⟩) (by assumption) ?_
       simp only [Act.put, List.setIfInBounds_toArray, List.set_cons_zero, List.set_cons_succ]
       refine wpAnyH_ready (rs := [14]) (by kernel_rfl) (by simp) ?_
       refine AllReadyH.cons rfl (fun Kc hK => ?_) AllReadyH.nil
       refine if_wp rfl (wp_stRow0 31 _ _ rfl _ cn rfl rfl 31 _ hz (by rw [← HCN.out, tcs_size]; exact infoT) (by rw [← HCN.out, tcs_size, tcs_size]) (by rw [← HCN.out]; exact tcs_one n) rfl ?_)
       have hTM := block_ne hz hq (by decide)
       have hzZ := Rt.heap_setRow_same hz cn
       have hq2 := (Rt.row_other (Ne.symm hTM) cn).trans hq
       have hrow2 := R3.type hrow hz (by decide) (by decide) cn
       refine hK.out _ _ (Rt.setRow_below (by first | exact hgT | omega) hHd3 _) (fun hHd4 => ?_)
       clear hHd3
       clear hK Kc
       try simp only [Act.put, List.setIfInBounds_toArray, List.set_cons_zero, List.set_cons_succ]
       refine wpAnyH_ready (rs := [15]) (by kernel_rfl) (by simp) ?_
       refine AllReadyH.cons rfl (fun Kc hK => ?_) AllReadyH.nil
       refine if_wp rfl (wp_stRow0 42 _ _ rfl _ #[.int .i64 p, .slice a1 lv.length k1, .slice a2 jn.length k2, .slice a3 li.length k3] rfl rfl 42 _ hq2 infoRk rfl (rk_one _ _ _ _ _ _ _ _ _ _) rfl ?_)
       have hqZ := Rt.heap_setRow_same hq2 #[.int .i64 p, .slice a1 lv.length k1, .slice a2 jn.length k2, .slice a3 li.length k3]
       have hzZ2 := (Rt.row_other hTM #[.int .i64 p, .slice a1 lv.length k1, .slice a2 jn.length k2, .slice a3 li.length k3]).trans hzZ
       have hrow3 := R3.type hrow2 hq2 (by decide) (by decide) #[.int .i64 p, .slice a1 lv.length k1, .slice a2 jn.length k2, .slice a3 li.length k3]
       refine hK.out _ _ (Rt.setRow_below (by first | exact hgM | omega) hHd4 _) (fun hHd5 => ?_)
       clear hK Kc
       try simp only [Act.put, List.setIfInBounds_toArray, List.set_cons_zero, List.set_cons_succ]
       refine wpAnyH_take (i := 16) (oi := ⟨some 13, Op.assign (.tmp 46), _, _, _, none⟩) (v := .int .i64 E) rfl (by kernel_rfl) (by kernel_rfl) (by kernel_rfl) (fun _ _ _ h => h) (Or.inl ⟨by rfl, fun w hSw => by (try dsimp only at hSw); go_simp⟩) (by assumption) ?_
       simp only [Act.put, List.setIfInBounds_toArray, List.set_cons_zero, List.set_cons_succ]
       refine wpAnyH_done (by kernel_rfl) ?_ _
       go_wp2_with fail
       go_meet
       case rel => exact ⟨_, _, a1, k1, a2, k2, a3, k3, rfl, rfl, rfl, hHd5, by unfold TrAt; rw [HCN.out]; exact hzZ2, hqZ, hrow3⟩
    case rest =>
     obtain ⟨T, M, a1, k1, a2, k2, a3, k3, rfl, rfl, rfl, hbc, hT, hM, hrow⟩ := hcut
     have HS6 : Hid (SS wb wc (.slice (some ⟨g, 0, none⟩) NT cr) (.slice ax ms.length cs) ts bs ms) := HS5.out.later hbc
     have HMS : Hid (MsgAt wb wc #[.int .i64 p, .slice a1 lv.length k1, .slice a2 jn.length k2, .slice a3 li.length k3] (p, (lv, (jn, li)))) := ⟨a1, a2, a3, k1, k2, k3, rfl, hrow⟩
     have HRK : Hid (RkAt wc M #[.int .i64 p, .slice a1 lv.length k1, .slice a2 jn.length k2, .slice a3 li.length k3]) := hM
     have HTT : Hid (TrAt wc T n) := hT
     clear hbc hT hM hrow HS5 HTR hnx HBT
     by_cases hE0 : E = 0
     ·have hd : (E == 0) = true := by simp [hE0]
      obtain ⟨en, ei⟩ := HOK.out hE0
      have HRN : Hid (runM t0 (l.take (k + 1)) = (ts ++ [n], bs ++ [(L, J)])) := by unfold Hid; rw [HTK.out, HR1.out, if_pos hE0, en]
      have HEN : Hid (n = nx (lastT ts) L J ∧ (p, (lv, (jn, li))) = mS (lastT ts) (L, J)) := by rw [HLT.out]; exact ⟨en, ei⟩
      clear hE0 en ei HOK
      have hrr : wc.ownsRow wb.heap.size 31 236 (.slice (some ⟨g, 0, none⟩) NT cr) NT (trl ts) := by have h := HS6.out.rr; rw [HNT.out] at h; exact h
      have hbs := HS6.out.bel.size
      have hTt := HTT.out
      have hc236 : cn.toList.length = 1 * 236 := by rw [Array.length_toList, ← HCN.out, tcs_size]
      have hc1 : ∀ u ∈ cn.toList, u.oneCell' = true := fun u hu => by
       have := tcs_one n
       rw [HCN.out, Array.all_eq_true'] at this
       exact this u (Array.mem_toList_iff.1 hu)
      go_upto_region 11 with (first
       | (refine rdT hTt HCN.out _ rfl rfl rfl ?_)
       | (refine bsT HCN.out rfl _ rfl rfl ?_)
       | (at_builtin; (refine wpList_append_own _ rfl _ _ 35 rfl wb.heap.size 31 it (.agg (tcs (tz 0))) 236 1888 Try.underlying35 hti htz hts htb (by show (tcs (tz 0)).size = 236; exact tcs_size _) (by decide) (.slice (some ⟨g, 0, none⟩) NT cr) NT (trl ts) rfl (hrr.alloc _) ⟨wc.heap.size, 0, none⟩ 1 1 cn.toList rfl hc236 (cell_row_new _ _ _) hc1 (by unfold maxLen; omega) (by omega) (by simp; omega) ?_); intro v1 w8 hown1 hg1 _; have HO1 : Hid (w8.ownsRow wb.heap.size 31 236 v1 (NT + 1) (trl ts ++ cn.toList)) := hown1; have HG1 : Hid ((wc.alloc (.cells cn 31)).grownBy w8 (Value.slice (some ⟨g, 0, none⟩) NT cr).ownBlock) := hg1; have HR8 : Hid (RkAt w8 M #[.int .i64 p, .slice a1 lv.length k1, .slice a2 jn.length k2, .slice a3 li.length k3]) := grown_type (hrr.alloc _) hg1 (row_later HRK.out (below_alloc _ _)) (by decide); clear hown1 hg1))
      clear hTt HTT HRK hc236 hc1
      have rs0 := (HS6.out.later (below_alloc wc (.cells cn 31))).rs
      have hrs : w8.ownsRow wb.heap.size 42 4 (.slice ax ms.length cs) ms.length (rkl ms) := own_other rs0 fun g' hgj => HG1.out.block g' (own_ge rs0 hgj).2 (fun e => own_ne2 (hrr.alloc _) rs0 (by decide) hgj e.symm)
      have hb8 : wb.heap.size ≤ w8.heap.size := by have h1 := HG1.out.size; simp at h1; omega
      have hml : ms.length ≤ 300 := by have h1 := HS6.out.ml; have h2 := HROW.out.len; have h3 := HNT.out; omega
      obtain ⟨x0, x1, x2, x3⟩ := rkAt_cells HR8.out
      obtain ⟨g1, c1, rfl⟩ := owns_slice HO1.out
      clear rs0
      go_upto_region 12 with (at_builtin; (refine wpList_append_own _ rfl _ _ 36 rfl wb.heap.size 42 ik (.agg #[.int .i64 0, .slice none 0 0, .slice none 0 0, .slice none 0 0]) 4 80 Try.underlying36 hki hkz hks hkb rfl (by decide) (.slice ax ms.length cs) ms.length (rkl ms) rfl (hrs.alloc _) ⟨w8.heap.size, 0, none⟩ 1 1 [.int .i64 p, .slice a1 lv.length k1, .slice a2 jn.length k2, .slice a3 li.length k3] rfl rfl (cell_row_new _ #[.int .i64 p, .slice a1 lv.length k1, .slice a2 jn.length k2, .slice a3 li.length k3] _) (by simp [Value.oneCell']) (by unfold maxLen; omega) (by omega) (by simp; omega) ?_); intro v2 w9 hown2 hg2 _; have HO2 : Hid (w9.ownsRow wb.heap.size 42 4 v2 (ms.length + 1) (rkl ms ++ [.int .i64 p, .slice a1 lv.length k1, .slice a2 jn.length k2, .slice a3 li.length k3])) := hown2; have HG2 : Hid ((w8.alloc (.cells #[.int .i64 p, .slice a1 lv.length k1, .slice a2 jn.length k2, .slice a3 li.length k3] 42)).grownBy w9 (Value.slice ax ms.length cs).ownBlock) := hg2; clear hown2 hg2)
      have HSF : Hid (SS wb w9 (.slice g1 (NT + 1) c1) v2 (ts ++ [n]) (bs ++ [(L, J)]) (ms ++ [#[.int .i64 p, .slice a1 lv.length k1, .slice a2 jn.length k2, .slice a3 li.length k3]])) := by
       have hm' : MsgAt wb (wc.alloc (.cells cn 31)) #[.int .i64 p, .slice a1 lv.length k1, .slice a2 jn.length k2, .slice a3 li.length k3] (mS (lastT ts) (L, J)) := by
        have h := HMS.out.later (below_alloc wc (.cells cn 31))
        have e2 := HEN.out.2
        rw [← e2]
        exact h
       have ho1 : w8.ownsRow wb.heap.size 31 236 (.slice g1 (NT + 1) c1) (ts.length + 1) (trl ts ++ (tcs n).toList) := by
        rw [HNT.out, HCN.out]
        exact HO1.out
       have h6 := HS6.out.later (below_alloc wc (.cells cn 31))
       exact SS.app h6 HROW.out.len (b := (L, J)) ho1 HG1.out HO2.out HG2.out hm' HEN.out.1
      clear HO1 HG1 HO2 HG2 HMS HS6 HR8 hrs hrr x0 x1 x2 x3
      go_wp2_with fail
      go_roundw
      case rel => exact ⟨k + 1, _, _, _, by omega, by go_num, rfl, rfl, by rw [HRN.out]; exact HSF.out⟩
      case measure => simp [intOf]; omega
     ·have hd : (E == 0) = false := by simpa using hE0
      have HRN : Hid (runM t0 (l.take (k + 1)) = (ts, bs)) := by unfold Hid; rw [HTK.out, HR1.out, if_neg hE0]
      clear hE0
      go_wp2_with fail
      go_roundw
      case rel => exact ⟨k + 1, _, _, ms, by omega, by go_num, rfl, rfl, by rw [HRN.out]; exact HS6.out⟩
      case measure => simp [intOf]; omega
  ·obtain rfl : k = l.length := by omega
   have hdk : decide ((l.length : Int) < (l.length : Int)) = false := by simp
   rw [List.take_length] at HS HROW
   obtain ⟨st, hst⟩ : ∃ s, runM t0 l = s := ⟨_, rfl⟩
   rw [hst] at HS HROW
   obtain ⟨ts, bs⟩ := st
   dsimp only at HS HROW
   clear hst hb hti htz hts htb hki hkz hks hkb hk hkN hl
   obtain ⟨ar, cr, rfl⟩ := owns_slice HS.out.rr
   obtain ⟨ax, cx, rfl⟩ := owns_slice HS.out.rs
   have hle := HROW.out.le
   have hlen := HROW.out.len
   have hml := HS.out.ml
   obtain ⟨NM, hNM⟩ : ∃ n, ms.length = n := ⟨_, rfl⟩
   have HNM : Hid (ms.length = NM ∧ bs.length = NM ∧ ts.length = NM + 1) := ⟨hNM, by omega, by omega⟩
   obtain ⟨NT, hNT⟩ : ∃ n, NM + 1 = n := ⟨_, rfl⟩
   have HNT : Hid (NM + 1 = NT) := hNT
   have HNM3 : Hid (NM ≤ 200) := by unfold Hid; omega
   rw [hNM]
   rw [show ts.length = NT by omega]
   clear hle hlen hml hNM hNT
   by_cases h0 : NM = 0
   ·subst h0
    go_wp2_with fail
    go_ret
    exact ⟨rfl, Wi.Below.join HBW.out HS.out.bel⟩
   ·have hNz : 0 < NM := by omega
    have d0 : ((NM : Int) == 0) = false := by simp; omega
    have HZ : Hid (0 < NM) := hNz
    obtain ⟨wR, hwR⟩ : ∃ W, W = wr := ⟨_, rfl⟩
    have HSR : Hid (SS wb wR (.slice ar ts.length cr) (.slice ax ms.length cx) ts bs ms) := by rw [hwR]; exact HS.out
    have HBR : Hid (Below w.heap.size w wR) := by rw [hwR]; exact Wi.Below.join HBW.out HS.out.bel
    have HTR2 : Hid (TrAt wR B t0) := by rw [hwR]; exact HTR.out.later HS.out.bel
    have HRP2 : Hid (RdI wR ap lp) := by rw [hwR]; exact HRP.out.later HS.out.bel
    have hrefl : Below wR.heap.size wR wr := by rw [hwR]; exact Below.refl _ _
    clear HS HBW HTR HRP HRD h0 hNz hwR
    have hgx : ∃ g, ax = some ⟨g, 0, none⟩ := by
     obtain ⟨g, _, _, _, _, _, _, e, _⟩ := HSR.out.rk (i := 0) (by have := HNM.out; have := HZ.out; omega)
     exact ⟨g, e⟩
    obtain ⟨gx, rfl⟩ := hgx
    have hgt : ∃ g, ar = some ⟨g, 0, none⟩ := by
     obtain ⟨g, e, _⟩ := (owns_rdR HSR.out.rr).tree (i := 0) (by have := HNM.out; omega) rfl
     exact ⟨g, e⟩
    obtain ⟨gt, rfl⟩ := hgt
    have HMS : Hid (∀ (i : Nat), i < NM → ∃ a1 a2 a3 k1 k2 k3, ∀ W, Below wR.heap.size wR W → W.rangeAt gx (i * 4) (rka (rM ts bs i) a1 a2 a3 k1 k2 k3).toList ∧ RL W (rM ts bs i) a1 a2 a3) := fun i hi => by
     obtain ⟨g, a1, a2, a3, k1, k2, k3, e, h1, h2⟩ := HSR.out.rk (i := i) (by have := HNM.out; omega)
     simp at e
     subst e
     exact ⟨a1, a2, a3, k1, k2, k3, fun W hW => ⟨Wi.ra_later h1 hW, h2.later hW⟩⟩
    have HTS : Hid (∀ (i : Nat), i ≤ NM → ∀ W, Below wR.heap.size wR W → (Instr.loadAt 31 (.pointer (some ⟨gt, i * 236, none⟩))).run Try.prog W = .ok (.agg (tcs (ts.getD i (tz 0)))) W ∧ (Instr.loadAt 29 (.pointer (some ⟨gt, i * 236 + 44, none⟩))).run Try.prog W = .ok (.agg (rcs (ts.getD i (tz 0)).ro)) W) := fun i hi W hW => by
     obtain ⟨g, e, h1, h2⟩ := ((owns_rdR HSR.out.rr).later hW).tree (i := i) (by have := HNM.out; omega) rfl
     simp at e
     subst e
     exact ⟨h1, h2⟩
    have HWY : Hid (∀ (s a i : Nat) (b : Int), s < 64 → a ≤ NM → i < NM → Sits t0 ts s a b → RunW t0 ts bs s a i b) := fun s a i b hs ha hi hS => run_way HROW.out hs (by have := HNM.out; omega) (by have := HNM.out; omega) hS
    have HSD : Hid (∀ (s a : Nat) (b : Int), s < 64 → a ≤ NM → Sits t0 ts s a b → caE (ts.getD a (tz 0)) (t0.ro s).who = 0 ∧ stM (ts.getD a (tz 0)) (t0.ro s).who = atS (ts.getD a (tz 0)) s 0) := fun s a b hs ha hS => hS.stand HROW.out (by have := HNM.out; have := HZ.out; omega) hs (by have := HNM.out; omega)
    have HF : Hid (∀ s, tkn (t0.ro s) = true → Sits t0 ts s 0 0) := fun s ht => Sits.first HROW.out ht
    have HEP : Hid (∀ i, i < NM → (rM ts bs i).1 = t0.ep + (i : Int) + 1) := fun i hi => rM_ep HROW.out (by have := HNM.out; omega)
    have HRN : Hid (∀ i, i < NM → RN (rM ts bs i)) := fun i hi => by rw [rM_pR HROW.out (by have := HNM.out; omega)]; exact pR_len _ _ _
    have HT0 : Hid (ts.getD 0 (tz 0) = t0) := HROW.out.st
    have HRG : Hid (∀ i, i < NM → 1 ≤ (rM ts bs i).1) := fun i hi => (Wi.gE_iff.1 (gR_ep (rM_good HROW.out (by have := HNM.out; omega)))).1
    clear HSR HROW HNM
    as_aux_lemma =>
     go_wp2_with fail
     go_loopw [14] (fun i wx => ∃ s : Nat, s ≤ 64 ∧ i = .int .i64 (s : Int) ∧ Below wR.heap.size wR wx) (fun i _ => 64 - (intOf i).toNat)
     case atStart => exact ⟨0, by omega, rfl, hrefl⟩
     case round =>
      clear hrefl d0
      obtain ⟨s, hs, rfl, hbs⟩ := hrel
      have HB0 : Hid (Below wR.heap.size wR wr) := hbs
      clear hbs
      by_cases hsn : s < 64
      ·have i1 : (0 : Int) ≤ (s : Int) := by omega
       have i2 : (s : Int) < 64 := by omega
       obtain ⟨e0, e1, e2⟩ := (HTR2.out.later HB0.out).ent s hsn
       by_cases hbas : (t0.ro s).bas = 0
       ·have q0 : ((t0.ro s).bas == 0) = true := by simpa using hbas
        clear hbas
        go_wp2_with fail
        go_roundw
        case rel => exact ⟨s + 1, by omega, by go_num, HB0.out⟩
        case measure => simp [intOf]; omega
       ·have q0 : ((t0.ro s).bas == 0) = false := by simpa using hbas
        have htk : tkn (t0.ro s) = true := by simp [Rs.tkn, hbas]
        have HSF : Hid (Sits t0 ts s 0 0) := HF.out s htk
        have hsd := HSD.out s 0 0 hsn (by omega) HSF.out
        rw [HT0.out] at hsd
        have hst := stand_r t0 (t0.ro s).who
        rw [hsd.1, hsd.2, HC0.out] at hst
        obtain ⟨wh, hwh⟩ : ∃ x, (t0.ro s).who = x := ⟨_, rfl⟩
        have HWH : Hid ((t0.ro s).who = wh) := hwh
        rw [hwh] at hst e0
        obtain ⟨m0, hm0⟩ : ∃ x, atS t0 s 0 = x := ⟨_, rfl⟩
        have HM0 : Hid (atS t0 s 0 = m0) := hm0
        rw [hm0] at hst
        obtain ⟨cm0, hcm0⟩ : ∃ x, mba m0 = x := ⟨_, rfl⟩
        have HCM0 : MC m0 cm0 := ⟨hcm0⟩
        rw [hcm0] at hst
        have HSTD : Hid _ := hst
        have HLT : Hid (s < 64) := hsn
        clear hbas htk hsd hwh hm0 hcm0 hst
        go_upto_region 19 with (fail)
        clear q0
        go_cut [15, 16] (fun s15 s16 wx => ∃ M, s15 = .pointer (some ⟨M, 0, none⟩) ∧ s16 = .int .i64 0 ∧ Below wR.heap.size wR wx ∧ MA wx M m0 ∧ wR.heap.size ≤ M)
        case first =>
         have HTD : Hid (TrAt wr.drew B t0) := (HTR2.out.later HB0.out).later (drew_below _)
         have hS0 : Below wR.heap.size wR wr.drew ∧ TrAt wr.drew B t0 := ⟨Wi.Below.join HB0.out (drew_below _), HTD.out⟩
         clear e0 e1 e2
         refine wp_region_held_drew (S := fun W => Below wR.heap.size wR W ∧ TrAt W B t0) (by kernel_rfl) hS0 (fun hHeld => ?_)
         clear hS0
         generalize wr.drew = wd at *
         refine wpAnyH_take (i := 0) (oi := ⟨some 72, Op.load 31 (.tmp 3), _, _, _, none⟩) (v := .agg c0) rfl (by kernel_rfl) (by kernel_rfl) (by kernel_rfl) (fun _ _ _ h => h) (Or.inl ⟨by rfl, fun w hSw => ld_exec (HC0.out ▸ hSw.2.whole) rfl rfl⟩) (by assumption) ?_
         simp only [Act.put, List.setIfInBounds_toArray, List.set_cons_zero, List.set_cons_succ]
         refine wpAnyH_take (i := 1) (oi := ⟨some 73, Op.move (.tmp 14), _, _, _, none⟩) (v := .int .i64 (s : Int)) rfl (by kernel_rfl) (by kernel_rfl) (by kernel_rfl) (fun _ _ _ h => h) (Or.inl ⟨by rfl, fun w hSw => by (try dsimp only at hSw); go_simp⟩) (by assumption) ?_
         simp only [Act.put, List.setIfInBounds_toArray, List.set_cons_zero, List.set_cons_succ]
         refine wpAnyH_take (i := 2) (oi := ⟨some 74, Op.fieldAddr 31 (.tmp 3) 3, _, _, _, none⟩) (v := .pointer (some ⟨B, 44, none⟩)) rfl (by kernel_rfl) (by kernel_rfl) (by kernel_rfl) (fun _ _ _ h => h) (Or.inl ⟨by rfl, fun w hSw => by (try dsimp only at hSw); go_simp⟩) (by assumption) ?_
         simp only [Act.put, List.setIfInBounds_toArray, List.set_cons_zero, List.set_cons_succ]
         refine wpAnyH_take (i := 3) (oi := ⟨some 75, Op.indexAddr 29 (.tmp 74) (.tmp 73), _, _, _, none⟩) (v := .pointer (some ⟨B, 44 + s * 3, none⟩)) rfl (by kernel_rfl) (by kernel_rfl) (by kernel_rfl) (fun _ _ _ h => h) (Or.inl ⟨by rfl, fun w hSw => by (try dsimp only at hSw); go_simp⟩) (by assumption) ?_
         simp only [Act.put, List.setIfInBounds_toArray, List.set_cons_zero, List.set_cons_succ]
         refine wpAnyH_take (i := 4) (oi := ⟨some 76, Op.fieldAddr 27 (.tmp 75) 0, _, _, _, none⟩) (v := .pointer (some ⟨B, 44 + s * 3, none⟩)) rfl (by kernel_rfl) (by kernel_rfl) (by kernel_rfl) (fun _ _ _ h => h) (Or.inl ⟨by rfl, fun w hSw => by (try dsimp only at hSw); go_simp⟩) (by assumption) ?_
         simp only [Act.put, List.setIfInBounds_toArray, List.set_cons_zero, List.set_cons_succ]
         refine wpAnyH_take (i := 5) (oi := ⟨some 77, Op.load 3 (.tmp 76), _, _, _, none⟩) (v := .int .i64 wh) rfl (by kernel_rfl) (by kernel_rfl) (by kernel_rfl) (fun _ _ _ h => h) (Or.inl ⟨by rfl, fun w hSw => by obtain ⟨x0, x1, x2⟩ := hSw.2.ent s HLT.out; rw [HWH.out] at x0; clear hSw; go_simp⟩) (by assumption) ?_
         simp only [Act.put, List.setIfInBounds_toArray, List.set_cons_zero, List.set_cons_succ]
         refine wpAnyH_ready (rs := [6, 10]) (by kernel_rfl) (by simp) ?_
         refine (AllReadyH.cons rfl (fun K hK => ?_) (AllReadyH.cons rfl (fun K hK => ?_) AllReadyH.nil))
         ·go_simp
          refine (HSTD.out _).mono ?_
          rintro e w7 ⟨rfl, hb7⟩
          go_wp2_with fail
          try (have hz := hz.later hb7)
          refine hK.out _ _ ⟨Wi.Below.join hHeld.1 hb7, hHeld.2.later hb7⟩ (fun hHd1 => ?_)
          clear hHeld hb7
          clear hK K
          try simp only [Act.put, List.setIfInBounds_toArray, List.set_cons_zero, List.set_cons_succ]
          refine wpAnyH_take (i := 7) (oi := ⟨some 71, Op.move (.tmp 78), _, _, _, none⟩) (v := .tuple #[.agg cm0, .int .i64 0]) rfl (by kernel_rfl) (by kernel_rfl) (by kernel_rfl) (fun _ _ _ h => h) (Or.inl ⟨by rfl, fun w hSw => by (try dsimp only at hSw); go_simp⟩) (by assumption) ?_
          simp only [Act.put, List.setIfInBounds_toArray, List.set_cons_zero, List.set_cons_succ]
          refine wpAnyH_take (i := 8) (oi := ⟨some 79, Op.extract (.tmp 71) 0, _, _, _, none⟩) (v := .agg cm0) rfl (by kernel_rfl) (by kernel_rfl) (by kernel_rfl) (fun _ _ _ h => h) (Or.inl ⟨by rfl, fun w hSw => by (try dsimp only at hSw); go_simp⟩) (by assumption) ?_
          simp only [Act.put, List.setIfInBounds_toArray, List.set_cons_zero, List.set_cons_succ]
          refine wpAnyH_take (i := 9) (oi := ⟨some 80, Op.extract (.tmp 71) 1, _, _, _, none⟩) (v := .int .i64 0) rfl (by kernel_rfl) (by kernel_rfl) (by kernel_rfl) (fun _ _ _ h => h) (Or.inl ⟨by rfl, fun w hSw => by (try dsimp only at hSw); go_simp⟩) (by assumption) ?_
          simp only [Act.put, List.setIfInBounds_toArray, List.set_cons_zero, List.set_cons_succ]
          refine wpAnyH_ready (rs := [10]) (by kernel_rfl) (by simp) ?_
          refine AllReadyH.cons rfl (fun K hK => ?_) AllReadyH.nil
          go_simp
          have hgM := hHd1.1.size
          refine hK.out _ _ ⟨Wi.Below.join hHd1.1 (below_alloc _ _), hHd1.2.later (below_alloc _ _)⟩ (fun hHd2 => ?_)
          first | have hz := mb_of2 hHd2.1 | have hz := mb_of hHd2.1
          clear hHd1
          clear hK K
          try simp only [Act.put, List.setIfInBounds_toArray, List.set_cons_zero, List.set_cons_succ]
          refine wpAnyH_ready (rs := [11]) (by kernel_rfl) (by simp) ?_
          refine AllReadyH.cons rfl (fun Kc hK => ?_) AllReadyH.nil
          refine if_wp rfl (wp_stRow0 49 _ _ rfl _ cm0 rfl rfl 49 _ hz (by rw [← HCM0.out]; exact infoMb) (by rw [← HCM0.out]; rfl) (by rw [← HCM0.out]; exact mba_one m0) rfl ?_)
          have hzZ := Rt.heap_setRow_same hz cm0
          refine hK.out _ _ ⟨Rt.setRow_below hgM hHd2.1 _, (Rt.row_other (block_ne hHd2.2 hz (by decide)) _).trans hHd2.2⟩ (fun hHd3 => ?_)
          clear hHd2
          clear hK Kc
          try simp only [Act.put, List.setIfInBounds_toArray, List.set_cons_zero, List.set_cons_succ]
          refine wpAnyH_take (i := 12) (oi := ⟨some 16, Op.assign (.tmp 80), _, _, _, none⟩) (v := .int .i64 0) rfl (by kernel_rfl) (by kernel_rfl) (by kernel_rfl) (fun _ _ _ h => h) (Or.inl ⟨by rfl, fun w hSw => by (try dsimp only at hSw); go_simp⟩) (by assumption) ?_
          simp only [Act.put, List.setIfInBounds_toArray, List.set_cons_zero, List.set_cons_succ]
          refine wpAnyH_done (by kernel_rfl) ?_ _
          go_wp2_with fail
          go_meet
          case rel => exact ⟨_, rfl, rfl, hHd3.1, by unfold MA; rw [HCM0.out]; exact hzZ, hgM⟩
         ·go_simp
          have hgM := hHeld.1.size
          refine hK.out _ _ ⟨Wi.Below.join hHeld.1 (below_alloc _ _), hHeld.2.later (below_alloc _ _)⟩ (fun hHd1 => ?_)
          first | have hz := mb_of2 hHd1.1 | have hz := mb_of hHd1.1
          clear hHeld
          clear hK K
          try simp only [Act.put, List.setIfInBounds_toArray, List.set_cons_zero, List.set_cons_succ]
          refine wpAnyH_ready (rs := [6]) (by kernel_rfl) (by simp) ?_
          refine AllReadyH.cons rfl (fun K hK => ?_) AllReadyH.nil
          go_simp
          refine (HSTD.out _).mono ?_
          rintro e w7 ⟨rfl, hb7⟩
          go_wp2_with fail
          try (have hz := hz.later hb7)
          refine hK.out _ _ ⟨Wi.Below.join hHd1.1 hb7, hHd1.2.later hb7⟩ (fun hHd2 => ?_)
          clear hHd1 hb7
          clear hK K
          try simp only [Act.put, List.setIfInBounds_toArray, List.set_cons_zero, List.set_cons_succ]
          refine wpAnyH_take (i := 7) (oi := ⟨some 71, Op.move (.tmp 78), _, _, _, none⟩) (v := .tuple #[.agg cm0, .int .i64 0]) rfl (by kernel_rfl) (by kernel_rfl) (by kernel_rfl) (fun _ _ _ h => h) (Or.inl ⟨by rfl, fun w hSw => by (try dsimp only at hSw); go_simp⟩) (by assumption) ?_
          simp only [Act.put, List.setIfInBounds_toArray, List.set_cons_zero, List.set_cons_succ]
          refine wpAnyH_take (i := 8) (oi := ⟨some 79, Op.extract (.tmp 71) 0, _, _, _, none⟩) (v := .agg cm0) rfl (by kernel_rfl) (by kernel_rfl) (by kernel_rfl) (fun _ _ _ h => h) (Or.inl ⟨by rfl, fun w hSw => by (try dsimp only at hSw); go_simp⟩) (by assumption) ?_
          simp only [Act.put, List.setIfInBounds_toArray, List.set_cons_zero, List.set_cons_succ]
          refine wpAnyH_take (i := 9) (oi := ⟨some 80, Op.extract (.tmp 71) 1, _, _, _, none⟩) (v := .int .i64 0) rfl (by kernel_rfl) (by kernel_rfl) (by kernel_rfl) (fun _ _ _ h => h) (Or.inl ⟨by rfl, fun w hSw => by (try dsimp only at hSw); go_simp⟩) (by assumption) ?_
          simp only [Act.put, List.setIfInBounds_toArray, List.set_cons_zero, List.set_cons_succ]
          refine wpAnyH_ready (rs := [11]) (by kernel_rfl) (by simp) ?_
          refine AllReadyH.cons rfl (fun Kc hK => ?_) AllReadyH.nil
          refine if_wp rfl (wp_stRow0 49 _ _ rfl _ cm0 rfl rfl 49 _ hz (by rw [← HCM0.out]; exact infoMb) (by rw [← HCM0.out]; rfl) (by rw [← HCM0.out]; exact mba_one m0) rfl ?_)
          have hzZ := Rt.heap_setRow_same hz cm0
          refine hK.out _ _ ⟨Rt.setRow_below hgM hHd2.1 _, (Rt.row_other (block_ne hHd2.2 hz (by decide)) _).trans hHd2.2⟩ (fun hHd3 => ?_)
          clear hHd2
          clear hK Kc
          try simp only [Act.put, List.setIfInBounds_toArray, List.set_cons_zero, List.set_cons_succ]
          refine wpAnyH_take (i := 12) (oi := ⟨some 16, Op.assign (.tmp 80), _, _, _, none⟩) (v := .int .i64 0) rfl (by kernel_rfl) (by kernel_rfl) (by kernel_rfl) (fun _ _ _ h => h) (Or.inl ⟨by rfl, fun w hSw => by (try dsimp only at hSw); go_simp⟩) (by assumption) ?_
          simp only [Act.put, List.setIfInBounds_toArray, List.set_cons_zero, List.set_cons_succ]
          refine wpAnyH_done (by kernel_rfl) ?_ _
          go_wp2_with fail
          go_meet
          case rel => exact ⟨_, rfl, rfl, hHd3.1, by unfold MA; rw [HCM0.out]; exact hzZ, hgM⟩
        case rest =>
         obtain ⟨M, rfl, rfl, hbM, hMA, hgM⟩ := hcut
         clear HB0 e0 e1 e2 HSTD
         have HGM : Hid (wR.heap.size ≤ M) := hgM
         have HMA0 : Hid (MA wc M (atS (ts.getD 0 (tz 0)) s 0)) := by rw [HT0.out, HM0.out]; exact hMA
         clear hMA HM0 HCM0 hgM
         go_upto_region 24 with (fail)
         as_aux_lemma =>
          go_loopw [17, 85] (fun s17 s85 wx => ∃ (q j : Nat) (b : Int), q ≤ NM ∧ j ≤ nP ∧ s17 = .int .i64 (q : Int) ∧ s85 = .int .i64 (j : Int) ∧ Below wR.heap.size wR wx ∧ MA wx M (atS (ts.getD q (tz 0)) s b) ∧ Sits t0 ts s q b) (fun _ i _ => nP - (intOf i).toNat)
          case atStart => exact ⟨0, 0, 0, by omega, by omega, rfl, rfl, hbM, HMA0.out, HSF.out⟩
          case round =>
           clear hbM HMA0 HSF
           obtain ⟨q, j, b, hq, hj, rfl, rfl, hbw, hma, hsit⟩ := hrel
           have HSIT : Hid (Sits t0 ts s q b) := hsit
           have HB2 : Hid (Below wR.heap.size wR wr) := hbw
           have HMQ : Hid (MA wr M (atS (ts.getD q (tz 0)) s b)) := hma
           have HQ : Hid (q ≤ NM) := hq
           clear hsit hbw hma hq
           by_cases hjn : j < nP
           ·obtain ⟨bp, op, hap, hcp⟩ := (HRP2.out.later HB2.out) j (by rw [HNP.out]; exact hjn)
            have hnz : (0 : Int) < (NM : Int) := by have := HZ.out; omega
            have hnl : (NM : Int) ≤ 200 := by have := HNM3.out; omega
            obtain ⟨i, hi1, hi2⟩ := mod_of (lp.getD j 0) (NM : Int) hnz (by omega)
            generalize lp.getD j 0 = pv at *
            subst hap
            have i1 : (0 : Int) ≤ (j : Int) := by omega
            have i2 : (j : Int) < (nP : Int) := by omega
            go_upto_region 27 with (fail)
            rw [hi1]
            have HIN : Hid (i < NM) := by unfold Hid; omega
            clear hi1 hi2 hcp hnz hnl i1 i2
            obtain ⟨m1, m2, m3, k1, k2, k3, hmsg⟩ := HMS.out i HIN.out
            have hap' := fun W (hW : Below wR.heap.size wR W) => apply_any (atS (ts.getD q (tz 0)) s b) (rM ts bs i) m1 m2 m3 k1 k2 k3 W (hmsg W hW).2 (HRN.out i HIN.out)
            obtain ⟨x, hx⟩ : ∃ x, apl (atS (ts.getD q (tz 0)) s b) (rM ts bs i) = x := ⟨_, rfl⟩
            have HX : Hid (apl (atS (ts.getD q (tz 0)) s b) (rM ts bs i) = x) := hx
            simp only [hx] at hap'
            unfold ApR at hap'
            obtain ⟨xe, xn⟩ := x
            dsimp only at hap'
            obtain ⟨cq, hcq⟩ : ∃ c, mba (atS (ts.getD q (tz 0)) s b) = c := ⟨_, rfl⟩
            have HCQ : MC (atS (ts.getD q (tz 0)) s b) cq := ⟨hcq⟩
            obtain ⟨cr', hcr⟩ : ∃ c, rka (rM ts bs i) m1 m2 m3 k1 k2 k3 = c := ⟨_, rfl⟩
            have HCR : EA (rka (rM ts bs i) m1 m2 m3 k1 k2 k3) cr' := ⟨hcr⟩
            obtain ⟨cn', hcn⟩ : ∃ c, mba xn = c := ⟨_, rfl⟩
            have HCX : MC xn cn' := ⟨hcn⟩
            simp only [hcq, hcr, hcn] at hap'
            have HAP : Hid _ := hap'
            have HMG : Hid (∀ W, Below wR.heap.size wR W → W.rangeAt gx (i * 4) (rka (rM ts bs i) m1 m2 m3 k1 k2 k3).toList) := fun W hW => (hmsg W hW).1
            have HMC : Hid (∀ W, Below wR.heap.size wR W → W.cell? ⟨gx, i * 4, none⟩ = some (.int .i64 (rM ts bs i).1)) := fun W hW => (hmsg W hW).1 0 _ rfl
            clear hcq hcr hcn hap' hmsg hx
            have j1 : (0 : Int) ≤ (i : Int) := by omega
            have j2 : (i : Int) < (NM : Int) := by have := HIN.out; omega
            go_cut [21, 22] (fun s21 s22 wx => ∃ N, s21 = .pointer (some ⟨N, 0, none⟩) ∧ s22 = .int .i64 xe ∧ Below wR.heap.size wR wx ∧ MA wx M (atS (ts.getD q (tz 0)) s b) ∧ MA wx N xn)
            case first =>
             have hS0 : Below wR.heap.size wR wr.drew ∧ MA wr.drew M (atS (ts.getD q (tz 0)) s b) := ⟨Wi.Below.join HB2.out (drew_below _), HMQ.out.later (drew_below _)⟩
             refine wp_region_held_drew (S := fun W => Below wR.heap.size wR W ∧ MA W M (atS (ts.getD q (tz 0)) s b)) (by kernel_rfl) hS0 (fun hHeld => ?_)
             clear hS0
             generalize wr.drew = wd at *
             refine wpAnyH_take (i := 0) (oi := ⟨some 97, Op.load 49 (.tmp 15), _, _, _, none⟩) (v := .agg cq) rfl (by kernel_rfl) (by kernel_rfl) (by kernel_rfl) (fun _ _ _ h => h) (Or.inl ⟨by rfl, fun w hSw => ldMb_exec hSw.2 HCQ.out rfl rfl⟩) (by assumption) ?_
             simp only [Act.put, List.setIfInBounds_toArray, List.set_cons_zero, List.set_cons_succ]
             refine wpAnyH_take (i := 1) (oi := ⟨some 98, Op.move (.tmp 8), _, _, _, none⟩) (v := .slice (some ⟨gx, 0, none⟩) NM cx) rfl (by kernel_rfl) (by kernel_rfl) (by kernel_rfl) (fun _ _ _ h => h) (Or.inl ⟨by rfl, fun w hSw => by (try dsimp only at hSw); go_simp⟩) (by assumption) ?_
             simp only [Act.put, List.setIfInBounds_toArray, List.set_cons_zero, List.set_cons_succ]
             refine wpAnyH_take (i := 2) (oi := ⟨some 99, Op.move (.tmp 20), _, _, _, none⟩) (v := .int .i64 (i : Int)) rfl (by kernel_rfl) (by kernel_rfl) (by kernel_rfl) (fun _ _ _ h => h) (Or.inl ⟨by rfl, fun w hSw => by (try dsimp only at hSw); go_simp⟩) (by assumption) ?_
             simp only [Act.put, List.setIfInBounds_toArray, List.set_cons_zero, List.set_cons_succ]
             refine wpAnyH_take (i := 3) (oi := ⟨some 100, Op.indexAddr 36 (.tmp 98) (.tmp 99), _, _, _, none⟩) (v := .pointer (some ⟨gx, i * 4, none⟩)) rfl (by kernel_rfl) (by kernel_rfl) (by kernel_rfl) (fun _ _ _ h => h) (Or.inl ⟨by rfl, fun w hSw => by (try dsimp only at hSw); go_simp⟩) (by assumption) ?_
             simp only [Act.put, List.setIfInBounds_toArray, List.set_cons_zero, List.set_cons_succ]
             refine wpAnyH_take (i := 4) (oi := ⟨some 101, Op.load 42 (.tmp 100), _, _, _, none⟩) (v := .agg cr') rfl (by kernel_rfl) (by kernel_rfl) (by kernel_rfl) (fun _ _ _ h => h) (Or.inl ⟨by rfl, fun w hSw => rk_at2 HCR.out (HMG.out _ hSw.1) rfl rfl⟩) (by assumption) ?_
             simp only [Act.put, List.setIfInBounds_toArray, List.set_cons_zero, List.set_cons_succ]
             refine wpAnyH_ready (rs := [5, 9]) (by kernel_rfl) (by simp) ?_
             refine (AllReadyH.cons rfl (fun K hK => ?_) (AllReadyH.cons rfl (fun K hK => ?_) AllReadyH.nil))
             ·go_simp
              refine (HAP.out _ hHeld.1).mono ?_
              rintro e w7 ⟨rfl, hb7⟩
              go_wp2_with fail
              try (have hz := hz.later hb7)
              refine hK.out _ _ ⟨Wi.Below.join hHeld.1 hb7, hHeld.2.later hb7⟩ (fun hHd1 => ?_)
              clear hHeld hb7
              clear hK K
              try simp only [Act.put, List.setIfInBounds_toArray, List.set_cons_zero, List.set_cons_succ]
              refine wpAnyH_take (i := 6) (oi := ⟨some 96, Op.move (.tmp 102), _, _, _, none⟩) (v := .tuple #[.agg cn', .int .i64 xe]) rfl (by kernel_rfl) (by kernel_rfl) (by kernel_rfl) (fun _ _ _ h => h) (Or.inl ⟨by rfl, fun w hSw => by (try dsimp only at hSw); go_simp⟩) (by assumption) ?_
              simp only [Act.put, List.setIfInBounds_toArray, List.set_cons_zero, List.set_cons_succ]
              refine wpAnyH_take (i := 7) (oi := ⟨some 103, Op.extract (.tmp 96) 0, _, _, _, none⟩) (v := .agg cn') rfl (by kernel_rfl) (by kernel_rfl) (by kernel_rfl) (fun _ _ _ h => h) (Or.inl ⟨by rfl, fun w hSw => by (try dsimp only at hSw); go_simp⟩) (by assumption) ?_
              simp only [Act.put, List.setIfInBounds_toArray, List.set_cons_zero, List.set_cons_succ]
              refine wpAnyH_take (i := 8) (oi := ⟨some 104, Op.extract (.tmp 96) 1, _, _, _, none⟩) (v := .int .i64 xe) rfl (by kernel_rfl) (by kernel_rfl) (by kernel_rfl) (fun _ _ _ h => h) (Or.inl ⟨by rfl, fun w hSw => by (try dsimp only at hSw); go_simp⟩) (by assumption) ?_
              simp only [Act.put, List.setIfInBounds_toArray, List.set_cons_zero, List.set_cons_succ]
              refine wpAnyH_ready (rs := [9]) (by kernel_rfl) (by simp) ?_
              refine AllReadyH.cons rfl (fun K hK => ?_) AllReadyH.nil
              go_simp
              have hgN := hHd1.1.size
              have hMN := Nat.ne_of_lt hHd1.2.lt
              refine hK.out _ _ ⟨Wi.Below.join hHd1.1 (below_alloc _ _), hHd1.2.later (below_alloc _ _)⟩ (fun hHd2 => ?_)
              first | have hz := mb_of2 hHd2.1 | have hz := mb_of hHd2.1
              clear hHd1
              clear hK K
              try simp only [Act.put, List.setIfInBounds_toArray, List.set_cons_zero, List.set_cons_succ]
              refine wpAnyH_ready (rs := [10]) (by kernel_rfl) (by simp) ?_
              refine AllReadyH.cons rfl (fun Kc hK => ?_) AllReadyH.nil
              refine if_wp rfl (wp_stRow0 49 _ _ rfl _ cn' rfl rfl 49 _ hz (by rw [← HCX.out]; exact infoMb) (by rw [← HCX.out]; rfl) (by rw [← HCX.out]; exact mba_one xn) rfl ?_)
              have hzZ := Rt.heap_setRow_same hz cn'
              refine hK.out _ _ ⟨Rt.setRow_below hgN hHd2.1 _, (Rt.row_other hMN _).trans hHd2.2⟩ (fun hHd3 => ?_)
              clear hHd2
              clear hK Kc
              try simp only [Act.put, List.setIfInBounds_toArray, List.set_cons_zero, List.set_cons_succ]
              refine wpAnyH_take (i := 11) (oi := ⟨some 22, Op.assign (.tmp 104), _, _, _, none⟩) (v := .int .i64 xe) rfl (by kernel_rfl) (by kernel_rfl) (by kernel_rfl) (fun _ _ _ h => h) (Or.inl ⟨by rfl, fun w hSw => by (try dsimp only at hSw); go_simp⟩) (by assumption) ?_
              simp only [Act.put, List.setIfInBounds_toArray, List.set_cons_zero, List.set_cons_succ]
              refine wpAnyH_done (by kernel_rfl) ?_ _
              go_wp2_with fail
              go_meet
              case rel => exact ⟨_, rfl, rfl, hHd3.1, hHd3.2, by unfold MA; rw [HCX.out]; exact hzZ⟩
             ·go_simp
              have hgN := hHeld.1.size
              have hMN := Nat.ne_of_lt hHeld.2.lt
              refine hK.out _ _ ⟨Wi.Below.join hHeld.1 (below_alloc _ _), hHeld.2.later (below_alloc _ _)⟩ (fun hHd1 => ?_)
              first | have hz := mb_of2 hHd1.1 | have hz := mb_of hHd1.1
              clear hHeld
              clear hK K
              try simp only [Act.put, List.setIfInBounds_toArray, List.set_cons_zero, List.set_cons_succ]
              refine wpAnyH_ready (rs := [5]) (by kernel_rfl) (by simp) ?_
              refine AllReadyH.cons rfl (fun K hK => ?_) AllReadyH.nil
              go_simp
              refine (HAP.out _ hHd1.1).mono ?_
              rintro e w7 ⟨rfl, hb7⟩
              go_wp2_with fail
              try (have hz := hz.later hb7)
              refine hK.out _ _ ⟨Wi.Below.join hHd1.1 hb7, hHd1.2.later hb7⟩ (fun hHd2 => ?_)
              clear hHd1 hb7
              clear hK K
              try simp only [Act.put, List.setIfInBounds_toArray, List.set_cons_zero, List.set_cons_succ]
              refine wpAnyH_take (i := 6) (oi := ⟨some 96, Op.move (.tmp 102), _, _, _, none⟩) (v := .tuple #[.agg cn', .int .i64 xe]) rfl (by kernel_rfl) (by kernel_rfl) (by kernel_rfl) (fun _ _ _ h => h) (Or.inl ⟨by rfl, fun w hSw => by (try dsimp only at hSw); go_simp⟩) (by assumption) ?_
              simp only [Act.put, List.setIfInBounds_toArray, List.set_cons_zero, List.set_cons_succ]
              refine wpAnyH_take (i := 7) (oi := ⟨some 103, Op.extract (.tmp 96) 0, _, _, _, none⟩) (v := .agg cn') rfl (by kernel_rfl) (by kernel_rfl) (by kernel_rfl) (fun _ _ _ h => h) (Or.inl ⟨by rfl, fun w hSw => by (try dsimp only at hSw); go_simp⟩) (by assumption) ?_
              simp only [Act.put, List.setIfInBounds_toArray, List.set_cons_zero, List.set_cons_succ]
              refine wpAnyH_take (i := 8) (oi := ⟨some 104, Op.extract (.tmp 96) 1, _, _, _, none⟩) (v := .int .i64 xe) rfl (by kernel_rfl) (by kernel_rfl) (by kernel_rfl) (fun _ _ _ h => h) (Or.inl ⟨by rfl, fun w hSw => by (try dsimp only at hSw); go_simp⟩) (by assumption) ?_
              simp only [Act.put, List.setIfInBounds_toArray, List.set_cons_zero, List.set_cons_succ]
              refine wpAnyH_ready (rs := [10]) (by kernel_rfl) (by simp) ?_
              refine AllReadyH.cons rfl (fun Kc hK => ?_) AllReadyH.nil
              refine if_wp rfl (wp_stRow0 49 _ _ rfl _ cn' rfl rfl 49 _ hz (by rw [← HCX.out]; exact infoMb) (by rw [← HCX.out]; rfl) (by rw [← HCX.out]; exact mba_one xn) rfl ?_)
              have hzZ := Rt.heap_setRow_same hz cn'
              refine hK.out _ _ ⟨Rt.setRow_below hgN hHd2.1 _, (Rt.row_other hMN _).trans hHd2.2⟩ (fun hHd3 => ?_)
              clear hHd2
              clear hK Kc
              try simp only [Act.put, List.setIfInBounds_toArray, List.set_cons_zero, List.set_cons_succ]
              refine wpAnyH_take (i := 11) (oi := ⟨some 22, Op.assign (.tmp 104), _, _, _, none⟩) (v := .int .i64 xe) rfl (by kernel_rfl) (by kernel_rfl) (by kernel_rfl) (fun _ _ _ h => h) (Or.inl ⟨by rfl, fun w hSw => by (try dsimp only at hSw); go_simp⟩) (by assumption) ?_
              simp only [Act.put, List.setIfInBounds_toArray, List.set_cons_zero, List.set_cons_succ]
              refine wpAnyH_done (by kernel_rfl) ?_ _
              go_wp2_with fail
              go_meet
              case rel => exact ⟨_, rfl, rfl, hHd3.1, hHd3.2, by unfold MA; rw [HCX.out]; exact hzZ⟩
            case rest =>
             obtain ⟨N, rfl, rfl, hbc, hMc, hNc⟩ := hcut
             clear HAP HMG HCR HCQ HB2 HMQ
             go_upto_region 29 with (first | (refine ldMb hNc HCX.out _ rfl rfl rfl ?_) | (refine stMb hMc HCX.out rfl _ _ rfl rfl rfl ?_))
             have hM3 := hMc.row xn
             have HB3 : Hid (Below wR.heap.size wR (wc.setRow M (mba xn))) := Rt.setRow_below HGM.out hbc _
             clear hMc hNc hbc HCX
             generalize wc.setRow M (mba xn) = w3 at *
             have hway := HWY.out s q i b HLT.out HQ.out HIN.out HSIT.out
             cases hway with
             | old h e =>
              obtain ⟨rfl, rfl⟩ := Prod.mk.inj (HX.out.symm.trans e)
              have HS2 : Hid (Sits t0 ts s q b) := HSIT.out
              have co := hM3.out
              have d1 : ((i : Int) == (q : Int)) = false := by simp; omega
              have d2 : decide ((i : Int) < (q : Int)) = true := decide_eq_true (by omega)
              have d3 : decide ((q : Int) < (i : Int)) = false := decide_eq_false (by omega)
              have e2 : decide (i < q) = true := decide_eq_true h
              have e3 : decide (q < i) = false := decide_eq_false (by omega)
              have e1 : (i == q) = false := by simp; omega
              clear HSIT e HX
              go_upto_region 34 with (fail)
              clear co d1 d2 d3 e1 e2 e3 h
              as_aux_lemma =>
               have hsd := HSD.out s q b HLT.out HQ.out HS2.out
               have hst := stand_r (ts.getD q (tz 0)) wh
               rw [HWH.out] at hsd
               rw [hsd.1, hsd.2] at hst
               have HWQ0 : Hid (((ts.getD q (tz 0)).ro s).who = wh) := by unfold Hid; rw [HS2.out.ro]; exact HWH.out
               have HBH0 : Hid (b = 0 ∨ ((ts.getD q (tz 0)).ep < b ∧ b ≤ 200)) := HS2.out.bh
               have HTQ0 : Hid (∀ W, Below wR.heap.size wR W → (Instr.loadAt 31 (.pointer (some ⟨gt, q * 236, none⟩))).run Try.prog W = .ok (.agg (tcs (ts.getD q (tz 0)))) W) := fun W hW => (HTS.out q HQ.out W hW).1
               obtain ⟨tq, htq⟩ : ∃ x, ts.getD q (tz 0) = x := ⟨_, rfl⟩
               have HTE : Hid (ts.getD q (tz 0) = tq) := htq
               rw [htq] at hst hM3 HWQ0 HBH0 HTQ0
               have HWQ : Hid ((atS tq s b).who = wh) := HWQ0.out
               obtain ⟨cz, hcz⟩ : ∃ c, mba (atS tq s 0) = c := ⟨_, rfl⟩
               have HCZ : MC (atS tq s 0) cz := ⟨hcz⟩
               obtain ⟨ct, hct⟩ : ∃ c, tcs tq = c := ⟨_, rfl⟩
               have HCT : EA (tcs tq) ct := ⟨hct⟩
               obtain ⟨cq, hcq⟩ : ∃ c, mba (atS tq s b) = c := ⟨_, rfl⟩
               have HCQ : MC (atS tq s b) cq := ⟨hcq⟩
               rw [hct, hcz] at hst
               have HSTQ : Hid _ := hst
               obtain ⟨ri, hri⟩ : ∃ x, (rM ts bs i).1 = x := ⟨_, rfl⟩
               have HRI : Hid ((rM ts bs i).1 = ri) := hri
               clear hsd hst htq hcz hct hcq hri HWQ0
               have u1 : (0 : Int) ≤ (q : Int) := by omega
               have u2 : (q : Int) < (NT : Int) := by have := HQ.out; have := HNT.out; omega
               go_cut [23, 24] (fun s23 s24 wx => ∃ G, s23 = .pointer (some ⟨G, 0, none⟩) ∧ s24 = .int .i64 0 ∧ Below wR.heap.size wR wx ∧ MA wx M (atS tq s b) ∧ MA wx G (atS tq s 0) ∧ M ≠ G ∧ wR.heap.size ≤ G)
               case first =>
                have hS0 : Below wR.heap.size wR w3.drew ∧ MA w3.drew M (atS tq s b) := ⟨Wi.Below.join HB3.out (drew_below _), hM3.later (drew_below _)⟩
                clear hM3 HB3
                refine wp_region_held_drew (S := fun W => Below wR.heap.size wR W ∧ MA W M (atS tq s b)) (by kernel_rfl) hS0 (fun hHeld => ?_)
                clear hS0
                generalize w3.drew = wd at *
                refine wpAnyH_take (i := 0) (oi := ⟨some 139, Op.move (.tmp 7), _, _, _, none⟩) (v := .slice (some ⟨gt, 0, none⟩) NT cr) rfl (by kernel_rfl) (by kernel_rfl) (by kernel_rfl) (fun _ _ _ h => h) (Or.inl ⟨by rfl, fun w hSw => by (try dsimp only at hSw); go_simp⟩) (by assumption) ?_
                simp only [Act.put, List.setIfInBounds_toArray, List.set_cons_zero, List.set_cons_succ]
                refine wpAnyH_take (i := 1) (oi := ⟨some 140, Op.move (.tmp 17), _, _, _, none⟩) (v := .int .i64 (q : Int)) rfl (by kernel_rfl) (by kernel_rfl) (by kernel_rfl) (fun _ _ _ h => h) (Or.inl ⟨by rfl, fun w hSw => by (try dsimp only at hSw); go_simp⟩) (by assumption) ?_
                simp only [Act.put, List.setIfInBounds_toArray, List.set_cons_zero, List.set_cons_succ]
                refine wpAnyH_take (i := 2) (oi := ⟨some 141, Op.indexAddr 35 (.tmp 139) (.tmp 140), _, _, _, none⟩) (v := .pointer (some ⟨gt, q * 236, none⟩)) rfl (by kernel_rfl) (by kernel_rfl) (by kernel_rfl) (fun _ _ _ h => h) (Or.inl ⟨by rfl, fun w hSw => by (try dsimp only at hSw); go_simp⟩) (by assumption) ?_
                simp only [Act.put, List.setIfInBounds_toArray, List.set_cons_zero, List.set_cons_succ]
                refine wpAnyH_take (i := 3) (oi := ⟨some 142, Op.load 31 (.tmp 141), _, _, _, none⟩) (v := .agg ct) rfl (by kernel_rfl) (by kernel_rfl) (by kernel_rfl) (fun _ _ _ h => h) (Or.inl ⟨by rfl, fun w hSw => ld_exec2 HCT.out (HTQ0.out _ hSw.1) rfl rfl⟩) (by assumption) ?_
                simp only [Act.put, List.setIfInBounds_toArray, List.set_cons_zero, List.set_cons_succ]
                refine wpAnyH_take (i := 4) (oi := ⟨some 143, Op.fieldAddr 49 (.tmp 15) 0, _, _, _, none⟩) (v := .pointer (some ⟨M, 0, none⟩)) rfl (by kernel_rfl) (by kernel_rfl) (by kernel_rfl) (fun _ _ _ h => h) (Or.inl ⟨by rfl, fun w hSw => by (try dsimp only at hSw); go_simp⟩) (by assumption) ?_
                simp only [Act.put, List.setIfInBounds_toArray, List.set_cons_zero, List.set_cons_succ]
                refine wpAnyH_take (i := 5) (oi := ⟨some 144, Op.load 3 (.tmp 143), _, _, _, none⟩) (v := .int .i64 wh) rfl (by kernel_rfl) (by kernel_rfl) (by kernel_rfl) (fun _ _ _ h => h) (Or.inl ⟨by rfl, fun w hSw => by have h := hSw.2.who; rw [HWQ.out] at h; clear hSw; go_simp⟩) (by assumption) ?_
                simp only [Act.put, List.setIfInBounds_toArray, List.set_cons_zero, List.set_cons_succ]
                refine wpAnyH_ready (rs := [6, 10]) (by kernel_rfl) (by simp) ?_
                refine (AllReadyH.cons rfl (fun K hK => ?_) (AllReadyH.cons rfl (fun K hK => ?_) AllReadyH.nil))
                ·go_simp
                 refine (HSTQ.out _).mono ?_
                 rintro e w7 ⟨rfl, hb7⟩
                 go_wp2_with fail
                 try (have hz := hz.later hb7)
                 refine hK.out _ _ ⟨Wi.Below.join hHeld.1 hb7, hHeld.2.later hb7⟩ (fun hHd1 => ?_)
                 clear hHeld hb7
                 clear hK K
                 try simp only [Act.put, List.setIfInBounds_toArray, List.set_cons_zero, List.set_cons_succ]
                 refine wpAnyH_take (i := 7) (oi := ⟨some 138, Op.move (.tmp 145), _, _, _, none⟩) (v := .tuple #[.agg cz, .int .i64 0]) rfl (by kernel_rfl) (by kernel_rfl) (by kernel_rfl) (fun _ _ _ h => h) (Or.inl ⟨by rfl, fun w hSw => by (try dsimp only at hSw); go_simp⟩) (by assumption) ?_
                 simp only [Act.put, List.setIfInBounds_toArray, List.set_cons_zero, List.set_cons_succ]
                 refine wpAnyH_take (i := 8) (oi := ⟨some 146, Op.extract (.tmp 138) 0, _, _, _, none⟩) (v := .agg cz) rfl (by kernel_rfl) (by kernel_rfl) (by kernel_rfl) (fun _ _ _ h => h) (Or.inl ⟨by rfl, fun w hSw => by (try dsimp only at hSw); go_simp⟩) (by assumption) ?_
                 simp only [Act.put, List.setIfInBounds_toArray, List.set_cons_zero, List.set_cons_succ]
                 refine wpAnyH_take (i := 9) (oi := ⟨some 147, Op.extract (.tmp 138) 1, _, _, _, none⟩) (v := .int .i64 0) rfl (by kernel_rfl) (by kernel_rfl) (by kernel_rfl) (fun _ _ _ h => h) (Or.inl ⟨by rfl, fun w hSw => by (try dsimp only at hSw); go_simp⟩) (by assumption) ?_
                 simp only [Act.put, List.setIfInBounds_toArray, List.set_cons_zero, List.set_cons_succ]
                 refine wpAnyH_ready (rs := [10]) (by kernel_rfl) (by simp) ?_
                 refine AllReadyH.cons rfl (fun K hK => ?_) AllReadyH.nil
                 go_simp
                 have hgG := hHd1.1.size
                 have hMG := Nat.ne_of_lt hHd1.2.lt
                 refine hK.out _ _ ⟨Wi.Below.join hHd1.1 (below_alloc _ _), hHd1.2.later (below_alloc _ _)⟩ (fun hHd2 => ?_)
                 first | have hz := mb_of2 hHd2.1 | have hz := mb_of hHd2.1
                 clear hHd1
                 clear hK K
                 try simp only [Act.put, List.setIfInBounds_toArray, List.set_cons_zero, List.set_cons_succ]
                 refine wpAnyH_ready (rs := [11]) (by kernel_rfl) (by simp) ?_
                 refine AllReadyH.cons rfl (fun Kc hK => ?_) AllReadyH.nil
                 refine if_wp rfl (wp_stRow0 49 _ _ rfl _ cz rfl rfl 49 _ hz (by rw [← HCZ.out]; exact infoMb) (by rw [← HCZ.out]; rfl) (by rw [← HCZ.out]; exact mba_one _) rfl ?_)
                 have hzZ := Rt.heap_setRow_same hz cz
                 refine hK.out _ _ ⟨Rt.setRow_below hgG hHd2.1 _, (Rt.row_other hMG _).trans hHd2.2⟩ (fun hHd3 => ?_)
                 clear hHd2
                 clear hK Kc
                 try simp only [Act.put, List.setIfInBounds_toArray, List.set_cons_zero, List.set_cons_succ]
                 refine wpAnyH_take (i := 12) (oi := ⟨some 24, Op.assign (.tmp 147), _, _, _, none⟩) (v := .int .i64 0) rfl (by kernel_rfl) (by kernel_rfl) (by kernel_rfl) (fun _ _ _ h => h) (Or.inl ⟨by rfl, fun w hSw => by (try dsimp only at hSw); go_simp⟩) (by assumption) ?_
                 simp only [Act.put, List.setIfInBounds_toArray, List.set_cons_zero, List.set_cons_succ]
                 refine wpAnyH_done (by kernel_rfl) ?_ _
                 go_wp2_with fail
                 go_meet
                 case rel => exact ⟨_, rfl, rfl, hHd3.1, hHd3.2, by unfold MA; rw [HCZ.out]; exact hzZ, hMG, hgG⟩
                ·go_simp
                 have hgG := hHeld.1.size
                 have hMG := Nat.ne_of_lt hHeld.2.lt
                 refine hK.out _ _ ⟨Wi.Below.join hHeld.1 (below_alloc _ _), hHeld.2.later (below_alloc _ _)⟩ (fun hHd1 => ?_)
                 first | have hz := mb_of2 hHd1.1 | have hz := mb_of hHd1.1
                 clear hHeld
                 clear hK K
                 try simp only [Act.put, List.setIfInBounds_toArray, List.set_cons_zero, List.set_cons_succ]
                 refine wpAnyH_ready (rs := [6]) (by kernel_rfl) (by simp) ?_
                 refine AllReadyH.cons rfl (fun K hK => ?_) AllReadyH.nil
                 go_simp
                 refine (HSTQ.out _).mono ?_
                 rintro e w7 ⟨rfl, hb7⟩
                 go_wp2_with fail
                 try (have hz := hz.later hb7)
                 refine hK.out _ _ ⟨Wi.Below.join hHd1.1 hb7, hHd1.2.later hb7⟩ (fun hHd2 => ?_)
                 clear hHd1 hb7
                 clear hK K
                 try simp only [Act.put, List.setIfInBounds_toArray, List.set_cons_zero, List.set_cons_succ]
                 refine wpAnyH_take (i := 7) (oi := ⟨some 138, Op.move (.tmp 145), _, _, _, none⟩) (v := .tuple #[.agg cz, .int .i64 0]) rfl (by kernel_rfl) (by kernel_rfl) (by kernel_rfl) (fun _ _ _ h => h) (Or.inl ⟨by rfl, fun w hSw => by (try dsimp only at hSw); go_simp⟩) (by assumption) ?_
                 simp only [Act.put, List.setIfInBounds_toArray, List.set_cons_zero, List.set_cons_succ]
                 refine wpAnyH_take (i := 8) (oi := ⟨some 146, Op.extract (.tmp 138) 0, _, _, _, none⟩) (v := .agg cz) rfl (by kernel_rfl) (by kernel_rfl) (by kernel_rfl) (fun _ _ _ h => h) (Or.inl ⟨by rfl, fun w hSw => by (try dsimp only at hSw); go_simp⟩) (by assumption) ?_
                 simp only [Act.put, List.setIfInBounds_toArray, List.set_cons_zero, List.set_cons_succ]
                 refine wpAnyH_take (i := 9) (oi := ⟨some 147, Op.extract (.tmp 138) 1, _, _, _, none⟩) (v := .int .i64 0) rfl (by kernel_rfl) (by kernel_rfl) (by kernel_rfl) (fun _ _ _ h => h) (Or.inl ⟨by rfl, fun w hSw => by (try dsimp only at hSw); go_simp⟩) (by assumption) ?_
                 simp only [Act.put, List.setIfInBounds_toArray, List.set_cons_zero, List.set_cons_succ]
                 refine wpAnyH_ready (rs := [11]) (by kernel_rfl) (by simp) ?_
                 refine AllReadyH.cons rfl (fun Kc hK => ?_) AllReadyH.nil
                 refine if_wp rfl (wp_stRow0 49 _ _ rfl _ cz rfl rfl 49 _ hz (by rw [← HCZ.out]; exact infoMb) (by rw [← HCZ.out]; rfl) (by rw [← HCZ.out]; exact mba_one _) rfl ?_)
                 have hzZ := Rt.heap_setRow_same hz cz
                 refine hK.out _ _ ⟨Rt.setRow_below hgG hHd2.1 _, (Rt.row_other hMG _).trans hHd2.2⟩ (fun hHd3 => ?_)
                 clear hHd2
                 clear hK Kc
                 try simp only [Act.put, List.setIfInBounds_toArray, List.set_cons_zero, List.set_cons_succ]
                 refine wpAnyH_take (i := 12) (oi := ⟨some 24, Op.assign (.tmp 147), _, _, _, none⟩) (v := .int .i64 0) rfl (by kernel_rfl) (by kernel_rfl) (by kernel_rfl) (fun _ _ _ h => h) (Or.inl ⟨by rfl, fun w hSw => by (try dsimp only at hSw); go_simp⟩) (by assumption) ?_
                 simp only [Act.put, List.setIfInBounds_toArray, List.set_cons_zero, List.set_cons_succ]
                 refine wpAnyH_done (by kernel_rfl) ?_ _
                 go_wp2_with fail
                 go_meet
                 case rel => exact ⟨_, rfl, rfl, hHd3.1, hHd3.2, by unfold MA; rw [HCZ.out]; exact hzZ, hMG, hgG⟩
               case rest =>
                obtain ⟨G, rfl, rfl, hbc, hMc, hGc, hMG, hgG⟩ := hcut
                clear hM3 HB3 HSTQ HTQ0 u1 u2
                have c0 : wc.cell? ⟨M, 13, none⟩ = some (.int .i64 b) := hMc.bh
                have c1 := hGc.bh
                have f1 := hGc.fr 13
                go_upto_region 36 with (fail)
                have hG2 : MA (wc.setCell ⟨G, 13, none⟩ (.int .i64 b)) G (atS tq s b) := Rt.row_setCell hGc 13 (.int .i64 b)
                have hM2 : MA (wc.setCell ⟨G, 13, none⟩ (.int .i64 b)) M (atS tq s b) := (Rt.other_setCell hMG _ _).trans hMc
                have hB4 : Below wR.heap.size wR (wc.setCell ⟨G, 13, none⟩ (.int .i64 b)) := hbc.setCell (p := ⟨G, 13, none⟩) hgG _
                clear hbc hMc hGc hMG hgG c0 c1 f1
                generalize wc.setCell ⟨G, 13, none⟩ (.int .i64 b) = w5 at *
                have HEQ : Hid (mE (atS tq s b) (atS tq s b) = true) := mE_iff.2 rfl
                have hS0 : MA w5.drew M (atS tq s b) ∧ MA w5.drew G (atS tq s b) ∧ Below wR.heap.size wR w5.drew := ⟨hM2.later (drew_below _), hG2.later (drew_below _), Wi.Below.join hB4 (drew_below _)⟩
                clear hM2 hG2 hB4
                by_cases hb0 : b = 0
                ·have z1 : (b != 0) = false := by simpa using hb0
                 clear hb0
                 refine wp_region_held_drew (S := fun W => MA W M (atS tq s b) ∧ MA W G (atS tq s b) ∧ Below wR.heap.size wR W) (by kernel_rfl) hS0 (fun hHeld => ?_)
                 clear hS0
                 generalize w5.drew = wd at *
                 refine wpAnyH_take (i := 0) (oi := ⟨some 151, Op.move (.tmp 24), _, _, _, none⟩) (v := .int .i64 0) rfl (by kernel_rfl) (by kernel_rfl) (by kernel_rfl) (fun _ _ _ h => h) (Or.inl ⟨by rfl, fun w hSw => by (try dsimp only at hSw); go_simp⟩) (by assumption) ?_
                 simp only [Act.put, List.setIfInBounds_toArray, List.set_cons_zero, List.set_cons_succ]
                 refine wpAnyH_take (i := 1) (oi := ⟨some 152, Op.binOp BinOp.neq 43 (.tmp 151) (Operand.const (Value.int IntKind.i64 0)) 43, _, _, _, none⟩) (v := .bool false) rfl (by kernel_rfl) (by kernel_rfl) (by kernel_rfl) (fun _ _ _ h => h) (Or.inl ⟨by rfl, fun w hSw => by (try dsimp only at hSw); go_simp⟩) (by assumption) ?_
                 simp only [Act.put, List.setIfInBounds_toArray, List.set_cons_zero, List.set_cons_succ]
                 refine wpAnyH_take (i := 2) (oi := ⟨some 153, Op.move (.tmp 152), _, _, _, none⟩) (v := .bool false) rfl (by kernel_rfl) (by kernel_rfl) (by kernel_rfl) (fun _ _ _ h => h) (Or.inl ⟨by rfl, fun w hSw => by (try dsimp only at hSw); go_simp⟩) (by assumption) ?_
                 simp only [Act.put, List.setIfInBounds_toArray, List.set_cons_zero, List.set_cons_succ]
                 refine wpAnyH_take (i := 3) (oi := ⟨some 154, Op.load 49 (.tmp 15), _, _, _, some (2, false)⟩) (v := .agg cq) rfl (by kernel_rfl) (by kernel_rfl) (by kernel_rfl) (fun _ _ _ h => h) (Or.inl ⟨by rfl, fun w hSw => ldMb_exec hSw.1 HCQ.out rfl rfl⟩) (by assumption) ?_
                 simp only [Act.put, List.setIfInBounds_toArray, List.set_cons_zero, List.set_cons_succ]
                 refine wpAnyH_take (i := 4) (oi := ⟨some 155, Op.load 49 (.tmp 23), _, _, _, some (2, false)⟩) (v := .agg cq) rfl (by kernel_rfl) (by kernel_rfl) (by kernel_rfl) (fun _ _ _ h => h) (Or.inl ⟨by rfl, fun w hSw => ldMb_exec hSw.2.1 HCQ.out rfl rfl⟩) (by assumption) ?_
                 simp only [Act.put, List.setIfInBounds_toArray, List.set_cons_zero, List.set_cons_succ]
                 refine wpAnyH_take (i := 5) (oi := ⟨some 156, Op.binOp BinOp.neq 49 (.tmp 154) (.tmp 155) 49, _, _, _, some (2, false)⟩) (v := .bool false) rfl (by kernel_rfl) (by kernel_rfl) (by kernel_rfl) (fun _ _ _ h => h) (Or.inl ⟨by rfl, fun w hSw => neM_exec HCQ.out HCQ.out HEQ.out rfl rfl rfl⟩) (by assumption) ?_
                 simp only [Act.put, List.setIfInBounds_toArray, List.set_cons_zero, List.set_cons_succ]
                 refine wpAnyH_take (i := 6) (oi := ⟨some 157, Op.pick (.tmp 153) (Operand.const (Value.bool true)) (.tmp 156), _, _, _, none⟩) (v := .bool false) rfl (by kernel_rfl) (by kernel_rfl) (by kernel_rfl) (fun _ _ _ h => h) (Or.inl ⟨by rfl, fun w hSw => by (try dsimp only at hSw); go_simp⟩) (by assumption) ?_
                 simp only [Act.put, List.setIfInBounds_toArray, List.set_cons_zero, List.set_cons_succ]
                 refine wpAnyH_take (i := 7) (oi := ⟨some 158, Op.move (.tmp 157), _, _, _, none⟩) (v := .bool false) rfl (by kernel_rfl) (by kernel_rfl) (by kernel_rfl) (fun _ _ _ h => h) (Or.inl ⟨by rfl, fun w hSw => by (try dsimp only at hSw); go_simp⟩) (by assumption) ?_
                 simp only [Act.put, List.setIfInBounds_toArray, List.set_cons_zero, List.set_cons_succ]
                 refine wpAnyH_take (i := 8) (oi := ⟨some 159, Op.fieldAddr 49 (.tmp 15) 7, _, _, _, some (7, false)⟩) (v := .pointer (some ⟨M, 13, none⟩)) rfl (by kernel_rfl) (by kernel_rfl) (by kernel_rfl) (fun _ _ _ h => h) (Or.inl ⟨by rfl, fun w hSw => by (try dsimp only at hSw); go_simp⟩) (by assumption) ?_
                 simp only [Act.put, List.setIfInBounds_toArray, List.set_cons_zero, List.set_cons_succ]
                 refine wpAnyH_take (i := 9) (oi := ⟨some 160, Op.load 3 (.tmp 159), _, _, _, some (7, false)⟩) (v := .int .i64 b) rfl (by kernel_rfl) (by kernel_rfl) (by kernel_rfl) (fun _ _ _ h => h) (Or.inl ⟨by rfl, fun w hSw => by have h := hSw.1.bh; rw [show (atS tq s b).bh = b from rfl] at h; clear hSw; go_simp⟩) (by assumption) ?_
                 simp only [Act.put, List.setIfInBounds_toArray, List.set_cons_zero, List.set_cons_succ]
                 refine wpAnyH_take (i := 10) (oi := ⟨some 161, Op.binOp BinOp.neq 3 (.tmp 160) (Operand.const (Value.int IntKind.i64 0)) 3, _, _, _, some (7, false)⟩) (v := .bool false) rfl (by kernel_rfl) (by kernel_rfl) (by kernel_rfl) (fun _ _ _ h => h) (Or.inl ⟨by rfl, fun w hSw => by (try dsimp only at hSw); go_simp⟩) (by assumption) ?_
                 simp only [Act.put, List.setIfInBounds_toArray, List.set_cons_zero, List.set_cons_succ]
                 refine wpAnyH_take (i := 11) (oi := ⟨some 162, Op.move (.tmp 161), _, _, _, some (7, false)⟩) (v := .bool false) rfl (by kernel_rfl) (by kernel_rfl) (by kernel_rfl) (fun _ _ _ h => h) (Or.inl ⟨by rfl, fun w hSw => by (try dsimp only at hSw); go_simp⟩) (by assumption) ?_
                 simp only [Act.put, List.setIfInBounds_toArray, List.set_cons_zero, List.set_cons_succ]
                 refine wpAnyH_take (i := 12) (oi := ⟨some 163, Op.fieldAddr 49 (.tmp 15) 7, _, _, _, some (11, true)⟩) (v := undef) rfl (by kernel_rfl) (by kernel_rfl) (by kernel_rfl) (fun _ _ _ h => h) (Or.inr ⟨by rfl, rfl⟩) (by assumption) ?_
                 simp only [Act.put, List.setIfInBounds_toArray, List.set_cons_zero, List.set_cons_succ]
                 refine wpAnyH_take (i := 13) (oi := ⟨some 164, Op.load 3 (.tmp 163), _, _, _, some (11, true)⟩) (v := undef) rfl (by kernel_rfl) (by kernel_rfl) (by kernel_rfl) (fun _ _ _ h => h) (Or.inr ⟨by rfl, rfl⟩) (by assumption) ?_
                 simp only [Act.put, List.setIfInBounds_toArray, List.set_cons_zero, List.set_cons_succ]
                 refine wpAnyH_take (i := 14) (oi := ⟨some 165, Op.fieldAddr 49 (.tmp 15) 2, _, _, _, some (11, true)⟩) (v := undef) rfl (by kernel_rfl) (by kernel_rfl) (by kernel_rfl) (fun _ _ _ h => h) (Or.inr ⟨by rfl, rfl⟩) (by assumption) ?_
                 simp only [Act.put, List.setIfInBounds_toArray, List.set_cons_zero, List.set_cons_succ]
                 refine wpAnyH_take (i := 15) (oi := ⟨some 166, Op.load 3 (.tmp 165), _, _, _, some (11, true)⟩) (v := undef) rfl (by kernel_rfl) (by kernel_rfl) (by kernel_rfl) (fun _ _ _ h => h) (Or.inr ⟨by rfl, rfl⟩) (by assumption) ?_
                 simp only [Act.put, List.setIfInBounds_toArray, List.set_cons_zero, List.set_cons_succ]
                 refine wpAnyH_take (i := 16) (oi := ⟨some 167, Op.binOp BinOp.leq 3 (.tmp 164) (.tmp 166) 3, _, _, _, some (11, true)⟩) (v := undef) rfl (by kernel_rfl) (by kernel_rfl) (by kernel_rfl) (fun _ _ _ h => h) (Or.inr ⟨by rfl, rfl⟩) (by assumption) ?_
                 simp only [Act.put, List.setIfInBounds_toArray, List.set_cons_zero, List.set_cons_succ]
                 refine wpAnyH_take (i := 17) (oi := ⟨some 168, Op.pick (.tmp 162) (.tmp 167) (Operand.const (Value.bool false)), _, _, _, some (7, false)⟩) (v := .bool false) rfl (by kernel_rfl) (by kernel_rfl) (by kernel_rfl) (fun _ _ _ h => h) (Or.inl ⟨by rfl, fun w hSw => by (try dsimp only at hSw); go_simp⟩) (by assumption) ?_
                 simp only [Act.put, List.setIfInBounds_toArray, List.set_cons_zero, List.set_cons_succ]
                 refine wpAnyH_take (i := 18) (oi := ⟨some 169, Op.pick (.tmp 158) (Operand.const (Value.bool true)) (.tmp 168), _, _, _, none⟩) (v := .bool false) rfl (by kernel_rfl) (by kernel_rfl) (by kernel_rfl) (fun _ _ _ h => h) (Or.inl ⟨by rfl, fun w hSw => by (try dsimp only at hSw); go_simp⟩) (by assumption) ?_
                 simp only [Act.put, List.setIfInBounds_toArray, List.set_cons_zero, List.set_cons_succ]
                 refine wpAnyH_take (i := 19) (oi := ⟨some 170, Op.move (.tmp 169), _, _, _, none⟩) (v := .bool false) rfl (by kernel_rfl) (by kernel_rfl) (by kernel_rfl) (fun _ _ _ h => h) (Or.inl ⟨by rfl, fun w hSw => by (try dsimp only at hSw); go_simp⟩) (by assumption) ?_
                 simp only [Act.put, List.setIfInBounds_toArray, List.set_cons_zero, List.set_cons_succ]
                 refine wpAnyH_take (i := 20) (oi := ⟨some 171, Op.move (.tmp 22), _, _, _, some (19, false)⟩) (v := .int .i64 21) rfl (by kernel_rfl) (by kernel_rfl) (by kernel_rfl) (fun _ _ _ h => h) (Or.inl ⟨by rfl, fun w hSw => by (try dsimp only at hSw); go_simp⟩) (by assumption) ?_
                 simp only [Act.put, List.setIfInBounds_toArray, List.set_cons_zero, List.set_cons_succ]
                 refine wpAnyH_take (i := 21) (oi := ⟨some 172, Op.binOp BinOp.eql 43 (.tmp 171) (Operand.const (Value.int IntKind.i64 22)) 43, _, _, _, some (19, false)⟩) (v := .bool false) rfl (by kernel_rfl) (by kernel_rfl) (by kernel_rfl) (fun _ _ _ h => h) (Or.inl ⟨by rfl, fun w hSw => by (try dsimp only at hSw); go_simp⟩) (by assumption) ?_
                 simp only [Act.put, List.setIfInBounds_toArray, List.set_cons_zero, List.set_cons_succ]
                 refine wpAnyH_take (i := 22) (oi := ⟨some 173, Op.move (.tmp 172), _, _, _, some (19, false)⟩) (v := .bool false) rfl (by kernel_rfl) (by kernel_rfl) (by kernel_rfl) (fun _ _ _ h => h) (Or.inl ⟨by rfl, fun w hSw => by (try dsimp only at hSw); go_simp⟩) (by assumption) ?_
                 simp only [Act.put, List.setIfInBounds_toArray, List.set_cons_zero, List.set_cons_succ]
                 refine wpAnyH_take (i := 23) (oi := ⟨some 174, Op.fieldAddr 49 (.tmp 15) 7, _, _, _, some (22, true)⟩) (v := undef) rfl (by kernel_rfl) (by kernel_rfl) (by kernel_rfl) (fun _ _ _ h => h) (Or.inr ⟨by rfl, rfl⟩) (by assumption) ?_
                 simp only [Act.put, List.setIfInBounds_toArray, List.set_cons_zero, List.set_cons_succ]
                 refine wpAnyH_take (i := 24) (oi := ⟨some 175, Op.load 3 (.tmp 174), _, _, _, some (22, true)⟩) (v := undef) rfl (by kernel_rfl) (by kernel_rfl) (by kernel_rfl) (fun _ _ _ h => h) (Or.inr ⟨by rfl, rfl⟩) (by assumption) ?_
                 simp only [Act.put, List.setIfInBounds_toArray, List.set_cons_zero, List.set_cons_succ]
                 refine wpAnyH_take (i := 25) (oi := ⟨some 176, Op.move (.tmp 8), _, _, _, some (22, true)⟩) (v := undef) rfl (by kernel_rfl) (by kernel_rfl) (by kernel_rfl) (fun _ _ _ h => h) (Or.inr ⟨by rfl, rfl⟩) (by assumption) ?_
                 simp only [Act.put, List.setIfInBounds_toArray, List.set_cons_zero, List.set_cons_succ]
                 refine wpAnyH_take (i := 26) (oi := ⟨some 177, Op.move (.tmp 20), _, _, _, some (22, true)⟩) (v := undef) rfl (by kernel_rfl) (by kernel_rfl) (by kernel_rfl) (fun _ _ _ h => h) (Or.inr ⟨by rfl, rfl⟩) (by assumption) ?_
                 simp only [Act.put, List.setIfInBounds_toArray, List.set_cons_zero, List.set_cons_succ]
                 refine wpAnyH_take (i := 27) (oi := ⟨some 178, Op.indexAddr 36 (.tmp 176) (.tmp 177), _, _, _, some (22, true)⟩) (v := undef) rfl (by kernel_rfl) (by kernel_rfl) (by kernel_rfl) (fun _ _ _ h => h) (Or.inr ⟨by rfl, rfl⟩) (by assumption) ?_
                 simp only [Act.put, List.setIfInBounds_toArray, List.set_cons_zero, List.set_cons_succ]
                 refine wpAnyH_take (i := 28) (oi := ⟨some 179, Op.fieldAddr 42 (.tmp 178) 0, _, _, _, some (22, true)⟩) (v := undef) rfl (by kernel_rfl) (by kernel_rfl) (by kernel_rfl) (fun _ _ _ h => h) (Or.inr ⟨by rfl, rfl⟩) (by assumption) ?_
                 simp only [Act.put, List.setIfInBounds_toArray, List.set_cons_zero, List.set_cons_succ]
                 refine wpAnyH_take (i := 29) (oi := ⟨some 180, Op.load 3 (.tmp 179), _, _, _, some (22, true)⟩) (v := undef) rfl (by kernel_rfl) (by kernel_rfl) (by kernel_rfl) (fun _ _ _ h => h) (Or.inr ⟨by rfl, rfl⟩) (by assumption) ?_
                 simp only [Act.put, List.setIfInBounds_toArray, List.set_cons_zero, List.set_cons_succ]
                 refine wpAnyH_take (i := 30) (oi := ⟨some 181, Op.binOp BinOp.lss 3 (.tmp 175) (.tmp 180) 3, _, _, _, some (22, true)⟩) (v := undef) rfl (by kernel_rfl) (by kernel_rfl) (by kernel_rfl) (fun _ _ _ h => h) (Or.inr ⟨by rfl, rfl⟩) (by assumption) ?_
                 simp only [Act.put, List.setIfInBounds_toArray, List.set_cons_zero, List.set_cons_succ]
                 refine wpAnyH_take (i := 31) (oi := ⟨some 182, Op.pick (.tmp 173) (.tmp 181) (Operand.const (Value.bool false)), _, _, _, some (19, false)⟩) (v := .bool false) rfl (by kernel_rfl) (by kernel_rfl) (by kernel_rfl) (fun _ _ _ h => h) (Or.inl ⟨by rfl, fun w hSw => by (try dsimp only at hSw); go_simp⟩) (by assumption) ?_
                 simp only [Act.put, List.setIfInBounds_toArray, List.set_cons_zero, List.set_cons_succ]
                 refine wpAnyH_take (i := 32) (oi := ⟨some 183, Op.pick (.tmp 170) (Operand.const (Value.bool true)) (.tmp 182), _, _, _, none⟩) (v := .bool false) rfl (by kernel_rfl) (by kernel_rfl) (by kernel_rfl) (fun _ _ _ h => h) (Or.inl ⟨by rfl, fun w hSw => by (try dsimp only at hSw); go_simp⟩) (by assumption) ?_
                 simp only [Act.put, List.setIfInBounds_toArray, List.set_cons_zero, List.set_cons_succ]
                 refine wpAnyH_done (by kernel_rfl) ?_ _
                 have hjb : (j : Int) < 17592186044416 := by have := HN2.out; omega
                 go_wp2_with fail
                 go_roundw
                 case rel => exact ⟨q, j + 1, b, HQ.out, by omega, rfl, by go_num, hHeld.2.2, by rw [HTE.out]; exact hHeld.1, HS2.out⟩
                 case measure => simp [intOf]; omega
                ·have z1 : (b != 0) = true := by simpa using hb0
                 have z2 : decide (b ≤ tq.ep) = false := decide_eq_false (by rcases HBH0.out with h | h; exact absurd h hb0; omega)
                 clear hb0
                 refine wp_region_held_drew (S := fun W => MA W M (atS tq s b) ∧ MA W G (atS tq s b) ∧ Below wR.heap.size wR W) (by kernel_rfl) hS0 (fun hHeld => ?_)
                 clear hS0
                 generalize w5.drew = wd at *
                 refine wpAnyH_take (i := 0) (oi := ⟨some 151, Op.move (.tmp 24), _, _, _, none⟩) (v := .int .i64 0) rfl (by kernel_rfl) (by kernel_rfl) (by kernel_rfl) (fun _ _ _ h => h) (Or.inl ⟨by rfl, fun w hSw => by (try dsimp only at hSw); go_simp⟩) (by assumption) ?_
                 simp only [Act.put, List.setIfInBounds_toArray, List.set_cons_zero, List.set_cons_succ]
                 refine wpAnyH_take (i := 1) (oi := ⟨some 152, Op.binOp BinOp.neq 43 (.tmp 151) (Operand.const (Value.int IntKind.i64 0)) 43, _, _, _, none⟩) (v := .bool false) rfl (by kernel_rfl) (by kernel_rfl) (by kernel_rfl) (fun _ _ _ h => h) (Or.inl ⟨by rfl, fun w hSw => by (try dsimp only at hSw); go_simp⟩) (by assumption) ?_
                 simp only [Act.put, List.setIfInBounds_toArray, List.set_cons_zero, List.set_cons_succ]
                 refine wpAnyH_take (i := 2) (oi := ⟨some 153, Op.move (.tmp 152), _, _, _, none⟩) (v := .bool false) rfl (by kernel_rfl) (by kernel_rfl) (by kernel_rfl) (fun _ _ _ h => h) (Or.inl ⟨by rfl, fun w hSw => by (try dsimp only at hSw); go_simp⟩) (by assumption) ?_
                 simp only [Act.put, List.setIfInBounds_toArray, List.set_cons_zero, List.set_cons_succ]
                 refine wpAnyH_take (i := 3) (oi := ⟨some 154, Op.load 49 (.tmp 15), _, _, _, some (2, false)⟩) (v := .agg cq) rfl (by kernel_rfl) (by kernel_rfl) (by kernel_rfl) (fun _ _ _ h => h) (Or.inl ⟨by rfl, fun w hSw => ldMb_exec hSw.1 HCQ.out rfl rfl⟩) (by assumption) ?_
                 simp only [Act.put, List.setIfInBounds_toArray, List.set_cons_zero, List.set_cons_succ]
                 refine wpAnyH_take (i := 4) (oi := ⟨some 155, Op.load 49 (.tmp 23), _, _, _, some (2, false)⟩) (v := .agg cq) rfl (by kernel_rfl) (by kernel_rfl) (by kernel_rfl) (fun _ _ _ h => h) (Or.inl ⟨by rfl, fun w hSw => ldMb_exec hSw.2.1 HCQ.out rfl rfl⟩) (by assumption) ?_
                 simp only [Act.put, List.setIfInBounds_toArray, List.set_cons_zero, List.set_cons_succ]
                 refine wpAnyH_take (i := 5) (oi := ⟨some 156, Op.binOp BinOp.neq 49 (.tmp 154) (.tmp 155) 49, _, _, _, some (2, false)⟩) (v := .bool false) rfl (by kernel_rfl) (by kernel_rfl) (by kernel_rfl) (fun _ _ _ h => h) (Or.inl ⟨by rfl, fun w hSw => neM_exec HCQ.out HCQ.out HEQ.out rfl rfl rfl⟩) (by assumption) ?_
                 simp only [Act.put, List.setIfInBounds_toArray, List.set_cons_zero, List.set_cons_succ]
                 refine wpAnyH_take (i := 6) (oi := ⟨some 157, Op.pick (.tmp 153) (Operand.const (Value.bool true)) (.tmp 156), _, _, _, none⟩) (v := .bool false) rfl (by kernel_rfl) (by kernel_rfl) (by kernel_rfl) (fun _ _ _ h => h) (Or.inl ⟨by rfl, fun w hSw => by (try dsimp only at hSw); go_simp⟩) (by assumption) ?_
                 simp only [Act.put, List.setIfInBounds_toArray, List.set_cons_zero, List.set_cons_succ]
                 refine wpAnyH_take (i := 7) (oi := ⟨some 158, Op.move (.tmp 157), _, _, _, none⟩) (v := .bool false) rfl (by kernel_rfl) (by kernel_rfl) (by kernel_rfl) (fun _ _ _ h => h) (Or.inl ⟨by rfl, fun w hSw => by (try dsimp only at hSw); go_simp⟩) (by assumption) ?_
                 simp only [Act.put, List.setIfInBounds_toArray, List.set_cons_zero, List.set_cons_succ]
                 refine wpAnyH_take (i := 8) (oi := ⟨some 159, Op.fieldAddr 49 (.tmp 15) 7, _, _, _, some (7, false)⟩) (v := .pointer (some ⟨M, 13, none⟩)) rfl (by kernel_rfl) (by kernel_rfl) (by kernel_rfl) (fun _ _ _ h => h) (Or.inl ⟨by rfl, fun w hSw => by (try dsimp only at hSw); go_simp⟩) (by assumption) ?_
                 simp only [Act.put, List.setIfInBounds_toArray, List.set_cons_zero, List.set_cons_succ]
                 refine wpAnyH_take (i := 9) (oi := ⟨some 160, Op.load 3 (.tmp 159), _, _, _, some (7, false)⟩) (v := .int .i64 b) rfl (by kernel_rfl) (by kernel_rfl) (by kernel_rfl) (fun _ _ _ h => h) (Or.inl ⟨by rfl, fun w hSw => by have h := hSw.1.bh; rw [show (atS tq s b).bh = b from rfl] at h; clear hSw; go_simp⟩) (by assumption) ?_
                 simp only [Act.put, List.setIfInBounds_toArray, List.set_cons_zero, List.set_cons_succ]
                 refine wpAnyH_take (i := 10) (oi := ⟨some 161, Op.binOp BinOp.neq 3 (.tmp 160) (Operand.const (Value.int IntKind.i64 0)) 3, _, _, _, some (7, false)⟩) (v := .bool true) rfl (by kernel_rfl) (by kernel_rfl) (by kernel_rfl) (fun _ _ _ h => h) (Or.inl ⟨by rfl, fun w hSw => by (try dsimp only at hSw); go_simp⟩) (by assumption) ?_
                 simp only [Act.put, List.setIfInBounds_toArray, List.set_cons_zero, List.set_cons_succ]
                 refine wpAnyH_take (i := 11) (oi := ⟨some 162, Op.move (.tmp 161), _, _, _, some (7, false)⟩) (v := .bool true) rfl (by kernel_rfl) (by kernel_rfl) (by kernel_rfl) (fun _ _ _ h => h) (Or.inl ⟨by rfl, fun w hSw => by (try dsimp only at hSw); go_simp⟩) (by assumption) ?_
                 simp only [Act.put, List.setIfInBounds_toArray, List.set_cons_zero, List.set_cons_succ]
                 refine wpAnyH_take (i := 12) (oi := ⟨some 163, Op.fieldAddr 49 (.tmp 15) 7, _, _, _, some (11, true)⟩) (v := .pointer (some ⟨M, 13, none⟩)) rfl (by kernel_rfl) (by kernel_rfl) (by kernel_rfl) (fun _ _ _ h => h) (Or.inl ⟨by rfl, fun w hSw => by (try dsimp only at hSw); go_simp⟩) (by assumption) ?_
                 simp only [Act.put, List.setIfInBounds_toArray, List.set_cons_zero, List.set_cons_succ]
                 refine wpAnyH_take (i := 13) (oi := ⟨some 164, Op.load 3 (.tmp 163), _, _, _, some (11, true)⟩) (v := .int .i64 b) rfl (by kernel_rfl) (by kernel_rfl) (by kernel_rfl) (fun _ _ _ h => h) (Or.inl ⟨by rfl, fun w hSw => by have h := hSw.1.bh; rw [show (atS tq s b).bh = b from rfl] at h; clear hSw; go_simp⟩) (by assumption) ?_
                 simp only [Act.put, List.setIfInBounds_toArray, List.set_cons_zero, List.set_cons_succ]
                 refine wpAnyH_take (i := 14) (oi := ⟨some 165, Op.fieldAddr 49 (.tmp 15) 2, _, _, _, some (11, true)⟩) (v := .pointer (some ⟨M, 2, none⟩)) rfl (by kernel_rfl) (by kernel_rfl) (by kernel_rfl) (fun _ _ _ h => h) (Or.inl ⟨by rfl, fun w hSw => by (try dsimp only at hSw); go_simp⟩) (by assumption) ?_
                 simp only [Act.put, List.setIfInBounds_toArray, List.set_cons_zero, List.set_cons_succ]
                 refine wpAnyH_take (i := 15) (oi := ⟨some 166, Op.load 3 (.tmp 165), _, _, _, some (11, true)⟩) (v := .int .i64 tq.ep) rfl (by kernel_rfl) (by kernel_rfl) (by kernel_rfl) (fun _ _ _ h => h) (Or.inl ⟨by rfl, fun w hSw => by have h := hSw.1.ep; rw [show (atS tq s b).ep = tq.ep from rfl] at h; clear hSw; go_simp⟩) (by assumption) ?_
                 simp only [Act.put, List.setIfInBounds_toArray, List.set_cons_zero, List.set_cons_succ]
                 refine wpAnyH_take (i := 16) (oi := ⟨some 167, Op.binOp BinOp.leq 3 (.tmp 164) (.tmp 166) 3, _, _, _, some (11, true)⟩) (v := .bool false) rfl (by kernel_rfl) (by kernel_rfl) (by kernel_rfl) (fun _ _ _ h => h) (Or.inl ⟨by rfl, fun w hSw => by (try dsimp only at hSw); go_simp⟩) (by assumption) ?_
                 simp only [Act.put, List.setIfInBounds_toArray, List.set_cons_zero, List.set_cons_succ]
                 refine wpAnyH_take (i := 17) (oi := ⟨some 168, Op.pick (.tmp 162) (.tmp 167) (Operand.const (Value.bool false)), _, _, _, some (7, false)⟩) (v := .bool false) rfl (by kernel_rfl) (by kernel_rfl) (by kernel_rfl) (fun _ _ _ h => h) (Or.inl ⟨by rfl, fun w hSw => by (try dsimp only at hSw); go_simp⟩) (by assumption) ?_
                 simp only [Act.put, List.setIfInBounds_toArray, List.set_cons_zero, List.set_cons_succ]
                 refine wpAnyH_take (i := 18) (oi := ⟨some 169, Op.pick (.tmp 158) (Operand.const (Value.bool true)) (.tmp 168), _, _, _, none⟩) (v := .bool false) rfl (by kernel_rfl) (by kernel_rfl) (by kernel_rfl) (fun _ _ _ h => h) (Or.inl ⟨by rfl, fun w hSw => by (try dsimp only at hSw); go_simp⟩) (by assumption) ?_
                 simp only [Act.put, List.setIfInBounds_toArray, List.set_cons_zero, List.set_cons_succ]
                 refine wpAnyH_take (i := 19) (oi := ⟨some 170, Op.move (.tmp 169), _, _, _, none⟩) (v := .bool false) rfl (by kernel_rfl) (by kernel_rfl) (by kernel_rfl) (fun _ _ _ h => h) (Or.inl ⟨by rfl, fun w hSw => by (try dsimp only at hSw); go_simp⟩) (by assumption) ?_
                 simp only [Act.put, List.setIfInBounds_toArray, List.set_cons_zero, List.set_cons_succ]
                 refine wpAnyH_take (i := 20) (oi := ⟨some 171, Op.move (.tmp 22), _, _, _, some (19, false)⟩) (v := .int .i64 21) rfl (by kernel_rfl) (by kernel_rfl) (by kernel_rfl) (fun _ _ _ h => h) (Or.inl ⟨by rfl, fun w hSw => by (try dsimp only at hSw); go_simp⟩) (by assumption) ?_
                 simp only [Act.put, List.setIfInBounds_toArray, List.set_cons_zero, List.set_cons_succ]
                 refine wpAnyH_take (i := 21) (oi := ⟨some 172, Op.binOp BinOp.eql 43 (.tmp 171) (Operand.const (Value.int IntKind.i64 22)) 43, _, _, _, some (19, false)⟩) (v := .bool false) rfl (by kernel_rfl) (by kernel_rfl) (by kernel_rfl) (fun _ _ _ h => h) (Or.inl ⟨by rfl, fun w hSw => by (try dsimp only at hSw); go_simp⟩) (by assumption) ?_
                 simp only [Act.put, List.setIfInBounds_toArray, List.set_cons_zero, List.set_cons_succ]
                 refine wpAnyH_take (i := 22) (oi := ⟨some 173, Op.move (.tmp 172), _, _, _, some (19, false)⟩) (v := .bool false) rfl (by kernel_rfl) (by kernel_rfl) (by kernel_rfl) (fun _ _ _ h => h) (Or.inl ⟨by rfl, fun w hSw => by (try dsimp only at hSw); go_simp⟩) (by assumption) ?_
                 simp only [Act.put, List.setIfInBounds_toArray, List.set_cons_zero, List.set_cons_succ]
                 refine wpAnyH_take (i := 23) (oi := ⟨some 174, Op.fieldAddr 49 (.tmp 15) 7, _, _, _, some (22, true)⟩) (v := undef) rfl (by kernel_rfl) (by kernel_rfl) (by kernel_rfl) (fun _ _ _ h => h) (Or.inr ⟨by rfl, rfl⟩) (by assumption) ?_
                 simp only [Act.put, List.setIfInBounds_toArray, List.set_cons_zero, List.set_cons_succ]
                 refine wpAnyH_take (i := 24) (oi := ⟨some 175, Op.load 3 (.tmp 174), _, _, _, some (22, true)⟩) (v := undef) rfl (by kernel_rfl) (by kernel_rfl) (by kernel_rfl) (fun _ _ _ h => h) (Or.inr ⟨by rfl, rfl⟩) (by assumption) ?_
                 simp only [Act.put, List.setIfInBounds_toArray, List.set_cons_zero, List.set_cons_succ]
                 refine wpAnyH_take (i := 25) (oi := ⟨some 176, Op.move (.tmp 8), _, _, _, some (22, true)⟩) (v := undef) rfl (by kernel_rfl) (by kernel_rfl) (by kernel_rfl) (fun _ _ _ h => h) (Or.inr ⟨by rfl, rfl⟩) (by assumption) ?_
                 simp only [Act.put, List.setIfInBounds_toArray, List.set_cons_zero, List.set_cons_succ]
                 refine wpAnyH_take (i := 26) (oi := ⟨some 177, Op.move (.tmp 20), _, _, _, some (22, true)⟩) (v := undef) rfl (by kernel_rfl) (by kernel_rfl) (by kernel_rfl) (fun _ _ _ h => h) (Or.inr ⟨by rfl, rfl⟩) (by assumption) ?_
                 simp only [Act.put, List.setIfInBounds_toArray, List.set_cons_zero, List.set_cons_succ]
                 refine wpAnyH_take (i := 27) (oi := ⟨some 178, Op.indexAddr 36 (.tmp 176) (.tmp 177), _, _, _, some (22, true)⟩) (v := undef) rfl (by kernel_rfl) (by kernel_rfl) (by kernel_rfl) (fun _ _ _ h => h) (Or.inr ⟨by rfl, rfl⟩) (by assumption) ?_
                 simp only [Act.put, List.setIfInBounds_toArray, List.set_cons_zero, List.set_cons_succ]
                 refine wpAnyH_take (i := 28) (oi := ⟨some 179, Op.fieldAddr 42 (.tmp 178) 0, _, _, _, some (22, true)⟩) (v := undef) rfl (by kernel_rfl) (by kernel_rfl) (by kernel_rfl) (fun _ _ _ h => h) (Or.inr ⟨by rfl, rfl⟩) (by assumption) ?_
                 simp only [Act.put, List.setIfInBounds_toArray, List.set_cons_zero, List.set_cons_succ]
                 refine wpAnyH_take (i := 29) (oi := ⟨some 180, Op.load 3 (.tmp 179), _, _, _, some (22, true)⟩) (v := undef) rfl (by kernel_rfl) (by kernel_rfl) (by kernel_rfl) (fun _ _ _ h => h) (Or.inr ⟨by rfl, rfl⟩) (by assumption) ?_
                 simp only [Act.put, List.setIfInBounds_toArray, List.set_cons_zero, List.set_cons_succ]
                 refine wpAnyH_take (i := 30) (oi := ⟨some 181, Op.binOp BinOp.lss 3 (.tmp 175) (.tmp 180) 3, _, _, _, some (22, true)⟩) (v := undef) rfl (by kernel_rfl) (by kernel_rfl) (by kernel_rfl) (fun _ _ _ h => h) (Or.inr ⟨by rfl, rfl⟩) (by assumption) ?_
                 simp only [Act.put, List.setIfInBounds_toArray, List.set_cons_zero, List.set_cons_succ]
                 refine wpAnyH_take (i := 31) (oi := ⟨some 182, Op.pick (.tmp 173) (.tmp 181) (Operand.const (Value.bool false)), _, _, _, some (19, false)⟩) (v := .bool false) rfl (by kernel_rfl) (by kernel_rfl) (by kernel_rfl) (fun _ _ _ h => h) (Or.inl ⟨by rfl, fun w hSw => by (try dsimp only at hSw); go_simp⟩) (by assumption) ?_
                 simp only [Act.put, List.setIfInBounds_toArray, List.set_cons_zero, List.set_cons_succ]
                 refine wpAnyH_take (i := 32) (oi := ⟨some 183, Op.pick (.tmp 170) (Operand.const (Value.bool true)) (.tmp 182), _, _, _, none⟩) (v := .bool false) rfl (by kernel_rfl) (by kernel_rfl) (by kernel_rfl) (fun _ _ _ h => h) (Or.inl ⟨by rfl, fun w hSw => by (try dsimp only at hSw); go_simp⟩) (by assumption) ?_
                 simp only [Act.put, List.setIfInBounds_toArray, List.set_cons_zero, List.set_cons_succ]
                 refine wpAnyH_done (by kernel_rfl) ?_ _
                 have hjb : (j : Int) < 17592186044416 := by have := HN2.out; omega
                 go_wp2_with fail
                 go_roundw
                 case rel => exact ⟨q, j + 1, b, HQ.out, by omega, rfl, by go_num, hHeld.2.2, by rw [HTE.out]; exact hHeld.1, HS2.out⟩
                 case measure => simp [intOf]; omega
             | gap h b' e hs' hb' =>
              obtain ⟨rfl, rfl⟩ := Prod.mk.inj (HX.out.symm.trans e)
              have HS2 : Hid (Sits t0 ts s q b') := hs'
              have HBG : Hid ((rM ts bs i).1 ≤ b') := hb'
              have co := hM3.out
              have d1 : ((i : Int) == (q : Int)) = false := by simp; omega
              have d2 : decide ((i : Int) < (q : Int)) = false := decide_eq_false (by omega)
              have d3 : decide ((q : Int) < (i : Int)) = true := decide_eq_true (by omega)
              have e2 : decide (i < q) = false := decide_eq_false (by omega)
              have e3 : decide (q < i) = true := decide_eq_true h
              have e1 : (i == q) = false := by simp; omega
              clear HSIT e HX hs' hb'
              obtain ⟨b, hbb⟩ : ∃ b, b = b' := ⟨_, rfl⟩
              subst hbb
              go_upto_region 34 with (fail)
              clear co d1 d2 d3 e1 e2 e3 h
              as_aux_lemma =>
               have hsd := HSD.out s q b HLT.out HQ.out HS2.out
               have hst := stand_r (ts.getD q (tz 0)) wh
               rw [HWH.out] at hsd
               rw [hsd.1, hsd.2] at hst
               have HWQ0 : Hid (((ts.getD q (tz 0)).ro s).who = wh) := by unfold Hid; rw [HS2.out.ro]; exact HWH.out
               have HBH0 : Hid (b = 0 ∨ ((ts.getD q (tz 0)).ep < b ∧ b ≤ 200)) := HS2.out.bh
               have HTQ0 : Hid (∀ W, Below wR.heap.size wR W → (Instr.loadAt 31 (.pointer (some ⟨gt, q * 236, none⟩))).run Try.prog W = .ok (.agg (tcs (ts.getD q (tz 0)))) W) := fun W hW => (HTS.out q HQ.out W hW).1
               obtain ⟨tq, htq⟩ : ∃ x, ts.getD q (tz 0) = x := ⟨_, rfl⟩
               have HTE : Hid (ts.getD q (tz 0) = tq) := htq
               rw [htq] at hst hM3 HWQ0 HBH0 HTQ0
               have HWQ : Hid ((atS tq s b).who = wh) := HWQ0.out
               obtain ⟨cz, hcz⟩ : ∃ c, mba (atS tq s 0) = c := ⟨_, rfl⟩
               have HCZ : MC (atS tq s 0) cz := ⟨hcz⟩
               obtain ⟨ct, hct⟩ : ∃ c, tcs tq = c := ⟨_, rfl⟩
               have HCT : EA (tcs tq) ct := ⟨hct⟩
               obtain ⟨cq, hcq⟩ : ∃ c, mba (atS tq s b) = c := ⟨_, rfl⟩
               have HCQ : MC (atS tq s b) cq := ⟨hcq⟩
               rw [hct, hcz] at hst
               have HSTQ : Hid _ := hst
               obtain ⟨ri, hri⟩ : ∃ x, (rM ts bs i).1 = x := ⟨_, rfl⟩
               have HRI : Hid ((rM ts bs i).1 = ri) := hri
               clear hsd hst htq hcz hct hcq hri HWQ0
               have u1 : (0 : Int) ≤ (q : Int) := by omega
               have u2 : (q : Int) < (NT : Int) := by have := HQ.out; have := HNT.out; omega
               go_cut [23, 24] (fun s23 s24 wx => ∃ G, s23 = .pointer (some ⟨G, 0, none⟩) ∧ s24 = .int .i64 0 ∧ Below wR.heap.size wR wx ∧ MA wx M (atS tq s b) ∧ MA wx G (atS tq s 0) ∧ M ≠ G ∧ wR.heap.size ≤ G)
               case first =>
                have hS0 : Below wR.heap.size wR w3.drew ∧ MA w3.drew M (atS tq s b) := ⟨Wi.Below.join HB3.out (drew_below _), hM3.later (drew_below _)⟩
                clear hM3 HB3
                refine wp_region_held_drew (S := fun W => Below wR.heap.size wR W ∧ MA W M (atS tq s b)) (by kernel_rfl) hS0 (fun hHeld => ?_)
                clear hS0
                generalize w3.drew = wd at *
                refine wpAnyH_take (i := 0) (oi := ⟨some 139, Op.move (.tmp 7), _, _, _, none⟩) (v := .slice (some ⟨gt, 0, none⟩) NT cr) rfl (by kernel_rfl) (by kernel_rfl) (by kernel_rfl) (fun _ _ _ h => h) (Or.inl ⟨by rfl, fun w hSw => by (try dsimp only at hSw); go_simp⟩) (by assumption) ?_
                simp only [Act.put, List.setIfInBounds_toArray, List.set_cons_zero, List.set_cons_succ]
                refine wpAnyH_take (i := 1) (oi := ⟨some 140, Op.move (.tmp 17), _, _, _, none⟩) (v := .int .i64 (q : Int)) rfl (by kernel_rfl) (by kernel_rfl) (by kernel_rfl) (fun _ _ _ h => h) (Or.inl ⟨by rfl, fun w hSw => by (try dsimp only at hSw); go_simp⟩) (by assumption) ?_
                simp only [Act.put, List.setIfInBounds_toArray, List.set_cons_zero, List.set_cons_succ]
                refine wpAnyH_take (i := 2) (oi := ⟨some 141, Op.indexAddr 35 (.tmp 139) (.tmp 140), _, _, _, none⟩) (v := .pointer (some ⟨gt, q * 236, none⟩)) rfl (by kernel_rfl) (by kernel_rfl) (by kernel_rfl) (fun _ _ _ h => h) (Or.inl ⟨by rfl, fun w hSw => by (try dsimp only at hSw); go_simp⟩) (by assumption) ?_
                simp only [Act.put, List.setIfInBounds_toArray, List.set_cons_zero, List.set_cons_succ]
                refine wpAnyH_take (i := 3) (oi := ⟨some 142, Op.load 31 (.tmp 141), _, _, _, none⟩) (v := .agg ct) rfl (by kernel_rfl) (by kernel_rfl) (by kernel_rfl) (fun _ _ _ h => h) (Or.inl ⟨by rfl, fun w hSw => ld_exec2 HCT.out (HTQ0.out _ hSw.1) rfl rfl⟩) (by assumption) ?_
                simp only [Act.put, List.setIfInBounds_toArray, List.set_cons_zero, List.set_cons_succ]
                refine wpAnyH_take (i := 4) (oi := ⟨some 143, Op.fieldAddr 49 (.tmp 15) 0, _, _, _, none⟩) (v := .pointer (some ⟨M, 0, none⟩)) rfl (by kernel_rfl) (by kernel_rfl) (by kernel_rfl) (fun _ _ _ h => h) (Or.inl ⟨by rfl, fun w hSw => by (try dsimp only at hSw); go_simp⟩) (by assumption) ?_
                simp only [Act.put, List.setIfInBounds_toArray, List.set_cons_zero, List.set_cons_succ]
                refine wpAnyH_take (i := 5) (oi := ⟨some 144, Op.load 3 (.tmp 143), _, _, _, none⟩) (v := .int .i64 wh) rfl (by kernel_rfl) (by kernel_rfl) (by kernel_rfl) (fun _ _ _ h => h) (Or.inl ⟨by rfl, fun w hSw => by have h := hSw.2.who; rw [HWQ.out] at h; clear hSw; go_simp⟩) (by assumption) ?_
                simp only [Act.put, List.setIfInBounds_toArray, List.set_cons_zero, List.set_cons_succ]
                refine wpAnyH_ready (rs := [6, 10]) (by kernel_rfl) (by simp) ?_
                refine (AllReadyH.cons rfl (fun K hK => ?_) (AllReadyH.cons rfl (fun K hK => ?_) AllReadyH.nil))
                ·go_simp
                 refine (HSTQ.out _).mono ?_
                 rintro e w7 ⟨rfl, hb7⟩
                 go_wp2_with fail
                 try (have hz := hz.later hb7)
                 refine hK.out _ _ ⟨Wi.Below.join hHeld.1 hb7, hHeld.2.later hb7⟩ (fun hHd1 => ?_)
                 clear hHeld hb7
                 clear hK K
                 try simp only [Act.put, List.setIfInBounds_toArray, List.set_cons_zero, List.set_cons_succ]
                 refine wpAnyH_take (i := 7) (oi := ⟨some 138, Op.move (.tmp 145), _, _, _, none⟩) (v := .tuple #[.agg cz, .int .i64 0]) rfl (by kernel_rfl) (by kernel_rfl) (by kernel_rfl) (fun _ _ _ h => h) (Or.inl ⟨by rfl, fun w hSw => by (try dsimp only at hSw); go_simp⟩) (by assumption) ?_
                 simp only [Act.put, List.setIfInBounds_toArray, List.set_cons_zero, List.set_cons_succ]
                 refine wpAnyH_take (i := 8) (oi := ⟨some 146, Op.extract (.tmp 138) 0, _, _, _, none⟩) (v := .agg cz) rfl (by kernel_rfl) (by kernel_rfl) (by kernel_rfl) (fun _ _ _ h => h) (Or.inl ⟨by rfl, fun w hSw => by (try dsimp only at hSw); go_simp⟩) (by assumption) ?_
                 simp only [Act.put, List.setIfInBounds_toArray, List.set_cons_zero, List.set_cons_succ]
                 refine wpAnyH_take (i := 9) (oi := ⟨some 147, Op.extract (.tmp 138) 1, _, _, _, none⟩) (v := .int .i64 0) rfl (by kernel_rfl) (by kernel_rfl) (by kernel_rfl) (fun _ _ _ h => h) (Or.inl ⟨by rfl, fun w hSw => by (try dsimp only at hSw); go_simp⟩) (by assumption) ?_
                 simp only [Act.put, List.setIfInBounds_toArray, List.set_cons_zero, List.set_cons_succ]
                 refine wpAnyH_ready (rs := [10]) (by kernel_rfl) (by simp) ?_
                 refine AllReadyH.cons rfl (fun K hK => ?_) AllReadyH.nil
                 go_simp
                 have hgG := hHd1.1.size
                 have hMG := Nat.ne_of_lt hHd1.2.lt
                 refine hK.out _ _ ⟨Wi.Below.join hHd1.1 (below_alloc _ _), hHd1.2.later (below_alloc _ _)⟩ (fun hHd2 => ?_)
                 first | have hz := mb_of2 hHd2.1 | have hz := mb_of hHd2.1
                 clear hHd1
                 clear hK K
                 try simp only [Act.put, List.setIfInBounds_toArray, List.set_cons_zero, List.set_cons_succ]
                 refine wpAnyH_ready (rs := [11]) (by kernel_rfl) (by simp) ?_
                 refine AllReadyH.cons rfl (fun Kc hK => ?_) AllReadyH.nil
                 refine if_wp rfl (wp_stRow0 49 _ _ rfl _ cz rfl rfl 49 _ hz (by rw [← HCZ.out]; exact infoMb) (by rw [← HCZ.out]; rfl) (by rw [← HCZ.out]; exact mba_one _) rfl ?_)
                 have hzZ := Rt.heap_setRow_same hz cz
                 refine hK.out _ _ ⟨Rt.setRow_below hgG hHd2.1 _, (Rt.row_other hMG _).trans hHd2.2⟩ (fun hHd3 => ?_)
                 clear hHd2
                 clear hK Kc
                 try simp only [Act.put, List.setIfInBounds_toArray, List.set_cons_zero, List.set_cons_succ]
                 refine wpAnyH_take (i := 12) (oi := ⟨some 24, Op.assign (.tmp 147), _, _, _, none⟩) (v := .int .i64 0) rfl (by kernel_rfl) (by kernel_rfl) (by kernel_rfl) (fun _ _ _ h => h) (Or.inl ⟨by rfl, fun w hSw => by (try dsimp only at hSw); go_simp⟩) (by assumption) ?_
                 simp only [Act.put, List.setIfInBounds_toArray, List.set_cons_zero, List.set_cons_succ]
                 refine wpAnyH_done (by kernel_rfl) ?_ _
                 go_wp2_with fail
                 go_meet
                 case rel => exact ⟨_, rfl, rfl, hHd3.1, hHd3.2, by unfold MA; rw [HCZ.out]; exact hzZ, hMG, hgG⟩
                ·go_simp
                 have hgG := hHeld.1.size
                 have hMG := Nat.ne_of_lt hHeld.2.lt
                 refine hK.out _ _ ⟨Wi.Below.join hHeld.1 (below_alloc _ _), hHeld.2.later (below_alloc _ _)⟩ (fun hHd1 => ?_)
                 first | have hz := mb_of2 hHd1.1 | have hz := mb_of hHd1.1
                 clear hHeld
                 clear hK K
                 try simp only [Act.put, List.setIfInBounds_toArray, List.set_cons_zero, List.set_cons_succ]
                 refine wpAnyH_ready (rs := [6]) (by kernel_rfl) (by simp) ?_
                 refine AllReadyH.cons rfl (fun K hK => ?_) AllReadyH.nil
                 go_simp
                 refine (HSTQ.out _).mono ?_
                 rintro e w7 ⟨rfl, hb7⟩
                 go_wp2_with fail
                 try (have hz := hz.later hb7)
                 refine hK.out _ _ ⟨Wi.Below.join hHd1.1 hb7, hHd1.2.later hb7⟩ (fun hHd2 => ?_)
                 clear hHd1 hb7
                 clear hK K
                 try simp only [Act.put, List.setIfInBounds_toArray, List.set_cons_zero, List.set_cons_succ]
                 refine wpAnyH_take (i := 7) (oi := ⟨some 138, Op.move (.tmp 145), _, _, _, none⟩) (v := .tuple #[.agg cz, .int .i64 0]) rfl (by kernel_rfl) (by kernel_rfl) (by kernel_rfl) (fun _ _ _ h => h) (Or.inl ⟨by rfl, fun w hSw => by (try dsimp only at hSw); go_simp⟩) (by assumption) ?_
                 simp only [Act.put, List.setIfInBounds_toArray, List.set_cons_zero, List.set_cons_succ]
                 refine wpAnyH_take (i := 8) (oi := ⟨some 146, Op.extract (.tmp 138) 0, _, _, _, none⟩) (v := .agg cz) rfl (by kernel_rfl) (by kernel_rfl) (by kernel_rfl) (fun _ _ _ h => h) (Or.inl ⟨by rfl, fun w hSw => by (try dsimp only at hSw); go_simp⟩) (by assumption) ?_
                 simp only [Act.put, List.setIfInBounds_toArray, List.set_cons_zero, List.set_cons_succ]
                 refine wpAnyH_take (i := 9) (oi := ⟨some 147, Op.extract (.tmp 138) 1, _, _, _, none⟩) (v := .int .i64 0) rfl (by kernel_rfl) (by kernel_rfl) (by kernel_rfl) (fun _ _ _ h => h) (Or.inl ⟨by rfl, fun w hSw => by (try dsimp only at hSw); go_simp⟩) (by assumption) ?_
                 simp only [Act.put, List.setIfInBounds_toArray, List.set_cons_zero, List.set_cons_succ]
                 refine wpAnyH_ready (rs := [11]) (by kernel_rfl) (by simp) ?_
                 refine AllReadyH.cons rfl (fun Kc hK => ?_) AllReadyH.nil
                 refine if_wp rfl (wp_stRow0 49 _ _ rfl _ cz rfl rfl 49 _ hz (by rw [← HCZ.out]; exact infoMb) (by rw [← HCZ.out]; rfl) (by rw [← HCZ.out]; exact mba_one _) rfl ?_)
                 have hzZ := Rt.heap_setRow_same hz cz
                 refine hK.out _ _ ⟨Rt.setRow_below hgG hHd2.1 _, (Rt.row_other hMG _).trans hHd2.2⟩ (fun hHd3 => ?_)
                 clear hHd2
                 clear hK Kc
                 try simp only [Act.put, List.setIfInBounds_toArray, List.set_cons_zero, List.set_cons_succ]
                 refine wpAnyH_take (i := 12) (oi := ⟨some 24, Op.assign (.tmp 147), _, _, _, none⟩) (v := .int .i64 0) rfl (by kernel_rfl) (by kernel_rfl) (by kernel_rfl) (fun _ _ _ h => h) (Or.inl ⟨by rfl, fun w hSw => by (try dsimp only at hSw); go_simp⟩) (by assumption) ?_
                 simp only [Act.put, List.setIfInBounds_toArray, List.set_cons_zero, List.set_cons_succ]
                 refine wpAnyH_done (by kernel_rfl) ?_ _
                 go_wp2_with fail
                 go_meet
                 case rel => exact ⟨_, rfl, rfl, hHd3.1, hHd3.2, by unfold MA; rw [HCZ.out]; exact hzZ, hMG, hgG⟩
               case rest =>
                obtain ⟨G, rfl, rfl, hbc, hMc, hGc, hMG, hgG⟩ := hcut
                clear hM3 HB3 HSTQ HTQ0 u1 u2
                have c0 : wc.cell? ⟨M, 13, none⟩ = some (.int .i64 b) := hMc.bh
                have c1 := hGc.bh
                have f1 := hGc.fr 13
                go_upto_region 36 with (fail)
                have hG2 : MA (wc.setCell ⟨G, 13, none⟩ (.int .i64 b)) G (atS tq s b) := Rt.row_setCell hGc 13 (.int .i64 b)
                have hM2 : MA (wc.setCell ⟨G, 13, none⟩ (.int .i64 b)) M (atS tq s b) := (Rt.other_setCell hMG _ _).trans hMc
                have hB4 : Below wR.heap.size wR (wc.setCell ⟨G, 13, none⟩ (.int .i64 b)) := hbc.setCell (p := ⟨G, 13, none⟩) hgG _
                clear hbc hMc hGc hMG hgG c0 c1 f1
                generalize wc.setCell ⟨G, 13, none⟩ (.int .i64 b) = w5 at *
                have HEQ : Hid (mE (atS tq s b) (atS tq s b) = true) := mE_iff.2 rfl
                have hS0 : MA w5.drew M (atS tq s b) ∧ MA w5.drew G (atS tq s b) ∧ Below wR.heap.size wR w5.drew := ⟨hM2.later (drew_below _), hG2.later (drew_below _), Wi.Below.join hB4 (drew_below _)⟩
                clear hM2 hG2 hB4
                have hbz : b ≠ 0 := by have h1 := HBG.out; have h2 := HRG.out i HIN.out; omega
                have z1 : (b != 0) = true := by simpa using hbz
                have z2 : decide (b ≤ tq.ep) = false := decide_eq_false (by rcases HBH0.out with h | h; exact absurd h hbz; omega)
                have z3 : decide (b < ri) = false := decide_eq_false (by have h := HBG.out; rw [HRI.out] at h; omega)
                clear hbz
                refine wp_region_held_drew (S := fun W => MA W M (atS tq s b) ∧ MA W G (atS tq s b) ∧ Below wR.heap.size wR W) (by kernel_rfl) hS0 (fun hHeld => ?_)
                clear hS0
                generalize w5.drew = wd at *
                refine wpAnyH_take (i := 0) (oi := ⟨some 151, Op.move (.tmp 24), _, _, _, none⟩) (v := .int .i64 0) rfl (by kernel_rfl) (by kernel_rfl) (by kernel_rfl) (fun _ _ _ h => h) (Or.inl ⟨by rfl, fun w hSw => by (try dsimp only at hSw); go_simp⟩) (by assumption) ?_
                simp only [Act.put, List.setIfInBounds_toArray, List.set_cons_zero, List.set_cons_succ]
                refine wpAnyH_take (i := 1) (oi := ⟨some 152, Op.binOp BinOp.neq 43 (.tmp 151) (Operand.const (Value.int IntKind.i64 0)) 43, _, _, _, none⟩) (v := .bool false) rfl (by kernel_rfl) (by kernel_rfl) (by kernel_rfl) (fun _ _ _ h => h) (Or.inl ⟨by rfl, fun w hSw => by (try dsimp only at hSw); go_simp⟩) (by assumption) ?_
                simp only [Act.put, List.setIfInBounds_toArray, List.set_cons_zero, List.set_cons_succ]
                refine wpAnyH_take (i := 2) (oi := ⟨some 153, Op.move (.tmp 152), _, _, _, none⟩) (v := .bool false) rfl (by kernel_rfl) (by kernel_rfl) (by kernel_rfl) (fun _ _ _ h => h) (Or.inl ⟨by rfl, fun w hSw => by (try dsimp only at hSw); go_simp⟩) (by assumption) ?_
                simp only [Act.put, List.setIfInBounds_toArray, List.set_cons_zero, List.set_cons_succ]
                refine wpAnyH_take (i := 3) (oi := ⟨some 154, Op.load 49 (.tmp 15), _, _, _, some (2, false)⟩) (v := .agg cq) rfl (by kernel_rfl) (by kernel_rfl) (by kernel_rfl) (fun _ _ _ h => h) (Or.inl ⟨by rfl, fun w hSw => ldMb_exec hSw.1 HCQ.out rfl rfl⟩) (by assumption) ?_
                simp only [Act.put, List.setIfInBounds_toArray, List.set_cons_zero, List.set_cons_succ]
                refine wpAnyH_take (i := 4) (oi := ⟨some 155, Op.load 49 (.tmp 23), _, _, _, some (2, false)⟩) (v := .agg cq) rfl (by kernel_rfl) (by kernel_rfl) (by kernel_rfl) (fun _ _ _ h => h) (Or.inl ⟨by rfl, fun w hSw => ldMb_exec hSw.2.1 HCQ.out rfl rfl⟩) (by assumption) ?_
                simp only [Act.put, List.setIfInBounds_toArray, List.set_cons_zero, List.set_cons_succ]
                refine wpAnyH_take (i := 5) (oi := ⟨some 156, Op.binOp BinOp.neq 49 (.tmp 154) (.tmp 155) 49, _, _, _, some (2, false)⟩) (v := .bool false) rfl (by kernel_rfl) (by kernel_rfl) (by kernel_rfl) (fun _ _ _ h => h) (Or.inl ⟨by rfl, fun w hSw => neM_exec HCQ.out HCQ.out HEQ.out rfl rfl rfl⟩) (by assumption) ?_
                simp only [Act.put, List.setIfInBounds_toArray, List.set_cons_zero, List.set_cons_succ]
                refine wpAnyH_take (i := 6) (oi := ⟨some 157, Op.pick (.tmp 153) (Operand.const (Value.bool true)) (.tmp 156), _, _, _, none⟩) (v := .bool false) rfl (by kernel_rfl) (by kernel_rfl) (by kernel_rfl) (fun _ _ _ h => h) (Or.inl ⟨by rfl, fun w hSw => by (try dsimp only at hSw); go_simp⟩) (by assumption) ?_
                simp only [Act.put, List.setIfInBounds_toArray, List.set_cons_zero, List.set_cons_succ]
                refine wpAnyH_take (i := 7) (oi := ⟨some 158, Op.move (.tmp 157), _, _, _, none⟩) (v := .bool false) rfl (by kernel_rfl) (by kernel_rfl) (by kernel_rfl) (fun _ _ _ h => h) (Or.inl ⟨by rfl, fun w hSw => by (try dsimp only at hSw); go_simp⟩) (by assumption) ?_
                simp only [Act.put, List.setIfInBounds_toArray, List.set_cons_zero, List.set_cons_succ]
                refine wpAnyH_take (i := 8) (oi := ⟨some 159, Op.fieldAddr 49 (.tmp 15) 7, _, _, _, some (7, false)⟩) (v := .pointer (some ⟨M, 13, none⟩)) rfl (by kernel_rfl) (by kernel_rfl) (by kernel_rfl) (fun _ _ _ h => h) (Or.inl ⟨by rfl, fun w hSw => by (try dsimp only at hSw); go_simp⟩) (by assumption) ?_
                simp only [Act.put, List.setIfInBounds_toArray, List.set_cons_zero, List.set_cons_succ]
                refine wpAnyH_take (i := 9) (oi := ⟨some 160, Op.load 3 (.tmp 159), _, _, _, some (7, false)⟩) (v := .int .i64 b) rfl (by kernel_rfl) (by kernel_rfl) (by kernel_rfl) (fun _ _ _ h => h) (Or.inl ⟨by rfl, fun w hSw => by have h := hSw.1.bh; rw [show (atS tq s b).bh = b from rfl] at h; clear hSw; go_simp⟩) (by assumption) ?_
                simp only [Act.put, List.setIfInBounds_toArray, List.set_cons_zero, List.set_cons_succ]
                refine wpAnyH_take (i := 10) (oi := ⟨some 161, Op.binOp BinOp.neq 3 (.tmp 160) (Operand.const (Value.int IntKind.i64 0)) 3, _, _, _, some (7, false)⟩) (v := .bool true) rfl (by kernel_rfl) (by kernel_rfl) (by kernel_rfl) (fun _ _ _ h => h) (Or.inl ⟨by rfl, fun w hSw => by (try dsimp only at hSw); go_simp⟩) (by assumption) ?_
                simp only [Act.put, List.setIfInBounds_toArray, List.set_cons_zero, List.set_cons_succ]
                refine wpAnyH_take (i := 11) (oi := ⟨some 162, Op.move (.tmp 161), _, _, _, some (7, false)⟩) (v := .bool true) rfl (by kernel_rfl) (by kernel_rfl) (by kernel_rfl) (fun _ _ _ h => h) (Or.inl ⟨by rfl, fun w hSw => by (try dsimp only at hSw); go_simp⟩) (by assumption) ?_
                simp only [Act.put, List.setIfInBounds_toArray, List.set_cons_zero, List.set_cons_succ]
                refine wpAnyH_take (i := 12) (oi := ⟨some 163, Op.fieldAddr 49 (.tmp 15) 7, _, _, _, some (11, true)⟩) (v := .pointer (some ⟨M, 13, none⟩)) rfl (by kernel_rfl) (by kernel_rfl) (by kernel_rfl) (fun _ _ _ h => h) (Or.inl ⟨by rfl, fun w hSw => by (try dsimp only at hSw); go_simp⟩) (by assumption) ?_
                simp only [Act.put, List.setIfInBounds_toArray, List.set_cons_zero, List.set_cons_succ]
                refine wpAnyH_take (i := 13) (oi := ⟨some 164, Op.load 3 (.tmp 163), _, _, _, some (11, true)⟩) (v := .int .i64 b) rfl (by kernel_rfl) (by kernel_rfl) (by kernel_rfl) (fun _ _ _ h => h) (Or.inl ⟨by rfl, fun w hSw => by have h := hSw.1.bh; rw [show (atS tq s b).bh = b from rfl] at h; clear hSw; go_simp⟩) (by assumption) ?_
                simp only [Act.put, List.setIfInBounds_toArray, List.set_cons_zero, List.set_cons_succ]
                refine wpAnyH_take (i := 14) (oi := ⟨some 165, Op.fieldAddr 49 (.tmp 15) 2, _, _, _, some (11, true)⟩) (v := .pointer (some ⟨M, 2, none⟩)) rfl (by kernel_rfl) (by kernel_rfl) (by kernel_rfl) (fun _ _ _ h => h) (Or.inl ⟨by rfl, fun w hSw => by (try dsimp only at hSw); go_simp⟩) (by assumption) ?_
                simp only [Act.put, List.setIfInBounds_toArray, List.set_cons_zero, List.set_cons_succ]
                refine wpAnyH_take (i := 15) (oi := ⟨some 166, Op.load 3 (.tmp 165), _, _, _, some (11, true)⟩) (v := .int .i64 tq.ep) rfl (by kernel_rfl) (by kernel_rfl) (by kernel_rfl) (fun _ _ _ h => h) (Or.inl ⟨by rfl, fun w hSw => by have h := hSw.1.ep; rw [show (atS tq s b).ep = tq.ep from rfl] at h; clear hSw; go_simp⟩) (by assumption) ?_
                simp only [Act.put, List.setIfInBounds_toArray, List.set_cons_zero, List.set_cons_succ]
                refine wpAnyH_take (i := 16) (oi := ⟨some 167, Op.binOp BinOp.leq 3 (.tmp 164) (.tmp 166) 3, _, _, _, some (11, true)⟩) (v := .bool false) rfl (by kernel_rfl) (by kernel_rfl) (by kernel_rfl) (fun _ _ _ h => h) (Or.inl ⟨by rfl, fun w hSw => by (try dsimp only at hSw); go_simp⟩) (by assumption) ?_
                simp only [Act.put, List.setIfInBounds_toArray, List.set_cons_zero, List.set_cons_succ]
                refine wpAnyH_take (i := 17) (oi := ⟨some 168, Op.pick (.tmp 162) (.tmp 167) (Operand.const (Value.bool false)), _, _, _, some (7, false)⟩) (v := .bool false) rfl (by kernel_rfl) (by kernel_rfl) (by kernel_rfl) (fun _ _ _ h => h) (Or.inl ⟨by rfl, fun w hSw => by (try dsimp only at hSw); go_simp⟩) (by assumption) ?_
                simp only [Act.put, List.setIfInBounds_toArray, List.set_cons_zero, List.set_cons_succ]
                refine wpAnyH_take (i := 18) (oi := ⟨some 169, Op.pick (.tmp 158) (Operand.const (Value.bool true)) (.tmp 168), _, _, _, none⟩) (v := .bool false) rfl (by kernel_rfl) (by kernel_rfl) (by kernel_rfl) (fun _ _ _ h => h) (Or.inl ⟨by rfl, fun w hSw => by (try dsimp only at hSw); go_simp⟩) (by assumption) ?_
                simp only [Act.put, List.setIfInBounds_toArray, List.set_cons_zero, List.set_cons_succ]
                refine wpAnyH_take (i := 19) (oi := ⟨some 170, Op.move (.tmp 169), _, _, _, none⟩) (v := .bool false) rfl (by kernel_rfl) (by kernel_rfl) (by kernel_rfl) (fun _ _ _ h => h) (Or.inl ⟨by rfl, fun w hSw => by (try dsimp only at hSw); go_simp⟩) (by assumption) ?_
                simp only [Act.put, List.setIfInBounds_toArray, List.set_cons_zero, List.set_cons_succ]
                refine wpAnyH_take (i := 20) (oi := ⟨some 171, Op.move (.tmp 22), _, _, _, some (19, false)⟩) (v := .int .i64 22) rfl (by kernel_rfl) (by kernel_rfl) (by kernel_rfl) (fun _ _ _ h => h) (Or.inl ⟨by rfl, fun w hSw => by (try dsimp only at hSw); go_simp⟩) (by assumption) ?_
                simp only [Act.put, List.setIfInBounds_toArray, List.set_cons_zero, List.set_cons_succ]
                refine wpAnyH_take (i := 21) (oi := ⟨some 172, Op.binOp BinOp.eql 43 (.tmp 171) (Operand.const (Value.int IntKind.i64 22)) 43, _, _, _, some (19, false)⟩) (v := .bool true) rfl (by kernel_rfl) (by kernel_rfl) (by kernel_rfl) (fun _ _ _ h => h) (Or.inl ⟨by rfl, fun w hSw => by (try dsimp only at hSw); go_simp⟩) (by assumption) ?_
                simp only [Act.put, List.setIfInBounds_toArray, List.set_cons_zero, List.set_cons_succ]
                refine wpAnyH_take (i := 22) (oi := ⟨some 173, Op.move (.tmp 172), _, _, _, some (19, false)⟩) (v := .bool true) rfl (by kernel_rfl) (by kernel_rfl) (by kernel_rfl) (fun _ _ _ h => h) (Or.inl ⟨by rfl, fun w hSw => by (try dsimp only at hSw); go_simp⟩) (by assumption) ?_
                simp only [Act.put, List.setIfInBounds_toArray, List.set_cons_zero, List.set_cons_succ]
                refine wpAnyH_take (i := 23) (oi := ⟨some 174, Op.fieldAddr 49 (.tmp 15) 7, _, _, _, some (22, true)⟩) (v := .pointer (some ⟨M, 13, none⟩)) rfl (by kernel_rfl) (by kernel_rfl) (by kernel_rfl) (fun _ _ _ h => h) (Or.inl ⟨by rfl, fun w hSw => by (try dsimp only at hSw); go_simp⟩) (by assumption) ?_
                simp only [Act.put, List.setIfInBounds_toArray, List.set_cons_zero, List.set_cons_succ]
                refine wpAnyH_take (i := 24) (oi := ⟨some 175, Op.load 3 (.tmp 174), _, _, _, some (22, true)⟩) (v := .int .i64 b) rfl (by kernel_rfl) (by kernel_rfl) (by kernel_rfl) (fun _ _ _ h => h) (Or.inl ⟨by rfl, fun w hSw => by have h := hSw.1.bh; rw [show (atS tq s b).bh = b from rfl] at h; clear hSw; go_simp⟩) (by assumption) ?_
                simp only [Act.put, List.setIfInBounds_toArray, List.set_cons_zero, List.set_cons_succ]
                refine wpAnyH_take (i := 25) (oi := ⟨some 176, Op.move (.tmp 8), _, _, _, some (22, true)⟩) (v := .slice (some ⟨gx, 0, none⟩) NM cx) rfl (by kernel_rfl) (by kernel_rfl) (by kernel_rfl) (fun _ _ _ h => h) (Or.inl ⟨by rfl, fun w hSw => by (try dsimp only at hSw); go_simp⟩) (by assumption) ?_
                simp only [Act.put, List.setIfInBounds_toArray, List.set_cons_zero, List.set_cons_succ]
                refine wpAnyH_take (i := 26) (oi := ⟨some 177, Op.move (.tmp 20), _, _, _, some (22, true)⟩) (v := .int .i64 (i : Int)) rfl (by kernel_rfl) (by kernel_rfl) (by kernel_rfl) (fun _ _ _ h => h) (Or.inl ⟨by rfl, fun w hSw => by (try dsimp only at hSw); go_simp⟩) (by assumption) ?_
                simp only [Act.put, List.setIfInBounds_toArray, List.set_cons_zero, List.set_cons_succ]
                refine wpAnyH_take (i := 27) (oi := ⟨some 178, Op.indexAddr 36 (.tmp 176) (.tmp 177), _, _, _, some (22, true)⟩) (v := .pointer (some ⟨gx, i * 4, none⟩)) rfl (by kernel_rfl) (by kernel_rfl) (by kernel_rfl) (fun _ _ _ h => h) (Or.inl ⟨by rfl, fun w hSw => by (try dsimp only at hSw); go_simp⟩) (by assumption) ?_
                simp only [Act.put, List.setIfInBounds_toArray, List.set_cons_zero, List.set_cons_succ]
                refine wpAnyH_take (i := 28) (oi := ⟨some 179, Op.fieldAddr 42 (.tmp 178) 0, _, _, _, some (22, true)⟩) (v := .pointer (some ⟨gx, i * 4, none⟩)) rfl (by kernel_rfl) (by kernel_rfl) (by kernel_rfl) (fun _ _ _ h => h) (Or.inl ⟨by rfl, fun w hSw => by (try dsimp only at hSw); go_simp⟩) (by assumption) ?_
                simp only [Act.put, List.setIfInBounds_toArray, List.set_cons_zero, List.set_cons_succ]
                refine wpAnyH_take (i := 29) (oi := ⟨some 180, Op.load 3 (.tmp 179), _, _, _, some (22, true)⟩) (v := .int .i64 ri) rfl (by kernel_rfl) (by kernel_rfl) (by kernel_rfl) (fun _ _ _ h => h) (Or.inl ⟨by rfl, fun w hSw => by have h := HMC.out _ hSw.2.2; rw [HRI.out] at h; clear hSw; go_simp⟩) (by assumption) ?_
                simp only [Act.put, List.setIfInBounds_toArray, List.set_cons_zero, List.set_cons_succ]
                refine wpAnyH_take (i := 30) (oi := ⟨some 181, Op.binOp BinOp.lss 3 (.tmp 175) (.tmp 180) 3, _, _, _, some (22, true)⟩) (v := .bool false) rfl (by kernel_rfl) (by kernel_rfl) (by kernel_rfl) (fun _ _ _ h => h) (Or.inl ⟨by rfl, fun w hSw => by (try dsimp only at hSw); go_simp⟩) (by assumption) ?_
                simp only [Act.put, List.setIfInBounds_toArray, List.set_cons_zero, List.set_cons_succ]
                refine wpAnyH_take (i := 31) (oi := ⟨some 182, Op.pick (.tmp 173) (.tmp 181) (Operand.const (Value.bool false)), _, _, _, some (19, false)⟩) (v := .bool false) rfl (by kernel_rfl) (by kernel_rfl) (by kernel_rfl) (fun _ _ _ h => h) (Or.inl ⟨by rfl, fun w hSw => by (try dsimp only at hSw); go_simp⟩) (by assumption) ?_
                simp only [Act.put, List.setIfInBounds_toArray, List.set_cons_zero, List.set_cons_succ]
                refine wpAnyH_take (i := 32) (oi := ⟨some 183, Op.pick (.tmp 170) (Operand.const (Value.bool true)) (.tmp 182), _, _, _, none⟩) (v := .bool false) rfl (by kernel_rfl) (by kernel_rfl) (by kernel_rfl) (fun _ _ _ h => h) (Or.inl ⟨by rfl, fun w hSw => by (try dsimp only at hSw); go_simp⟩) (by assumption) ?_
                simp only [Act.put, List.setIfInBounds_toArray, List.set_cons_zero, List.set_cons_succ]
                refine wpAnyH_done (by kernel_rfl) ?_ _
                have hjb : (j : Int) < 17592186044416 := by have := HN2.out; omega
                go_wp2_with fail
                go_roundw
                case rel => exact ⟨q, j + 1, b, HQ.out, by omega, rfl, by go_num, hHeld.2.2, by rw [HTE.out]; exact hHeld.1, HS2.out⟩
                case measure => simp [intOf]; omega
             | out h e hf =>
              obtain ⟨rfl, rfl⟩ := Prod.mk.inj (HX.out.symm.trans e)
              subst h
              have co : w3.cell? ⟨M, 12, none⟩ = some (.bool true) := hM3.out
              have HHF : Hid (fnd (ts.getD (i + 1) (tz 0)).ro (t0.ro s).who = -1) := hf
              clear j1 j2 hf e HX
              go_upto_region 39 with (fail)
              clear co
              as_aux_lemma =>
               obtain ⟨mo, q1, cro, hwm, hmo, hM4, hw1, u1, u2, htro, hfi, dS⟩ := out_prep (gt := gt) HWH.out HIN.out HNT.out HNM3.out HTS.out HHF.out hM3
               have HWM : Hid (mo.who = wh) := hwm
               have HMO : Hid (mo.out = true) := hmo
               have HTRO : Hid _ := htro
               have HFI : Hid _ := hfi
               clear hwm hmo htro hfi HHF hM3
               have hS0 : Below wR.heap.size wR w3.drew ∧ MA w3.drew M mo := ⟨Wi.Below.join HB3.out (drew_below _), hM4.later (drew_below _)⟩
               clear hM4 HB3
               refine wp_region_held_drew (S := fun W => Below wR.heap.size wR W ∧ MA W M mo) (by kernel_rfl) hS0 (fun hHeld => ?_)
               clear hS0
               generalize w3.drew = wd at *
               refine wpAnyH_take (i := 0) (oi := ⟨some 185, Op.fieldAddr 49 (.tmp 15) 6, _, _, _, none⟩) (v := .pointer (some ⟨M, 12, none⟩)) rfl (by kernel_rfl) (by kernel_rfl) (by kernel_rfl) (fun _ _ _ h => h) (Or.inl ⟨by rfl, fun w hSw => by (try dsimp only at hSw); go_simp⟩) (by assumption) ?_
               simp only [Act.put, List.setIfInBounds_toArray, List.set_cons_zero, List.set_cons_succ]
               refine wpAnyH_take (i := 1) (oi := ⟨some 186, Op.load 4 (.tmp 185), _, _, _, none⟩) (v := .bool true) rfl (by kernel_rfl) (by kernel_rfl) (by kernel_rfl) (fun _ _ _ h => h) (Or.inl ⟨by rfl, fun w hSw => by have h := hSw.2.out; rw [HMO.out] at h; clear hSw; go_simp⟩) (by assumption) ?_
               simp only [Act.put, List.setIfInBounds_toArray, List.set_cons_zero, List.set_cons_succ]
               refine wpAnyH_take (i := 2) (oi := ⟨some 187, Op.move (.tmp 186), _, _, _, none⟩) (v := .bool true) rfl (by kernel_rfl) (by kernel_rfl) (by kernel_rfl) (fun _ _ _ h => h) (Or.inl ⟨by rfl, fun w hSw => by (try dsimp only at hSw); go_simp⟩) (by assumption) ?_
               simp only [Act.put, List.setIfInBounds_toArray, List.set_cons_zero, List.set_cons_succ]
               refine wpAnyH_take (i := 3) (oi := ⟨some 188, Op.move (.tmp 7), _, _, _, some (2, true)⟩) (v := .slice (some ⟨gt, 0, none⟩) NT cr) rfl (by kernel_rfl) (by kernel_rfl) (by kernel_rfl) (fun _ _ _ h => h) (Or.inl ⟨by rfl, fun w hSw => by (try dsimp only at hSw); go_simp⟩) (by assumption) ?_
               simp only [Act.put, List.setIfInBounds_toArray, List.set_cons_zero, List.set_cons_succ]
               refine wpAnyH_take (i := 4) (oi := ⟨some 189, Op.move (.tmp 17), _, _, _, some (2, true)⟩) (v := .int .i64 (i : Int)) rfl (by kernel_rfl) (by kernel_rfl) (by kernel_rfl) (fun _ _ _ h => h) (Or.inl ⟨by rfl, fun w hSw => by (try dsimp only at hSw); go_simp⟩) (by assumption) ?_
               simp only [Act.put, List.setIfInBounds_toArray, List.set_cons_zero, List.set_cons_succ]
               refine wpAnyH_take (i := 5) (oi := ⟨some 190, Op.binOp BinOp.add 3 (.tmp 189) (Operand.const (Value.int IntKind.i64 1)) 3, _, _, _, some (2, true)⟩) (v := .int .i64 (q1 : Int)) rfl (by kernel_rfl) (by kernel_rfl) (by kernel_rfl) (fun _ _ _ h => h) (Or.inl ⟨by rfl, fun w hSw => by (try dsimp only at hSw); go_simp⟩) (by assumption) ?_
               simp only [Act.put, List.setIfInBounds_toArray, List.set_cons_zero, List.set_cons_succ]
               refine wpAnyH_take (i := 6) (oi := ⟨some 191, Op.indexAddr 35 (.tmp 188) (.tmp 190), _, _, _, some (2, true)⟩) (v := .pointer (some ⟨gt, q1 * 236, none⟩)) rfl (by kernel_rfl) (by kernel_rfl) (by kernel_rfl) (fun _ _ _ h => h) (Or.inl ⟨by rfl, fun w hSw => by (try dsimp only at hSw); go_simp⟩) (by assumption) ?_
               simp only [Act.put, List.setIfInBounds_toArray, List.set_cons_zero, List.set_cons_succ]
               refine wpAnyH_take (i := 7) (oi := ⟨some 192, Op.fieldAddr 31 (.tmp 191) 3, _, _, _, some (2, true)⟩) (v := .pointer (some ⟨gt, q1 * 236 + 44, none⟩)) rfl (by kernel_rfl) (by kernel_rfl) (by kernel_rfl) (fun _ _ _ h => h) (Or.inl ⟨by rfl, fun w hSw => by (try dsimp only at hSw); go_simp⟩) (by assumption) ?_
               simp only [Act.put, List.setIfInBounds_toArray, List.set_cons_zero, List.set_cons_succ]
               refine wpAnyH_take (i := 8) (oi := ⟨some 193, Op.load 29 (.tmp 192), _, _, _, some (2, true)⟩) (v := .agg cro) rfl (by kernel_rfl) (by kernel_rfl) (by kernel_rfl) (fun _ _ _ h => h) (Or.inl ⟨by rfl, fun w hSw => ld_exec (HTRO.out _ hSw.1) rfl rfl⟩) (by assumption) ?_
               simp only [Act.put, List.setIfInBounds_toArray, List.set_cons_zero, List.set_cons_succ]
               refine wpAnyH_take (i := 9) (oi := ⟨some 194, Op.fieldAddr 49 (.tmp 15) 0, _, _, _, some (2, true)⟩) (v := .pointer (some ⟨M, 0, none⟩)) rfl (by kernel_rfl) (by kernel_rfl) (by kernel_rfl) (fun _ _ _ h => h) (Or.inl ⟨by rfl, fun w hSw => by (try dsimp only at hSw); go_simp⟩) (by assumption) ?_
               simp only [Act.put, List.setIfInBounds_toArray, List.set_cons_zero, List.set_cons_succ]
               refine wpAnyH_take (i := 10) (oi := ⟨some 195, Op.load 3 (.tmp 194), _, _, _, some (2, true)⟩) (v := .int .i64 wh) rfl (by kernel_rfl) (by kernel_rfl) (by kernel_rfl) (fun _ _ _ h => h) (Or.inl ⟨by rfl, fun w hSw => by have h := hSw.2.who; rw [HWM.out] at h; clear hSw; go_simp⟩) (by assumption) ?_
               simp only [Act.put, List.setIfInBounds_toArray, List.set_cons_zero, List.set_cons_succ]
               refine wpAnyH_take (i := 12) (oi := ⟨some 197, Op.move (.tmp 14), _, _, _, some (2, true)⟩) (v := .int .i64 (s : Int)) rfl (by kernel_rfl) (by kernel_rfl) (by kernel_rfl) (fun _ _ _ h => h) (Or.inl ⟨by rfl, fun w hSw => by (try dsimp only at hSw); go_simp⟩) (by assumption) ?_
               simp only [Act.put, List.setIfInBounds_toArray, List.set_cons_zero, List.set_cons_succ]
               refine wpAnyH_ready (rs := [11]) (by kernel_rfl) (by simp) ?_
               refine AllReadyH.cons rfl (fun K hK => ?_) AllReadyH.nil
               go_simp
               refine (HFI.out _).mono ?_
               rintro e w7 ⟨rfl, hb7⟩
               go_wp2_with fail
               refine hK.out _ _ ⟨Wi.Below.join hHeld.1 hb7, hHeld.2.later hb7⟩ (fun hHeld2 => ?_)
               clear hHeld hb7
               clear hK K
               try simp only [Act.put, List.setIfInBounds_toArray, List.set_cons_zero, List.set_cons_succ]
               refine wpAnyH_take (i := 13) (oi := ⟨some 198, Op.binOp BinOp.eql 3 (.tmp 196) (.tmp 197) 3, _, _, _, some (2, true)⟩) (v := .bool false) rfl (by kernel_rfl) (by kernel_rfl) (by kernel_rfl) (fun _ _ _ h => h) (Or.inl ⟨by rfl, fun w hSw => by (try dsimp only at hSw); go_simp⟩) (by assumption) ?_
               simp only [Act.put, List.setIfInBounds_toArray, List.set_cons_zero, List.set_cons_succ]
               refine wpAnyH_take (i := 14) (oi := ⟨some 199, Op.pick (.tmp 187) (.tmp 198) (Operand.const (Value.bool false)), _, _, _, none⟩) (v := .bool false) rfl (by kernel_rfl) (by kernel_rfl) (by kernel_rfl) (fun _ _ _ h => h) (Or.inl ⟨by rfl, fun w hSw => by (try dsimp only at hSw); go_simp⟩) (by assumption) ?_
               simp only [Act.put, List.setIfInBounds_toArray, List.set_cons_zero, List.set_cons_succ]
               refine wpAnyH_take (i := 15) (oi := ⟨some 200, Op.move (.tmp 199), _, _, _, none⟩) (v := .bool false) rfl (by kernel_rfl) (by kernel_rfl) (by kernel_rfl) (fun _ _ _ h => h) (Or.inl ⟨by rfl, fun w hSw => by (try dsimp only at hSw); go_simp⟩) (by assumption) ?_
               simp only [Act.put, List.setIfInBounds_toArray, List.set_cons_zero, List.set_cons_succ]
               refine wpAnyH_take (i := 16) (oi := ⟨some 201, Op.move (.tmp 7), _, _, _, some (15, true)⟩) (v := undef) rfl (by kernel_rfl) (by kernel_rfl) (by kernel_rfl) (fun _ _ _ h => h) (Or.inr ⟨by rfl, rfl⟩) (by assumption) ?_
               simp only [Act.put, List.setIfInBounds_toArray, List.set_cons_zero, List.set_cons_succ]
               refine wpAnyH_take (i := 17) (oi := ⟨some 202, Op.move (.tmp 17), _, _, _, some (15, true)⟩) (v := undef) rfl (by kernel_rfl) (by kernel_rfl) (by kernel_rfl) (fun _ _ _ h => h) (Or.inr ⟨by rfl, rfl⟩) (by assumption) ?_
               simp only [Act.put, List.setIfInBounds_toArray, List.set_cons_zero, List.set_cons_succ]
               refine wpAnyH_take (i := 18) (oi := ⟨some 203, Op.binOp BinOp.add 3 (.tmp 202) (Operand.const (Value.int IntKind.i64 1)) 3, _, _, _, some (15, true)⟩) (v := undef) rfl (by kernel_rfl) (by kernel_rfl) (by kernel_rfl) (fun _ _ _ h => h) (Or.inr ⟨by rfl, rfl⟩) (by assumption) ?_
               simp only [Act.put, List.setIfInBounds_toArray, List.set_cons_zero, List.set_cons_succ]
               refine wpAnyH_take (i := 19) (oi := ⟨some 204, Op.move (.tmp 14), _, _, _, some (15, true)⟩) (v := undef) rfl (by kernel_rfl) (by kernel_rfl) (by kernel_rfl) (fun _ _ _ h => h) (Or.inr ⟨by rfl, rfl⟩) (by assumption) ?_
               simp only [Act.put, List.setIfInBounds_toArray, List.set_cons_zero, List.set_cons_succ]
               refine wpAnyH_take (i := 20) (oi := ⟨some 205, Op.indexAddr 35 (.tmp 201) (.tmp 203), _, _, _, some (15, true)⟩) (v := undef) rfl (by kernel_rfl) (by kernel_rfl) (by kernel_rfl) (fun _ _ _ h => h) (Or.inr ⟨by rfl, rfl⟩) (by assumption) ?_
               simp only [Act.put, List.setIfInBounds_toArray, List.set_cons_zero, List.set_cons_succ]
               refine wpAnyH_take (i := 21) (oi := ⟨some 206, Op.fieldAddr 31 (.tmp 205) 3, _, _, _, some (15, true)⟩) (v := undef) rfl (by kernel_rfl) (by kernel_rfl) (by kernel_rfl) (fun _ _ _ h => h) (Or.inr ⟨by rfl, rfl⟩) (by assumption) ?_
               simp only [Act.put, List.setIfInBounds_toArray, List.set_cons_zero, List.set_cons_succ]
               refine wpAnyH_take (i := 22) (oi := ⟨some 207, Op.indexAddr 29 (.tmp 206) (.tmp 204), _, _, _, some (15, true)⟩) (v := undef) rfl (by kernel_rfl) (by kernel_rfl) (by kernel_rfl) (fun _ _ _ h => h) (Or.inr ⟨by rfl, rfl⟩) (by assumption) ?_
               simp only [Act.put, List.setIfInBounds_toArray, List.set_cons_zero, List.set_cons_succ]
               refine wpAnyH_take (i := 23) (oi := ⟨some 208, Op.load 27 (.tmp 207), _, _, _, some (15, true)⟩) (v := undef) rfl (by kernel_rfl) (by kernel_rfl) (by kernel_rfl) (fun _ _ _ h => h) (Or.inr ⟨by rfl, rfl⟩) (by assumption) ?_
               simp only [Act.put, List.setIfInBounds_toArray, List.set_cons_zero, List.set_cons_succ]
               refine wpAnyH_take (i := 24) (oi := ⟨some 209, Op.move (.tmp 14), _, _, _, some (15, true)⟩) (v := undef) rfl (by kernel_rfl) (by kernel_rfl) (by kernel_rfl) (fun _ _ _ h => h) (Or.inr ⟨by rfl, rfl⟩) (by assumption) ?_
               simp only [Act.put, List.setIfInBounds_toArray, List.set_cons_zero, List.set_cons_succ]
               refine wpAnyH_take (i := 25) (oi := ⟨some 210, Op.fieldAddr 31 (.tmp 3) 3, _, _, _, some (15, true)⟩) (v := undef) rfl (by kernel_rfl) (by kernel_rfl) (by kernel_rfl) (fun _ _ _ h => h) (Or.inr ⟨by rfl, rfl⟩) (by assumption) ?_
               simp only [Act.put, List.setIfInBounds_toArray, List.set_cons_zero, List.set_cons_succ]
               refine wpAnyH_take (i := 26) (oi := ⟨some 211, Op.indexAddr 29 (.tmp 210) (.tmp 209), _, _, _, some (15, true)⟩) (v := undef) rfl (by kernel_rfl) (by kernel_rfl) (by kernel_rfl) (fun _ _ _ h => h) (Or.inr ⟨by rfl, rfl⟩) (by assumption) ?_
               simp only [Act.put, List.setIfInBounds_toArray, List.set_cons_zero, List.set_cons_succ]
               refine wpAnyH_take (i := 27) (oi := ⟨some 212, Op.load 27 (.tmp 211), _, _, _, some (15, true)⟩) (v := undef) rfl (by kernel_rfl) (by kernel_rfl) (by kernel_rfl) (fun _ _ _ h => h) (Or.inr ⟨by rfl, rfl⟩) (by assumption) ?_
               simp only [Act.put, List.setIfInBounds_toArray, List.set_cons_zero, List.set_cons_succ]
               refine wpAnyH_take (i := 28) (oi := ⟨some 213, Op.binOp BinOp.eql 27 (.tmp 208) (.tmp 212) 27, _, _, _, some (15, true)⟩) (v := undef) rfl (by kernel_rfl) (by kernel_rfl) (by kernel_rfl) (fun _ _ _ h => h) (Or.inr ⟨by rfl, rfl⟩) (by assumption) ?_
               simp only [Act.put, List.setIfInBounds_toArray, List.set_cons_zero, List.set_cons_succ]
               refine wpAnyH_take (i := 29) (oi := ⟨some 214, Op.pick (.tmp 200) (.tmp 213) (Operand.const (Value.bool false)), _, _, _, none⟩) (v := .bool false) rfl (by kernel_rfl) (by kernel_rfl) (by kernel_rfl) (fun _ _ _ h => h) (Or.inl ⟨by rfl, fun w hSw => by (try dsimp only at hSw); go_simp⟩) (by assumption) ?_
               simp only [Act.put, List.setIfInBounds_toArray, List.set_cons_zero, List.set_cons_succ]
               refine wpAnyH_done (by kernel_rfl) ?_ _
               clear hw1 u1 u2
               go_wp2_with fail
               go_roundw
               case rel => exact ⟨s + 1, by have := HLT.out; omega, by go_num, hHeld2.1⟩
               case measure => have := HLT.out; simp [intOf]; omega
             | stay h b' e hs' =>
              obtain ⟨rfl, rfl⟩ := Prod.mk.inj (HX.out.symm.trans e)
              subst h
              have HS2 : Hid (Sits t0 ts s (i + 1) b') := hs'
              have co := hM3.out
              have hw1 : IntKind.i64.wrap ((i : Int) + 1) = (i : Int) + 1 := Rs.i64_fit _ (by omega) (by have := HIN.out; have := HNM3.out; omega)
              have HQ : Hid (i + 1 ≤ NM) := HIN.out
              have d1 : ((i : Int) == (i : Int)) = true := by simp
              clear HSIT e HX hs'
              obtain ⟨b, hbb⟩ : ∃ b, b = b' := ⟨_, rfl⟩
              subst hbb
              go_upto_region 34 with (fail)
              clear co d1 hw1
              obtain ⟨q, hqq⟩ : ∃ q, q = i + 1 := ⟨_, rfl⟩
              rw [← hqq] at HS2 HQ hM3
              have hcast : (i : Int) + 1 = (q : Int) := by rw [hqq]; push_cast; rfl
              rw [hcast]
              clear hcast hqq
              as_aux_lemma =>
               have hsd := HSD.out s q b HLT.out HQ.out HS2.out
               have hst := stand_r (ts.getD q (tz 0)) wh
               rw [HWH.out] at hsd
               rw [hsd.1, hsd.2] at hst
               have HWQ0 : Hid (((ts.getD q (tz 0)).ro s).who = wh) := by unfold Hid; rw [HS2.out.ro]; exact HWH.out
               have HBH0 : Hid (b = 0 ∨ ((ts.getD q (tz 0)).ep < b ∧ b ≤ 200)) := HS2.out.bh
               have HTQ0 : Hid (∀ W, Below wR.heap.size wR W → (Instr.loadAt 31 (.pointer (some ⟨gt, q * 236, none⟩))).run Try.prog W = .ok (.agg (tcs (ts.getD q (tz 0)))) W) := fun W hW => (HTS.out q HQ.out W hW).1
               obtain ⟨tq, htq⟩ : ∃ x, ts.getD q (tz 0) = x := ⟨_, rfl⟩
               have HTE : Hid (ts.getD q (tz 0) = tq) := htq
               rw [htq] at hst hM3 HWQ0 HBH0 HTQ0
               have HWQ : Hid ((atS tq s b).who = wh) := HWQ0.out
               obtain ⟨cz, hcz⟩ : ∃ c, mba (atS tq s 0) = c := ⟨_, rfl⟩
               have HCZ : MC (atS tq s 0) cz := ⟨hcz⟩
               obtain ⟨ct, hct⟩ : ∃ c, tcs tq = c := ⟨_, rfl⟩
               have HCT : EA (tcs tq) ct := ⟨hct⟩
               obtain ⟨cq, hcq⟩ : ∃ c, mba (atS tq s b) = c := ⟨_, rfl⟩
               have HCQ : MC (atS tq s b) cq := ⟨hcq⟩
               rw [hct, hcz] at hst
               have HSTQ : Hid _ := hst
               obtain ⟨ri, hri⟩ : ∃ x, (rM ts bs i).1 = x := ⟨_, rfl⟩
               have HRI : Hid ((rM ts bs i).1 = ri) := hri
               clear hsd hst htq hcz hct hcq hri HWQ0
               have u1 : (0 : Int) ≤ (q : Int) := by omega
               have u2 : (q : Int) < (NT : Int) := by have := HQ.out; have := HNT.out; omega
               go_cut [23, 24] (fun s23 s24 wx => ∃ G, s23 = .pointer (some ⟨G, 0, none⟩) ∧ s24 = .int .i64 0 ∧ Below wR.heap.size wR wx ∧ MA wx M (atS tq s b) ∧ MA wx G (atS tq s 0) ∧ M ≠ G ∧ wR.heap.size ≤ G)
               case first =>
                have hS0 : Below wR.heap.size wR w3.drew ∧ MA w3.drew M (atS tq s b) := ⟨Wi.Below.join HB3.out (drew_below _), hM3.later (drew_below _)⟩
                clear hM3 HB3
                refine wp_region_held_drew (S := fun W => Below wR.heap.size wR W ∧ MA W M (atS tq s b)) (by kernel_rfl) hS0 (fun hHeld => ?_)
                clear hS0
                generalize w3.drew = wd at *
                refine wpAnyH_take (i := 0) (oi := ⟨some 139, Op.move (.tmp 7), _, _, _, none⟩) (v := .slice (some ⟨gt, 0, none⟩) NT cr) rfl (by kernel_rfl) (by kernel_rfl) (by kernel_rfl) (fun _ _ _ h => h) (Or.inl ⟨by rfl, fun w hSw => by (try dsimp only at hSw); go_simp⟩) (by assumption) ?_
                simp only [Act.put, List.setIfInBounds_toArray, List.set_cons_zero, List.set_cons_succ]
                refine wpAnyH_take (i := 1) (oi := ⟨some 140, Op.move (.tmp 17), _, _, _, none⟩) (v := .int .i64 (q : Int)) rfl (by kernel_rfl) (by kernel_rfl) (by kernel_rfl) (fun _ _ _ h => h) (Or.inl ⟨by rfl, fun w hSw => by (try dsimp only at hSw); go_simp⟩) (by assumption) ?_
                simp only [Act.put, List.setIfInBounds_toArray, List.set_cons_zero, List.set_cons_succ]
                refine wpAnyH_take (i := 2) (oi := ⟨some 141, Op.indexAddr 35 (.tmp 139) (.tmp 140), _, _, _, none⟩) (v := .pointer (some ⟨gt, q * 236, none⟩)) rfl (by kernel_rfl) (by kernel_rfl) (by kernel_rfl) (fun _ _ _ h => h) (Or.inl ⟨by rfl, fun w hSw => by (try dsimp only at hSw); go_simp⟩) (by assumption) ?_
                simp only [Act.put, List.setIfInBounds_toArray, List.set_cons_zero, List.set_cons_succ]
                refine wpAnyH_take (i := 3) (oi := ⟨some 142, Op.load 31 (.tmp 141), _, _, _, none⟩) (v := .agg ct) rfl (by kernel_rfl) (by kernel_rfl) (by kernel_rfl) (fun _ _ _ h => h) (Or.inl ⟨by rfl, fun w hSw => ld_exec2 HCT.out (HTQ0.out _ hSw.1) rfl rfl⟩) (by assumption) ?_
                simp only [Act.put, List.setIfInBounds_toArray, List.set_cons_zero, List.set_cons_succ]
                refine wpAnyH_take (i := 4) (oi := ⟨some 143, Op.fieldAddr 49 (.tmp 15) 0, _, _, _, none⟩) (v := .pointer (some ⟨M, 0, none⟩)) rfl (by kernel_rfl) (by kernel_rfl) (by kernel_rfl) (fun _ _ _ h => h) (Or.inl ⟨by rfl, fun w hSw => by (try dsimp only at hSw); go_simp⟩) (by assumption) ?_
                simp only [Act.put, List.setIfInBounds_toArray, List.set_cons_zero, List.set_cons_succ]
                refine wpAnyH_take (i := 5) (oi := ⟨some 144, Op.load 3 (.tmp 143), _, _, _, none⟩) (v := .int .i64 wh) rfl (by kernel_rfl) (by kernel_rfl) (by kernel_rfl) (fun _ _ _ h => h) (Or.inl ⟨by rfl, fun w hSw => by have h := hSw.2.who; rw [HWQ.out] at h; clear hSw; go_simp⟩) (by assumption) ?_
                simp only [Act.put, List.setIfInBounds_toArray, List.set_cons_zero, List.set_cons_succ]
                refine wpAnyH_ready (rs := [6, 10]) (by kernel_rfl) (by simp) ?_
                refine (AllReadyH.cons rfl (fun K hK => ?_) (AllReadyH.cons rfl (fun K hK => ?_) AllReadyH.nil))
                ·go_simp
                 refine (HSTQ.out _).mono ?_
                 rintro e w7 ⟨rfl, hb7⟩
                 go_wp2_with fail
                 try (have hz := hz.later hb7)
                 refine hK.out _ _ ⟨Wi.Below.join hHeld.1 hb7, hHeld.2.later hb7⟩ (fun hHd1 => ?_)
                 clear hHeld hb7
                 clear hK K
                 try simp only [Act.put, List.setIfInBounds_toArray, List.set_cons_zero, List.set_cons_succ]
                 refine wpAnyH_take (i := 7) (oi := ⟨some 138, Op.move (.tmp 145), _, _, _, none⟩) (v := .tuple #[.agg cz, .int .i64 0]) rfl (by kernel_rfl) (by kernel_rfl) (by kernel_rfl) (fun _ _ _ h => h) (Or.inl ⟨by rfl, fun w hSw => by (try dsimp only at hSw); go_simp⟩) (by assumption) ?_
                 simp only [Act.put, List.setIfInBounds_toArray, List.set_cons_zero, List.set_cons_succ]
                 refine wpAnyH_take (i := 8) (oi := ⟨some 146, Op.extract (.tmp 138) 0, _, _, _, none⟩) (v := .agg cz) rfl (by kernel_rfl) (by kernel_rfl) (by kernel_rfl) (fun _ _ _ h => h) (Or.inl ⟨by rfl, fun w hSw => by (try dsimp only at hSw); go_simp⟩) (by assumption) ?_
                 simp only [Act.put, List.setIfInBounds_toArray, List.set_cons_zero, List.set_cons_succ]
                 refine wpAnyH_take (i := 9) (oi := ⟨some 147, Op.extract (.tmp 138) 1, _, _, _, none⟩) (v := .int .i64 0) rfl (by kernel_rfl) (by kernel_rfl) (by kernel_rfl) (fun _ _ _ h => h) (Or.inl ⟨by rfl, fun w hSw => by (try dsimp only at hSw); go_simp⟩) (by assumption) ?_
                 simp only [Act.put, List.setIfInBounds_toArray, List.set_cons_zero, List.set_cons_succ]
                 refine wpAnyH_ready (rs := [10]) (by kernel_rfl) (by simp) ?_
                 refine AllReadyH.cons rfl (fun K hK => ?_) AllReadyH.nil
                 go_simp
                 have hgG := hHd1.1.size
                 have hMG := Nat.ne_of_lt hHd1.2.lt
                 refine hK.out _ _ ⟨Wi.Below.join hHd1.1 (below_alloc _ _), hHd1.2.later (below_alloc _ _)⟩ (fun hHd2 => ?_)
                 first | have hz := mb_of2 hHd2.1 | have hz := mb_of hHd2.1
                 clear hHd1
                 clear hK K
                 try simp only [Act.put, List.setIfInBounds_toArray, List.set_cons_zero, List.set_cons_succ]
                 refine wpAnyH_ready (rs := [11]) (by kernel_rfl) (by simp) ?_
                 refine AllReadyH.cons rfl (fun Kc hK => ?_) AllReadyH.nil
                 refine if_wp rfl (wp_stRow0 49 _ _ rfl _ cz rfl rfl 49 _ hz (by rw [← HCZ.out]; exact infoMb) (by rw [← HCZ.out]; rfl) (by rw [← HCZ.out]; exact mba_one _) rfl ?_)
                 have hzZ := Rt.heap_setRow_same hz cz
                 refine hK.out _ _ ⟨Rt.setRow_below hgG hHd2.1 _, (Rt.row_other hMG _).trans hHd2.2⟩ (fun hHd3 => ?_)
                 clear hHd2
                 clear hK Kc
                 try simp only [Act.put, List.setIfInBounds_toArray, List.set_cons_zero, List.set_cons_succ]
                 refine wpAnyH_take (i := 12) (oi := ⟨some 24, Op.assign (.tmp 147), _, _, _, none⟩) (v := .int .i64 0) rfl (by kernel_rfl) (by kernel_rfl) (by kernel_rfl) (fun _ _ _ h => h) (Or.inl ⟨by rfl, fun w hSw => by (try dsimp only at hSw); go_simp⟩) (by assumption) ?_
                 simp only [Act.put, List.setIfInBounds_toArray, List.set_cons_zero, List.set_cons_succ]
                 refine wpAnyH_done (by kernel_rfl) ?_ _
                 go_wp2_with fail
                 go_meet
                 case rel => exact ⟨_, rfl, rfl, hHd3.1, hHd3.2, by unfold MA; rw [HCZ.out]; exact hzZ, hMG, hgG⟩
                ·go_simp
                 have hgG := hHeld.1.size
                 have hMG := Nat.ne_of_lt hHeld.2.lt
                 refine hK.out _ _ ⟨Wi.Below.join hHeld.1 (below_alloc _ _), hHeld.2.later (below_alloc _ _)⟩ (fun hHd1 => ?_)
                 first | have hz := mb_of2 hHd1.1 | have hz := mb_of hHd1.1
                 clear hHeld
                 clear hK K
                 try simp only [Act.put, List.setIfInBounds_toArray, List.set_cons_zero, List.set_cons_succ]
                 refine wpAnyH_ready (rs := [6]) (by kernel_rfl) (by simp) ?_
                 refine AllReadyH.cons rfl (fun K hK => ?_) AllReadyH.nil
                 go_simp
                 refine (HSTQ.out _).mono ?_
                 rintro e w7 ⟨rfl, hb7⟩
                 go_wp2_with fail
                 try (have hz := hz.later hb7)
                 refine hK.out _ _ ⟨Wi.Below.join hHd1.1 hb7, hHd1.2.later hb7⟩ (fun hHd2 => ?_)
                 clear hHd1 hb7
                 clear hK K
                 try simp only [Act.put, List.setIfInBounds_toArray, List.set_cons_zero, List.set_cons_succ]
                 refine wpAnyH_take (i := 7) (oi := ⟨some 138, Op.move (.tmp 145), _, _, _, none⟩) (v := .tuple #[.agg cz, .int .i64 0]) rfl (by kernel_rfl) (by kernel_rfl) (by kernel_rfl) (fun _ _ _ h => h) (Or.inl ⟨by rfl, fun w hSw => by (try dsimp only at hSw); go_simp⟩) (by assumption) ?_
                 simp only [Act.put, List.setIfInBounds_toArray, List.set_cons_zero, List.set_cons_succ]
                 refine wpAnyH_take (i := 8) (oi := ⟨some 146, Op.extract (.tmp 138) 0, _, _, _, none⟩) (v := .agg cz) rfl (by kernel_rfl) (by kernel_rfl) (by kernel_rfl) (fun _ _ _ h => h) (Or.inl ⟨by rfl, fun w hSw => by (try dsimp only at hSw); go_simp⟩) (by assumption) ?_
                 simp only [Act.put, List.setIfInBounds_toArray, List.set_cons_zero, List.set_cons_succ]
                 refine wpAnyH_take (i := 9) (oi := ⟨some 147, Op.extract (.tmp 138) 1, _, _, _, none⟩) (v := .int .i64 0) rfl (by kernel_rfl) (by kernel_rfl) (by kernel_rfl) (fun _ _ _ h => h) (Or.inl ⟨by rfl, fun w hSw => by (try dsimp only at hSw); go_simp⟩) (by assumption) ?_
                 simp only [Act.put, List.setIfInBounds_toArray, List.set_cons_zero, List.set_cons_succ]
                 refine wpAnyH_ready (rs := [11]) (by kernel_rfl) (by simp) ?_
                 refine AllReadyH.cons rfl (fun Kc hK => ?_) AllReadyH.nil
                 refine if_wp rfl (wp_stRow0 49 _ _ rfl _ cz rfl rfl 49 _ hz (by rw [← HCZ.out]; exact infoMb) (by rw [← HCZ.out]; rfl) (by rw [← HCZ.out]; exact mba_one _) rfl ?_)
                 have hzZ := Rt.heap_setRow_same hz cz
                 refine hK.out _ _ ⟨Rt.setRow_below hgG hHd2.1 _, (Rt.row_other hMG _).trans hHd2.2⟩ (fun hHd3 => ?_)
                 clear hHd2
                 clear hK Kc
                 try simp only [Act.put, List.setIfInBounds_toArray, List.set_cons_zero, List.set_cons_succ]
                 refine wpAnyH_take (i := 12) (oi := ⟨some 24, Op.assign (.tmp 147), _, _, _, none⟩) (v := .int .i64 0) rfl (by kernel_rfl) (by kernel_rfl) (by kernel_rfl) (fun _ _ _ h => h) (Or.inl ⟨by rfl, fun w hSw => by (try dsimp only at hSw); go_simp⟩) (by assumption) ?_
                 simp only [Act.put, List.setIfInBounds_toArray, List.set_cons_zero, List.set_cons_succ]
                 refine wpAnyH_done (by kernel_rfl) ?_ _
                 go_wp2_with fail
                 go_meet
                 case rel => exact ⟨_, rfl, rfl, hHd3.1, hHd3.2, by unfold MA; rw [HCZ.out]; exact hzZ, hMG, hgG⟩
               case rest =>
                obtain ⟨G, rfl, rfl, hbc, hMc, hGc, hMG, hgG⟩ := hcut
                clear hM3 HB3 HSTQ HTQ0 u1 u2
                have c0 : wc.cell? ⟨M, 13, none⟩ = some (.int .i64 b) := hMc.bh
                have c1 := hGc.bh
                have f1 := hGc.fr 13
                go_upto_region 36 with (fail)
                have hG2 : MA (wc.setCell ⟨G, 13, none⟩ (.int .i64 b)) G (atS tq s b) := Rt.row_setCell hGc 13 (.int .i64 b)
                have hM2 : MA (wc.setCell ⟨G, 13, none⟩ (.int .i64 b)) M (atS tq s b) := (Rt.other_setCell hMG _ _).trans hMc
                have hB4 : Below wR.heap.size wR (wc.setCell ⟨G, 13, none⟩ (.int .i64 b)) := hbc.setCell (p := ⟨G, 13, none⟩) hgG _
                clear hbc hMc hGc hMG hgG c0 c1 f1
                generalize wc.setCell ⟨G, 13, none⟩ (.int .i64 b) = w5 at *
                have HEQ : Hid (mE (atS tq s b) (atS tq s b) = true) := mE_iff.2 rfl
                have hS0 : MA w5.drew M (atS tq s b) ∧ MA w5.drew G (atS tq s b) ∧ Below wR.heap.size wR w5.drew := ⟨hM2.later (drew_below _), hG2.later (drew_below _), Wi.Below.join hB4 (drew_below _)⟩
                clear hM2 hG2 hB4
                by_cases hb0 : b = 0
                ·have z1 : (b != 0) = false := by simpa using hb0
                 clear hb0
                 refine wp_region_held_drew (S := fun W => MA W M (atS tq s b) ∧ MA W G (atS tq s b) ∧ Below wR.heap.size wR W) (by kernel_rfl) hS0 (fun hHeld => ?_)
                 clear hS0
                 generalize w5.drew = wd at *
                 refine wpAnyH_take (i := 0) (oi := ⟨some 151, Op.move (.tmp 24), _, _, _, none⟩) (v := .int .i64 0) rfl (by kernel_rfl) (by kernel_rfl) (by kernel_rfl) (fun _ _ _ h => h) (Or.inl ⟨by rfl, fun w hSw => by (try dsimp only at hSw); go_simp⟩) (by assumption) ?_
                 simp only [Act.put, List.setIfInBounds_toArray, List.set_cons_zero, List.set_cons_succ]
                 refine wpAnyH_take (i := 1) (oi := ⟨some 152, Op.binOp BinOp.neq 43 (.tmp 151) (Operand.const (Value.int IntKind.i64 0)) 43, _, _, _, none⟩) (v := .bool false) rfl (by kernel_rfl) (by kernel_rfl) (by kernel_rfl) (fun _ _ _ h => h) (Or.inl ⟨by rfl, fun w hSw => by (try dsimp only at hSw); go_simp⟩) (by assumption) ?_
                 simp only [Act.put, List.setIfInBounds_toArray, List.set_cons_zero, List.set_cons_succ]
                 refine wpAnyH_take (i := 2) (oi := ⟨some 153, Op.move (.tmp 152), _, _, _, none⟩) (v := .bool false) rfl (by kernel_rfl) (by kernel_rfl) (by kernel_rfl) (fun _ _ _ h => h) (Or.inl ⟨by rfl, fun w hSw => by (try dsimp only at hSw); go_simp⟩) (by assumption) ?_
                 simp only [Act.put, List.setIfInBounds_toArray, List.set_cons_zero, List.set_cons_succ]
                 refine wpAnyH_take (i := 3) (oi := ⟨some 154, Op.load 49 (.tmp 15), _, _, _, some (2, false)⟩) (v := .agg cq) rfl (by kernel_rfl) (by kernel_rfl) (by kernel_rfl) (fun _ _ _ h => h) (Or.inl ⟨by rfl, fun w hSw => ldMb_exec hSw.1 HCQ.out rfl rfl⟩) (by assumption) ?_
                 simp only [Act.put, List.setIfInBounds_toArray, List.set_cons_zero, List.set_cons_succ]
                 refine wpAnyH_take (i := 4) (oi := ⟨some 155, Op.load 49 (.tmp 23), _, _, _, some (2, false)⟩) (v := .agg cq) rfl (by kernel_rfl) (by kernel_rfl) (by kernel_rfl) (fun _ _ _ h => h) (Or.inl ⟨by rfl, fun w hSw => ldMb_exec hSw.2.1 HCQ.out rfl rfl⟩) (by assumption) ?_
                 simp only [Act.put, List.setIfInBounds_toArray, List.set_cons_zero, List.set_cons_succ]
                 refine wpAnyH_take (i := 5) (oi := ⟨some 156, Op.binOp BinOp.neq 49 (.tmp 154) (.tmp 155) 49, _, _, _, some (2, false)⟩) (v := .bool false) rfl (by kernel_rfl) (by kernel_rfl) (by kernel_rfl) (fun _ _ _ h => h) (Or.inl ⟨by rfl, fun w hSw => neM_exec HCQ.out HCQ.out HEQ.out rfl rfl rfl⟩) (by assumption) ?_
                 simp only [Act.put, List.setIfInBounds_toArray, List.set_cons_zero, List.set_cons_succ]
                 refine wpAnyH_take (i := 6) (oi := ⟨some 157, Op.pick (.tmp 153) (Operand.const (Value.bool true)) (.tmp 156), _, _, _, none⟩) (v := .bool false) rfl (by kernel_rfl) (by kernel_rfl) (by kernel_rfl) (fun _ _ _ h => h) (Or.inl ⟨by rfl, fun w hSw => by (try dsimp only at hSw); go_simp⟩) (by assumption) ?_
                 simp only [Act.put, List.setIfInBounds_toArray, List.set_cons_zero, List.set_cons_succ]
                 refine wpAnyH_take (i := 7) (oi := ⟨some 158, Op.move (.tmp 157), _, _, _, none⟩) (v := .bool false) rfl (by kernel_rfl) (by kernel_rfl) (by kernel_rfl) (fun _ _ _ h => h) (Or.inl ⟨by rfl, fun w hSw => by (try dsimp only at hSw); go_simp⟩) (by assumption) ?_
                 simp only [Act.put, List.setIfInBounds_toArray, List.set_cons_zero, List.set_cons_succ]
                 refine wpAnyH_take (i := 8) (oi := ⟨some 159, Op.fieldAddr 49 (.tmp 15) 7, _, _, _, some (7, false)⟩) (v := .pointer (some ⟨M, 13, none⟩)) rfl (by kernel_rfl) (by kernel_rfl) (by kernel_rfl) (fun _ _ _ h => h) (Or.inl ⟨by rfl, fun w hSw => by (try dsimp only at hSw); go_simp⟩) (by assumption) ?_
                 simp only [Act.put, List.setIfInBounds_toArray, List.set_cons_zero, List.set_cons_succ]
                 refine wpAnyH_take (i := 9) (oi := ⟨some 160, Op.load 3 (.tmp 159), _, _, _, some (7, false)⟩) (v := .int .i64 b) rfl (by kernel_rfl) (by kernel_rfl) (by kernel_rfl) (fun _ _ _ h => h) (Or.inl ⟨by rfl, fun w hSw => by have h := hSw.1.bh; rw [show (atS tq s b).bh = b from rfl] at h; clear hSw; go_simp⟩) (by assumption) ?_
                 simp only [Act.put, List.setIfInBounds_toArray, List.set_cons_zero, List.set_cons_succ]
                 refine wpAnyH_take (i := 10) (oi := ⟨some 161, Op.binOp BinOp.neq 3 (.tmp 160) (Operand.const (Value.int IntKind.i64 0)) 3, _, _, _, some (7, false)⟩) (v := .bool false) rfl (by kernel_rfl) (by kernel_rfl) (by kernel_rfl) (fun _ _ _ h => h) (Or.inl ⟨by rfl, fun w hSw => by (try dsimp only at hSw); go_simp⟩) (by assumption) ?_
                 simp only [Act.put, List.setIfInBounds_toArray, List.set_cons_zero, List.set_cons_succ]
                 refine wpAnyH_take (i := 11) (oi := ⟨some 162, Op.move (.tmp 161), _, _, _, some (7, false)⟩) (v := .bool false) rfl (by kernel_rfl) (by kernel_rfl) (by kernel_rfl) (fun _ _ _ h => h) (Or.inl ⟨by rfl, fun w hSw => by (try dsimp only at hSw); go_simp⟩) (by assumption) ?_
                 simp only [Act.put, List.setIfInBounds_toArray, List.set_cons_zero, List.set_cons_succ]
                 refine wpAnyH_take (i := 12) (oi := ⟨some 163, Op.fieldAddr 49 (.tmp 15) 7, _, _, _, some (11, true)⟩) (v := undef) rfl (by kernel_rfl) (by kernel_rfl) (by kernel_rfl) (fun _ _ _ h => h) (Or.inr ⟨by rfl, rfl⟩) (by assumption) ?_
                 simp only [Act.put, List.setIfInBounds_toArray, List.set_cons_zero, List.set_cons_succ]
                 refine wpAnyH_take (i := 13) (oi := ⟨some 164, Op.load 3 (.tmp 163), _, _, _, some (11, true)⟩) (v := undef) rfl (by kernel_rfl) (by kernel_rfl) (by kernel_rfl) (fun _ _ _ h => h) (Or.inr ⟨by rfl, rfl⟩) (by assumption) ?_
                 simp only [Act.put, List.setIfInBounds_toArray, List.set_cons_zero, List.set_cons_succ]
                 refine wpAnyH_take (i := 14) (oi := ⟨some 165, Op.fieldAddr 49 (.tmp 15) 2, _, _, _, some (11, true)⟩) (v := undef) rfl (by kernel_rfl) (by kernel_rfl) (by kernel_rfl) (fun _ _ _ h => h) (Or.inr ⟨by rfl, rfl⟩) (by assumption) ?_
                 simp only [Act.put, List.setIfInBounds_toArray, List.set_cons_zero, List.set_cons_succ]
                 refine wpAnyH_take (i := 15) (oi := ⟨some 166, Op.load 3 (.tmp 165), _, _, _, some (11, true)⟩) (v := undef) rfl (by kernel_rfl) (by kernel_rfl) (by kernel_rfl) (fun _ _ _ h => h) (Or.inr ⟨by rfl, rfl⟩) (by assumption) ?_
                 simp only [Act.put, List.setIfInBounds_toArray, List.set_cons_zero, List.set_cons_succ]
                 refine wpAnyH_take (i := 16) (oi := ⟨some 167, Op.binOp BinOp.leq 3 (.tmp 164) (.tmp 166) 3, _, _, _, some (11, true)⟩) (v := undef) rfl (by kernel_rfl) (by kernel_rfl) (by kernel_rfl) (fun _ _ _ h => h) (Or.inr ⟨by rfl, rfl⟩) (by assumption) ?_
                 simp only [Act.put, List.setIfInBounds_toArray, List.set_cons_zero, List.set_cons_succ]
                 refine wpAnyH_take (i := 17) (oi := ⟨some 168, Op.pick (.tmp 162) (.tmp 167) (Operand.const (Value.bool false)), _, _, _, some (7, false)⟩) (v := .bool false) rfl (by kernel_rfl) (by kernel_rfl) (by kernel_rfl) (fun _ _ _ h => h) (Or.inl ⟨by rfl, fun w hSw => by (try dsimp only at hSw); go_simp⟩) (by assumption) ?_
                 simp only [Act.put, List.setIfInBounds_toArray, List.set_cons_zero, List.set_cons_succ]
                 refine wpAnyH_take (i := 18) (oi := ⟨some 169, Op.pick (.tmp 158) (Operand.const (Value.bool true)) (.tmp 168), _, _, _, none⟩) (v := .bool false) rfl (by kernel_rfl) (by kernel_rfl) (by kernel_rfl) (fun _ _ _ h => h) (Or.inl ⟨by rfl, fun w hSw => by (try dsimp only at hSw); go_simp⟩) (by assumption) ?_
                 simp only [Act.put, List.setIfInBounds_toArray, List.set_cons_zero, List.set_cons_succ]
                 refine wpAnyH_take (i := 19) (oi := ⟨some 170, Op.move (.tmp 169), _, _, _, none⟩) (v := .bool false) rfl (by kernel_rfl) (by kernel_rfl) (by kernel_rfl) (fun _ _ _ h => h) (Or.inl ⟨by rfl, fun w hSw => by (try dsimp only at hSw); go_simp⟩) (by assumption) ?_
                 simp only [Act.put, List.setIfInBounds_toArray, List.set_cons_zero, List.set_cons_succ]
                 refine wpAnyH_take (i := 20) (oi := ⟨some 171, Op.move (.tmp 22), _, _, _, some (19, false)⟩) (v := .int .i64 0) rfl (by kernel_rfl) (by kernel_rfl) (by kernel_rfl) (fun _ _ _ h => h) (Or.inl ⟨by rfl, fun w hSw => by (try dsimp only at hSw); go_simp⟩) (by assumption) ?_
                 simp only [Act.put, List.setIfInBounds_toArray, List.set_cons_zero, List.set_cons_succ]
                 refine wpAnyH_take (i := 21) (oi := ⟨some 172, Op.binOp BinOp.eql 43 (.tmp 171) (Operand.const (Value.int IntKind.i64 22)) 43, _, _, _, some (19, false)⟩) (v := .bool false) rfl (by kernel_rfl) (by kernel_rfl) (by kernel_rfl) (fun _ _ _ h => h) (Or.inl ⟨by rfl, fun w hSw => by (try dsimp only at hSw); go_simp⟩) (by assumption) ?_
                 simp only [Act.put, List.setIfInBounds_toArray, List.set_cons_zero, List.set_cons_succ]
                 refine wpAnyH_take (i := 22) (oi := ⟨some 173, Op.move (.tmp 172), _, _, _, some (19, false)⟩) (v := .bool false) rfl (by kernel_rfl) (by kernel_rfl) (by kernel_rfl) (fun _ _ _ h => h) (Or.inl ⟨by rfl, fun w hSw => by (try dsimp only at hSw); go_simp⟩) (by assumption) ?_
                 simp only [Act.put, List.setIfInBounds_toArray, List.set_cons_zero, List.set_cons_succ]
                 refine wpAnyH_take (i := 23) (oi := ⟨some 174, Op.fieldAddr 49 (.tmp 15) 7, _, _, _, some (22, true)⟩) (v := undef) rfl (by kernel_rfl) (by kernel_rfl) (by kernel_rfl) (fun _ _ _ h => h) (Or.inr ⟨by rfl, rfl⟩) (by assumption) ?_
                 simp only [Act.put, List.setIfInBounds_toArray, List.set_cons_zero, List.set_cons_succ]
                 refine wpAnyH_take (i := 24) (oi := ⟨some 175, Op.load 3 (.tmp 174), _, _, _, some (22, true)⟩) (v := undef) rfl (by kernel_rfl) (by kernel_rfl) (by kernel_rfl) (fun _ _ _ h => h) (Or.inr ⟨by rfl, rfl⟩) (by assumption) ?_
                 simp only [Act.put, List.setIfInBounds_toArray, List.set_cons_zero, List.set_cons_succ]
                 refine wpAnyH_take (i := 25) (oi := ⟨some 176, Op.move (.tmp 8), _, _, _, some (22, true)⟩) (v := undef) rfl (by kernel_rfl) (by kernel_rfl) (by kernel_rfl) (fun _ _ _ h => h) (Or.inr ⟨by rfl, rfl⟩) (by assumption) ?_
                 simp only [Act.put, List.setIfInBounds_toArray, List.set_cons_zero, List.set_cons_succ]
                 refine wpAnyH_take (i := 26) (oi := ⟨some 177, Op.move (.tmp 20), _, _, _, some (22, true)⟩) (v := undef) rfl (by kernel_rfl) (by kernel_rfl) (by kernel_rfl) (fun _ _ _ h => h) (Or.inr ⟨by rfl, rfl⟩) (by assumption) ?_
                 simp only [Act.put, List.setIfInBounds_toArray, List.set_cons_zero, List.set_cons_succ]
                 refine wpAnyH_take (i := 27) (oi := ⟨some 178, Op.indexAddr 36 (.tmp 176) (.tmp 177), _, _, _, some (22, true)⟩) (v := undef) rfl (by kernel_rfl) (by kernel_rfl) (by kernel_rfl) (fun _ _ _ h => h) (Or.inr ⟨by rfl, rfl⟩) (by assumption) ?_
                 simp only [Act.put, List.setIfInBounds_toArray, List.set_cons_zero, List.set_cons_succ]
                 refine wpAnyH_take (i := 28) (oi := ⟨some 179, Op.fieldAddr 42 (.tmp 178) 0, _, _, _, some (22, true)⟩) (v := undef) rfl (by kernel_rfl) (by kernel_rfl) (by kernel_rfl) (fun _ _ _ h => h) (Or.inr ⟨by rfl, rfl⟩) (by assumption) ?_
                 simp only [Act.put, List.setIfInBounds_toArray, List.set_cons_zero, List.set_cons_succ]
                 refine wpAnyH_take (i := 29) (oi := ⟨some 180, Op.load 3 (.tmp 179), _, _, _, some (22, true)⟩) (v := undef) rfl (by kernel_rfl) (by kernel_rfl) (by kernel_rfl) (fun _ _ _ h => h) (Or.inr ⟨by rfl, rfl⟩) (by assumption) ?_
                 simp only [Act.put, List.setIfInBounds_toArray, List.set_cons_zero, List.set_cons_succ]
                 refine wpAnyH_take (i := 30) (oi := ⟨some 181, Op.binOp BinOp.lss 3 (.tmp 175) (.tmp 180) 3, _, _, _, some (22, true)⟩) (v := undef) rfl (by kernel_rfl) (by kernel_rfl) (by kernel_rfl) (fun _ _ _ h => h) (Or.inr ⟨by rfl, rfl⟩) (by assumption) ?_
                 simp only [Act.put, List.setIfInBounds_toArray, List.set_cons_zero, List.set_cons_succ]
                 refine wpAnyH_take (i := 31) (oi := ⟨some 182, Op.pick (.tmp 173) (.tmp 181) (Operand.const (Value.bool false)), _, _, _, some (19, false)⟩) (v := .bool false) rfl (by kernel_rfl) (by kernel_rfl) (by kernel_rfl) (fun _ _ _ h => h) (Or.inl ⟨by rfl, fun w hSw => by (try dsimp only at hSw); go_simp⟩) (by assumption) ?_
                 simp only [Act.put, List.setIfInBounds_toArray, List.set_cons_zero, List.set_cons_succ]
                 refine wpAnyH_take (i := 32) (oi := ⟨some 183, Op.pick (.tmp 170) (Operand.const (Value.bool true)) (.tmp 182), _, _, _, none⟩) (v := .bool false) rfl (by kernel_rfl) (by kernel_rfl) (by kernel_rfl) (fun _ _ _ h => h) (Or.inl ⟨by rfl, fun w hSw => by (try dsimp only at hSw); go_simp⟩) (by assumption) ?_
                 simp only [Act.put, List.setIfInBounds_toArray, List.set_cons_zero, List.set_cons_succ]
                 refine wpAnyH_done (by kernel_rfl) ?_ _
                 have hjb : (j : Int) < 17592186044416 := by have := HN2.out; omega
                 go_wp2_with fail
                 go_roundw
                 case rel => exact ⟨q, j + 1, b, HQ.out, by omega, rfl, by go_num, hHeld.2.2, by rw [HTE.out]; exact hHeld.1, HS2.out⟩
                 case measure => simp [intOf]; omega
                ·have z1 : (b != 0) = true := by simpa using hb0
                 have z2 : decide (b ≤ tq.ep) = false := decide_eq_false (by rcases HBH0.out with h | h; exact absurd h hb0; omega)
                 clear hb0
                 refine wp_region_held_drew (S := fun W => MA W M (atS tq s b) ∧ MA W G (atS tq s b) ∧ Below wR.heap.size wR W) (by kernel_rfl) hS0 (fun hHeld => ?_)
                 clear hS0
                 generalize w5.drew = wd at *
                 refine wpAnyH_take (i := 0) (oi := ⟨some 151, Op.move (.tmp 24), _, _, _, none⟩) (v := .int .i64 0) rfl (by kernel_rfl) (by kernel_rfl) (by kernel_rfl) (fun _ _ _ h => h) (Or.inl ⟨by rfl, fun w hSw => by (try dsimp only at hSw); go_simp⟩) (by assumption) ?_
                 simp only [Act.put, List.setIfInBounds_toArray, List.set_cons_zero, List.set_cons_succ]
                 refine wpAnyH_take (i := 1) (oi := ⟨some 152, Op.binOp BinOp.neq 43 (.tmp 151) (Operand.const (Value.int IntKind.i64 0)) 43, _, _, _, none⟩) (v := .bool false) rfl (by kernel_rfl) (by kernel_rfl) (by kernel_rfl) (fun _ _ _ h => h) (Or.inl ⟨by rfl, fun w hSw => by (try dsimp only at hSw); go_simp⟩) (by assumption) ?_
                 simp only [Act.put, List.setIfInBounds_toArray, List.set_cons_zero, List.set_cons_succ]
                 refine wpAnyH_take (i := 2) (oi := ⟨some 153, Op.move (.tmp 152), _, _, _, none⟩) (v := .bool false) rfl (by kernel_rfl) (by kernel_rfl) (by kernel_rfl) (fun _ _ _ h => h) (Or.inl ⟨by rfl, fun w hSw => by (try dsimp only at hSw); go_simp⟩) (by assumption) ?_
                 simp only [Act.put, List.setIfInBounds_toArray, List.set_cons_zero, List.set_cons_succ]
                 refine wpAnyH_take (i := 3) (oi := ⟨some 154, Op.load 49 (.tmp 15), _, _, _, some (2, false)⟩) (v := .agg cq) rfl (by kernel_rfl) (by kernel_rfl) (by kernel_rfl) (fun _ _ _ h => h) (Or.inl ⟨by rfl, fun w hSw => ldMb_exec hSw.1 HCQ.out rfl rfl⟩) (by assumption) ?_
                 simp only [Act.put, List.setIfInBounds_toArray, List.set_cons_zero, List.set_cons_succ]
                 refine wpAnyH_take (i := 4) (oi := ⟨some 155, Op.load 49 (.tmp 23), _, _, _, some (2, false)⟩) (v := .agg cq) rfl (by kernel_rfl) (by kernel_rfl) (by kernel_rfl) (fun _ _ _ h => h) (Or.inl ⟨by rfl, fun w hSw => ldMb_exec hSw.2.1 HCQ.out rfl rfl⟩) (by assumption) ?_
                 simp only [Act.put, List.setIfInBounds_toArray, List.set_cons_zero, List.set_cons_succ]
                 refine wpAnyH_take (i := 5) (oi := ⟨some 156, Op.binOp BinOp.neq 49 (.tmp 154) (.tmp 155) 49, _, _, _, some (2, false)⟩) (v := .bool false) rfl (by kernel_rfl) (by kernel_rfl) (by kernel_rfl) (fun _ _ _ h => h) (Or.inl ⟨by rfl, fun w hSw => neM_exec HCQ.out HCQ.out HEQ.out rfl rfl rfl⟩) (by assumption) ?_
                 simp only [Act.put, List.setIfInBounds_toArray, List.set_cons_zero, List.set_cons_succ]
                 refine wpAnyH_take (i := 6) (oi := ⟨some 157, Op.pick (.tmp 153) (Operand.const (Value.bool true)) (.tmp 156), _, _, _, none⟩) (v := .bool false) rfl (by kernel_rfl) (by kernel_rfl) (by kernel_rfl) (fun _ _ _ h => h) (Or.inl ⟨by rfl, fun w hSw => by (try dsimp only at hSw); go_simp⟩) (by assumption) ?_
                 simp only [Act.put, List.setIfInBounds_toArray, List.set_cons_zero, List.set_cons_succ]
                 refine wpAnyH_take (i := 7) (oi := ⟨some 158, Op.move (.tmp 157), _, _, _, none⟩) (v := .bool false) rfl (by kernel_rfl) (by kernel_rfl) (by kernel_rfl) (fun _ _ _ h => h) (Or.inl ⟨by rfl, fun w hSw => by (try dsimp only at hSw); go_simp⟩) (by assumption) ?_
                 simp only [Act.put, List.setIfInBounds_toArray, List.set_cons_zero, List.set_cons_succ]
                 refine wpAnyH_take (i := 8) (oi := ⟨some 159, Op.fieldAddr 49 (.tmp 15) 7, _, _, _, some (7, false)⟩) (v := .pointer (some ⟨M, 13, none⟩)) rfl (by kernel_rfl) (by kernel_rfl) (by kernel_rfl) (fun _ _ _ h => h) (Or.inl ⟨by rfl, fun w hSw => by (try dsimp only at hSw); go_simp⟩) (by assumption) ?_
                 simp only [Act.put, List.setIfInBounds_toArray, List.set_cons_zero, List.set_cons_succ]
                 refine wpAnyH_take (i := 9) (oi := ⟨some 160, Op.load 3 (.tmp 159), _, _, _, some (7, false)⟩) (v := .int .i64 b) rfl (by kernel_rfl) (by kernel_rfl) (by kernel_rfl) (fun _ _ _ h => h) (Or.inl ⟨by rfl, fun w hSw => by have h := hSw.1.bh; rw [show (atS tq s b).bh = b from rfl] at h; clear hSw; go_simp⟩) (by assumption) ?_
                 simp only [Act.put, List.setIfInBounds_toArray, List.set_cons_zero, List.set_cons_succ]
                 refine wpAnyH_take (i := 10) (oi := ⟨some 161, Op.binOp BinOp.neq 3 (.tmp 160) (Operand.const (Value.int IntKind.i64 0)) 3, _, _, _, some (7, false)⟩) (v := .bool true) rfl (by kernel_rfl) (by kernel_rfl) (by kernel_rfl) (fun _ _ _ h => h) (Or.inl ⟨by rfl, fun w hSw => by (try dsimp only at hSw); go_simp⟩) (by assumption) ?_
                 simp only [Act.put, List.setIfInBounds_toArray, List.set_cons_zero, List.set_cons_succ]
                 refine wpAnyH_take (i := 11) (oi := ⟨some 162, Op.move (.tmp 161), _, _, _, some (7, false)⟩) (v := .bool true) rfl (by kernel_rfl) (by kernel_rfl) (by kernel_rfl) (fun _ _ _ h => h) (Or.inl ⟨by rfl, fun w hSw => by (try dsimp only at hSw); go_simp⟩) (by assumption) ?_
                 simp only [Act.put, List.setIfInBounds_toArray, List.set_cons_zero, List.set_cons_succ]
                 refine wpAnyH_take (i := 12) (oi := ⟨some 163, Op.fieldAddr 49 (.tmp 15) 7, _, _, _, some (11, true)⟩) (v := .pointer (some ⟨M, 13, none⟩)) rfl (by kernel_rfl) (by kernel_rfl) (by kernel_rfl) (fun _ _ _ h => h) (Or.inl ⟨by rfl, fun w hSw => by (try dsimp only at hSw); go_simp⟩) (by assumption) ?_
                 simp only [Act.put, List.setIfInBounds_toArray, List.set_cons_zero, List.set_cons_succ]
                 refine wpAnyH_take (i := 13) (oi := ⟨some 164, Op.load 3 (.tmp 163), _, _, _, some (11, true)⟩) (v := .int .i64 b) rfl (by kernel_rfl) (by kernel_rfl) (by kernel_rfl) (fun _ _ _ h => h) (Or.inl ⟨by rfl, fun w hSw => by have h := hSw.1.bh; rw [show (atS tq s b).bh = b from rfl] at h; clear hSw; go_simp⟩) (by assumption) ?_
                 simp only [Act.put, List.setIfInBounds_toArray, List.set_cons_zero, List.set_cons_succ]
                 refine wpAnyH_take (i := 14) (oi := ⟨some 165, Op.fieldAddr 49 (.tmp 15) 2, _, _, _, some (11, true)⟩) (v := .pointer (some ⟨M, 2, none⟩)) rfl (by kernel_rfl) (by kernel_rfl) (by kernel_rfl) (fun _ _ _ h => h) (Or.inl ⟨by rfl, fun w hSw => by (try dsimp only at hSw); go_simp⟩) (by assumption) ?_
                 simp only [Act.put, List.setIfInBounds_toArray, List.set_cons_zero, List.set_cons_succ]
                 refine wpAnyH_take (i := 15) (oi := ⟨some 166, Op.load 3 (.tmp 165), _, _, _, some (11, true)⟩) (v := .int .i64 tq.ep) rfl (by kernel_rfl) (by kernel_rfl) (by kernel_rfl) (fun _ _ _ h => h) (Or.inl ⟨by rfl, fun w hSw => by have h := hSw.1.ep; rw [show (atS tq s b).ep = tq.ep from rfl] at h; clear hSw; go_simp⟩) (by assumption) ?_
                 simp only [Act.put, List.setIfInBounds_toArray, List.set_cons_zero, List.set_cons_succ]
                 refine wpAnyH_take (i := 16) (oi := ⟨some 167, Op.binOp BinOp.leq 3 (.tmp 164) (.tmp 166) 3, _, _, _, some (11, true)⟩) (v := .bool false) rfl (by kernel_rfl) (by kernel_rfl) (by kernel_rfl) (fun _ _ _ h => h) (Or.inl ⟨by rfl, fun w hSw => by (try dsimp only at hSw); go_simp⟩) (by assumption) ?_
                 simp only [Act.put, List.setIfInBounds_toArray, List.set_cons_zero, List.set_cons_succ]
                 refine wpAnyH_take (i := 17) (oi := ⟨some 168, Op.pick (.tmp 162) (.tmp 167) (Operand.const (Value.bool false)), _, _, _, some (7, false)⟩) (v := .bool false) rfl (by kernel_rfl) (by kernel_rfl) (by kernel_rfl) (fun _ _ _ h => h) (Or.inl ⟨by rfl, fun w hSw => by (try dsimp only at hSw); go_simp⟩) (by assumption) ?_
                 simp only [Act.put, List.setIfInBounds_toArray, List.set_cons_zero, List.set_cons_succ]
                 refine wpAnyH_take (i := 18) (oi := ⟨some 169, Op.pick (.tmp 158) (Operand.const (Value.bool true)) (.tmp 168), _, _, _, none⟩) (v := .bool false) rfl (by kernel_rfl) (by kernel_rfl) (by kernel_rfl) (fun _ _ _ h => h) (Or.inl ⟨by rfl, fun w hSw => by (try dsimp only at hSw); go_simp⟩) (by assumption) ?_
                 simp only [Act.put, List.setIfInBounds_toArray, List.set_cons_zero, List.set_cons_succ]
                 refine wpAnyH_take (i := 19) (oi := ⟨some 170, Op.move (.tmp 169), _, _, _, none⟩) (v := .bool false) rfl (by kernel_rfl) (by kernel_rfl) (by kernel_rfl) (fun _ _ _ h => h) (Or.inl ⟨by rfl, fun w hSw => by (try dsimp only at hSw); go_simp⟩) (by assumption) ?_
                 simp only [Act.put, List.setIfInBounds_toArray, List.set_cons_zero, List.set_cons_succ]
                 refine wpAnyH_take (i := 20) (oi := ⟨some 171, Op.move (.tmp 22), _, _, _, some (19, false)⟩) (v := .int .i64 0) rfl (by kernel_rfl) (by kernel_rfl) (by kernel_rfl) (fun _ _ _ h => h) (Or.inl ⟨by rfl, fun w hSw => by (try dsimp only at hSw); go_simp⟩) (by assumption) ?_
                 simp only [Act.put, List.setIfInBounds_toArray, List.set_cons_zero, List.set_cons_succ]
                 refine wpAnyH_take (i := 21) (oi := ⟨some 172, Op.binOp BinOp.eql 43 (.tmp 171) (Operand.const (Value.int IntKind.i64 22)) 43, _, _, _, some (19, false)⟩) (v := .bool false) rfl (by kernel_rfl) (by kernel_rfl) (by kernel_rfl) (fun _ _ _ h => h) (Or.inl ⟨by rfl, fun w hSw => by (try dsimp only at hSw); go_simp⟩) (by assumption) ?_
                 simp only [Act.put, List.setIfInBounds_toArray, List.set_cons_zero, List.set_cons_succ]
                 refine wpAnyH_take (i := 22) (oi := ⟨some 173, Op.move (.tmp 172), _, _, _, some (19, false)⟩) (v := .bool false) rfl (by kernel_rfl) (by kernel_rfl) (by kernel_rfl) (fun _ _ _ h => h) (Or.inl ⟨by rfl, fun w hSw => by (try dsimp only at hSw); go_simp⟩) (by assumption) ?_
                 simp only [Act.put, List.setIfInBounds_toArray, List.set_cons_zero, List.set_cons_succ]
                 refine wpAnyH_take (i := 23) (oi := ⟨some 174, Op.fieldAddr 49 (.tmp 15) 7, _, _, _, some (22, true)⟩) (v := undef) rfl (by kernel_rfl) (by kernel_rfl) (by kernel_rfl) (fun _ _ _ h => h) (Or.inr ⟨by rfl, rfl⟩) (by assumption) ?_
                 simp only [Act.put, List.setIfInBounds_toArray, List.set_cons_zero, List.set_cons_succ]
                 refine wpAnyH_take (i := 24) (oi := ⟨some 175, Op.load 3 (.tmp 174), _, _, _, some (22, true)⟩) (v := undef) rfl (by kernel_rfl) (by kernel_rfl) (by kernel_rfl) (fun _ _ _ h => h) (Or.inr ⟨by rfl, rfl⟩) (by assumption) ?_
                 simp only [Act.put, List.setIfInBounds_toArray, List.set_cons_zero, List.set_cons_succ]
                 refine wpAnyH_take (i := 25) (oi := ⟨some 176, Op.move (.tmp 8), _, _, _, some (22, true)⟩) (v := undef) rfl (by kernel_rfl) (by kernel_rfl) (by kernel_rfl) (fun _ _ _ h => h) (Or.inr ⟨by rfl, rfl⟩) (by assumption) ?_
                 simp only [Act.put, List.setIfInBounds_toArray, List.set_cons_zero, List.set_cons_succ]
                 refine wpAnyH_take (i := 26) (oi := ⟨some 177, Op.move (.tmp 20), _, _, _, some (22, true)⟩) (v := undef) rfl (by kernel_rfl) (by kernel_rfl) (by kernel_rfl) (fun _ _ _ h => h) (Or.inr ⟨by rfl, rfl⟩) (by assumption) ?_
                 simp only [Act.put, List.setIfInBounds_toArray, List.set_cons_zero, List.set_cons_succ]
                 refine wpAnyH_take (i := 27) (oi := ⟨some 178, Op.indexAddr 36 (.tmp 176) (.tmp 177), _, _, _, some (22, true)⟩) (v := undef) rfl (by kernel_rfl) (by kernel_rfl) (by kernel_rfl) (fun _ _ _ h => h) (Or.inr ⟨by rfl, rfl⟩) (by assumption) ?_
                 simp only [Act.put, List.setIfInBounds_toArray, List.set_cons_zero, List.set_cons_succ]
                 refine wpAnyH_take (i := 28) (oi := ⟨some 179, Op.fieldAddr 42 (.tmp 178) 0, _, _, _, some (22, true)⟩) (v := undef) rfl (by kernel_rfl) (by kernel_rfl) (by kernel_rfl) (fun _ _ _ h => h) (Or.inr ⟨by rfl, rfl⟩) (by assumption) ?_
                 simp only [Act.put, List.setIfInBounds_toArray, List.set_cons_zero, List.set_cons_succ]
                 refine wpAnyH_take (i := 29) (oi := ⟨some 180, Op.load 3 (.tmp 179), _, _, _, some (22, true)⟩) (v := undef) rfl (by kernel_rfl) (by kernel_rfl) (by kernel_rfl) (fun _ _ _ h => h) (Or.inr ⟨by rfl, rfl⟩) (by assumption) ?_
                 simp only [Act.put, List.setIfInBounds_toArray, List.set_cons_zero, List.set_cons_succ]
                 refine wpAnyH_take (i := 30) (oi := ⟨some 181, Op.binOp BinOp.lss 3 (.tmp 175) (.tmp 180) 3, _, _, _, some (22, true)⟩) (v := undef) rfl (by kernel_rfl) (by kernel_rfl) (by kernel_rfl) (fun _ _ _ h => h) (Or.inr ⟨by rfl, rfl⟩) (by assumption) ?_
                 simp only [Act.put, List.setIfInBounds_toArray, List.set_cons_zero, List.set_cons_succ]
                 refine wpAnyH_take (i := 31) (oi := ⟨some 182, Op.pick (.tmp 173) (.tmp 181) (Operand.const (Value.bool false)), _, _, _, some (19, false)⟩) (v := .bool false) rfl (by kernel_rfl) (by kernel_rfl) (by kernel_rfl) (fun _ _ _ h => h) (Or.inl ⟨by rfl, fun w hSw => by (try dsimp only at hSw); go_simp⟩) (by assumption) ?_
                 simp only [Act.put, List.setIfInBounds_toArray, List.set_cons_zero, List.set_cons_succ]
                 refine wpAnyH_take (i := 32) (oi := ⟨some 183, Op.pick (.tmp 170) (Operand.const (Value.bool true)) (.tmp 182), _, _, _, none⟩) (v := .bool false) rfl (by kernel_rfl) (by kernel_rfl) (by kernel_rfl) (fun _ _ _ h => h) (Or.inl ⟨by rfl, fun w hSw => by (try dsimp only at hSw); go_simp⟩) (by assumption) ?_
                 simp only [Act.put, List.setIfInBounds_toArray, List.set_cons_zero, List.set_cons_succ]
                 refine wpAnyH_done (by kernel_rfl) ?_ _
                 have hjb : (j : Int) < 17592186044416 := by have := HN2.out; omega
                 go_wp2_with fail
                 go_roundw
                 case rel => exact ⟨q, j + 1, b, HQ.out, by omega, rfl, by go_num, hHeld.2.2, by rw [HTE.out]; exact hHeld.1, HS2.out⟩
                 case measure => simp [intOf]; omega
           ·have hjn' : decide ((j : Int) < (nP : Int)) = false := by simp; omega
            as_aux_lemma =>
             have HMO : Hid ((atS (ts.getD q (tz 0)) s b).out = false) := rfl
             have hS0 : Below wR.heap.size wR wr.drew ∧ MA wr.drew M (atS (ts.getD q (tz 0)) s b) := ⟨Wi.Below.join HB2.out (drew_below _), HMQ.out.later (drew_below _)⟩
             generalize atS (ts.getD q (tz 0)) s b = mo at *
             go_upto_region 39 with (fail)
             clear hjn hjn' hj
             refine wp_region_held_drew (S := fun W => Below wR.heap.size wR W ∧ MA W M mo) (by kernel_rfl) hS0 (fun hHeld => ?_)
             clear hS0
             generalize wr.drew = wd at *
             refine wpAnyH_take (i := 0) (oi := ⟨some 185, Op.fieldAddr 49 (.tmp 15) 6, _, _, _, none⟩) (v := .pointer (some ⟨M, 12, none⟩)) rfl (by kernel_rfl) (by kernel_rfl) (by kernel_rfl) (fun _ _ _ h => h) (Or.inl ⟨by rfl, fun w hSw => by (try dsimp only at hSw); go_simp⟩) (by assumption) ?_
             simp only [Act.put, List.setIfInBounds_toArray, List.set_cons_zero, List.set_cons_succ]
             refine wpAnyH_take (i := 1) (oi := ⟨some 186, Op.load 4 (.tmp 185), _, _, _, none⟩) (v := .bool false) rfl (by kernel_rfl) (by kernel_rfl) (by kernel_rfl) (fun _ _ _ h => h) (Or.inl ⟨by rfl, fun w hSw => by have h := hSw.2.out; rw [HMO.out] at h; clear hSw; go_simp⟩) (by assumption) ?_
             simp only [Act.put, List.setIfInBounds_toArray, List.set_cons_zero, List.set_cons_succ]
             refine wpAnyH_take (i := 2) (oi := ⟨some 187, Op.move (.tmp 186), _, _, _, none⟩) (v := .bool false) rfl (by kernel_rfl) (by kernel_rfl) (by kernel_rfl) (fun _ _ _ h => h) (Or.inl ⟨by rfl, fun w hSw => by (try dsimp only at hSw); go_simp⟩) (by assumption) ?_
             simp only [Act.put, List.setIfInBounds_toArray, List.set_cons_zero, List.set_cons_succ]
             refine wpAnyH_take (i := 3) (oi := ⟨some 188, Op.move (.tmp 7), _, _, _, some (2, true)⟩) (v := undef) rfl (by kernel_rfl) (by kernel_rfl) (by kernel_rfl) (fun _ _ _ h => h) (Or.inr ⟨by rfl, rfl⟩) (by assumption) ?_
             simp only [Act.put, List.setIfInBounds_toArray, List.set_cons_zero, List.set_cons_succ]
             refine wpAnyH_take (i := 4) (oi := ⟨some 189, Op.move (.tmp 17), _, _, _, some (2, true)⟩) (v := undef) rfl (by kernel_rfl) (by kernel_rfl) (by kernel_rfl) (fun _ _ _ h => h) (Or.inr ⟨by rfl, rfl⟩) (by assumption) ?_
             simp only [Act.put, List.setIfInBounds_toArray, List.set_cons_zero, List.set_cons_succ]
             refine wpAnyH_take (i := 5) (oi := ⟨some 190, Op.binOp BinOp.add 3 (.tmp 189) (Operand.const (Value.int IntKind.i64 1)) 3, _, _, _, some (2, true)⟩) (v := undef) rfl (by kernel_rfl) (by kernel_rfl) (by kernel_rfl) (fun _ _ _ h => h) (Or.inr ⟨by rfl, rfl⟩) (by assumption) ?_
             simp only [Act.put, List.setIfInBounds_toArray, List.set_cons_zero, List.set_cons_succ]
             refine wpAnyH_take (i := 6) (oi := ⟨some 191, Op.indexAddr 35 (.tmp 188) (.tmp 190), _, _, _, some (2, true)⟩) (v := undef) rfl (by kernel_rfl) (by kernel_rfl) (by kernel_rfl) (fun _ _ _ h => h) (Or.inr ⟨by rfl, rfl⟩) (by assumption) ?_
             simp only [Act.put, List.setIfInBounds_toArray, List.set_cons_zero, List.set_cons_succ]
             refine wpAnyH_take (i := 7) (oi := ⟨some 192, Op.fieldAddr 31 (.tmp 191) 3, _, _, _, some (2, true)⟩) (v := undef) rfl (by kernel_rfl) (by kernel_rfl) (by kernel_rfl) (fun _ _ _ h => h) (Or.inr ⟨by rfl, rfl⟩) (by assumption) ?_
             simp only [Act.put, List.setIfInBounds_toArray, List.set_cons_zero, List.set_cons_succ]
             refine wpAnyH_take (i := 8) (oi := ⟨some 193, Op.load 29 (.tmp 192), _, _, _, some (2, true)⟩) (v := undef) rfl (by kernel_rfl) (by kernel_rfl) (by kernel_rfl) (fun _ _ _ h => h) (Or.inr ⟨by rfl, rfl⟩) (by assumption) ?_
             simp only [Act.put, List.setIfInBounds_toArray, List.set_cons_zero, List.set_cons_succ]
             refine wpAnyH_take (i := 9) (oi := ⟨some 194, Op.fieldAddr 49 (.tmp 15) 0, _, _, _, some (2, true)⟩) (v := undef) rfl (by kernel_rfl) (by kernel_rfl) (by kernel_rfl) (fun _ _ _ h => h) (Or.inr ⟨by rfl, rfl⟩) (by assumption) ?_
             simp only [Act.put, List.setIfInBounds_toArray, List.set_cons_zero, List.set_cons_succ]
             refine wpAnyH_take (i := 10) (oi := ⟨some 195, Op.load 3 (.tmp 194), _, _, _, some (2, true)⟩) (v := undef) rfl (by kernel_rfl) (by kernel_rfl) (by kernel_rfl) (fun _ _ _ h => h) (Or.inr ⟨by rfl, rfl⟩) (by assumption) ?_
             simp only [Act.put, List.setIfInBounds_toArray, List.set_cons_zero, List.set_cons_succ]
             refine wpAnyH_take (i := 11) (oi := ⟨some 196, Op.call { callee := Callee.value (Operand.func 8), args := #[(.tmp 193), (.tmp 195)], argTypes := #[29, 3] }, _, _, _, some (2, true)⟩) (v := undef) rfl (by kernel_rfl) (by kernel_rfl) (by kernel_rfl) (fun _ _ _ h => h) (Or.inr ⟨by rfl, rfl⟩) (by assumption) ?_
             simp only [Act.put, List.setIfInBounds_toArray, List.set_cons_zero, List.set_cons_succ]
             refine wpAnyH_take (i := 12) (oi := ⟨some 197, Op.move (.tmp 14), _, _, _, some (2, true)⟩) (v := undef) rfl (by kernel_rfl) (by kernel_rfl) (by kernel_rfl) (fun _ _ _ h => h) (Or.inr ⟨by rfl, rfl⟩) (by assumption) ?_
             simp only [Act.put, List.setIfInBounds_toArray, List.set_cons_zero, List.set_cons_succ]
             refine wpAnyH_take (i := 13) (oi := ⟨some 198, Op.binOp BinOp.eql 3 (.tmp 196) (.tmp 197) 3, _, _, _, some (2, true)⟩) (v := undef) rfl (by kernel_rfl) (by kernel_rfl) (by kernel_rfl) (fun _ _ _ h => h) (Or.inr ⟨by rfl, rfl⟩) (by assumption) ?_
             simp only [Act.put, List.setIfInBounds_toArray, List.set_cons_zero, List.set_cons_succ]
             refine wpAnyH_take (i := 14) (oi := ⟨some 199, Op.pick (.tmp 187) (.tmp 198) (Operand.const (Value.bool false)), _, _, _, none⟩) (v := .bool false) rfl (by kernel_rfl) (by kernel_rfl) (by kernel_rfl) (fun _ _ _ h => h) (Or.inl ⟨by rfl, fun w hSw => by (try dsimp only at hSw); go_simp⟩) (by assumption) ?_
             simp only [Act.put, List.setIfInBounds_toArray, List.set_cons_zero, List.set_cons_succ]
             refine wpAnyH_take (i := 15) (oi := ⟨some 200, Op.move (.tmp 199), _, _, _, none⟩) (v := .bool false) rfl (by kernel_rfl) (by kernel_rfl) (by kernel_rfl) (fun _ _ _ h => h) (Or.inl ⟨by rfl, fun w hSw => by (try dsimp only at hSw); go_simp⟩) (by assumption) ?_
             simp only [Act.put, List.setIfInBounds_toArray, List.set_cons_zero, List.set_cons_succ]
             refine wpAnyH_take (i := 16) (oi := ⟨some 201, Op.move (.tmp 7), _, _, _, some (15, true)⟩) (v := undef) rfl (by kernel_rfl) (by kernel_rfl) (by kernel_rfl) (fun _ _ _ h => h) (Or.inr ⟨by rfl, rfl⟩) (by assumption) ?_
             simp only [Act.put, List.setIfInBounds_toArray, List.set_cons_zero, List.set_cons_succ]
             refine wpAnyH_take (i := 17) (oi := ⟨some 202, Op.move (.tmp 17), _, _, _, some (15, true)⟩) (v := undef) rfl (by kernel_rfl) (by kernel_rfl) (by kernel_rfl) (fun _ _ _ h => h) (Or.inr ⟨by rfl, rfl⟩) (by assumption) ?_
             simp only [Act.put, List.setIfInBounds_toArray, List.set_cons_zero, List.set_cons_succ]
             refine wpAnyH_take (i := 18) (oi := ⟨some 203, Op.binOp BinOp.add 3 (.tmp 202) (Operand.const (Value.int IntKind.i64 1)) 3, _, _, _, some (15, true)⟩) (v := undef) rfl (by kernel_rfl) (by kernel_rfl) (by kernel_rfl) (fun _ _ _ h => h) (Or.inr ⟨by rfl, rfl⟩) (by assumption) ?_
             simp only [Act.put, List.setIfInBounds_toArray, List.set_cons_zero, List.set_cons_succ]
             refine wpAnyH_take (i := 19) (oi := ⟨some 204, Op.move (.tmp 14), _, _, _, some (15, true)⟩) (v := undef) rfl (by kernel_rfl) (by kernel_rfl) (by kernel_rfl) (fun _ _ _ h => h) (Or.inr ⟨by rfl, rfl⟩) (by assumption) ?_
             simp only [Act.put, List.setIfInBounds_toArray, List.set_cons_zero, List.set_cons_succ]
             refine wpAnyH_take (i := 20) (oi := ⟨some 205, Op.indexAddr 35 (.tmp 201) (.tmp 203), _, _, _, some (15, true)⟩) (v := undef) rfl (by kernel_rfl) (by kernel_rfl) (by kernel_rfl) (fun _ _ _ h => h) (Or.inr ⟨by rfl, rfl⟩) (by assumption) ?_
             simp only [Act.put, List.setIfInBounds_toArray, List.set_cons_zero, List.set_cons_succ]
             refine wpAnyH_take (i := 21) (oi := ⟨some 206, Op.fieldAddr 31 (.tmp 205) 3, _, _, _, some (15, true)⟩) (v := undef) rfl (by kernel_rfl) (by kernel_rfl) (by kernel_rfl) (fun _ _ _ h => h) (Or.inr ⟨by rfl, rfl⟩) (by assumption) ?_
             simp only [Act.put, List.setIfInBounds_toArray, List.set_cons_zero, List.set_cons_succ]
             refine wpAnyH_take (i := 22) (oi := ⟨some 207, Op.indexAddr 29 (.tmp 206) (.tmp 204), _, _, _, some (15, true)⟩) (v := undef) rfl (by kernel_rfl) (by kernel_rfl) (by kernel_rfl) (fun _ _ _ h => h) (Or.inr ⟨by rfl, rfl⟩) (by assumption) ?_
             simp only [Act.put, List.setIfInBounds_toArray, List.set_cons_zero, List.set_cons_succ]
             refine wpAnyH_take (i := 23) (oi := ⟨some 208, Op.load 27 (.tmp 207), _, _, _, some (15, true)⟩) (v := undef) rfl (by kernel_rfl) (by kernel_rfl) (by kernel_rfl) (fun _ _ _ h => h) (Or.inr ⟨by rfl, rfl⟩) (by assumption) ?_
             simp only [Act.put, List.setIfInBounds_toArray, List.set_cons_zero, List.set_cons_succ]
             refine wpAnyH_take (i := 24) (oi := ⟨some 209, Op.move (.tmp 14), _, _, _, some (15, true)⟩) (v := undef) rfl (by kernel_rfl) (by kernel_rfl) (by kernel_rfl) (fun _ _ _ h => h) (Or.inr ⟨by rfl, rfl⟩) (by assumption) ?_
             simp only [Act.put, List.setIfInBounds_toArray, List.set_cons_zero, List.set_cons_succ]
             refine wpAnyH_take (i := 25) (oi := ⟨some 210, Op.fieldAddr 31 (.tmp 3) 3, _, _, _, some (15, true)⟩) (v := undef) rfl (by kernel_rfl) (by kernel_rfl) (by kernel_rfl) (fun _ _ _ h => h) (Or.inr ⟨by rfl, rfl⟩) (by assumption) ?_
             simp only [Act.put, List.setIfInBounds_toArray, List.set_cons_zero, List.set_cons_succ]
             refine wpAnyH_take (i := 26) (oi := ⟨some 211, Op.indexAddr 29 (.tmp 210) (.tmp 209), _, _, _, some (15, true)⟩) (v := undef) rfl (by kernel_rfl) (by kernel_rfl) (by kernel_rfl) (fun _ _ _ h => h) (Or.inr ⟨by rfl, rfl⟩) (by assumption) ?_
             simp only [Act.put, List.setIfInBounds_toArray, List.set_cons_zero, List.set_cons_succ]
             refine wpAnyH_take (i := 27) (oi := ⟨some 212, Op.load 27 (.tmp 211), _, _, _, some (15, true)⟩) (v := undef) rfl (by kernel_rfl) (by kernel_rfl) (by kernel_rfl) (fun _ _ _ h => h) (Or.inr ⟨by rfl, rfl⟩) (by assumption) ?_
             simp only [Act.put, List.setIfInBounds_toArray, List.set_cons_zero, List.set_cons_succ]
             refine wpAnyH_take (i := 28) (oi := ⟨some 213, Op.binOp BinOp.eql 27 (.tmp 208) (.tmp 212) 27, _, _, _, some (15, true)⟩) (v := undef) rfl (by kernel_rfl) (by kernel_rfl) (by kernel_rfl) (fun _ _ _ h => h) (Or.inr ⟨by rfl, rfl⟩) (by assumption) ?_
             simp only [Act.put, List.setIfInBounds_toArray, List.set_cons_zero, List.set_cons_succ]
             refine wpAnyH_take (i := 29) (oi := ⟨some 214, Op.pick (.tmp 200) (.tmp 213) (Operand.const (Value.bool false)), _, _, _, none⟩) (v := .bool false) rfl (by kernel_rfl) (by kernel_rfl) (by kernel_rfl) (fun _ _ _ h => h) (Or.inl ⟨by rfl, fun w hSw => by (try dsimp only at hSw); go_simp⟩) (by assumption) ?_
             simp only [Act.put, List.setIfInBounds_toArray, List.set_cons_zero, List.set_cons_succ]
             refine wpAnyH_done (by kernel_rfl) ?_ _
             go_wp2_with fail
             go_roundw
             case rel => exact ⟨s + 1, by have := HLT.out; omega, by go_num, hHeld.1⟩
             case measure => have := HLT.out; simp [intOf]; omega
      ·obtain rfl : s = 64 := by omega
       clear hs hsn
       go_wp2_with fail
       go_ret
       exact ⟨rfl, Wi.Below.join HBR.out HB0.out⟩
theorem own : ownKnob Try.prog.godebug = none := by kernel_rfl
theorem laidOut : laidOutB Try.prog = true := by kernel_rfl
set_option maxRecDepth 100000 in
theorem lifted (os : Os) (started : os.Started) (H : Type) (enc : TypeId × Value → H) :
  ReturnsInHanded {} Try.checked os 3 .any (Rows.memberRunsSpec.pre6 enc Try.prog Try.f3 Rows.memberRunsRow.domain false) (Rows.memberRunsSpec.post enc Try.prog Try.f3 false true false false) := by
 refine returnsInHanded_of_change_sized (C := Try.checked) own started (by kernel_rfl) Try.func3
  (ChangeSpec.witness6 (enc := enc) (C := Try.checked) false ⟨#[], #[.agg (List.replicate 236 (Value.int .i64 0)).toArray, .slice none 0 0, .slice none 0 0], []⟩ 8 (by kernel_rfl) (by kernel_rfl) (by kernel_rfl) (by kernel_rfl)) ?_
 intro W base args ds gs before hval0 hW hcnd hsz0 _
 have hsz : (DataW.weightsEach Try.prog (Try.f3.params.toList ++ Rows.memberRunsSpec.plain.varTypes Try.prog) (ds ++ gs)).all (· ≤ reachBytes) = true := hsz0
 clear hsz0
 have hval : ∀ (j : Nat) t v, Try.f3.params[j]? = some t → args[j]? = some v → Value.okWide Try.prog W .any base t v := hval0
 have hW' := hW
 obtain ⟨p, q, hA0, hV, rfl, hfz, hnd⟩ := hW
 have hA : DataW.TrodAll enc Try.prog W 0 (fun _ => true) true Try.f3.params.toList args.toList ds p := hA0
 rw [Try.params3] at hA hval hsz
 obtain ⟨v0, vs0, d0, ds0, p0, q0, hargs, rfl, rfl, h0, r0⟩ := trodAll_cons hA
 obtain ⟨v1, vs1, d1, ds1, p1, q1, rfl, rfl, rfl, h1, r1⟩ := trodAll_cons r0
 obtain ⟨v2, vs2, d2, ds2, p2, q2, rfl, rfl, rfl, h2, r2⟩ := trodAll_cons r1
 obtain ⟨rfl, rfl, rfl⟩ := trodAll_nil r2
 obtain rfl : args = #[v0, v1, v2] := by cases args; simp_all
 obtain ⟨rfl, rfl⟩ := trodVars_none hV
 have k0 := h0
 have lt0 : ∀ x ∈ p0, x.block < W.heap.size := by obtain ⟨m, hm⟩ := k0; exact DataW.trod_lt m _ _ _ hm
 obtain ⟨f0, rfl⟩ := open_tr (hval 0 31 v0 rfl rfl) h0
 have k1 := h1
 have lt1 : ∀ x ∈ p1, x.block < W.heap.size := by obtain ⟨m, hm⟩ := k1; exact DataW.trod_lt m _ _ _ hm
 obtain ⟨a1, c1, l1, rfl, rd1, hl1, hn1⟩ := bts_of1 (fun es sp e => by subst e; exact ⟨by have h := sized_slice hsz (j := 1) (t := 32) (e := 38) rfl rfl Try.underlying32; rw [bytesBt] at h; exact h, fun parts hm => sized_elems hsz (j := 1) (t := 32) (e := 38) rfl rfl Try.underlying32 Try.underlying38 hm⟩) (okWide_slice Try.underlying32 (hval 1 32 v1 rfl rfl)) h1
 have k2 := h2
 have lt2 : ∀ x ∈ p2, x.block < W.heap.size := by obtain ⟨m, hm⟩ := k2; exact DataW.trod_lt m _ _ _ hm
 obtain ⟨a2, c2, l2, rfl, rd2, hl2⟩ := open_sl (fun es sp e => by subst e; have h := sized_slice hsz (j := 2) (t := 33) (e := 3) rfl rfl Try.underlying33; rw [bytesI] at h; exact h) (okWide_slice Try.underlying33 (hval 2 33 v2 rfl rfl)) h2
 clear hA0 hval0
 refine (walk f0 a1 c1 l1 a2 c2 l2 W rd1 hl1 hn1 rd2 hl2).mono fun e W' ⟨he, bel⟩ => ?_
 subst he
 exact ⟨_, rfl, _, _, _, [], _, [], hW', trodAll_mk1 (shut_bool Try.underlying4 _), (trodAll_cons_mk (Below.trod laidOut (by kernel_rfl) (of_decide_eq_true (by kernel_rfl)) k0 bel lt0) (trodAll_cons_mk (Below.trod laidOut (by kernel_rfl) (of_decide_eq_true (by kernel_rfl)) k1 bel lt1) (trodAll_cons_mk (Below.trod laidOut (by kernel_rfl) (of_decide_eq_true (by kernel_rfl)) k2 bel lt2) trodAll_mk0))), rfl, bel.frame _, fun h => by cases h⟩
theorem over : Rows.memberRunsRow.holds Try.pinned (OpenSpec.ofChange Rows.memberRunsSpec) :=
 OpenClaim.holds_of_wide 3 Try.f3 rfl rfl rfl rfl rfl rfl rfl ⟨rfl, rfl, rfl, rfl, rfl⟩ rfl rfl rfl rfl rfl (by kernel_rfl) Try.func3 (by kernel_rfl)
  (of_decide_eq_true (by kernel_rfl)) (by unfold Func.isWrapper; first | (rw [if_pos (by decide +kernel)]; kernel_rfl) | (rw [if_neg (by decide +kernel)]; exact ⟨rfl, rfl⟩))
  (fun os started H enc _ => lifted os started H enc)
end Go.Proofs.Ytdghibimelhgjaa.memberRuns
namespace Go.Proofs.Ytdghibimelhgjaa
theorem memberRuns_holds : Rows.MemberRunsSaid := memberRuns.over
#print axioms memberRuns_holds
end Go.Proofs.Ytdghibimelhgjaa
