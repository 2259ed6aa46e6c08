/- Contract: the journal's Scan. -/
import Derived.Test.YtohgflimdoebiaaFrV
namespace Go.Proofs.Ytohgflimdoebiaa
open Go.RowKit Go.Maps Go.Shelf
attribute [local go_sem] Oper.semAt_some
set_option linter.unusedVariables false
set_option linter.unusedSimpArgs false

theorem sd_nil (q : Int) : sd [] q = none := sd_no fun s h => by have := h.fit; have := h.pos; simp at *; omega
theorem rcs_nil : rcs 65535 [] 1 0 = [] := by rw [rcs, sd_nil]
set_option maxRecDepth 100000 in
set_option maxHeartbeats 2000000 in
theorem records1_nil (n : Nat) (hn : 1 ≤ n) (lo Bs : Nat) (J : List (Int × ByteArray) → World → Prop) (W : World) (hJ : AbidesFrom W.heap.size J)
    (hBs : W.cell? ⟨Bs, 0, none⟩ = some (.slice none 0 0)) (h0 : J [] W) :
    CallsIn Fence.wide n Try.prog 48 #[.func (.yield lo) #[] #[], .pointer (some ⟨Bs, 0, none⟩)] W fun e W' => (∃ v, e = .returned v) ∧ J [] W' := by
  have hst := standing_any none 0 [] 1 W (by simp) (RdS.nil _ _)
  rw [sdS_none (sd_nil _), sdN_none (sd_nil _)] at hst
  simp only [List.length_nil] at hst
  refine callsIn_of_wp Try.func48 rfl trivial ?_ rfl
  simp only [Try.ntmps48, List.size_toArray, List.length_cons, List.length_nil, Nat.reduceAdd, Nat.reduceSub, Array.replicate_succ, Array.replicate_zero, List.push_toArray, List.append_toArray, List.nil_append, List.cons_append]
  gi_wp2
  gi_loopw [3, 4] (fun x i wr => x = .int .i64 0 ∧ i = .int .i64 1 ∧ wr = W) (fun _ i _ => 0)
  case atStart => exact ⟨rfl, rfl, rfl⟩
  case round =>
    obtain ⟨rfl, rfl, rfl⟩ := hrel
    gi_wp2_with fail
    refine ⟨trivial, (callsIn_wide.2 hst).mono ?_⟩
    rintro e w3 ⟨rfl, hb3⟩
    have hJ3 : J [] w3 := hJ _ _ _ none h0 (grown_of hb3) (fun r e => by cases e)
    clear hst
    gi_wp2_with fail
    refine bodyPost_ret (results_none rfl _ _ _) rfl ?_
    exact ⟨⟨_, rfl⟩, hJ3⟩
theorem records_in (n : Nat) (a : Option Addr) (len cap : Nat) (w : World) :
    CallsIn Fence.wide n Try.prog 31 #[.slice a len cap] w fun e w' => e = .returned (.func (.func 48) #[] #[.pointer (some ⟨w.heap.size, 0, none⟩)]) ∧ w' = w.alloc (.cells #[.slice a len cap] 22) := by
  refine callsIn_of_wp Try.func31 rfl trivial ?_ rfl
  simp only [Try.ntmps31, List.size_toArray, List.length_cons, List.length_nil, Nat.reduceAdd, Nat.reduceSub, Array.replicate_succ, Array.replicate_zero, List.push_toArray, List.append_toArray, List.nil_append, List.cons_append]
  gi_wp2
  go_ret
  exact ⟨rfl, rfl⟩
/- A slice of texts, as an argument: nil, or somewhere below n0. -/
def Txs (n0 : Nat) (W : World) (a : Option Addr) (cap : Nat) (l : List ByteArray) : Prop :=
  (a = none ∧ cap = 0 ∧ l = []) ∨ ∃ b o, a = some ⟨b, o, none⟩ ∧ b < n0 ∧ l.length ≤ cap ∧ RdS W (some ⟨b, o, none⟩) l
theorem Txs.below {n0 : Nat} {W W' : World} {a : Option Addr} {cap : Nat} {l : List ByteArray} (h : Txs n0 W a cap l) (hb : Below n0 W W') : Txs n0 W' a cap l := by
  rcases h with h | ⟨b, o, e, h1, h2, h3⟩
  · exact .inl h
  · exact .inr ⟨b, o, e, h1, h2, rds_below hb h1 h3⟩
theorem records_stops (n : Nat) (hn : 1 ≤ n) (Bs n0 : Nat) (a : Option Addr) (cap : Nat) (l : List ByteArray) (hlen : l.length ≤ 8796093022208) (w : World) (hBs : Bs < w.heap.size) (hn0 : n0 ≤ w.heap.size)
    (hc : w.cell? ⟨Bs, 0, none⟩ = some (.slice a l.length cap)) (hA : Txs n0 w a cap l) :
    SeqStopsK Fence.wide n Try.prog 48 #[.pointer (some ⟨Bs, 0, none⟩)] (fun x : Int × ByteArray => #[Value.int .i64 x.1, Value.string x.2]) (KpR n0 Bs) (fun ys => ys = rcs 65535 l 1 0) (fun pre => pre <+: rcs 65535 l 1 0) 65535 w := fun lo J Jx W hW hJ _ hY h0 => by
  have hc' := (hW.cell (p := ⟨Bs, 0, none⟩) hBs).trans hc
  rcases hA.below (hW.mono hn0) with ⟨rfl, rfl, rfl⟩ | ⟨b, o, rfl, hb, hcap, hrd⟩
  · exact (records1_nil n hn lo Bs J W hJ hc' h0).mono fun e W' ⟨he, hj⟩ => ⟨he, .inl ⟨_, rcs_nil.symm, hj⟩⟩
  · exact records1_in n hn lo Bs n0 b o cap l hcap hlen hb J Jx W (Nat.le_trans hn0 hW.size) hJ hY hc' hrd h0
theorem kpR_b {n0 Bs : Nat} {w : World} (hn : n0 ≤ w.heap.size) (hB : Bs < w.heap.size) : ∀ (W : World) (l : Nat) (o o' : Obj), w.heap.size ≤ l → W.heap[l]? = some o → o.isCells = false → o.isWalk = false → KpR n0 Bs W (W.putObj l o') := fun W l o o' h1 h2 h3 h4 =>
  ⟨belowK_b hn W l o o' h1 h2 h3 h4, fun v hv => by
    have : (W.putObj l o').heap[Bs]? = W.heap[Bs]? := World.putObj_heap_other (by omega)
    unfold World.cell? at hv ⊢
    rw [this]
    exact hv⟩
def pay (pre : List (Int × ByteArray)) : List ByteArray := pre.map fun p => p.2
theorem pay_snoc (pre : List (Int × ByteArray)) (x : Int × ByteArray) : pay (pre ++ [x]) = pay pre ++ [x.2] := by simp [pay]
theorem pay_len (pre : List (Int × ByteArray)) : (pay pre).length = pre.length := by simp [pay]
theorem ScanP.of {l : List ByteArray} {w w' : World} {v : Value} {ys : List (Int × ByteArray)} (e : ys = rcs 65535 l 1 0) (hr : w'.ownsRow w.heap.size 9 1 v (pay ys).length (cellsS (pay ys))) : ScanP l w w' (.returned (.tuple #[v, .int .i64 (lastE 0 ys)])) := by
  subst e
  obtain ⟨h1, h2⟩ := rcs_sc 65535 l 1 0
  have h3 : pay (rcs 65535 l 1 0) = (sc 65535 l 1).1 := h1
  rw [h3] at hr
  refine ⟨v, ?_, hr⟩
  have h4 : lastE 0 (rcs 65535 l 1 0) = ((sc 65535 l 1).2 : Int) := by simpa using h2
  rw [h4]
theorem two_boxes {W : World} {A B : Nat} {t : TypeId} {u : Value} (hB : Boxed W B t u) (hne : A ≠ B) (v' : Value) : Boxed (W.setCell ⟨A, 0, none⟩ v') B t u := hB.kept (grownBy_setCell' W A v') (by simp; omega)
set_option maxRecDepth 100000 in
set_option maxHeartbeats 4000000 in
theorem scan_in (n : Nat) (hn : 3 ≤ n) (a : Option Addr) (cap : Nat) (l : List ByteArray) (w : World) (hlen : l.length ≤ 8796093022208) (hA : Txs w.heap.size w a cap l) :
    CallsIn Fence.wide n Try.prog 9 #[.slice a l.length cap] w fun e w' => ScanP l w w' e ∧ Below w.heap.size w w' := by
  have h1 : 1 ≤ n := by omega
  obtain ⟨i0, hi, hz0, hz1, hz2⟩ := info_parts infoS
  refine callsIn_of_wp_marks Try.func9 rfl trivial ?_ rfl
  simp only [Try.ntmps9, List.size_toArray, List.length_cons, List.length_nil, Nat.reduceAdd, Nat.reduceSub, Array.replicate_succ, Array.replicate_zero, List.push_toArray, List.append_toArray, List.nil_append, List.cons_append]
  gi_wp2_with fail
  refine ⟨trivial, (records_in (n - 1) _ _ _ _).mono ?_⟩
  rintro e w' ⟨rfl, rfl⟩
  have bP := Boxed.new w 22 (.slice none 0 0)
  have bE := Boxed.new (w.alloc (.cells #[.slice none 0 0] 22)) 3 (.int .i64 0)
  have bI := Boxed.new ((w.alloc (.cells #[.slice none 0 0] 22)).alloc (.cells #[.int .i64 0] 3)) 22 (.slice a l.length cap)
  simp only [World.size_alloc] at bE bI
  have hB0 : Below w.heap.size w (((w.alloc (.cells #[.slice none 0 0] 22)).alloc (.cells #[.int .i64 0] 3)).alloc (.cells #[.slice a l.length cap] 22)) := (((Below.refl _ w).alloc (Nat.le_refl _) _).alloc (by simp) _).alloc (by simp; omega) _
  gi_wp2_with fail
  refine wpIn_rangeFunc_ownG rfl h1 (gf := 48) (lb := #[.pointer (some ⟨w.heap.size + 1 + 1, 0, none⟩)]) (by simp [go_sem]) trivial (enters_of Try.func48 (by kernel_rfl) rfl)
    (records_stops (n - 1) (by omega) (w.heap.size + 1 + 1) w.heap.size a cap l hlen _ (by simp) (by simp; omega) bI.cell (hA.below hB0)) KpR.trans (kpR_b (by simp; omega) (by simp)) (Below.refl _ _) (fun _ => rfl)
    (fun pre W => ((∃ v, Boxed W w.heap.size 22 v ∧ W.ownsRow w.heap.size 9 1 v (pay pre).length (cellsS (pay pre)) ∧ True) ∧ Boxed W (w.heap.size + 1) 3 (.int .i64 (lastE 0 pre)) ∧ Boxed W (w.heap.size + 1 + 1) 22 (.slice a l.length cap)) ∧ Below w.heap.size w W)
    (fun _ _ _ => False)
    (OwnFrom.and (OwnFrom.and (Own.from (holdsRow_own w.heap.size w.heap.size 22 9 1 (fun pre => (pay pre).length) (fun pre => cellsS (pay pre)) (fun pre v => True)) _) (OwnFrom.and (Own.from (boxed_own _ _ _) _) (Own.from (boxed_own _ _ _) _))) (ownFrom_below (Nat.le_refl _) (by simp; omega)))
    (fun _ _ _ _ _ hs _ _ => hs)
    ⟨⟨⟨_, (bP.alloc _).alloc _, World.ownsRow_nil _ _ _ _, trivial⟩, bE.alloc _, bI⟩, hB0⟩
    (fun x => { tmps := #[.slice a l.length cap, undef, .slice none 0 0, .int .i64 0, .pointer (some ⟨w.heap.size, 0, none⟩), .pointer (some ⟨w.heap.size + 1, 0, none⟩), .int .i64 x.1, .string x.2, .slice a l.length cap, .func (.func 48) #[] #[.pointer (some ⟨w.heap.size + 1 + 1, 0, none⟩)], .int .i64 x.1, .string x.2, undef, undef, undef, undef, undef, undef, undef], defers := [] }) ?assign ?body ?done ?stop
  case assign =>
    intro lo x W K hK
    gi_wp2
    exact hK
  case body =>
    rintro lo pre x W ⟨⟨⟨v, hv, hrow, -⟩, hE, hI⟩, hB⟩ hlt
    have hc := hv.cell
    have hpl : (pay pre).length < 65535 := by rw [pay_len]; exact hlt
    gi_wp2_with (gi_at_builtin; refine wpListIn_append_own _ rfl _ _ 22 rfl w.heap.size 9 i0 _ 1 16 Try.underlying22 hi hz0 hz1 hz2 rfl (by decide) _ _ _ rfl (hrow.alloc _) ⟨W.heap.size, 0, none⟩ 1 1 [.string x.2] rfl rfl (cell_one_new _ _ _) (by simp [Value.oneCell']) (by unfold maxLen; omega) (by omega) (by have := hB.size; simp; omega) ?_; intro v' w1 hown' hgrow _; obtain ⟨g', cap', rfl⟩ := ownsRow_succ hown'; obtain ⟨hv1, hv2, hr2, hk2, hb2⟩ := hv.appended (by decide) hrow hB.size (Nat.le_refl _) hown' hgrow; have hc1 := hv1.cell; have hf1 := hv1.frozen; have hE1 := (hE.alloc _).kept hgrow (hE.not_row (by decide) hrow); have hc2 := hE1.cell; have hf2 := hE1.frozen; have hI1 := (hI.alloc _).kept hgrow (hI.not_row (by decide) hrow))
    have hE2 := two_boxes hE1 (A := w.heap.size) (by omega) (.slice (some ⟨g', 0, none⟩) ((pay pre).length + 1) cap')
    have hI2 := two_boxes (two_boxes hI1 (A := w.heap.size) (by omega) (.slice (some ⟨g', 0, none⟩) ((pay pre).length + 1) cap')) (A := w.heap.size + 1) (by omega) (.int .i64 x.1)
    have hb3 := hb2.setCell (p := ⟨w.heap.size + 1, 0, none⟩) (by show w.heap.size ≤ w.heap.size + 1; omega) (.int .i64 x.1)
    refine ⟨(hk2.trans (KeepsOthers.setCell _ _ _)).from _, ⟨hb3, fun u hu => ?_⟩, ⟨⟨_, two_boxes hv2 (by omega) _, ?_, trivial⟩, ?_, hI2⟩, hB.trans hb3⟩
    · rw [hI.cell] at hu
      rw [← hu]
      exact hI2.cell
    · rw [pay_snoc]
      have hr3 := hr2.kept (grownBy_setCell' _ (w.heap.size + 1) (.int .i64 x.1)) (.inr (hE2.not_row (by decide) hr2).symm)
      rw [cellsS_append, List.length_append]
      exact hr3
    · rw [lastE_snoc]
      exact hE2.set _
  case done =>
    rintro D ys W hD rfl ⟨⟨⟨v, hv, hrow, -⟩, hE, hI⟩, hB⟩ hK
    have hc := hv.cell
    have hc2 := hE.cell
    gi_wp2
    gi_region
    all_goals gi_wp2
    have hbd : Below W.heap.size W W.drew := ⟨rfl, rfl, rfl, Nat.le_refl _, fun _ _ => rfl⟩
    have hrd := row_later hrow hbd
    have hKd : W.drew.heap[D]? = some (.deferred (some [])) := hK
    have hBd : Below w.heap.size w W.drew := Below.then hB hbd
    obtain ⟨Wd, hWd⟩ : ∃ Wd, W.drew = Wd := ⟨_, rfl⟩
    rw [hWd] at hrd hKd hBd ⊢
    refine ⟨by simp, .inl ⟨_, _, rfl, run_takeDeferred hKd, ?_⟩⟩
    exact ⟨_, results_tmp2 rfl _ _ _, ScanP.of rfl (ownsRow_putObj hrd _ hKd rfl), hBd.trans (belowK_b (w := w) (Nat.le_refl _) Wd D _ _ (by simp at hD; omega) hKd rfl rfl)⟩
  case stop =>
    rintro D c pre W _ _ h _
    exact h.elim
theorem scan_any (a : Option Addr) (cap : Nat) (l : List ByteArray) (w : World) (hlen : l.length ≤ 8796093022208) (hA : Txs w.heap.size w a cap l) :
    Calls Try.prog 9 #[.slice a l.length cap] w fun e w' => ScanP l w w' e ∧ Below w.heap.size w w' := callsIn_wide.1 (scan_in 3 (by omega) a cap l w hlen hA)
end Go.Proofs.Ytohgflimdoebiaa
