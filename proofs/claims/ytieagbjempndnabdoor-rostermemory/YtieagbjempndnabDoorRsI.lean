/- Contracts: admit. -/
import Derived.Test.YtieagbjempndnabDoorRsH
namespace Go.Proofs.YtieagbjempndnabDoor
open Go.RowKit Go.Maps
set_option linter.unusedVariables false
set_option linter.unusedSimpArgs false

theorem apart_rows {W : World} {b b' : Nat} {e e' : TypeId} {s s' n n' : Nat} {v v' : Value} {xs xs' : List Value} (h : W.ownsRow b e s v n xs) (h' : W.ownsRow b' e' s' v' n' xs') (hne : e ≠ e') : v.ownBlock = none ∨ v.ownBlock ≠ v'.ownBlock := by
  rcases h.2 with ⟨rfl, _⟩ | ⟨g, cap, cur, rfl, h3, h4, _⟩
  · exact .inl rfl
  · rcases h'.2 with ⟨rfl, _⟩ | ⟨g', cap', cur', rfl, h3', h4', _⟩
    · exact .inr (by simp [Value.ownBlock])
    · refine .inr fun he => ?_
      simp [Value.ownBlock] at he
      subst he
      rw [h4] at h4'
      simp at h4'
      exact hne h4'.2
theorem int_cell {W : World} {b : Nat} {v : Value} {T : List Nat} (h : W.ownsRow b 3 1 v T.length (nI T)) {k : Nat} (hk : k < T.length) : ∃ g cap, v = .slice (some ⟨g, 0, none⟩) T.length cap ∧ W.cell? ⟨g, k, none⟩ = some (.int .i64 ((T.getD k 0 : Nat) : Int)) := by
  rcases h.2 with ⟨rfl, h0⟩ | ⟨g, cap, cur, rfl, h3, h4, h5, h6, h7, h8⟩
  · omega
  · have hc := World.ownsRow.cellAt h k (by omega)
    refine ⟨g, cap, rfl, ?_⟩
    rw [hc]
    simp [nI, hk]
set_option maxRecDepth 100000 in
set_option maxHeartbeats 400000 in
theorem admit_any (f : Nat → En) (a : Option Addr) (c : Nat) (J : List Int) (sc bs : Int) (w : World) (hT : Tb w) (hJ : RdI w a J) (lJ : J.length ≤ (bl (nt (tk f))).length) (hbs : J ≠ [] → 1 ≤ bs ∧ bs + (J.length : Int) ≤ 32768) :
    Calls Tryd.prog 15 #[.agg (rcs f), .slice a J.length c, .int .i64 sc, .int .i64 bs] w fun e w' => (∃ v, e = .returned (.tuple #[.agg (rcs (adm f ((bl (nt (tk f))).take J.length) J sc bs J.length)), v]) ∧ w'.ownsRow (w.heap.size + 2) 38 2 v J.length (ps (adl ((bl (nt (tk f))).take J.length) J J.length))) ∧ Below w.heap.size w w' := by
  have hE0 := EV.new w f
  obtain ⟨i0, hi, hz0, hz1, hz2⟩ := infoSeat_parts
  go_enter Tryd.func15, Tryd.ntmps15
  go_upto_region 2 with (fail)
  rw [zero25]
  generalize (w.alloc (.cells (rcs f) 25)).alloc (.cells (rcs fun _ => zE) 25) = w1 at *
  refine wp_region_lit ?_
  refine ld25 hE0.ro rfl _ rfl rfl ?_
  have htk := taken_any f w1
  obtain ⟨cf, hc⟩ : ∃ cf, rcs f = cf := ⟨_, rfl⟩
  rw [hc] at htk ⊢
  clear hc
  go_wp2_with fail
  refine htk.mono ?_
  rintro r w2 ⟨rfl, hb2⟩
  have hE2 := hE0.later hb2
  have hta := take_any (tk f) (tk_lt f) (J.length : Int) w2 (hT.later hE2.bel)
  clear hE0 htk hb2
  go_wp2_with fail
  refine hta.mono ?_
  rintro r w3 ⟨hP, hb3⟩
  unfold TakeP at hP
  rw [if_neg (by omega), if_neg (by omega), Int.toNat_natCast] at hP
  obtain ⟨vT, rfl, hv⟩ := hP
  have hE3 := hE2.later hb3
  obtain ⟨T, hTT⟩ : ∃ T, (bl (nt (tk f))).take J.length = T := ⟨_, rfl⟩
  have hTl : T.length = J.length := by rw [← hTT, List.length_take]; omega
  have hT64 : ∀ i ∈ T, i < 64 := fun i hi => by rw [← hTT] at hi; exact (mem_bl.1 (List.mem_of_mem_take hi)).1
  rw [hTT] at hv ⊢
  have hJ64 : J.length ≤ 64 := Nat.le_trans lJ (bl_len _)
  have HE3 : Hid (EV w w3 f (.slice none 0 0) []) := hE3
  have HV : Hid (w3.ownsRow (w.heap.size + 2) 3 1 vT T.length (nI T)) := owns_wide hv hE2.size
  have HT64 : Hid (∀ i ∈ T, i < 64) := hT64
  have HTL : Hid (T.length = J.length) := hTl
  have HTT : Hid ((bl (nt (tk f))).take J.length = T) := hTT
  have HBS : Hid (J ≠ [] → 1 ≤ bs ∧ bs + (J.length : Int) ≤ 32768) := hbs
  clear hta hb3 hv hE2 hE3 hTT hT64 lJ hbs
  generalize ((pf (tk f) T : Nat) : Int) = sw
  generalize ((tk f : Nat) : Int) = tw
  obtain ⟨aT, cT, rfl⟩ := owns_slice HV.out
  rw [hTl]
  clear hTl
  go_wp2_with fail
  go_loopw [10, 28] (fun v i wx => ∃ (k : Nat) (vl : Value), k ≤ J.length ∧ i = .int .i64 (k : Int) ∧ vl = v ∧ EV w wx (adm f T J sc bs k) vl (adl T J k) ∧ wx.ownsRow (w.heap.size + 2) 3 1 (.slice aT T.length cT) T.length (nI T)) (fun _ i _ => J.length - (intOf i).toNat)
  case atStart => exact ⟨0, _, by omega, rfl, rfl, HE3.out, HV.out⟩
  case round =>
    obtain ⟨k, vl, hk, rfl, rfl, hev, hrt⟩ := hrel
    have HE : Hid (EV w wr (adm f T J sc bs k) vl (adl T J k)) := hev
    have HR : Hid (wr.ownsRow (w.heap.size + 2) 3 1 (.slice aT T.length cT) T.length (nI T)) := hrt
    clear hev hrt HE3 HV
    by_cases hkN : k < J.length
    · have i1 : (0 : Int) ≤ (k : Int) := by omega
      have i2 : (k : Int) < (J.length : Int) := by omega
      have hTl := HTL.out
      obtain ⟨b1, b2⟩ := HBS.out (fun e => by rw [e] at hkN; simp at hkN)
      obtain ⟨b, o, hal, hcell⟩ := (hJ.later HE.out.bel) k hkN
      obtain ⟨gT, cT', hgT, hcT⟩ := int_cell HR.out (show k < T.length by omega)
      have hj64 : T.getD k 0 < 64 := HT64.out _ (by rw [List.getD_eq_getElem?_getD, List.getElem?_eq_getElem (by omega)]; exact List.getElem_mem _)
      have HA : Hid (adm f T J sc bs (k + 1) = upd (adm f T J sc bs k) (T.getD k 0) ⟨J.getD k 0, bs + (k : Int), sc⟩) := rfl
      have HL : Hid (adl T J (k + 1) = adl T J k ++ [(J.getD k 0, ((T.getD k 0 : Nat) : Int))]) := rfl
      have hlen : (adl T J k).length = k := adl_length T J k
      have hsum : IntKind.i64.wrap (bs + (k : Int)) = bs + (k : Int) := i64_fit _ (by omega) (by omega)
      obtain ⟨x, hx⟩ : ∃ x, J.getD k 0 = x := ⟨_, rfl⟩
      rw [hx] at hcell HA HL
      obtain ⟨j, hj⟩ : ∃ j, T.getD k 0 = j := ⟨_, rfl⟩
      rw [hj] at hcT hj64 HA HL
      clear hx hj b1 b2 hTl
      generalize adm f T J sc bs k = g at *
      generalize adl T J k = l at *
      simp only [Value.slice.injEq] at hgT
      obtain ⟨rfl, -, rfl⟩ := hgT
      subst hal
      obtain ⟨a1, cap1, rfl⟩ := owns_slice HE.out.row
      rw [hlen]
      have HLEN : Hid (l.length = k) := hlen
      clear hlen
      have hrow : wr.ownsRow (w.heap.size + 2) 38 2 (.slice a1 k cap1) k (ps l) := by have h := HE.out.row; rw [HLEN.out] at h; exact h
      have hsz := HE.out.size
      go_upto_region 8 with (at_builtin; (refine wpList_append_own _ rfl _ _ 32 rfl (w.heap.size + 2) 38 i0 (.agg #[.int .i64 0, .int .i64 0]) 2 16 Tryd.underlying32 hi hz0 hz1 hz2 rfl (by decide) (.slice a1 k cap1) k (ps l) rfl (hrow.alloc _) ⟨wr.heap.size, 0, none⟩ 1 1 [.int .i64 x, .int .i64 (j : Int)] rfl rfl (cell_two_new _ _ _ _) (by simp [Value.oneCell']) (by unfold maxLen; omega) (by omega) (by simp; omega) ?_); intro v' w4 hown' hg4 _)
      have HE4 : Hid (EV w w4 g v' (l ++ [(x, (j : Int))])) := HE.out.app (by rw [HLEN.out]; exact hown') (by rw [HLEN.out]; exact hg4)
      have HR4 : Hid (w4.ownsRow (w.heap.size + 2) 3 1 (.slice (some ⟨gT, 0, none⟩) T.length cT) T.length (nI T)) := (HR.out.alloc _).kept hg4 (apart_rows (HR.out.alloc (.cells #[.int .i64 x, .int .i64 (j : Int)] 38)) (hrow.alloc _) (by decide))
      clear hown' hg4 hrow hsz HE HR hcell hcT
      have j1 : (j : Int) < 64 := by omega
      obtain ⟨c0, c1, c2⟩ := HE4.out.ro.cells j hj64
      have f0 := row_frozen HE4.out.ro (j * 3)
      have f1 := row_frozen HE4.out.ro (j * 3 + 1)
      have f2 := row_frozen HE4.out.ro (j * 3 + 2)
      have HE5 : Hid (EV w (((w4.setCell ⟨w.heap.size, j * 3, none⟩ (.int .i64 x)).setCell ⟨w.heap.size, j * 3 + 1, none⟩ (.int .i64 (bs + (k : Int)))).setCell ⟨w.heap.size, j * 3 + 2, none⟩ (.int .i64 sc)) (upd g j ⟨x, bs + (k : Int), sc⟩) v' (l ++ [(x, (j : Int))])) := HE4.out.set j hj64 x (bs + (k : Int)) sc
      have HR5 : Hid ((((w4.setCell ⟨w.heap.size, j * 3, none⟩ (.int .i64 x)).setCell ⟨w.heap.size, j * 3 + 1, none⟩ (.int .i64 (bs + (k : Int)))).setCell ⟨w.heap.size, j * 3 + 2, none⟩ (.int .i64 sc)).ownsRow (w.heap.size + 2) 3 1 (.slice (some ⟨gT, 0, none⟩) T.length cT) T.length (nI T)) := owns_block HR4.out fun j hj _ => set3_other (by omega) _ _ _ _ _ _
      go_wp2_with fail
      go_roundw
      case rel =>
        refine ⟨k + 1, _, by omega, by go_num, rfl, ?_, HR5.out⟩
        rw [HA.out, HL.out]
        exact HE5.out
      case measure => simp [intOf]; omega
    · obtain rfl : k = J.length := by omega
      have hdk : decide ((J.length : Int) < (J.length : Int)) = false := by simp
      clear HBS
      go_upto_region 10 with (fail)
      refine wp_region_lit ?_
      refine ld25 HE.out.ro rfl _ rfl rfl ?_
      go_wp2_with (refine st25 HE.out.ze rfl _ _ rfl rfl rfl ?_)
      refine bodyPost_ret (results_ro2 (p := 8) (t := 9) rfl _ _ (w.heap.size + 1) (adm f T J sc bs J.length) rfl (HE.out.ze.row _)) rfl ?_
      rw [HTT.out]
      refine ⟨⟨vl, rfl, ?_⟩, ?_⟩
      · have h := HE.out.row
        rw [adl_length] at h
        exact owns_block h fun j hj _ => row_other (by omega) _
      · exact setRow_below (by omega) HE.out.bel _
end Go.Proofs.YtieagbjempndnabDoor
