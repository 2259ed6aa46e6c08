/- For every image and every row of calls: DiskPlays answers true. No condition but the form's own reach. -/
import Derived.Test.YtifjihdanbbhkaaRows
import Derived.Test.YtifjihdanbbhkaaDkP
import Derived.Test.YtifjihdanbbhkaaOpenOp
import Derived.Deep.DeepCutAuto
namespace Go.Proofs.Ytifjihdanbbhkaa.diskPlays
open Go.ChangeShapes Go.WideShapes Go.ChangeAt Go.RowKit
set_option linter.unusedVariables false
set_option linter.unusedSimpArgs false
attribute [local go_sem ↓] Go.wp_at_zero Go.wp_at_succ

theorem RdO.spot {w : World} {a : Option Addr} {l : List (Int × Int × ByteArray)} (h : RdO w a l) (h0 : l ≠ []) : ∃ b o, a = some ⟨b, o, none⟩ ∧ ∀ i, i < l.length → w.cell? ⟨b, o + i * 3, none⟩ = some (.int .i64 (l.getD i (0, 0, ⟨#[]⟩)).1) ∧ w.cell? ⟨b, o + i * 3 + 1, none⟩ = some (.int .i64 (l.getD i (0, 0, ⟨#[]⟩)).2.1) ∧ w.cell? ⟨b, o + i * 3 + 2, none⟩ = some (.string (l.getD i (0, 0, ⟨#[]⟩)).2.2) := by
  have hp : 0 < l.length := List.length_pos_iff.2 h0
  obtain ⟨b, o, e, _⟩ := h 0 hp
  refine ⟨b, o, e, fun i hi => ?_⟩
  obtain ⟨b', o', e', c0⟩ := h i hi
  rw [e] at e'
  simp at e'
  obtain ⟨rfl, rfl⟩ := e'
  exact c0
set_option maxHeartbeats 8000000 in
set_option maxRecDepth 100000 in
theorem walk (a0 : Option Addr) (c0 : Nat) (l0 : List ByteArray) (a1 : Option Addr) (c1 : Nat) (l1 : List (Int × Int × ByteArray)) (w : World)
    (rd0 : RdS w a0 l0) (hl0 : l0.length * 16 ≤ 140737488351232) (hn0 : a0 = none → c0 = 0) (hg0 : ∀ t ∈ l0, t.size ≤ 9223372036854775807)
    (rd1 : RdO w a1 l1) (hl1 : l1.length * 32 ≤ 140737488351232) (hn1 : a1 = none → c1 = 0) (hg1 : ∀ p ∈ l1, (Lit.int .i64 p.1).wf = true ∧ (Lit.int .i64 p.2.1).wf = true ∧ p.2.2.size ≤ 9223372036854775807) :
    Calls Try.prog 3 #[.slice a0 l0.length c0, .slice a1 l1.length c1] w fun e w' => e = .returned (.bool true) ∧ Below w.heap.size w w' := by
  have HF : Hid _ := fun W (hb : Below w.heap.size w W) => from_any a0 c0 l0 W (by omega) (rd0.later hb) hg0
  have HRF : Hid _ := fun W (hb : Below w.heap.size w W) => rFrom_any a0 c0 l0 W (by omega) (rd0.later hb) hg0 hn0
  have HRO : Hid (RdO w a1 l1) := rd1
  have HG1 : Hid (∀ p ∈ l1, (Lit.int .i64 p.1).wf = true ∧ (Lit.int .i64 p.2.1).wf = true ∧ p.2.2.size ≤ 9223372036854775807) := hg1
  obtain ⟨n0, hn⟩ : ∃ n0, l0.length = n0 := ⟨_, rfl⟩
  obtain ⟨n, hnn⟩ : ∃ n, l1.length = n := ⟨_, rfl⟩
  have HN : Hid (l1.length = n) := hnn
  rw [hn] at HF HRF
  rw [hn, hnn]
  rw [hnn] at hl1
  obtain ⟨v, ev⟩ : ∃ v, fe l0 = v := ⟨_, rfl⟩
  rw [ev] at HF HRF
  have HST : Hid (v = 0 → (st l0).Ok) := fun e => st_ok (ev.trans e)
  clear rd0 hl0 hn0 hg0 rd1 hn1 hg1 hn hnn ev
  go_enter Try.func3, Try.ntmps3
  go_wp2_with fail
  refine (lives_any _).mono ?_
  rintro e wl ⟨rfl, hbl⟩
  have HBL : Hid (Below w.heap.size w wl) := hbl
  clear hbl
  go_wp2_with fail
  refine (HF.out _ HBL.out).mono ?_
  rintro e w1 ⟨dv, rfl, hb1, hd1⟩
  have HB1 : Hid (Below wl.heap.size wl w1) := hb1
  have HD1 : Hid ((v ≠ 0 ∧ dv = none) ∨ (v = 0 ∧ ∃ p b m x, dv = some ⟨p, 0, none⟩ ∧ Dk wl.heap.size w1 p (st l0) b m x)) := hd1
  clear hb1 hd1
  go_wp2_with fail
  refine (HRF.out _ (thenB HBL.out HB1.out)).mono ?_
  rintro e w2 ⟨mv, rfl, hb2, hd2⟩
  have HB2 : Hid (Below w1.heap.size w1 w2) := hb2
  have HD2 : Hid ((v ≠ 0 ∧ mv = none) ∨ (v = 0 ∧ ∃ p f y x, mv = some ⟨p, 0, none⟩ ∧ Rk w1.heap.size w2 p (st l0) f y x)) := hd2
  clear hb2 hd2
  go_upto_if 27 with (fail)
  go_cut [5, 7] (fun s5 s7 wx => ∃ p q s, s5 = .pointer (some ⟨p, 0, none⟩) ∧ s7 = .pointer (some ⟨q, 0, none⟩) ∧ Two wl.heap.size wx p q s ∧ s.log.length ≤ 0 ∧ Below wl.heap.size wl wx)
  case first =>
    by_cases hv : v = 0
    · rcases HD1.out with ⟨h0, _⟩ | ⟨_, p, b, m, x, rfl, hd⟩
      · exact absurd hv h0
      rcases HD2.out with ⟨h0, _⟩ | ⟨_, q, f, y, z, rfl, hr⟩
      · exact absurd hv h0
      have HTT : Hid (Two wl.heap.size w2 p q (st l0)) := made_two (Nat.le_refl _) hd HB1.out hr HB2.out
      clear hd hr
      subst hv
      go_wp2
      go_meet
      case rel => exact ⟨p, q, st l0, rfl, rfl, HTT.out, by simp [st], thenB HB1.out HB2.out⟩
    · have hdv : dv = none := by
        rcases HD1.out with ⟨_, h⟩ | ⟨h0, _⟩
        · exact h
        · exact absurd h0 hv
      have hmv : mv = none := by
        rcases HD2.out with ⟨_, h⟩ | ⟨h0, _⟩
        · exact h
        · exact absurd h0 hv
      subst hdv hmv
      go_wp2_with fail
      refine (new_any w2).mono ?_
      rintro e w3 ⟨p, b, m, x, rfl, hd3, hb3⟩
      have HD3 : Hid (Dk w2.heap.size w3 p nu b m x) := hd3
      have HB3 : Hid (Below w2.heap.size w2 w3) := hb3
      clear hd3 hb3
      go_wp2_with fail
      refine (rNew_any w3).mono ?_
      rintro e w4 ⟨q, g, cap, rfl, hr4, hb4⟩
      have HTT : Hid (Two wl.heap.size w4 p q nu) := made_two (by have := (thenB HB1.out HB2.out).size; omega) HD3.out HB3.out hr4 hb4
      have HB4 : Hid (Below w3.heap.size w3 w4) := hb4
      clear hr4 hb4
      go_wp2
      go_meet
      case rel => exact ⟨p, q, nu, rfl, rfl, HTT.out, by simp [nu], thenB (thenB HB1.out HB2.out) (thenB HB3.out HB4.out)⟩
  case rest =>
    obtain ⟨p0, q0, s0, rfl, rfl, hT0, hL0, hb0⟩ := hcut
    have HT0 : Hid (Two wl.heap.size wc p0 q0 s0) := hT0
    have HL0 : Hid (s0.log.length ≤ 0) := hL0
    have HB0 : Hid (Below wl.heap.size wl wc) := hb0
    clear hT0 hL0 hb0 HF HRF HD1 HD2 HB1 HB2 HST
    go_wp2_with fail
    go_loopw [5, 7, 36] (fun s5 s7 i wr => ∃ j : Nat, j ≤ n ∧ i = .int .i64 (j : Int) ∧ (∃ p q s, s5 = .pointer (some ⟨p, 0, none⟩) ∧ s7 = .pointer (some ⟨q, 0, none⟩) ∧ Two wl.heap.size wr p q s ∧ s.log.length ≤ j) ∧ Below wl.heap.size wl wr) (fun _ _ i _ => n - (intOf i).toNat)
    case atStart => exact ⟨0, by omega, rfl, ⟨p0, q0, s0, rfl, rfl, HT0.out, HL0.out⟩, HB0.out⟩
    case round =>
      obtain ⟨j, hj, rfl, ⟨p, q, s, rfl, rfl, hT, hL⟩, hb⟩ := hrel
      have HT : Hid (Two wl.heap.size wr p q s) := hT
      have HL : Hid (s.log.length ≤ j) := hL
      have HB : Hid (Below wl.heap.size wl wr) := hb
      clear hT hL hb HT0 HL0 HB0
      by_cases hjn : j < n
      · obtain ⟨g, o, ea, hcs⟩ := RdO.spot HRO.out (by intro e; have := HN.out; rw [e] at this; simp at this; omega)
        obtain ⟨y0, y1, y2⟩ := hcs j (by rw [HN.out]; exact hjn)
        have x0 := cell_later (thenB HBL.out HB.out) (Nat.le_refl _) y0
        have x1 := cell_later (thenB HBL.out HB.out) (Nat.le_refl _) y1
        have x2 := cell_later (thenB HBL.out HB.out) (Nat.le_refl _) y2
        have hgj := HG1.out (l1.getD j (0, 0, ⟨#[]⟩)) (by rw [getD_yes _ _ (by rw [HN.out]; exact hjn)]; exact List.getElem_mem _)
        obtain ⟨kd, at', t, eat⟩ : ∃ kd at' t, l1.getD j (0, 0, ⟨#[]⟩) = (kd, at', t) := ⟨_, _, _, rfl⟩
        rw [eat] at x0 x1 x2 hgj
        subst ea
        obtain ⟨wk, wa, wt⟩ := hgj
        have hba := below1 wr (.cells #[.int .i64 kd, .int .i64 at', .string t] 35)
        have HBA : Hid _ := thenB HB.out hba
        have HOB : Hid _ := heap_alloc_new wr (.cells #[.int .i64 kd, .int .i64 at', .string t] 35)
        have hst := step_any wl.heap.size _ p q s (HT.out.later hba) kd at' t wa wt (by have := HL.out; omega) HBA.out.size
        have j1 : (0 : Int) ≤ (j : Int) := by omega
        have j2 : (j : Int) < (n : Int) := by omega
        have HLS : Hid ((stp s kd at' t).log.length ≤ j + 1) := by have := stp_log s kd at' t; have := HL.out; show (stp s kd at' t).log.length ≤ j + 1; omega
        clear y0 y1 y2 hcs eat hba wk wt
        go_wp2_with fail
        refine hst.mono ?_
        rintro e w5 ⟨rfl, hT5, hO5, hb5⟩
        obtain ⟨s', es'⟩ : ∃ s', stp s kd at' t = s' := ⟨_, rfl⟩
        rw [es'] at hT5 HLS
        have HT5 : Hid (Two wl.heap.size w5 p q s') := hT5
        have HB5 : Hid (Below wl.heap.size wl w5) := belowN HBA.out hb5
        have hob := hO5 _ _ HOB.out
        have HOB5 : Hid _ := hob
        have o0 : w5.cell? ⟨wr.heap.size, 0, none⟩ = some (.int .i64 kd) := by simp [World.cell?, hob]
        have o1 : w5.cell? ⟨wr.heap.size, 1, none⟩ = some (.int .i64 at') := by simp [World.cell?, hob]
        have hon := two_on hT5
        have hron := two_rOn hT5
        obtain ⟨bo, ebo⟩ : ∃ bo, decide (s'.left ≠ 0) = bo := ⟨_, rfl⟩
        rw [ebo] at hon hron
        clear hT5 hO5 hb5 hob hst es' ebo
        go_wp2_with fail
        refine hon.mono ?_
        rintro e w6 ⟨rfl, rfl⟩
        go_wp2_with fail
        refine hron.mono ?_
        rintro e w7 ⟨rfl, rfl⟩
        clear hon hron
        by_cases hk6 : kd = 6
        · subst hk6
          have HC : Hid _ := two_cut HT5.out (by have := HLS.out; omega) at' wa
          have HRC : Hid _ := two_rCut HT5.out (by have := HLS.out; omega) at'
          have HBD : Hid (Below w7.heap.size w7 w7.drew) := (Below.refl _ w7).drew
          have HCL : Hid ((ct s' at'.toNat).log.length ≤ j + 1) := by have := HLS.out; show (s'.log.take at'.toNat).length ≤ j + 1; simp; omega
          go_wp2_with fail
          go_region_with (first
            | (go_at_call 15; refine (HC.out _ HBD.out).mono ?_; rintro e w8 ⟨p', rfl, h8⟩; have o18 := cellD o1 h8.2; have H8 : Hid _ := h8; have HB8 : Hid _ := thenD h8.2; clear h8)
            | (go_at_call 15; refine (HC.out _ HB9.out).mono ?_; rintro e w10 ⟨p', rfl, h10⟩; have HFI : Hid _ := cut_rd (N := wl.heap.size) (W := w7.drew) HB5.out.size H9.out h10; clear h10)
            | (go_at_call 16; refine (HRC.out _ HBD.out).mono ?_; rintro e w9 ⟨q', rfl, h9⟩; have o18 := cellD o1 h9.2; have H9 : Hid _ := h9; have HB9 : Hid _ := thenD h9.2; clear h9)
            | (go_at_call 16; refine (HRC.out _ HB8.out).mono ?_; rintro e w10 ⟨q', rfl, h10⟩; have HFI : Hid _ := cut_dr (N := wl.heap.size) (W := w7.drew) HB5.out.size H8.out h10; clear h10))
          all_goals go_wp2
          all_goals go_roundw
          all_goals first
            | (case rel => exact ⟨j + 1, by omega, by go_num, ⟨p', q', _, rfl, rfl, HFI.out.1, HCL.out⟩, thenB HB5.out (thenD HFI.out.2)⟩)
            | (case measure => simp [intOf]; omega)
        · have b6 : (kd == 6) = false := by simpa using hk6
          go_wp2
          go_roundw
          case rel => exact ⟨j + 1, by omega, by go_num, ⟨p, q, s', rfl, rfl, HT5.out, HLS.out⟩, HB5.out⟩
          case measure => simp [intOf]; omega
      · have hjk' : decide ((j : Int) < (n : Int)) = false := by simp; omega
        obtain ⟨T, hT⟩ : ∃ T, (im s.bl).length = T := ⟨_, rfl⟩
        have hT2 : T ≤ 2048 := by rw [← hT, im_length]; exact top_le _
        obtain ⟨L, hL⟩ : ∃ L, s.log.length = L := ⟨_, rfl⟩
        have hl3 : L ≤ 5864062014805 := by have := HL.out; omega
        have HI : Hid _ := two_image HT.out (by omega) hT
        have HRI : Hid _ := two_rImage HT.out hT
        have HW : Hid _ := two_writes HT.out (by omega) hL
        obtain ⟨aL, cL, hLg⟩ := two_log HT.out hL
        have HLG : Hid _ := hLg
        have HS : Hid _ := same_n hT (by omega)
        have HSW : Hid _ := sameW_n hL (by omega)
        have HBD : Hid (Below wr.heap.size wr wr.drew) := (Below.refl _ wr).drew
        have q2 := (hLg wr (Below.refl _ _)).1
        clear hLg hT hL
        go_wp2_with fail
        go_region_with (first
          | (go_at_call 18; refine (HI.out _ HBD.out).mono ?_; rintro e w1 ⟨a1, cp1, rfl, hr1, hb1, hbb1⟩; have HR1 : Hid (RdS w1 a1 (im s.bl)) := hr1; have HB1 : Hid _ := hb1; have HBB1 : Hid _ := hbb1; clear hr1 hb1 hbb1)
          | (go_at_call 18; refine (HI.out _ HB2.out).mono ?_; rintro e w1 ⟨a1, cp1, rfl, hr1, hb1, hbb1⟩; have HRS : Hid (RdS w1 _ (im s.bl) ∧ RdS w1 _ (im s.bl)) := ⟨hr1, HR2.out.later hbb1⟩; have HBS : Hid _ := hb1; clear hr1 hb1 hbb1)
          | (go_at_call 19; refine (HRI.out _ HBD.out).mono ?_; rintro e w1 ⟨a2, cp2, rfl, hr2, hb2, hbb2⟩; have HR2 : Hid (RdS w1 a2 (im s.bl)) := hr2; have HB2 : Hid _ := hb2; have HBB2 : Hid _ := hbb2; clear hr2 hb2 hbb2)
          | (go_at_call 19; refine (HRI.out _ HB1.out).mono ?_; rintro e w2 ⟨a2, cp2, rfl, hr2, hb2, hbb2⟩; have HRS : Hid (RdS w2 _ (im s.bl) ∧ RdS w2 _ (im s.bl)) := ⟨HR1.out.later hbb2, hr2⟩; have HBS : Hid _ := hb2; clear hr2 hb2 hbb2)
          | (go_at_call 17; refine (HS.out _ _ _ _ _ HRS.out.1 HRS.out.2).mono ?_; rintro e w3 ⟨rfl, hb3⟩; have HB3 : Hid _ := thenB HBS.out hb3; have q3 := (HLG.out _ HB3.out).1; clear hb3)
          | (go_at_call 21; refine (HW.out _ HB3.out).mono ?_; rintro e w4 ⟨a4, cp4, rfl, hr4, hb4, hbb4⟩; have HR4 : Hid (RdW w4 a4 s.log) := hr4; have HB4 : Hid _ := hb4; have q4 := (HLG.out _ HB4.out).1; clear hr4 hb4 hbb4)
          | (go_at_call 20; refine (HSW.out _ _ _ _ _ HR4.out (HLG.out _ HB4.out).2).mono ?_; rintro e w5 ⟨rfl, hb5⟩; have HB5 : Hid _ := thenB HB4.out hb5; clear hb5))
        all_goals go_wp2
        all_goals go_ret
        all_goals exact ⟨rfl, thenB HBL.out (thenB HB.out HB5.out)⟩
theorem own : ownKnob Try.prog.godebug = none := by kernel_rfl
theorem laidOut : laidOutB Try.prog = true := by kernel_rfl
set_option maxRecDepth 100000 in
theorem lifted (os : Os) (started : os.Started) (H : Type) (enc : TypeId × Value → H) :
    ReturnsInHanded {} Try.checked os 3 .any (Rows.diskPlaysSpec.pre6 enc Try.prog Try.f3 Rows.diskPlaysRow.domain false) (Rows.diskPlaysSpec.post enc Try.prog Try.f3 false true false false) := by
  refine returnsInHanded_of_change_sized (C := Try.checked) own started (by kernel_rfl) Try.func3
    (ChangeSpec.witness6 (enc := enc) (C := Try.checked) false ⟨#[], #[.slice none 0 0, .slice none 0 0], []⟩ 8 (by kernel_rfl) (by kernel_rfl) (by kernel_rfl) (by kernel_rfl)) ?_
  intro W base args ds gs before hval0 hW hcnd hsz0 _
  have hsz : (DataW.weightsEach Try.prog (Try.f3.params.toList ++ Rows.diskPlaysSpec.plain.varTypes Try.prog) (ds ++ gs)).all (· ≤ reachBytes) = true := hsz0
  clear hsz0
  have hval : ∀ (j : Nat) t v, Try.f3.params[j]? = some t → args[j]? = some v → Value.okWide Try.prog W .any base t v := hval0
  have hW' := hW
  obtain ⟨p, q, hA0, hV, rfl, hfz, hnd⟩ := hW
  have hA : DataW.TrodAll enc Try.prog W 0 (fun _ => true) true Try.f3.params.toList args.toList ds p := hA0
  rw [Try.params3] at hA hval hsz
  obtain ⟨v0, vs0, d0, ds0, p0, q0, hargs, rfl, rfl, h0, r0⟩ := trodAll_cons hA
  obtain ⟨v1, vs1, d1, ds1, p1, q1, rfl, rfl, rfl, h1, r1⟩ := trodAll_cons r0
  obtain ⟨rfl, rfl, rfl⟩ := trodAll_nil r1
  obtain rfl : args = #[v0, v1] := by cases args; simp_all
  obtain ⟨rfl, rfl⟩ := trodVars_none hV
  have k0 := h0
  have lt0 : ∀ x ∈ p0, x.block < W.heap.size := by obtain ⟨m, hm⟩ := k0; exact DataW.trod_lt m _ _ _ hm
  obtain ⟨a0, c0, l0, rfl, rd0, hl0, hn0, hg0⟩ := strs_of (fun es sp e => by subst e; have h := sized_slice hsz (j := 0) (t := 22) (e := 9) rfl rfl Try.underlying22; rw [bytesS] at h; exact h) (okWide_slice Try.underlying22 (hval 0 22 v0 rfl rfl)) h0
  have k1 := h1
  have lt1 : ∀ x ∈ p1, x.block < W.heap.size := by obtain ⟨m, hm⟩ := k1; exact DataW.trod_lt m _ _ _ hm
  obtain ⟨a1, c1, l1, rfl, rd1, hl1, hn1, hg1⟩ := ops_of (fun es sp e => by subst e; have h := sized_slice hsz (j := 1) (t := 23) (e := 35) rfl rfl Try.underlying23; rw [bytesO] at h; exact h) (okWide_slice Try.underlying23 (hval 1 23 v1 rfl rfl)) h1
  clear hA0 hval0
  refine (walk a0 c0 l0 a1 c1 l1 W rd0 hl0 hn0 hg0 rd1 hl1 hn1 hg1).mono fun e W' ⟨he, bel⟩ => ?_
  subst he
  exact ⟨_, rfl, _, _, _, [], _, [], hW', trodAll_mk1 (shut_bool Try.underlying4 _), (trodAll_cons_mk (Below.trod laidOut (by kernel_rfl) (of_decide_eq_true (by kernel_rfl)) k0 bel lt0) (trodAll_cons_mk (Below.trod laidOut (by kernel_rfl) (of_decide_eq_true (by kernel_rfl)) k1 bel lt1) trodAll_mk0)), rfl, bel.frame _, fun h => by cases h⟩
theorem over : Rows.diskPlaysRow.holds Try.pinned (OpenSpec.ofChange Rows.diskPlaysSpec) :=
  OpenClaim.holds_of_wide 3 Try.f3 rfl rfl rfl rfl rfl rfl rfl ⟨rfl, rfl, rfl, rfl, rfl⟩ rfl rfl rfl rfl rfl (by kernel_rfl) Try.func3 (by kernel_rfl)
    (of_decide_eq_true (by kernel_rfl)) (by unfold Func.isWrapper; first | (rw [if_pos (by decide +kernel)]; kernel_rfl) | (rw [if_neg (by decide +kernel)]; exact ⟨rfl, rfl⟩))
    (fun os started H enc _ => lifted os started H enc)
end Go.Proofs.Ytifjihdanbbhkaa.diskPlays
namespace Go.Proofs.Ytifjihdanbbhkaa
theorem diskPlays_holds : Rows.DiskPlaysSaid := diskPlays.over
#print axioms diskPlays_holds
end Go.Proofs.Ytifjihdanbbhkaa
