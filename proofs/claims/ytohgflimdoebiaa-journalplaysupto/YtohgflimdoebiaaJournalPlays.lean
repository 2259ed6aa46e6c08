/- For every image and every row of calls of a bulk at most 1048576: the journal and the document's, each on a disk that the image was the beginning of, give the same answers and make the same writes: JournalPlays answers true. Condition: that bulk. -/
import Derived.Test.YtohgflimdoebiaaRows
import Derived.Test.YtohgflimdoebiaaJnVJ
import Derived.Test.YtohgflimdoebiaaJnL
import Derived.Test.YtohgflimdoebiaaOpenJ
import Derived.BigQuiet
import Derived.Deep.DeepCutAuto
namespace Go.Proofs.Ytohgflimdoebiaa.Dk.journalPlays
open Go.ChangeShapes Go.WideShapes Go.ChangeAt Go.RowKit Go.Maps
set_option linter.unusedVariables false
set_option linter.unusedSimpArgs false
attribute [local go_sem ↓] Go.wp_at_zero Go.wp_at_succ

theorem RdO.spot {w : World} {a : Option Addr} {l : List (Int × Int × ByteArray)} (h : RdO w a l) (h0 : l ≠ []) : ∃ b o, a = some ⟨b, o, none⟩ ∧ ∀ i, i < l.length → w.cell? ⟨b, o + i * 3, none⟩ = some (.int .i64 (l.getD i (0, 0, ⟨#[]⟩)).1) ∧ w.cell? ⟨b, o + i * 3 + 1, none⟩ = some (.int .i64 (l.getD i (0, 0, ⟨#[]⟩)).2.1) ∧ w.cell? ⟨b, o + i * 3 + 2, none⟩ = some (.string (l.getD i (0, 0, ⟨#[]⟩)).2.2) := by
  have hp : 0 < l.length := List.length_pos_iff.2 h0
  obtain ⟨b, o, e, _⟩ := h 0 hp
  refine ⟨b, o, e, fun i hi => ?_⟩
  obtain ⟨b', o', e', c0⟩ := h i hi
  rw [e] at e'
  simp at e'
  obtain ⟨rfl, rfl⟩ := e'
  exact c0
set_option maxHeartbeats 8000000 in
set_option maxRecDepth 100000 in
theorem walk (a0 : Option Addr) (c0 : Nat) (l0 : List ByteArray) (a1 : Option Addr) (c1 : Nat) (l1 : List (Int × Int × ByteArray)) (w : World)
    (rd0 : RdS w a0 l0) (hl0 : l0.length * 16 ≤ 140737488351232) (hn0 : a0 = none → c0 = 0) (hg0 : ∀ t ∈ l0, t.size ≤ 9223372036854775807)
    (rd1 : RdO w a1 l1) (hl1 : l1.length ≤ 1048576) (hn1 : a1 = none → c1 = 0) (hg1 : ∀ p ∈ l1, (Lit.int .i64 p.1).wf = true ∧ (Lit.int .i64 p.2.1).wf = true ∧ p.2.2.size ≤ 9223372036854775807) :
    Calls Try.prog 4 #[.slice a0 l0.length c0, .slice a1 l1.length c1] w fun e w' => e = .returned (.bool true) ∧ Below w.heap.size w w' := by
  have HF : Hid _ := fun W (hb : Below w.heap.size w W) => from_any a0 c0 l0 W (by omega) (rd0.later hb) hg0
  have HRF : Hid _ := fun W (hb : Below w.heap.size w W) => rFrom_any a0 c0 l0 W (by omega) (rd0.later hb) hg0 hn0
  have HRO : Hid (RdO w a1 l1) := rd1
  have HG1 : Hid (∀ p ∈ l1, (Lit.int .i64 p.1).wf = true ∧ (Lit.int .i64 p.2.1).wf = true ∧ p.2.2.size ≤ 9223372036854775807) := hg1
  obtain ⟨n0, hn⟩ : ∃ n0, l0.length = n0 := ⟨_, rfl⟩
  obtain ⟨n, hnn⟩ : ∃ n, l1.length = n := ⟨_, rfl⟩
  have HN : Hid (l1.length = n) := hnn
  rw [hn] at HF HRF
  rw [hn, hnn]
  rw [hnn] at hl1
  obtain ⟨v, ev⟩ : ∃ v, fe l0 = v := ⟨_, rfl⟩
  rw [ev] at HF HRF
  clear rd0 hl0 hn0 hg0 rd1 hn1 hg1 hn hnn ev
  go_enter Try.func4, Try.ntmps4
  go_wp2_with fail
  refine (lives_any _).mono ?_
  rintro e wl ⟨rfl, hbl⟩
  have HBL : Hid (Below w.heap.size w wl) := hbl
  clear hbl
  go_wp2_with fail
  refine (HF.out _ HBL.out).mono ?_
  rintro e w1 ⟨dv, rfl, hb1, hd1⟩
  have HB1 : Hid (Below wl.heap.size wl w1) := hb1
  have HD1 : Hid ((v ≠ 0 ∧ dv = none) ∨ (v = 0 ∧ ∃ p b m x, dv = some ⟨p, 0, none⟩ ∧ Dk wl.heap.size w1 p (st l0) b m x)) := hd1
  clear hb1 hd1
  go_wp2_with fail
  refine (HRF.out _ (thenB HBL.out HB1.out)).mono ?_
  rintro e w2 ⟨mv, rfl, hb2, hd2⟩
  have HB2 : Hid (Below w1.heap.size w1 w2) := hb2
  have HD2 : Hid ((v ≠ 0 ∧ mv = none) ∨ (v = 0 ∧ ∃ p f y x, mv = some ⟨p, 0, none⟩ ∧ Rk w1.heap.size w2 p (st l0) f y x)) := hd2
  clear hb2 hd2
  go_upto_if 28 with (fail)
  go_cut [5, 7] (fun s5 s7 wx => ∃ p q s, s5 = .pointer (some ⟨p, 0, none⟩) ∧ s7 = .pointer (some ⟨q, 0, none⟩) ∧ Two wl.heap.size wx p q s ∧ s.log.length ≤ 0 ∧ Below wl.heap.size wl wx)
  case first =>
    by_cases hv : v = 0
    · rcases HD1.out with ⟨h0, _⟩ | ⟨_, p, b, m, x, rfl, hd⟩
      · exact absurd hv h0
      rcases HD2.out with ⟨h0, _⟩ | ⟨_, q, f, y, z, rfl, hr⟩
      · exact absurd hv h0
      have HTT : Hid (Two wl.heap.size w2 p q (st l0)) := made_two (Nat.le_refl _) hd HB1.out hr HB2.out
      clear hd hr
      subst hv
      go_wp2
      go_meet
      case rel => exact ⟨p, q, st l0, rfl, rfl, HTT.out, by simp [st], thenB HB1.out HB2.out⟩
    · have hdv : dv = none := by
        rcases HD1.out with ⟨_, h⟩ | ⟨h0, _⟩
        · exact h
        · exact absurd h0 hv
      have hmv : mv = none := by
        rcases HD2.out with ⟨_, h⟩ | ⟨h0, _⟩
        · exact h
        · exact absurd h0 hv
      subst hdv hmv
      go_wp2_with fail
      refine (new_any w2).mono ?_
      rintro e w3 ⟨p, b, m, x, rfl, hd3, hb3⟩
      have HD3 : Hid (Dk w2.heap.size w3 p nu b m x) := hd3
      have HB3 : Hid (Below w2.heap.size w2 w3) := hb3
      clear hd3 hb3
      go_wp2_with fail
      refine (rNew_any w3).mono ?_
      rintro e w4 ⟨q, g, cap, rfl, hr4, hb4⟩
      have HTT : Hid (Two wl.heap.size w4 p q nu) := made_two (by have := (thenB HB1.out HB2.out).size; omega) HD3.out HB3.out hr4 hb4
      have HB4 : Hid (Below w3.heap.size w3 w4) := hb4
      clear hr4 hb4
      go_wp2
      go_meet
      case rel => exact ⟨p, q, nu, rfl, rfl, HTT.out, by simp [nu], thenB (thenB HB1.out HB2.out) (thenB HB3.out HB4.out)⟩
  case rest =>
    obtain ⟨p0, q0, s0, rfl, rfl, hT0, hL0, hb0⟩ := hcut
    have hba := below1 wc (.cells #[.pointer (some ⟨p0, 0, none⟩), .pointer none, .pointer (some ⟨q0, 0, none⟩), .pointer none] 42)
    have hpb : Pb (wc.alloc (.cells #[.pointer (some ⟨p0, 0, none⟩), .pointer none, .pointer (some ⟨q0, 0, none⟩), .pointer none] 42)) wc.heap.size p0 q0 none none := World.alloc_heap_new _ _
    have hs0 := hb0.size
    have hop := popen_any wl.heap.size wl _ wc.heap.size p0 q0 s0 none none (hT0.later hba) hpb hs0 (thenB hb0 hba) (Nat.le_trans hs0 hba.size) (by omega)
    have HL0 : Hid ((opS s0).log.length ≤ 4096 * (0 + 1)) := by have := opS_log s0; show _ ≤ _; omega
    clear hT0 hL0 hb0 hba hpb HF HRF HD1 HD2 HB1 HB2
    go_wp2_with fail
    refine hop.mono ?_
    rintro e wo ⟨rfl, jv0, kv0, hP0, -⟩
    obtain ⟨pb, hpbe⟩ : ∃ pb, wc.heap.size = pb := ⟨_, rfl⟩
    rw [hpbe] at hP0 ⊢
    have HP0 : Hid (Pr wl.heap.size wl wo pb p0 q0 (opS s0) jv0 kv0 (scP s0).length (scE s0) false) := hP0
    clear hop hP0 hpbe
    go_wp2_with fail
    go_loopw [42] (fun i wr => ∃ j : Nat, j ≤ n ∧ i = .int .i64 (j : Int) ∧ ∃ p q s jv kv c a d, Pr wl.heap.size wl wr pb p q s jv kv c a d ∧ s.log.length ≤ 4096 * (j + 1)) (fun i _ => n - (intOf i).toNat)
    case atStart => exact ⟨0, by omega, rfl, _, _, _, _, _, _, _, _, HP0.out, HL0.out⟩
    case round =>
      obtain ⟨j, hj, rfl, p, q, s, jv, kv, c, a, d, hP, hL⟩ := hrel
      have HP : Hid (Pr wl.heap.size wl wr pb p q s jv kv c a d) := hP
      have HL : Hid (s.log.length ≤ 4096 * (j + 1)) := hL
      clear hP hL HP0 HL0
      by_cases hjn : j < n
      · obtain ⟨g, go, ea, hcs⟩ := RdO.spot HRO.out (by intro e; have := HN.out; rw [e] at this; simp at this; omega)
        obtain ⟨y0, y1, y2⟩ := hcs j (by rw [HN.out]; exact hjn)
        have x0 := cell_later (thenB HBL.out HP.out.below) (Nat.le_refl _) y0
        have x1 := cell_later (thenB HBL.out HP.out.below) (Nat.le_refl _) y1
        have x2 := cell_later (thenB HBL.out HP.out.below) (Nat.le_refl _) y2
        have hgj := HG1.out (l1.getD j (0, 0, ⟨#[]⟩)) (by rw [getD_yes _ _ (by rw [HN.out]; exact hjn)]; exact List.getElem_mem _)
        obtain ⟨kd, nn, t, eat⟩ : ∃ kd nn t, l1.getD j (0, 0, ⟨#[]⟩) = (kd, nn, t) := ⟨_, _, _, rfl⟩
        rw [eat] at x0 x1 x2 hgj
        subst ea
        obtain ⟨wk, wa, wt⟩ := hgj
        have j1 : (0 : Int) ≤ (j : Int) := by omega
        have j2 : (j : Int) < (n : Int) := by omega
        clear y0 y1 y2 hcs eat wk
        go_wp2_with fail
        have hba := below1 wr (.cells #[.int .i64 kd, .int .i64 nn, .string t] 44)
        have HM : Hid (Pr wl.heap.size wl (wr.alloc (.cells #[.int .i64 kd, .int .i64 nn, .string t] 44)) pb p q s jv kv c a d) := (HP.out.md.later hba).pr
        have HOB : Hid (Ob (wr.alloc (.cells #[.int .i64 kd, .int .i64 nn, .string t] 44)) wr.heap.size kd nn t) := World.alloc_heap_new _ _
        obtain ⟨w3, hw3⟩ : ∃ w3, wr.alloc (.cells #[.int .i64 kd, .int .i64 nn, .string t] 44) = w3 := ⟨_, rfl⟩
        obtain ⟨o, ho⟩ : ∃ o, wr.heap.size = o := ⟨_, rfl⟩
        rw [hw3] at HM HOB ⊢
        rw [ho] at HOB ⊢
        have hst := step_any wl.heap.size wl w3.drew pb p q s jv kv c a d ((HM.out.md.later (Below.drew (Below.refl _ w3))).pr) kd nn t wa wt (by have := HL.out; omega)
        have o0 : w3.cell? ⟨o, 0, none⟩ = some (.int .i64 kd) := by have := HOB.out; unfold Ob at this; simp [World.cell?, this]
        have o1 := HOB.out.c1
        have o2 := HOB.out.c2
        clear hw3 ho hba x0 x1 x2 HP
        refine Till.region [2] (fun W => W.cell? ⟨o, 0, none⟩ = some (.int .i64 kd) ∧ W.cell? ⟨o, 1, none⟩ = some (.int .i64 nn) ∧ W.cell? ⟨o, 2, none⟩ = some (.string t)) (by kernel_rfl) ?_
        have hHeld : w3.drew.cell? ⟨o, 0, none⟩ = some (.int .i64 kd) ∧ w3.drew.cell? ⟨o, 1, none⟩ = some (.int .i64 nn) ∧ w3.drew.cell? ⟨o, 2, none⟩ = some (.string t) := ⟨o0, o1, o2⟩
        clear o0 o1 o2
        refine Till.takeFree (i := 0) (oi := { dst := some 46, op := Op.move (Operand.tmp 9), type := _, pos := _, after := _, guard := none }) (x := .pointer (some ⟨pb, 0, none⟩)) rfl (by decide) (by kernel_rfl) (by kernel_rfl) (by kernel_rfl) (fun _ _ _ h => h) (Or.inl ⟨by rfl, fun w _ => by go_simp⟩) hHeld ?_
        simp only [Act.put, List.setIfInBounds_toArray, List.set_cons_zero, List.set_cons_succ]
        refine Till.take (i := 1) 2 (oi := { dst := some 47, op := Op.load 44 (Operand.tmp 11), type := _, pos := _, after := _, guard := none }) (x := .agg #[.int .i64 kd, .int .i64 nn, .string t]) rfl (by decide) (by kernel_rfl) (by decide) (by kernel_rfl) (by kernel_rfl) (by kernel_rfl) (by kernel_rfl) (fun _ _ _ h => h) (Or.inl ⟨by rfl, fun w hSw => by (try dsimp only at hSw); go_simp⟩) hHeld ?_
        simp only [Act.put, List.setIfInBounds_toArray, List.set_cons_zero, List.set_cons_succ]
        refine Till.one (i := 2) (o := { dst := some 48, op := Op.call { callee := Callee.value (Operand.func 16), args := #[Operand.tmp 46, Operand.tmp 47], argTypes := _ }, type := _, pos := _, after := _, guard := none }) rfl (by kernel_rfl) (fun K hK => ?_)
        go_simp
        refine hst.mono ?_
        rintro e w5 ⟨rfl, hP5⟩
        obtain ⟨p5, q5, s5, jv5, kv5, c5, a5, d5, hP5, hL5, hO5⟩ := hP5
        have HP5 : Hid (Pr wl.heap.size wl w5 pb p5 q5 s5 jv5 kv5 c5 a5 d5) := hP5
        have HL5 : Hid (s5.log.length ≤ 4096 * (j + 1 + 1)) := by have := HL.out; show s5.log.length ≤ _; omega
        have hS5 : w5.cell? ⟨pb, 0, none⟩ = some (.pointer (some ⟨p5, 0, none⟩)) ∧ w5.cell? ⟨pb, 2, none⟩ = some (.pointer (some ⟨q5, 0, none⟩)) := ⟨hP5.blk.c0, hP5.blk.c2⟩
        have hon := two_on hP5.two
        have hron := two_rOn hP5.two
        obtain ⟨bo, ebo⟩ : ∃ bo, decide (s5.left ≠ 0) = bo := ⟨_, rfl⟩
        rw [ebo] at hon hron
        have hbb : (bo != bo) = false := by cases bo <;> rfl
        have d1 := hP5.blk.c1
        have d3 := hP5.blk.c3
        clear hP5 hL5 hO5 ebo hst
        go_wp2_with fail
        refine hK.out _ _ (fun h => absurd h (by rintro ⟨c, hc, he⟩; obtain rfl := List.mem_singleton.1 hc; cases he)) ?_
        clear hK K hHeld
        try simp only [Act.put, List.setIfInBounds_toArray, List.set_cons_zero, List.set_cons_succ]
        refine Till.rest (by kernel_rfl) ?_
        refine wpAny_take (i := 3) (oi := { dst := some 49, op := Op.unOp UnOp.not 4 (Operand.tmp 48), type := _, pos := _, after := _, guard := none }) (v := .bool false) rfl (by kernel_rfl) (by kernel_rfl) (by kernel_rfl) (fun _ _ _ h => h) (Or.inl ⟨by rfl, fun w => by go_simp⟩) ?_
        simp only [Act.put, List.setIfInBounds_toArray, List.set_cons_zero, List.set_cons_succ]
        refine wpAny_take (i := 4) (oi := { dst := some 50, op := Op.move (Operand.tmp 49), type := _, pos := _, after := _, guard := none }) (v := .bool false) rfl (by kernel_rfl) (by kernel_rfl) (by kernel_rfl) (fun _ _ _ h => h) (Or.inl ⟨by rfl, fun w => by go_simp⟩) ?_
        simp only [Act.put, List.setIfInBounds_toArray, List.set_cons_zero, List.set_cons_succ]
        refine wpAny_of_held (S := fun W => W.cell? ⟨pb, 0, none⟩ = some (.pointer (some ⟨p5, 0, none⟩)) ∧ W.cell? ⟨pb, 2, none⟩ = some (.pointer (some ⟨q5, 0, none⟩))) _ _ _ _ ?_
        refine wpAnyH_take (i := 5) (oi := { dst := some 51, op := Op.move (Operand.tmp 9), type := _, pos := _, after := _, guard := some (4, false) }) (v := .pointer (some ⟨pb, 0, none⟩)) rfl (by kernel_rfl) (by kernel_rfl) (by kernel_rfl) (fun _ _ _ h => h) (Or.inl ⟨by rfl, fun w hSw => by (try dsimp only at hSw); go_simp⟩) hS5 ?_
        simp only [Act.put, List.setIfInBounds_toArray, List.set_cons_zero, List.set_cons_succ]
        refine wpAnyH_take (i := 6) (oi := { dst := some 52, op := Op.nilCheck (Operand.tmp 51), type := _, pos := _, after := _, guard := some (4, false) }) (v := .pointer (some ⟨pb, 0, none⟩)) rfl (by kernel_rfl) (by kernel_rfl) (by kernel_rfl) (fun _ _ _ h => h) (Or.inl ⟨by rfl, fun w hSw => by (try dsimp only at hSw); go_simp⟩) hS5 ?_
        simp only [Act.put, List.setIfInBounds_toArray, List.set_cons_zero, List.set_cons_succ]
        refine wpAnyH_take (i := 7) (oi := { dst := some 53, op := Op.fieldAddr 42 (Operand.tmp 52) 0, type := _, pos := _, after := _, guard := some (4, false) }) (v := .pointer (some ⟨pb, 0, none⟩)) rfl (by kernel_rfl) (by kernel_rfl) (by kernel_rfl) (fun _ _ _ h => h) (Or.inl ⟨by rfl, fun w hSw => by (try dsimp only at hSw); go_simp⟩) hS5 ?_
        simp only [Act.put, List.setIfInBounds_toArray, List.set_cons_zero, List.set_cons_succ]
        refine wpAnyH_take (i := 8) (oi := { dst := some 54, op := Op.load _ (Operand.tmp 53), type := _, pos := _, after := _, guard := some (4, false) }) (v := .pointer (some ⟨p5, 0, none⟩)) rfl (by kernel_rfl) (by kernel_rfl) (by kernel_rfl) (fun _ _ _ h => h) (Or.inl ⟨by rfl, fun w hSw => by (try dsimp only at hSw); go_simp⟩) hS5 ?_
        simp only [Act.put, List.setIfInBounds_toArray, List.set_cons_zero, List.set_cons_succ]
        refine wpAnyH_take (i := 10) (oi := { dst := some 56, op := Op.move (Operand.tmp 9), type := _, pos := _, after := _, guard := some (4, false) }) (v := .pointer (some ⟨pb, 0, none⟩)) rfl (by kernel_rfl) (by kernel_rfl) (by kernel_rfl) (fun _ _ _ h => h) (Or.inl ⟨by rfl, fun w hSw => by (try dsimp only at hSw); go_simp⟩) hS5 ?_
        simp only [Act.put, List.setIfInBounds_toArray, List.set_cons_zero, List.set_cons_succ]
        refine wpAnyH_take (i := 11) (oi := { dst := some 57, op := Op.nilCheck (Operand.tmp 56), type := _, pos := _, after := _, guard := some (4, false) }) (v := .pointer (some ⟨pb, 0, none⟩)) rfl (by kernel_rfl) (by kernel_rfl) (by kernel_rfl) (fun _ _ _ h => h) (Or.inl ⟨by rfl, fun w hSw => by (try dsimp only at hSw); go_simp⟩) hS5 ?_
        simp only [Act.put, List.setIfInBounds_toArray, List.set_cons_zero, List.set_cons_succ]
        refine wpAnyH_take (i := 12) (oi := { dst := some 58, op := Op.fieldAddr 42 (Operand.tmp 57) 2, type := _, pos := _, after := _, guard := some (4, false) }) (v := .pointer (some ⟨pb, 2, none⟩)) rfl (by kernel_rfl) (by kernel_rfl) (by kernel_rfl) (fun _ _ _ h => h) (Or.inl ⟨by rfl, fun w hSw => by (try dsimp only at hSw); go_simp⟩) hS5 ?_
        simp only [Act.put, List.setIfInBounds_toArray, List.set_cons_zero, List.set_cons_succ]
        refine wpAnyH_take (i := 13) (oi := { dst := some 59, op := Op.load _ (Operand.tmp 58), type := _, pos := _, after := _, guard := some (4, false) }) (v := .pointer (some ⟨q5, 0, none⟩)) rfl (by kernel_rfl) (by kernel_rfl) (by kernel_rfl) (fun _ _ _ h => h) (Or.inl ⟨by rfl, fun w hSw => by (try dsimp only at hSw); go_simp⟩) hS5 ?_
        simp only [Act.put, List.setIfInBounds_toArray, List.set_cons_zero, List.set_cons_succ]
        refine wpAnyH_ready (rs := [9]) (by kernel_rfl) (by simp) ?_
        refine AllReadyH.cons (o := { dst := some 55, op := Op.call { callee := Callee.value (Operand.func 17), args := #[Operand.tmp 54], argTypes := _ }, type := _, pos := _, after := _, guard := some (4, false) }) rfl (fun K hK => ?_) AllReadyH.nil
        go_simp
        refine hon.mono ?_
        rintro e w6 ⟨rfl, h6⟩
        subst w6
        go_wp2_with fail
        refine hK.out _ _ hS5 (fun _ => ?_)
        clear hK K
        try simp only [Act.put, List.setIfInBounds_toArray, List.set_cons_zero, List.set_cons_succ]
        refine wpAnyH_ready (rs := [14]) (by kernel_rfl) (by simp) ?_
        refine AllReadyH.cons (o := { dst := some 60, op := Op.call { callee := Callee.value (Operand.func 18), args := #[Operand.tmp 59], argTypes := _ }, type := _, pos := _, after := _, guard := some (4, false) }) rfl (fun K hK => ?_) AllReadyH.nil
        go_simp
        refine hron.mono ?_
        rintro e w7 ⟨rfl, h6⟩
        subst w7
        go_wp2_with fail
        refine hK.out _ _ hS5 (fun _ => ?_)
        clear hK K
        try simp only [Act.put, List.setIfInBounds_toArray, List.set_cons_zero, List.set_cons_succ]
        refine wpAnyH_take (i := 15) (oi := { dst := some 61, op := Op.binOp BinOp.neq 4 (Operand.tmp 55) (Operand.tmp 60) 4, type := _, pos := _, after := _, guard := some (4, false) }) (v := .bool false) rfl (by kernel_rfl) (by kernel_rfl) (by kernel_rfl) (fun _ _ _ h => h) (Or.inl ⟨by rfl, fun w hSw => by (try dsimp only at hSw); go_simp⟩) hS5 ?_
        simp only [Act.put, List.setIfInBounds_toArray, List.set_cons_zero, List.set_cons_succ]
        refine wpAnyH_take (i := 16) (oi := { dst := some 62, op := Op.pick (Operand.tmp 50) (Operand.const (Value.bool true)) (Operand.tmp 61), type := _, pos := _, after := _, guard := none }) (v := .bool false) rfl (by kernel_rfl) (by kernel_rfl) (by kernel_rfl) (fun _ _ _ h => h) (Or.inl ⟨by rfl, fun w hSw => by (try dsimp only at hSw); go_simp⟩) hS5 ?_
        simp only [Act.put, List.setIfInBounds_toArray, List.set_cons_zero, List.set_cons_succ]
        refine wpAnyH_done (by kernel_rfl) ?_ _
        clear hon hron hbb hS5
        go_wp2_with fail
        have hjs := HP5.out.js
        rcases hjs with ⟨rfl, rfl⟩ | ⟨j5, k5, rfl, rfl, nj, nk, hjn5, hjr5, ha5, hc5⟩
        · go_quiet (fail)
          go_wp2
          go_roundw
          case rel => exact ⟨j + 1, by omega, by go_num, _, _, _, _, _, _, _, _, (HP5.out.md.later (below_drewN (Below.refl _ _) _)).pr, HL5.out⟩
          case measure => simp [intOf]; omega
        · have hct := fun nq => count_any (w5.drewN nq) j5 p5 c5 a5 d5 (hjn5.later (below_drewN (Below.refl _ _) _))
          have hen := fun nq => end_any (w5.drewN nq) j5 p5 c5 a5 d5 (hjn5.later (below_drewN (Below.refl _ _) _))
          have r1 := hjr5.c1
          have r2 := hjr5.c2
          have q1 : ((c5 : Int) != (c5 : Int)) = false := by simp
          have q2 : ((a5 : Int) != (a5 : Int)) = false := by simp
          clear hjn5 hjr5
          go_quiet (first
            | (go_at_call 19; exact Calls.quiet_of_same (hct _))
            | (go_at_call 20; exact Calls.quiet_of_same (hen _)))
          go_wp2
          go_roundw
          case rel => exact ⟨j + 1, by omega, by go_num, _, _, _, _, _, _, _, _, (HP5.out.md.later (below_drewN (Below.refl _ _) _)).pr, HL5.out⟩
          case measure => simp [intOf]; omega
      · have hjk' : decide ((j : Int) < (n : Int)) = false := by simp; omega
        obtain ⟨T, hT⟩ : ∃ T, (im s.bl).length = T := ⟨_, rfl⟩
        have hT2 : T ≤ 2048 := by rw [← hT, im_length]; exact top_le _
        obtain ⟨L, hL⟩ : ∃ L, s.log.length = L := ⟨_, rfl⟩
        have hl3 : L ≤ 5864062014805 := by have := HL.out; omega
        have HI : Hid _ := two_image HP.out.two (by omega) hT
        have HRI : Hid _ := two_rImage HP.out.two hT
        have HW : Hid _ := two_writes HP.out.two (by omega) hL
        obtain ⟨aL, cL, hLg⟩ := two_log HP.out.two hL
        have HC : Hid (∀ W, Below wr.heap.size wr W → (W.cell? ⟨pb, 0, none⟩ = some (.pointer (some ⟨p, 0, none⟩)) ∧ W.cell? ⟨pb, 2, none⟩ = some (.pointer (some ⟨q, 0, none⟩)) ∧ W.cell? ⟨q, 2, none⟩ = some (.slice aL L cL)) ∧ RdW W aL s.log) := fun W hb => ⟨⟨(HP.out.blk.later hb).c0, (HP.out.blk.later hb).c2, (hLg W hb).1⟩, (hLg W hb).2⟩
        have HS : Hid _ := same_n hT (by omega)
        have HSW : Hid _ := sameW_n hL (by omega)
        have HBD : Hid (Below wr.heap.size wr wr.drew) := (Below.refl _ wr).drew
        obtain ⟨c0', c2', c3'⟩ := (HC.out wr (Below.refl _ _)).1
        clear hLg hT hL
        go_wp2_with fail
        go_region_held3 (fun W => W.cell? ⟨pb, 0, none⟩ = some (.pointer (some ⟨p, 0, none⟩)) ∧ W.cell? ⟨pb, 2, none⟩ = some (.pointer (some ⟨q, 0, none⟩)) ∧ W.cell? ⟨q, 2, none⟩ = some (.slice aL L cL))
          (first | exact (HC.out _ HB7.out).1 | exact (HC.out _ HB6.out).1 | exact (HC.out _ HB5.out).1 | exact (HC.out _ HB4.out).1 | exact (HC.out _ HB3.out).1 | exact (HC.out _ HBD.out).1)
          (first
          | (go_at_call 10; refine (HS.out _ _ _ _ _ HR5.out HR6.out).mono ?_; rintro e w7 ⟨rfl, hb7⟩; have HB7 : Hid (Below wr.heap.size wr w7) := thenB HB6.out hb7; clear hb7)
          | (go_at_call 24; refine (HRI.out _ HB5.out).mono ?_; rintro e w6 ⟨a6, cp6, rfl, hr6, hb6, hbb6⟩; have HR6 : Hid (RdS w6 a6 (im s.bl)) := hr6; have HR5 : Hid (RdS w6 a5 (im s.bl)) := HR5.out.later hbb6; have HB6 : Hid (Below wr.heap.size wr w6) := hb6; clear hr6 hb6 hbb6)
          | (go_at_call 23; refine (HI.out _ HB4.out).mono ?_; rintro e w5 ⟨a5, cp5, rfl, hr5, hb5, hbb5⟩; have HR5 : Hid (RdS w5 a5 (im s.bl)) := hr5; have HB5 : Hid (Below wr.heap.size wr w5) := hb5; clear hr5 hb5 hbb5)
          | (go_at_call 21; refine (HSW.out _ _ _ _ _ HR3.out (HC.out _ HB3.out).2).mono ?_; rintro e w4 ⟨rfl, hb4⟩; have HB4 : Hid (Below wr.heap.size wr w4) := thenB HB3.out hb4; clear hb4)
          | (go_at_call 22; refine (HW.out _ HBD.out).mono ?_; rintro e w3 ⟨a3, cp3, rfl, hr3, hb3, hbb3⟩; have HR3 : Hid (RdW w3 a3 s.log) := hr3; have HB3 : Hid (Below wr.heap.size wr w3) := hb3; clear hr3 hb3 hbb3))
        all_goals go_wp2
        all_goals go_ret
        all_goals exact ⟨rfl, thenB HBL.out (thenB HP.out.below HB7.out)⟩
theorem own : ownKnob Try.prog.godebug = none := by kernel_rfl
theorem laidOut : laidOutB Try.prog = true := by kernel_rfl
set_option maxRecDepth 100000 in
theorem contract (H : Type) (enc : TypeId × Value → H) (W : World) (base : Nat) (args : Array Value) (ds gs : List (DataW H)) (before : List MemPlace)
    (hval : ∀ (j : Nat) t v, Try.f4.params[j]? = some t → args[j]? = some v → Value.okWide Try.prog W .any base t v)
    (hW : DataW.Whole enc Try.prog Try.f4.params.toList Rows.journalPlaysSpec.vars false W args.toList ds gs before) (hk : Rows.uptoSmall H (ds ++ gs) = true) :
    Calls Try.prog 4 args W fun e W' => ∃ v, e = .returned v ∧ Rows.journalPlaysSpec.post enc Try.prog Try.f4 false true false false W args v W' := by
  have hW' := hW
  obtain ⟨p, q, hA0, hV, rfl, hfz, hnd⟩ := hW
  have hA : DataW.TrodAll enc Try.prog W 0 (fun _ => true) true Try.f4.params.toList args.toList ds p := hA0
  rw [Try.params4] at hA hval
  obtain ⟨v0, vs0, d0, ds0, p0, q0, hargs, rfl, rfl, h0, r0⟩ := trodAll_cons hA
  obtain ⟨v1, vs1, d1, ds1, p1, q1, rfl, rfl, rfl, h1, r1⟩ := trodAll_cons r0
  obtain ⟨rfl, rfl, rfl⟩ := trodAll_nil r1
  obtain rfl : args = #[v0, v1] := by cases args; simp_all
  obtain ⟨rfl, rfl⟩ := trodVars_none hV
  have hk2 : Rows.uptoSmall H [d0, d1] = true := by simpa using hk
  have hb : Rows.uptoBulkAll [d0, d1] ≤ 1048576 := of_decide_eq_true hk2
  simp only [Rows.uptoBulkAll] at hb
  have k0 := h0
  have lt0 : ∀ x ∈ p0, x.block < W.heap.size := by obtain ⟨m, hm⟩ := k0; exact DataW.trod_lt m _ _ _ hm
  obtain ⟨a0, c0, l0, rfl, rd0, hl0, hn0, hg0⟩ := strsU_of (by omega) (okWide_slice Try.underlying22 (hval 0 22 v0 rfl rfl)) h0
  have k1 := h1
  have lt1 : ∀ x ∈ p1, x.block < W.heap.size := by obtain ⟨m, hm⟩ := k1; exact DataW.trod_lt m _ _ _ hm
  obtain ⟨a1, c1, l1, rfl, rd1, hl1, hn1, hg1⟩ := opsU_of (by omega) (okWide_slice Try.underlying28 (hval 1 28 v1 rfl rfl)) h1
  clear hA0
  refine (walk a0 c0 l0 a1 c1 l1 W rd0 hl0 hn0 hg0 rd1 hl1 hn1 hg1).mono fun e W' ⟨he, bel⟩ => ?_
  subst he
  exact ⟨_, rfl, _, _, _, [], _, [], hW', trodAll_mk1 (shut_bool Try.underlying4 _), (trodAll_cons_mk (Below.trod laidOut (by kernel_rfl) (of_decide_eq_true (by kernel_rfl)) k0 bel lt0) (trodAll_cons_mk (Below.trod laidOut (by kernel_rfl) (of_decide_eq_true (by kernel_rfl)) k1 bel lt1) trodAll_mk0)), rfl, bel.frame _, fun h => by cases h⟩
set_option maxRecDepth 100000 in
theorem lifted (os : Os) (started : os.Started) (H : Type) (enc : TypeId × Value → H) (F : Stop.Interp) :
    ReturnsInHanded {} Try.checked os 4 .any ((Rows.OpenSpec.upto Rows.journalPlaysSpec).pre6 enc Try.prog Try.f4 Rows.journalPlaysUptoRow.domain false) (((Rows.OpenSpec.upto Rows.journalPlaysSpec).at F).post enc Try.prog Try.f4 false true false false) := by
  refine returnsInHanded_of_cond (C := Try.checked) (s := Rows.OpenSpec.upto Rows.journalPlaysSpec) (k := Rows.uptoSmall) rfl own started (by kernel_rfl) Try.func4
    (OpenSpec.witness (enc := enc) (C := Try.checked) (s := Rows.OpenSpec.upto Rows.journalPlaysSpec) (k := Rows.uptoSmall) rfl false ⟨#[], #[.slice none 0 0, .slice none 0 0], []⟩ 8 (by kernel_rfl) (by kernel_rfl) (by kernel_rfl)
      (x := ([.nil, .nil], [], [])) (by kernel_rfl) rfl (by kernel_rfl)) ?_
  intro W base args ds gs before hval hW _ hk _
  exact contract H enc W base args ds gs before hval hW hk
theorem over : Rows.journalPlaysUptoRow.holds Try.pinned (Rows.OpenSpec.upto Rows.journalPlaysSpec) :=
  OpenClaim.holds_of_cond 4 Try.f4 rfl rfl rfl rfl rfl rfl rfl ⟨rfl, rfl, rfl, rfl, rfl⟩ rfl rfl rfl rfl rfl (by kernel_rfl) Try.func4 (by kernel_rfl)
    (of_decide_eq_true (by kernel_rfl)) (by unfold Func.isWrapper; first | (rw [if_pos (by decide +kernel)]; kernel_rfl) | (rw [if_neg (by decide +kernel)]; exact ⟨rfl, rfl⟩))
    (fun os started H enc _ F => lifted os started H enc F)
end Go.Proofs.Ytohgflimdoebiaa.Dk.journalPlays
namespace Go.Proofs.Ytohgflimdoebiaa
theorem journalPlays_holds : Rows.JournalPlaysUptoSaid := Dk.journalPlays.over
#print axioms journalPlays_holds
end Go.Proofs.Ytohgflimdoebiaa
