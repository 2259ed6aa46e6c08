/- Contracts: the reader's octet, key, seat, request, box, item. -/
import Derived.Test.YtdkfifnhmfbagaaWiR
namespace Go.Proofs.Ytdkfifnhmfbagaa.Wi
open Go.RowKit Go.Maps
open Bt (Rr Kept tb bys tb_length bys_length)
open Rt (gd)
set_option linter.unusedVariables false
set_option linter.unusedSimpArgs false

theorem pi_yes {q v c c1 : Nat} {T : List Bool} (h : pn q T c = some (v, c1)) : pi q T c = some ((v : Int), c1) := pm_yes h
theorem pi_no {q c : Nat} {T : List Bool} (h : pn q T c = none) : pi q T c = none := pm_no h
set_option maxRecDepth 100000 in
theorem octet_any (g : Nat) (s : ByteArray) (c : Nat) (w : World) (h : Rr w g c s) (hs : s.size < 1125899906842624) :
    Calls Try.prog 82 #[.agg #[.pointer (some ⟨g, 0, none⟩)] ] w fun e w' => RO g s w w' e ((pn 8 (tb (bys s)) c).map fun p => (.int .u8 (p.1 : Int), p.2)) := by
  have hb := RB.new1 h
  have hp := number_any g s 8 c (w.alloc (.cells #[.pointer (some ⟨g, 0, none⟩)] 68)) hb.rr hs (by omega) (by omega)
  have HB : Hid (RB g s w (w.alloc (.cells #[.pointer (some ⟨g, 0, none⟩)] 68)) c w.heap.size w.heap.size (.cells #[.pointer (some ⟨g, 0, none⟩)] 68)) := hb
  clear hb h hs
  cases hn : pn 8 (tb (bys s)) c with
  | none =>
    rw [hn] at hp
    clear hn
    go_enter Try.func82, Try.ntmps82
    go_wp2_with fail
    refine hp.mono ?_
    rintro e w2 ⟨rfl, hk2⟩
    have HK : Hid (Kept (fun k => k = g) w w2) := HB.out.gone hk2
    clear hk2 hp
    go_wp2_with fail
    exact ⟨rfl, rfl, HK.out⟩
  | some p =>
    obtain ⟨v, c1⟩ := p
    have hv := pn_lt hn
    rw [hn] at hp
    clear hn
    dsimp only [Option.map] at hp ⊢
    have hwv : IntKind.u8.wrap (v : Int) = (v : Int) := by simp [IntKind.wrap, IntKind.bits, IntKind.signed]; omega
    go_enter Try.func82, Try.ntmps82
    go_wp2_with fail
    refine hp.mono ?_
    rintro e w2 ⟨rfl, hr2, hk2⟩
    have HR : Hid (Rr w2 g c1 s ∧ Kept (fun k => k = g) w w2) := ⟨hr2, HB.out.gone hk2⟩
    clear hr2 hk2 hp
    go_wp2_with fail
    go_ret
    exact ⟨rfl, HR.out.1, HR.out.2⟩
set_option maxRecDepth 100000 in
theorem key_any (g : Nat) (s : ByteArray) (c : Nat) (w : World) (h : Rr w g c s) (hs : s.size < 1125899906842624) :
    Calls Try.prog 80 #[.agg #[.pointer (some ⟨g, 0, none⟩)] ] w fun e w' => RO g s w w' e ((pK (tb (bys s)) c).map fun p => (.agg (stl p.1).toArray, p.2)) := by
  have hb := RB.new2 h (.cells #[.int .i64 0, .int .i64 0] 29)
  have HS : Hid (s.size < 1125899906842624) := hs
  clear h hs
  obtain ⟨r, hr⟩ : ∃ r, (pK (tb (bys s)) c).map (fun p => (Value.agg (stl p.1).toArray, p.2)) = r := ⟨_, rfl⟩
  have HR : Hid ((pK (tb (bys s)) c).map (fun p => (Value.agg (stl p.1).toArray, p.2)) = r) := hr
  rw [hr]
  clear hr
  go_enter Try.func80, Try.ntmps80
  go_upto_region 1 with (fail)
  generalize (w.alloc (.cells #[.pointer (some ⟨g, 0, none⟩)] 68)).alloc (.cells #[.int .i64 0, .int .i64 0] 29) = w1 at *
  obtain ⟨D, hD⟩ : ∃ D, w.heap.size + 1 = D := ⟨_, rfl⟩
  rw [hD] at hb ⊢
  obtain ⟨C, hC⟩ : ∃ C, w.heap.size = C := ⟨_, rfl⟩
  have HCD : Hid (D ≠ C) := by unfold Hid; omega
  rw [hC] at hb ⊢
  clear hD hC
  have c0 : w1.cell? ⟨C, 0, none⟩ = some (.pointer (some ⟨g, 0, none⟩)) := cell_of_row w1 C 0 _ _ _ hb.hc
  have hp := number_any g s 24 c w1 hb.rr HS.out (by omega) (by omega)
  have HB : Hid (RB g s w w1 c C D (.cells #[.int .i64 0, .int .i64 0] 29)) := hb
  clear hb
  cases hn : pn 24 (tb (bys s)) c with
  | none =>
    rw [hn] at hp
    have HN : Hid (r = none) := by unfold Hid; rw [← HR.out]; unfold pK; rw [hn]; rfl
    clear hn
    go_wp2_with fail
    refine hp.mono ?_
    rintro e w2 ⟨rfl, hk2⟩
    have HK : Hid (Kept (fun k => k = g) w w2) := HB.out.gone hk2
    clear hk2 hp
    go_wp2_with fail
    exact ⟨rfl, by rw [HN.out]; exact ⟨rfl, HK.out⟩⟩
  | some p =>
    obtain ⟨v, c1⟩ := p
    have hv := pn_lt hn
    rw [hn] at hp
    dsimp only [Option.map] at hp
    have hwv : IntKind.u32.wrap (v : Int) = (v : Int) := by simp [IntKind.wrap, IntKind.bits, IntKind.signed]; omega
    have e1 : (v : Int) / 256 = ((v / 256 : Nat) : Int) := by omega
    have e2 : (v : Int) % 256 = ((v % 256 : Nat) : Int) := by omega
    cases hg : gK (((v / 256 : Nat) : Int), ((v % 256 : Nat) : Int)) with
    | false =>
      have hu := Rt.unpack_no (v : Int) (by omega) (by omega) (by rw [e1, e2]; intro hG; have := Rt.gd_yes hG; unfold gK at hg; dsimp only at hg; rw [hg] at this; cases this)
      have HN : Hid (r = none) := by unfold Hid; rw [← HR.out]; unfold pK; rw [hn]; dsimp only; rw [if_neg (by rw [hg]; simp)]; rfl
      clear hn hg e1 e2
      go_wp2_with fail
      refine hp.mono ?_
      rintro e w2 ⟨rfl, hr2, hk2⟩
      have HB2 : Hid (RB g s w w2 c1 C D (.cells #[.int .i64 0, .int .i64 0] 29)) := HB.out.next hr2 hk2
      clear hr2 hk2 hp HB c0
      go_wp2_with fail
      refine (hu _).mono ?_
      rintro e w3 ⟨rfl, hw3⟩
      have HB3 : Hid (RB g s w w3 c1 C D (.cells #[.int .i64 0, .int .i64 0] 29)) := HB2.out.later (by rw [hw3]; exact Below.plus (Below.plus (below_alloc _ _) _) _)
      clear hw3 hu HB2
      go_wp2_with fail
      refine (giveUp_any _).mono ?_
      rintro e w4 ⟨rfl, rfl⟩
      go_wp2_with fail
      exact ⟨rfl, by rw [HN.out]; exact ⟨rfl, HB3.out.kp.alloc _⟩⟩
    | true =>
      have hu := Rt.unpack_yes (v : Int) (by omega) (by omega) (by rw [e1, e2]; have := gK_iff.1 hg; unfold Rt.Gd; dsimp only at this; omega)
      rw [e1, e2] at hu
      have HN : Hid (r = some (.agg #[.int .i64 ((v / 256 : Nat) : Int), .int .i64 ((v % 256 : Nat) : Int)], c1)) := by unfold Hid; rw [← HR.out]; unfold pK; rw [hn]; dsimp only; rw [if_pos hg]; rfl
      generalize ((v / 256 : Nat) : Int) = x at *
      generalize ((v % 256 : Nat) : Int) = y at *
      clear hn hg e1 e2
      go_wp2_with fail
      refine hp.mono ?_
      rintro e w2 ⟨rfl, hr2, hk2⟩
      have HB2 : Hid (RB g s w w2 c1 C D (.cells #[.int .i64 0, .int .i64 0] 29)) := HB.out.next hr2 hk2
      clear hr2 hk2 hp HB c0
      go_wp2_with fail
      refine (hu _).mono ?_
      rintro e w3 ⟨rfl, hw3⟩
      have HB3 : Hid (RB g s w w3 c1 C D (.cells #[.int .i64 0, .int .i64 0] 29)) := HB2.out.later (by rw [hw3]; exact Below.plus (Below.plus (below_alloc _ _) _) _)
      clear hw3 hu HB2
      go_upto_region 2 with (fail)
      have hb4 := HB3.out.later (below_alloc w3 (.cells #[.int .i64 x, .int .i64 y] 29))
      have hE := heap_alloc_last w3 (.cells #[.int .i64 x, .int .i64 y] 29)
      generalize w3.alloc (.cells #[.int .i64 x, .int .i64 y] 29) = w4 at *
      generalize w3.heap.size = E at *
      have k0 : w4.cell? ⟨E, 0, none⟩ = some (.int .i64 x) := cell_of_row w4 E 0 _ _ _ hE
      have k1 : w4.cell? ⟨E, 1, none⟩ = some (.int .i64 y) := cell_of_row w4 E 1 _ _ _ hE
      have HB4 : Hid (RB g s w w4 c1 C D (.cells #[.int .i64 0, .int .i64 0] 29)) := hb4
      clear hb4 hE HB3
      go_wp2_with (refine stW szKey HB4.out.hd rfl [.int .i64 x, .int .i64 y] rfl rfl rfl _ _ rfl rfl rfl ?_)
      have hb5 := HB4.out.setRow #[.int .i64 x, .int .i64 y] HCD.out
      refine bodyPost_ret (res1 (T := 29) (p := 2) rfl _ _ D #[.int .i64 x, .int .i64 y] rfl (run_loadVar_row _ D _ 29 _ _ _ hb5.hd Try.underlying29 rfl szKey)) rfl ?_
      rw [HN.out]
      exact ⟨rfl, hb5.rr, hb5.kp⟩
end Go.Proofs.Ytdkfifnhmfbagaa.Wi
