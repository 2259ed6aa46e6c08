/- For every payload and all places: of a frame's pieces none may lack, stand twice, or change places. No conditions. -/
import Derived.Test.YtoohoapbcdekgaaRows
import Derived.Test.YtoohoapbcdekgaaFrQ
import Derived.BigQuiet
import Derived.BigRegion
import Derived.Deep.QuietTactic
import Derived.WalkSmall
import Derived.OpenShut
import Derived.SizedLaws
import Derived.ChangeMaps5
namespace Go.Proofs.Ytoohoapbcdekgaa.frameBroken
open Go.ChangeShapes Go.WideShapes Go.ChangeAt Go.RowKit Go.Maps
set_option linter.unusedVariables false
set_option linter.unusedSimpArgs false

def sp (w : World) (g i : Nat) (q p m : Int) (d : ByteArray) : World := ((((w.setCell ⟨g, i * 4, none⟩ (.int .i64 q)).setCell ⟨g, i * 4 + 1, none⟩ (.int .i64 p)).setCell ⟨g, i * 4 + 2, none⟩ (.int .i64 m)).setCell ⟨g, i * 4 + 3, none⟩ (.string d))
theorem row_drew {w : World} {B e z n : Nat} {v : Value} {xs : List Value} (h : w.ownsRow B e z v n xs) : w.drew.ownsRow B e z v n xs := h
theorem row_setP {w : World} {B n g cap : Nat} {L : List Pc} (h : w.ownsRow B 23 4 (.slice (some ⟨g, 0, none⟩) n cap) n (cellsP L)) (i : Nat) (hi : i < L.length) (q p m : Int) (d : ByteArray) :
    (sp w g i q p m d).ownsRow B 23 4 (.slice (some ⟨g, 0, none⟩) n cap) n (cellsP (L.set i ⟨q, p, m, d⟩)) := by
  have h1 := (h.stored (i * 4) (.int .i64 q)).1
  have h2 := (h1.stored (i * 4 + 1) (.int .i64 p)).1
  have h3 := (h2.stored (i * 4 + 2) (.int .i64 m)).1
  have h4 := (h3.stored (i * 4 + 3) (.string d)).1
  rw [cellsP_set L ⟨q, p, m, d⟩ i hi] at h4
  exact h4
theorem kept_setP {w0 w : World} {g : Nat} (h : Kept (fun j => j = g) w0 w) (i : Nat) (q p m : Int) (d : ByteArray) :
    Kept (fun j => j = g) w0 (sp w g i q p m d) :=
  (((h.setCell (p := ⟨g, i * 4, none⟩) (fun _ => rfl) _).setCell (p := ⟨g, i * 4 + 1, none⟩) (fun _ => rfl) _).setCell (p := ⟨g, i * 4 + 2, none⟩) (fun _ => rfl) _).setCell (p := ⟨g, i * 4 + 3, none⟩) (fun _ => rfl) _
theorem gs5 : gs 5 = true := by decide
set_option maxHeartbeats 1000000 in
set_option maxRecDepth 100000 in
theorem walk_long (s : ByteArray) (a1 a2 : Int) (w : World) (h : ¬ s.size ≤ 5865) (hs : s.size ≤ 281474976710656) :
    Calls Try.prog 8 #[.string s, .int .i64 a1, .int .i64 a2] w fun e w' => e = .returned (.bool true) ∧ Below w.heap.size w w' := by
  have hp := fun W => pieces_long 5 s W gs5 h hs
  obtain ⟨z, hz⟩ : ∃ z, s.size = z := ⟨_, rfl⟩
  have h1 : (5865 : Int) < (z : Int) := by omega
  have h2 : decide ((z : Int) ≤ 23) = false := by simp; omega
  clear h hs
  go_enter Try.func8, Try.ntmps8
  go_wp2_with fail
  refine (lives_any _).mono ?_
  rintro e w1 ⟨rfl, hb1⟩
  go_wp2_with fail
  refine (hp _).mono ?_
  rintro e w2 ⟨rfl, hb2⟩
  go_wp2_with fail
  go_ret
  exact ⟨rfl, Below.then hb1 hb2⟩
set_option maxHeartbeats 1000000 in
set_option maxRecDepth 100000 in
theorem walk_short (s : ByteArray) (a1 a2 : Int) (w : World) (h : s.size ≤ 23) :
    Calls Try.prog 8 #[.string s, .int .i64 a1, .int .i64 a2] w fun e w' => e = .returned (.bool true) ∧ Below w.heap.size w w' := by
  have hp := fun W => pieces_yes 5 s W gs5 (by omega)
  obtain ⟨z, hz⟩ : ∃ z, s.size = z := ⟨_, rfl⟩
  have h1 : decide ((5865 : Int) < (z : Int)) = false := by simp; omega
  have h2 : (z : Int) ≤ 23 := by omega
  clear h
  go_enter Try.func8, Try.ntmps8
  go_wp2_with fail
  refine (lives_any _).mono ?_
  rintro e w1 ⟨rfl, hb1⟩
  go_wp2_with fail
  refine (hp _).mono ?_
  rintro e w2 ⟨v, rfl, hrow, hb2⟩
  clear hrow hp
  go_wp2_with fail
  go_ret
  exact ⟨rfl, Below.then hb1 hb2⟩
theorem mod_any (x : Int) (n : Nat) (hn : 2 ≤ n) (h : n ≤ 255) : ∃ A : Nat, (IntKind.u64.wrap x).tmod (n : Int) = (A : Int) ∧ A < n := by
  have h0 : 0 ≤ IntKind.u64.wrap x := by simp only [IntKind.wrap_u64]; omega
  have h1 : 0 ≤ IntKind.u64.wrap x % (n : Int) := Int.emod_nonneg _ (by omega)
  have h2 : IntKind.u64.wrap x % (n : Int) < (n : Int) := Int.emod_lt_of_pos _ (by omega)
  refine ⟨(IntKind.u64.wrap x % (n : Int)).toNat, ?_, by omega⟩
  rw [Int.tmod_eq_emod_of_nonneg h0]
  omega
set_option maxHeartbeats 4000000 in
set_option maxRecDepth 100000 in
theorem walk_some (s : ByteArray) (a1 a2 : Int) (w : World) (h : s.size ≤ 5865) (h23 : 23 < s.size) :
    Calls Try.prog 8 #[.string s, .int .i64 a1, .int .i64 a2] w fun e w' => e = .returned (.bool true) ∧ Below w.heap.size w w' := by
  have hp := fun W => pieces_yes 5 s W gs5 h
  have hwh := wh_pcs 5 s gs5 h
  obtain ⟨e1, n1, n2, n3, n4⟩ := np_spec s.size h
  have hlp : (pcs 5 s).length = np s.size := pcs_length 5 s
  have n2' : 2 ≤ np s.size := by omega
  obtain ⟨n, hn⟩ : ∃ n, np s.size = n := ⟨_, rfl⟩
  obtain ⟨P, hP⟩ : ∃ P, pcs 5 s = P := ⟨_, rfl⟩
  simp only [hP] at hp
  rw [hP] at hwh hlp
  rw [hn] at hlp n2 n2'
  have HWH : Hid (Wh P) := hwh
  have HLP : Hid (P.length = n) := hlp
  obtain ⟨z, hz⟩ : ∃ z, s.size = z := ⟨_, rfl⟩
  have f1 : decide ((5865 : Int) < (z : Int)) = false := by simp; omega
  have f2 : decide ((z : Int) ≤ 23) = false := by simp; omega
  have f3 : decide ((n : Int) < 2) = false := by simp; omega
  obtain ⟨A, hA, hAn⟩ := mod_any a1 n n2' n2
  obtain ⟨B, hB, hBn⟩ := mod_any a2 n n2' n2
  obtain ⟨u, hu⟩ : ∃ u, IntKind.u64.wrap a1 = u := ⟨_, rfl⟩
  obtain ⟨v, hv⟩ : ∃ v, IntKind.u64.wrap a2 = v := ⟨_, rfl⟩
  rw [hu] at hA
  rw [hv] at hB
  have m1 : IntKind.u64.wrap (n : Int) = (n : Int) := by rw [IntKind.wrap_u64]; omega
  have m2 : IntKind.u64.wrap (A : Int) = (A : Int) := by rw [IntKind.wrap_u64]; omega
  have m3 : IntKind.u64.wrap (B : Int) = (B : Int) := by rw [IntKind.wrap_u64]; omega
  have m4 : IntKind.i64.wrap (A : Int) = (A : Int) := Bt.wrap_fit _ (by omega) (by omega)
  have m5 : IntKind.i64.wrap (B : Int) = (B : Int) := Bt.wrap_fit _ (by omega) (by omega)
  have m6 : ¬ (n : Int) = 0 := by omega
  have m7 : ((n : Int) == 0) = false := by simp; omega
  clear e1 n1 n3 n4 hwh hlp hn hP h h23
  go_enter Try.func8, Try.ntmps8
  go_wp2_with fail
  refine (lives_any _).mono ?_
  rintro e w1 ⟨rfl, hb1⟩
  go_wp2_with fail
  refine (hp _).mono ?_
  rintro e w2 ⟨v2, rfl, hrow2, hb2⟩
  unfold RwP at hrow2
  rw [HLP.out] at hrow2
  obtain ⟨r2, cap2, rfl⟩ : ∃ r cap, v2 = .slice (some ⟨r, 0, none⟩) n cap := by
    rcases hrow2.2 with ⟨_, h0⟩ | ⟨r, cap, cur, hv, _⟩
    · omega
    · exact ⟨r, cap, hv⟩
  have HR2 : Hid (w2.ownsRow w1.heap.size 23 4 (.slice (some ⟨r2, 0, none⟩) n cap2) n (cellsP P)) := hrow2
  have hc2 : n ≤ cap2 := by
    rcases hrow2.2 with ⟨h0, _⟩ | ⟨g', cap', cur, hv, hb, hh, h1, _⟩
    · cases h0
    · cases hv; exact h1
  obtain ⟨l21, l22⟩ := hrow2.lt r2 rfl
  have HB2 : Hid (Below w.heap.size w w2) := Below.then hb1 hb2
  have hs1 := hb1.size
  clear hrow2 hb1 hb2 hp
  go_wp2_with fail
  go_quiet (fail)
  have hbq : Below w2.heap.size w2 (w2.drewN nq) := below_drewN (Below.refl _ _) _
  have HRa : Hid ((w2.drewN nq).ownsRow w1.heap.size 23 4 (.slice (some ⟨r2, 0, none⟩) n cap2) n (cellsP P)) := row_later HR2.out hbq
  have HBa : Hid (Below w.heap.size w (w2.drewN nq)) := Below.then HB2.out hbq
  have l23 : r2 < (w2.drewN nq).heap.size := Nat.lt_of_lt_of_le l22 hbq.size
  have HPa : Hid (RdP (w2.drewN nq) (some ⟨r2, 0, none⟩) P) := RwP.rd (N := w1.heap.size) (n := n) (cap := cap2) (by unfold RwP; rw [HLP.out]; exact HRa.out)
  generalize w2.drewN nq = wa at hbq HRa HBa l23 HPa ⊢
  have hsa := HBa.out.size
  clear HR2 HB2 l22 hbq hA hB hu hv m1 m2 m3 m6 m7 hz f1 f2 f3
  have HK1 : Hid (∀ o w', (wa.alloc o).drew.grownBy w' (some wa.heap.size) → RdP w' (some ⟨r2, 0, none⟩) P) := fun o w' hg => HPa.out.kept (F := fun j => j = wa.heap.size) ((Kept.drew ((Kept.refl _ wa).alloc o)).grown hg (fun j hj _ => by cases hj; rfl)) (fun b o' e hbr => by cases e; have hbr' : r2 = wa.heap.size := hbr; omega)
  have x1 : (0 : Int) ≤ (A : Int) := by omega
  have x2 : (A : Int) ≤ (cap2 : Int) := by omega
  have x3 : A ≤ cap2 := by omega
  have x4 : IntKind.i64.wrap ((A : Int) + 1) = (A : Int) + 1 := Bt.wrap_fit _ (by omega) (by omega)
  have x5 : (0 : Int) ≤ (A : Int) + 1 := by omega
  have x6 : (A : Int) + 1 ≤ (n : Int) := by omega
  have x7 : ((A : Int) + 1).toNat = A + 1 := by omega
  have x8 : (n : Int) ≤ (cap2 : Int) := by omega
  have x9 : (A : Int) + 1 ≤ (cap2 : Int) := by omega
  have x10 : A + 1 ≤ n := by omega
  have x11 : A + 1 ≤ cap2 := by omega
  by_cases hcp : A + 1 < cap2
  · have y1 : ¬ cap2 = A + 1 := by omega
    have y2 : ¬ A + 1 = cap2 := by omega
    have y3 : (A : Int) + 1 < (cap2 : Int) := by omega
    go_wp2_with fail
    go_region_held3 (fun _ => True) (trivial) (first | (refine step_part (by rfl) _ _ (by rfl) wa.heap.size (.slice (some ⟨g4, 0, none⟩) (0 + A) cap4) (0 + A) _ (by rfl) (fun e => by cases e) hown4 ⟨r2, 0 + (A + 1) * 4, none⟩ (n - (A + 1)) (cap2 - (A + 1)) (P.drop (A + 1)) (by rw [List.length_drop, HLP.out]) (by simp [go_sem]) ((HK1.out _ _ hgrow4).part (A + 1)) (by omega) (by have := hgrow4.size; simp at this; omega) ?_; intro g5 cap5 w5 hown5 hgrow5) | (refine step_part (by rfl) _ _ (by rfl) wa.heap.size (.slice (some ⟨wa.heap.size, 0, none⟩) 0 0) 0 [] (by rfl) (fun e => by cases e) (by exact row_empty wa 23 4) _ A _ (P.take A) (by rw [List.length_take, HLP.out]; omega) (by rfl) ((HPa.out.later (Below.drew (below1 wa _))).front A) (by omega) (by simp) ?_; intro g4 cap4 w4 hown4 hgrow4))
    have hk1 : 0 + A + (n - (A + 1)) = n - 1 := by omega
    have hk1' : A + (n - (A + 1)) = n - 1 := by omega
    have HL5 : Hid ((P.take A ++ P.drop (A + 1)).length = n - 1) := by unfold Hid; rw [List.length_append, List.length_take, List.length_drop, HLP.out]; omega
    have HR5 : Hid (w5.ownsRow wa.heap.size 23 4 (.slice (some ⟨g5, 0, none⟩) (n - 1) cap5) (n - 1) (cellsP (P.take A ++ P.drop (A + 1)))) := by
      have h := hown5
      rw [hk1, List.nil_append] at h
      exact h
    have hb4 : Below wa.heap.size wa w4 := (Below.drew (below1 wa _)).grown hgrow4 (by simp) (fun j hj => by cases hj; exact Nat.le_refl _)
    have hb5 : Below wa.heap.size wa w5 := hb4.grown hgrow5 hb4.size (fun j hj => (hown4.lt j hj).1)
    have HB5 : Hid (Below w.heap.size w w5) := Below.then HBa.out hb5
    have HP5 : Hid (RdP w5 (some ⟨r2, 0, none⟩) P) := HPa.out.later hb5
    have HD5 : Hid (RdP w5 (some ⟨g5, 0, none⟩) (P.take A ++ P.drop (A + 1))) := RwP.rd (N := wa.heap.size) (n := n - 1) (cap := cap5) (by unfold RwP; rw [HL5.out]; exact HR5.out)
    have hs5 : wa.heap.size ≤ w5.heap.size := hb5.size
    have l25 : r2 < w5.heap.size := by omega
    rw [hk1']
    obtain ⟨k1, ek1⟩ : ∃ k1, n - 1 = k1 := ⟨_, rfl⟩
    rw [ek1] at HL5 HR5 ⊢
    clear hown4 hgrow4 hown5 hgrow5 hk1 hk1' hb4 hb5 HK1 HPa HRa
    have HK2 : Hid (∀ o w', (w5.alloc o).drew.grownBy w' (some w5.heap.size) → RdP w' (some ⟨r2, 0, none⟩) P) := fun o w' hg => HP5.out.kept (F := fun j => j = w5.heap.size) ((Kept.drew ((Kept.refl _ w5).alloc o)).grown hg (fun j hj _ => by cases hj; rfl)) (fun b o' e hbr => by cases e; have hbr' : r2 = w5.heap.size := hbr; omega)
    have y4 : A < cap2 := by omega
    have y5 : ¬ cap2 = A := by omega
    have y6 : (A : Int) < (cap2 : Int) := by omega
    have y7 : (A : Int) ≤ (n : Int) := by omega
    have y8 : A ≤ n := by omega
    go_wp2_with fail
    go_region_held3 (fun _ => True) (trivial) (first | (refine step_part (by rfl) _ _ (by rfl) w5.heap.size (.slice (some ⟨g6, 0, none⟩) (0 + (A + 1)) cap6) (0 + (A + 1)) _ (by rfl) (fun e => by cases e) hown6 ⟨r2, 0 + A * 4, none⟩ (n - A) (cap2 - A) (P.drop A) (by rw [List.length_drop, HLP.out]) (by simp [go_sem]) ((HK2.out _ _ hgrow6).part A) (by omega) (by have := hgrow6.size; simp at this; omega) ?_; intro g7 cap7 w7 hown7 hgrow7) | (refine step_part (by rfl) _ _ (by rfl) w5.heap.size (.slice (some ⟨w5.heap.size, 0, none⟩) 0 0) 0 [] (by rfl) (fun e => by cases e) (by exact row_empty w5 23 4) ⟨r2, 0, none⟩ (A + 1) cap2 (P.take (A + 1)) (by rw [List.length_take, HLP.out]; omega) (by simp [go_sem]) ((HP5.out.later (Below.drew (below1 w5 _))).front (A + 1)) (by omega) (by simp) ?_; intro g6 cap6 w6 hown6 hgrow6))
    have HL7 : Hid ((P.take (A + 1) ++ P.drop A).length = n + 1) := by unfold Hid; rw [List.length_append, List.length_take, List.length_drop, HLP.out]; omega
    have hk2 : 0 + (A + 1) + (n - A) = n + 1 := by omega
    have hb6 : Below w5.heap.size w5 w6 := (Below.drew (below1 w5 _)).grown hgrow6 (by simp) (fun j hj => by cases hj; exact Nat.le_refl _)
    have hb7 : Below w5.heap.size w5 w7 := hb6.grown hgrow7 hb6.size (fun j hj => (hown6.lt j hj).1)
    have HD7 : Hid (RdP w7 (some ⟨g7, 0, none⟩) (P.take (A + 1) ++ P.drop A)) := RwP.rd (N := w5.heap.size) (n := n + 1) (cap := cap7) (by unfold RwP; rw [HL7.out]; have h := hown7; rw [hk2, List.nil_append] at h; exact h)
    have HB7 : Hid (Below w.heap.size w w7) := Below.then HB5.out hb7
    have HD5' : Hid (RdP w7 (some ⟨g5, 0, none⟩) (P.take A ++ P.drop (A + 1))) := HD5.out.later hb7
    have HP7 : Hid (RdP w7 (some ⟨r2, 0, none⟩) P) := HP5.out.later hb7
    rw [show A + 1 + (n - A) = n + 1 by omega]
    obtain ⟨k2, ek2⟩ : ∃ k2, n + 1 = k2 := ⟨_, rfl⟩
    rw [ek2] at HL7 ⊢
    obtain ⟨i0, hi, hz0, hz1, hz2⟩ := info_parts infoP
    have HE7 : Hid ((w7.alloc (.cells #[] 23)).ownsRow w7.heap.size 23 4 (.slice (some ⟨w7.heap.size, 0, none⟩) 0 0) 0 []) := row_empty w7 23 4
    have HN7 : Hid (∀ j u, (cellsP P)[j]? = some u → (w7.alloc (.cells #[] 23)).cell? ((⟨r2, 0, none⟩ : Addr).add j) = some u) := (HP7.out.later (below1 w7 _)).newsAny
    have HCL : Hid ((cellsP P).length = n * 4) := by unfold Hid; rw [cellsP_length, HLP.out]
    have l57 : g5 < w7.heap.size := Nat.lt_of_lt_of_le (HR5.out.lt g5 rfl).2 hb7.size
    have l77 : g7 < w7.heap.size := (hown7.lt g7 rfl).2
    clear hown6 hgrow6 hown7 hgrow7 hk2 hb6 hb7 HD5 HP5 HK2 HR5
    go_wp2_with (at_builtin; refine wpList_append_lies _ rfl _ _ _ rfl w7.heap.size 23 i0 _ 4 40 Try.underlying37 hi hz0 hz1 hz2 rfl (by omega) _ 0 [] rfl HE7.out ⟨r2, 0, none⟩ n cap2 (cellsP P) rfl HCL.out HN7.out (cellsP_one _) (by omega) (by unfold maxLen; omega) (by omega) (by simp) (w7.heap.size + 1) (by simp) ?_; intro g8 cap8 w8 hown8 hgrow8 hat8 hlt8; rw [Nat.zero_add, List.nil_append] at hown8; have HO8 : Hid (w8.ownsRow w7.heap.size 23 4 (.slice (some ⟨g8, 0, none⟩) n cap8) n (cellsP P)) := hown8; have HG8 : Hid ((w7.alloc (.cells #[] 23)).grownBy w8 (some w7.heap.size)) := hgrow8; clear hown8 hgrow8 hat8 hlt8)
    have HD8 : Hid (RdP w8 (some ⟨g8, 0, none⟩) P) := RwP.rd (N := w7.heap.size) (n := n) (cap := cap8) (by unfold RwP; rw [HLP.out]; exact HO8.out)
    have hb8 : Below w7.heap.size w7 w8 := (below1 w7 _).grown HG8.out (by simp) (fun j hj => by cases hj; exact Nat.le_refl _)
    have HB8 : Hid (Below w7.heap.size w7 w8) := hb8
    have hg8 := (HO8.out.lt g8 rfl)
    obtain ⟨gl, gh⟩ := hg8
    obtain ⟨ba, oa, ea, ca0, ca1, ca2, ca3⟩ := HD8.out A (by rw [HLP.out]; exact hAn)
    obtain ⟨eba, eoa⟩ : g8 = ba ∧ 0 = oa := by simpa using ea
    rw [← eba, ← eoa, Nat.zero_add] at ca0 ca1 ca2 ca3
    obtain ⟨bb, ob, eb, cb0, cb1, cb2, cb3⟩ := HD8.out B (by rw [HLP.out]; exact hBn)
    obtain ⟨ebb, eob⟩ : g8 = bb ∧ 0 = ob := by simpa using eb
    rw [← ebb, ← eob, Nat.zero_add] at cb0 cb1 cb2 cb3
    obtain ⟨xa, hxa⟩ : ∃ x, P.getD A pc0 = x := ⟨_, rfl⟩
    obtain ⟨xb, hxb⟩ : ∃ x, P.getD B pc0 = x := ⟨_, rfl⟩
    have HXA : Hid (P.getD A pc0 = xa) := hxa
    have HXB : Hid (P.getD B pc0 = xb) := hxb
    rw [hxa] at ca0 ca1 ca2 ca3
    rw [hxb] at cb0 cb1 cb2 cb3
    obtain ⟨qa, pa, na, da⟩ := xa
    obtain ⟨qb, pb, nb, db⟩ := xb
    have ca0 : w8.cell? ⟨g8, A * 4, none⟩ = some (.int .i64 qa) := ca0
    have ca1 : w8.cell? ⟨g8, A * 4 + 1, none⟩ = some (.int .i64 pa) := ca1
    have ca2 : w8.cell? ⟨g8, A * 4 + 2, none⟩ = some (.int .i64 na) := ca2
    have ca3 : w8.cell? ⟨g8, A * 4 + 3, none⟩ = some (.string da) := ca3
    have cb0 : w8.cell? ⟨g8, B * 4, none⟩ = some (.int .i64 qb) := cb0
    have cb1 : w8.cell? ⟨g8, B * 4 + 1, none⟩ = some (.int .i64 pb) := cb1
    have cb2 : w8.cell? ⟨g8, B * 4 + 2, none⟩ = some (.int .i64 nb) := cb2
    have cb3 : w8.cell? ⟨g8, B * 4 + 3, none⟩ = some (.string db) := cb3
    have fa0 := HO8.out.frozenAt (A * 4)
    have fa1 := HO8.out.frozenAt (A * 4 + 1)
    have fa2 := HO8.out.frozenAt (A * 4 + 2)
    have fa3 := HO8.out.frozenAt (A * 4 + 3)
    have fb0 := HO8.out.frozenAt (B * 4)
    have fb1 := HO8.out.frozenAt (B * 4 + 1)
    have fb2 := HO8.out.frozenAt (B * 4 + 2)
    have fb3 := HO8.out.frozenAt (B * 4 + 3)
    have z1 : (A : Int) < (n : Int) := by omega
    have z2 : (B : Int) < (n : Int) := by omega
    have z3 : (0 : Int) ≤ (B : Int) := by omega
    clear hxa hxb ea eb eba eoa ebb eob hb8
    by_cases hAB : A = B
    · subst hAB
      have hsw := swap_same (P := P) A (by rw [HLP.out]; exact hAn)
      rw [HXA.out] at hsw
      have hab : (⟨qa, pa, na, da⟩ : Pc) = ⟨qb, pb, nb, db⟩ := by rw [← HXA.out, ← HXB.out]
      cases hab
      have hrf := row_setP (row_setP HO8.out A (by rw [HLP.out]; exact hAn) qa pa na da) A (by rw [List.length_set, HLP.out]; exact hAn) qa pa na da
      rw [hsw] at hrf
      have hkf := kept_setP (kept_setP (Kept.refl (fun j => j = g8) w8) A qa pa na da) A qa pa na da
      obtain ⟨T, hT⟩ : ∃ T, T = P := ⟨_, rfl⟩
      have HTP : Hid (T = P) := hT
      have HTL : Hid (T.length = n) := by unfold Hid; rw [hT]; exact HLP.out
      rw [← hT] at hrf
      have HRF : Hid (((sp (sp w8 g8 A qa pa na da) g8 A qa pa na da).drew).ownsRow w7.heap.size 23 4 (.slice (some ⟨g8, 0, none⟩) n cap8) n (cellsP T)) := row_drew hrf
      have HKF : Hid (Kept (fun j => j = g8) w8 (sp (sp w8 g8 A qa pa na da) g8 A qa pa na da).drew) := hkf.drew
      clear hrf hkf hsw hT
      go_region
      change Exit.then _ _ Exit.normal _ (sp (sp w8 g8 A qa pa na da) g8 A qa pa na da).drew
      have hrf := HRF.out
      have hkf := HKF.out
      clear HRF HKF
      generalize (sp (sp w8 g8 A qa pa na da) g8 A qa pa na da).drew = wf at hrf hkf ⊢
      have HDf : Hid (RdP wf (some ⟨g8, 0, none⟩) T) := RwP.rd (N := w7.heap.size) (n := n) (cap := cap8) (by unfold RwP; rw [HTL.out]; exact hrf)
      have HBf : Hid (Below w.heap.size w wf) := HB7.out.trans ((HB8.out.trans (hkf.below (by have := HB8.out.size; omega) (fun j hj => by have hj' : j = g8 := hj; omega))).mono HB7.out.size)
      have HL5f : Hid (RdP wf (some ⟨g5, 0, none⟩) (P.take A ++ P.drop (A + 1))) := (HD5'.out.later HB8.out).kept hkf (fun b o e hbr => by cases e; have hbr' : g5 = g8 := hbr; omega)
      have HL7f : Hid (RdP wf (some ⟨g7, 0, none⟩) (P.take (A + 1) ++ P.drop A)) := (HD7.out.later HB8.out).kept hkf (fun b o e hbr => by cases e; have hbr' : g7 = g8 := hbr; omega)
      have hw5 := whole_any (some ⟨g5, 0, none⟩) cap5 (P.take A ++ P.drop (A + 1)) (by rw [HL5.out]; omega) wf HL5f.out
      rw [HL5.out] at hw5
      clear ca0 ca1 ca2 ca3 cb0 cb1 cb2 cb3 fa0 fa1 fa2 fa3 fb0 fb1 fb2 fb3 hrf hkf
      go_wp2_with fail
      refine hw5.mono ?_
      rintro e9 w9 ⟨hp9, hb9⟩
      obtain rfl : e9 = wB := by
        rcases hp9 with ⟨hh, _⟩ | ⟨_, hh⟩
        · exact absurd hh (wh_less HWH.out A (by rw [HLP.out]; exact hAn) (by rw [HLP.out]; exact n2'))
        · exact hh
      have hw7 := whole_any (some ⟨g7, 0, none⟩) cap7 (P.take (A + 1) ++ P.drop A) (by rw [HL7.out]; omega) w9 (HL7f.out.later hb9)
      rw [HL7.out] at hw7
      have HB9 : Hid (Below wf.heap.size wf w9) := hb9
      clear hw5 hp9 hb9
      unfold wB
      go_wp2_with fail
      refine hw7.mono ?_
      rintro e10 w10 ⟨hp10, hb10⟩
      obtain rfl : e10 = wB := by
        rcases hp10 with ⟨hh, _⟩ | ⟨_, hh⟩
        · exact absurd hh (wh_more HWH.out A (by rw [HLP.out]; exact hAn))
        · exact hh
      have HB10 : Hid (Below wf.heap.size wf w10) := Below.then HB9.out hb10
      have hw8 := whole_any (some ⟨g8, 0, none⟩) cap8 T (by rw [HTL.out]; omega) w10 (HDf.out.later HB10.out)
      rw [HTL.out] at hw8
      clear hw7 hp10 hb10
      unfold wB
      go_wp2_with fail
      refine hw8.mono ?_
      rintro e11 w11 ⟨hp11, hb11⟩
      have HB11 : Hid (Below w.heap.size w w11) := Below.then (Below.then HBf.out HB10.out) hb11
      clear hw8 hb11
      obtain rfl : e11 = wA T := by
        rcases hp11 with ⟨_, hh⟩ | ⟨hh, _⟩
        · exact hh
        · exact absurd (by rw [HTP.out]; exact HWH.out) hh
      unfold wA
      go_wp2_with fail
      go_ret
      exact ⟨ret_bool (by simp), HB11.out⟩
    · have hrf := row_setP (row_setP HO8.out A (by rw [HLP.out]; exact hAn) qb pb nb db) B (by rw [List.length_set, HLP.out]; exact hBn) qa pa na da
      have hkf := kept_setP (kept_setP (Kept.refl (fun j => j = g8) w8) A qb pb nb db) B qa pa na da
      obtain ⟨T, hT⟩ : ∃ T, T = (P.set A ⟨qb, pb, nb, db⟩).set B ⟨qa, pa, na, da⟩ := ⟨_, rfl⟩
      have HTN : Hid (¬ Wh T) := by
        unfold Hid
        rw [hT, ← HXA.out, ← HXB.out]
        exact wh_swap HWH.out A B (by rw [HLP.out]; exact hAn) (by rw [HLP.out]; exact hBn) hAB
      have HTL : Hid (T.length = n) := by unfold Hid; rw [hT, List.length_set, List.length_set]; exact HLP.out
      rw [← hT] at hrf
      have HRF : Hid (((sp (sp w8 g8 A qb pb nb db) g8 B qa pa na da).drew).ownsRow w7.heap.size 23 4 (.slice (some ⟨g8, 0, none⟩) n cap8) n (cellsP T)) := row_drew hrf
      have HKF : Hid (Kept (fun j => j = g8) w8 (sp (sp w8 g8 A qb pb nb db) g8 B qa pa na da).drew) := hkf.drew
      have hab : ((A : Int) == (B : Int)) = false := by simp; omega
      have ne00 : ¬ A * 4 = B * 4 := by omega
      have ne01 : ¬ A * 4 = B * 4 + 1 := by omega
      have ne02 : ¬ A * 4 = B * 4 + 2 := by omega
      have ne03 : ¬ A * 4 = B * 4 + 3 := by omega
      have ne10 : ¬ A * 4 + 1 = B * 4 := by omega
      have ne11 : ¬ A * 4 + 1 = B * 4 + 1 := by omega
      have ne12 : ¬ A * 4 + 1 = B * 4 + 2 := by omega
      have ne13 : ¬ A * 4 + 1 = B * 4 + 3 := by omega
      have ne20 : ¬ A * 4 + 2 = B * 4 := by omega
      have ne21 : ¬ A * 4 + 2 = B * 4 + 1 := by omega
      have ne22 : ¬ A * 4 + 2 = B * 4 + 2 := by omega
      have ne23 : ¬ A * 4 + 2 = B * 4 + 3 := by omega
      have ne30 : ¬ A * 4 + 3 = B * 4 := by omega
      have ne31 : ¬ A * 4 + 3 = B * 4 + 1 := by omega
      have ne32 : ¬ A * 4 + 3 = B * 4 + 2 := by omega
      have ne33 : ¬ A * 4 + 3 = B * 4 + 3 := by omega
      clear hrf hkf hT
      go_region
      change Exit.then _ _ Exit.normal _ (sp (sp w8 g8 A qb pb nb db) g8 B qa pa na da).drew
      have hrf := HRF.out
      have hkf := HKF.out
      clear HRF HKF
      generalize (sp (sp w8 g8 A qb pb nb db) g8 B qa pa na da).drew = wf at hrf hkf ⊢
      have HDf : Hid (RdP wf (some ⟨g8, 0, none⟩) T) := RwP.rd (N := w7.heap.size) (n := n) (cap := cap8) (by unfold RwP; rw [HTL.out]; exact hrf)
      have HBf : Hid (Below w.heap.size w wf) := HB7.out.trans ((HB8.out.trans (hkf.below (by have := HB8.out.size; omega) (fun j hj => by have hj' : j = g8 := hj; omega))).mono HB7.out.size)
      have HL5f : Hid (RdP wf (some ⟨g5, 0, none⟩) (P.take A ++ P.drop (A + 1))) := (HD5'.out.later HB8.out).kept hkf (fun b o e hbr => by cases e; have hbr' : g5 = g8 := hbr; omega)
      have HL7f : Hid (RdP wf (some ⟨g7, 0, none⟩) (P.take (A + 1) ++ P.drop A)) := (HD7.out.later HB8.out).kept hkf (fun b o e hbr => by cases e; have hbr' : g7 = g8 := hbr; omega)
      have hw5 := whole_any (some ⟨g5, 0, none⟩) cap5 (P.take A ++ P.drop (A + 1)) (by rw [HL5.out]; omega) wf HL5f.out
      rw [HL5.out] at hw5
      clear ca0 ca1 ca2 ca3 cb0 cb1 cb2 cb3 fa0 fa1 fa2 fa3 fb0 fb1 fb2 fb3 hrf hkf
      go_wp2_with fail
      refine hw5.mono ?_
      rintro e9 w9 ⟨hp9, hb9⟩
      obtain rfl : e9 = wB := by
        rcases hp9 with ⟨hh, _⟩ | ⟨_, hh⟩
        · exact absurd hh (wh_less HWH.out A (by rw [HLP.out]; exact hAn) (by rw [HLP.out]; exact n2'))
        · exact hh
      have hw7 := whole_any (some ⟨g7, 0, none⟩) cap7 (P.take (A + 1) ++ P.drop A) (by rw [HL7.out]; omega) w9 (HL7f.out.later hb9)
      rw [HL7.out] at hw7
      have HB9 : Hid (Below wf.heap.size wf w9) := hb9
      clear hw5 hp9 hb9
      unfold wB
      go_wp2_with fail
      refine hw7.mono ?_
      rintro e10 w10 ⟨hp10, hb10⟩
      obtain rfl : e10 = wB := by
        rcases hp10 with ⟨hh, _⟩ | ⟨_, hh⟩
        · exact absurd hh (wh_more HWH.out A (by rw [HLP.out]; exact hAn))
        · exact hh
      have HB10 : Hid (Below wf.heap.size wf w10) := Below.then HB9.out hb10
      have hw8 := whole_any (some ⟨g8, 0, none⟩) cap8 T (by rw [HTL.out]; omega) w10 (HDf.out.later HB10.out)
      rw [HTL.out] at hw8
      clear hw7 hp10 hb10
      unfold wB
      go_wp2_with fail
      refine hw8.mono ?_
      rintro e11 w11 ⟨hp11, hb11⟩
      have HB11 : Hid (Below w.heap.size w w11) := Below.then (Below.then HBf.out HB10.out) hb11
      clear hw8 hb11
      obtain rfl : e11 = wB := by
        rcases hp11 with ⟨hh, _⟩ | ⟨_, hh⟩
        · exact absurd hh HTN.out
        · exact hh
      unfold wB
      go_wp2_with fail
      go_ret
      exact ⟨ret_bool (by simp), HB11.out⟩
  · have hce : cap2 = A + 1 := by omega
    have y1 : (cap2 = A + 1) = True := by simp [hce]
    have y2 : (A + 1 = cap2) = True := by simp [hce]
    have HND : Hid (∀ w', RdP w' (some ⟨r2, 0, none⟩) (P.drop (A + 1))) := fun w' => by
      have e : P.drop (A + 1) = [] := List.drop_eq_nil_of_le (by rw [HLP.out]; omega)
      rw [e]; exact RdP.nil _ _
    clear hce
    go_wp2_with fail
    go_region_held3 (fun _ => True) (trivial) (first | (refine step_part (by rfl) _ _ (by rfl) wa.heap.size (.slice (some ⟨g4, 0, none⟩) (0 + A) cap4) (0 + A) _ (by rfl) (fun e => by cases e) hown4 ⟨r2, 0, none⟩ (n - (A + 1)) (cap2 - (A + 1)) (P.drop (A + 1)) (by rw [List.length_drop, HLP.out]) (by simp [go_sem]) (HND.out _) (by omega) (by have := hgrow4.size; simp at this; omega) ?_; intro g5 cap5 w5 hown5 hgrow5) | (refine step_part (by rfl) _ _ (by rfl) wa.heap.size (.slice (some ⟨wa.heap.size, 0, none⟩) 0 0) 0 [] (by rfl) (fun e => by cases e) (by exact row_empty wa 23 4) _ A _ (P.take A) (by rw [List.length_take, HLP.out]; omega) (by rfl) ((HPa.out.later (Below.drew (below1 wa _))).front A) (by omega) (by simp) ?_; intro g4 cap4 w4 hown4 hgrow4))
    have hk1 : 0 + A + (n - (A + 1)) = n - 1 := by omega
    have hk1' : A + (n - (A + 1)) = n - 1 := by omega
    have HL5 : Hid ((P.take A ++ P.drop (A + 1)).length = n - 1) := by unfold Hid; rw [List.length_append, List.length_take, List.length_drop, HLP.out]; omega
    have HR5 : Hid (w5.ownsRow wa.heap.size 23 4 (.slice (some ⟨g5, 0, none⟩) (n - 1) cap5) (n - 1) (cellsP (P.take A ++ P.drop (A + 1)))) := by
      have h := hown5
      rw [hk1, List.nil_append] at h
      exact h
    have hb4 : Below wa.heap.size wa w4 := (Below.drew (below1 wa _)).grown hgrow4 (by simp) (fun j hj => by cases hj; exact Nat.le_refl _)
    have hb5 : Below wa.heap.size wa w5 := hb4.grown hgrow5 hb4.size (fun j hj => (hown4.lt j hj).1)
    have HB5 : Hid (Below w.heap.size w w5) := Below.then HBa.out hb5
    have HP5 : Hid (RdP w5 (some ⟨r2, 0, none⟩) P) := HPa.out.later hb5
    have HD5 : Hid (RdP w5 (some ⟨g5, 0, none⟩) (P.take A ++ P.drop (A + 1))) := RwP.rd (N := wa.heap.size) (n := n - 1) (cap := cap5) (by unfold RwP; rw [HL5.out]; exact HR5.out)
    have hs5 : wa.heap.size ≤ w5.heap.size := hb5.size
    have l25 : r2 < w5.heap.size := by omega
    rw [hk1']
    obtain ⟨k1, ek1⟩ : ∃ k1, n - 1 = k1 := ⟨_, rfl⟩
    rw [ek1] at HL5 HR5 ⊢
    clear hown4 hgrow4 hown5 hgrow5 hk1 hk1' hb4 hb5 HK1 HPa HRa
    have HK2 : Hid (∀ o w', (w5.alloc o).drew.grownBy w' (some w5.heap.size) → RdP w' (some ⟨r2, 0, none⟩) P) := fun o w' hg => HP5.out.kept (F := fun j => j = w5.heap.size) ((Kept.drew ((Kept.refl _ w5).alloc o)).grown hg (fun j hj _ => by cases hj; rfl)) (fun b o' e hbr => by cases e; have hbr' : r2 = w5.heap.size := hbr; omega)
    have y4 : A < cap2 := by omega
    have y5 : ¬ cap2 = A := by omega
    have y6 : (A : Int) < (cap2 : Int) := by omega
    have y7 : (A : Int) ≤ (n : Int) := by omega
    have y8 : A ≤ n := by omega
    go_wp2_with fail
    go_region_held3 (fun _ => True) (trivial) (first | (refine step_part (by rfl) _ _ (by rfl) w5.heap.size (.slice (some ⟨g6, 0, none⟩) (0 + (A + 1)) cap6) (0 + (A + 1)) _ (by rfl) (fun e => by cases e) hown6 ⟨r2, 0 + A * 4, none⟩ (n - A) (cap2 - A) (P.drop A) (by rw [List.length_drop, HLP.out]) (by simp [go_sem]) ((HK2.out _ _ hgrow6).part A) (by omega) (by have := hgrow6.size; simp at this; omega) ?_; intro g7 cap7 w7 hown7 hgrow7) | (refine step_part (by rfl) _ _ (by rfl) w5.heap.size (.slice (some ⟨w5.heap.size, 0, none⟩) 0 0) 0 [] (by rfl) (fun e => by cases e) (by exact row_empty w5 23 4) ⟨r2, 0, none⟩ (A + 1) cap2 (P.take (A + 1)) (by rw [List.length_take, HLP.out]; omega) (by simp [go_sem]) ((HP5.out.later (Below.drew (below1 w5 _))).front (A + 1)) (by omega) (by simp) ?_; intro g6 cap6 w6 hown6 hgrow6))
    have HL7 : Hid ((P.take (A + 1) ++ P.drop A).length = n + 1) := by unfold Hid; rw [List.length_append, List.length_take, List.length_drop, HLP.out]; omega
    have hk2 : 0 + (A + 1) + (n - A) = n + 1 := by omega
    have hb6 : Below w5.heap.size w5 w6 := (Below.drew (below1 w5 _)).grown hgrow6 (by simp) (fun j hj => by cases hj; exact Nat.le_refl _)
    have hb7 : Below w5.heap.size w5 w7 := hb6.grown hgrow7 hb6.size (fun j hj => (hown6.lt j hj).1)
    have HD7 : Hid (RdP w7 (some ⟨g7, 0, none⟩) (P.take (A + 1) ++ P.drop A)) := RwP.rd (N := w5.heap.size) (n := n + 1) (cap := cap7) (by unfold RwP; rw [HL7.out]; have h := hown7; rw [hk2, List.nil_append] at h; exact h)
    have HB7 : Hid (Below w.heap.size w w7) := Below.then HB5.out hb7
    have HD5' : Hid (RdP w7 (some ⟨g5, 0, none⟩) (P.take A ++ P.drop (A + 1))) := HD5.out.later hb7
    have HP7 : Hid (RdP w7 (some ⟨r2, 0, none⟩) P) := HP5.out.later hb7
    rw [show A + 1 + (n - A) = n + 1 by omega]
    obtain ⟨k2, ek2⟩ : ∃ k2, n + 1 = k2 := ⟨_, rfl⟩
    rw [ek2] at HL7 ⊢
    obtain ⟨i0, hi, hz0, hz1, hz2⟩ := info_parts infoP
    have HE7 : Hid ((w7.alloc (.cells #[] 23)).ownsRow w7.heap.size 23 4 (.slice (some ⟨w7.heap.size, 0, none⟩) 0 0) 0 []) := row_empty w7 23 4
    have HN7 : Hid (∀ j u, (cellsP P)[j]? = some u → (w7.alloc (.cells #[] 23)).cell? ((⟨r2, 0, none⟩ : Addr).add j) = some u) := (HP7.out.later (below1 w7 _)).newsAny
    have HCL : Hid ((cellsP P).length = n * 4) := by unfold Hid; rw [cellsP_length, HLP.out]
    have l57 : g5 < w7.heap.size := Nat.lt_of_lt_of_le (HR5.out.lt g5 rfl).2 hb7.size
    have l77 : g7 < w7.heap.size := (hown7.lt g7 rfl).2
    clear hown6 hgrow6 hown7 hgrow7 hk2 hb6 hb7 HD5 HP5 HK2 HR5
    go_wp2_with (at_builtin; refine wpList_append_lies _ rfl _ _ _ rfl w7.heap.size 23 i0 _ 4 40 Try.underlying37 hi hz0 hz1 hz2 rfl (by omega) _ 0 [] rfl HE7.out ⟨r2, 0, none⟩ n cap2 (cellsP P) rfl HCL.out HN7.out (cellsP_one _) (by omega) (by unfold maxLen; omega) (by omega) (by simp) (w7.heap.size + 1) (by simp) ?_; intro g8 cap8 w8 hown8 hgrow8 hat8 hlt8; rw [Nat.zero_add, List.nil_append] at hown8; have HO8 : Hid (w8.ownsRow w7.heap.size 23 4 (.slice (some ⟨g8, 0, none⟩) n cap8) n (cellsP P)) := hown8; have HG8 : Hid ((w7.alloc (.cells #[] 23)).grownBy w8 (some w7.heap.size)) := hgrow8; clear hown8 hgrow8 hat8 hlt8)
    have HD8 : Hid (RdP w8 (some ⟨g8, 0, none⟩) P) := RwP.rd (N := w7.heap.size) (n := n) (cap := cap8) (by unfold RwP; rw [HLP.out]; exact HO8.out)
    have hb8 : Below w7.heap.size w7 w8 := (below1 w7 _).grown HG8.out (by simp) (fun j hj => by cases hj; exact Nat.le_refl _)
    have HB8 : Hid (Below w7.heap.size w7 w8) := hb8
    have hg8 := (HO8.out.lt g8 rfl)
    obtain ⟨gl, gh⟩ := hg8
    obtain ⟨ba, oa, ea, ca0, ca1, ca2, ca3⟩ := HD8.out A (by rw [HLP.out]; exact hAn)
    obtain ⟨eba, eoa⟩ : g8 = ba ∧ 0 = oa := by simpa using ea
    rw [← eba, ← eoa, Nat.zero_add] at ca0 ca1 ca2 ca3
    obtain ⟨bb, ob, eb, cb0, cb1, cb2, cb3⟩ := HD8.out B (by rw [HLP.out]; exact hBn)
    obtain ⟨ebb, eob⟩ : g8 = bb ∧ 0 = ob := by simpa using eb
    rw [← ebb, ← eob, Nat.zero_add] at cb0 cb1 cb2 cb3
    obtain ⟨xa, hxa⟩ : ∃ x, P.getD A pc0 = x := ⟨_, rfl⟩
    obtain ⟨xb, hxb⟩ : ∃ x, P.getD B pc0 = x := ⟨_, rfl⟩
    have HXA : Hid (P.getD A pc0 = xa) := hxa
    have HXB : Hid (P.getD B pc0 = xb) := hxb
    rw [hxa] at ca0 ca1 ca2 ca3
    rw [hxb] at cb0 cb1 cb2 cb3
    obtain ⟨qa, pa, na, da⟩ := xa
    obtain ⟨qb, pb, nb, db⟩ := xb
    have ca0 : w8.cell? ⟨g8, A * 4, none⟩ = some (.int .i64 qa) := ca0
    have ca1 : w8.cell? ⟨g8, A * 4 + 1, none⟩ = some (.int .i64 pa) := ca1
    have ca2 : w8.cell? ⟨g8, A * 4 + 2, none⟩ = some (.int .i64 na) := ca2
    have ca3 : w8.cell? ⟨g8, A * 4 + 3, none⟩ = some (.string da) := ca3
    have cb0 : w8.cell? ⟨g8, B * 4, none⟩ = some (.int .i64 qb) := cb0
    have cb1 : w8.cell? ⟨g8, B * 4 + 1, none⟩ = some (.int .i64 pb) := cb1
    have cb2 : w8.cell? ⟨g8, B * 4 + 2, none⟩ = some (.int .i64 nb) := cb2
    have cb3 : w8.cell? ⟨g8, B * 4 + 3, none⟩ = some (.string db) := cb3
    have fa0 := HO8.out.frozenAt (A * 4)
    have fa1 := HO8.out.frozenAt (A * 4 + 1)
    have fa2 := HO8.out.frozenAt (A * 4 + 2)
    have fa3 := HO8.out.frozenAt (A * 4 + 3)
    have fb0 := HO8.out.frozenAt (B * 4)
    have fb1 := HO8.out.frozenAt (B * 4 + 1)
    have fb2 := HO8.out.frozenAt (B * 4 + 2)
    have fb3 := HO8.out.frozenAt (B * 4 + 3)
    have z1 : (A : Int) < (n : Int) := by omega
    have z2 : (B : Int) < (n : Int) := by omega
    have z3 : (0 : Int) ≤ (B : Int) := by omega
    clear hxa hxb ea eb eba eoa ebb eob hb8
    by_cases hAB : A = B
    · subst hAB
      have hsw := swap_same (P := P) A (by rw [HLP.out]; exact hAn)
      rw [HXA.out] at hsw
      have hab : (⟨qa, pa, na, da⟩ : Pc) = ⟨qb, pb, nb, db⟩ := by rw [← HXA.out, ← HXB.out]
      cases hab
      have hrf := row_setP (row_setP HO8.out A (by rw [HLP.out]; exact hAn) qa pa na da) A (by rw [List.length_set, HLP.out]; exact hAn) qa pa na da
      rw [hsw] at hrf
      have hkf := kept_setP (kept_setP (Kept.refl (fun j => j = g8) w8) A qa pa na da) A qa pa na da
      obtain ⟨T, hT⟩ : ∃ T, T = P := ⟨_, rfl⟩
      have HTP : Hid (T = P) := hT
      have HTL : Hid (T.length = n) := by unfold Hid; rw [hT]; exact HLP.out
      rw [← hT] at hrf
      have HRF : Hid (((sp (sp w8 g8 A qa pa na da) g8 A qa pa na da).drew).ownsRow w7.heap.size 23 4 (.slice (some ⟨g8, 0, none⟩) n cap8) n (cellsP T)) := row_drew hrf
      have HKF : Hid (Kept (fun j => j = g8) w8 (sp (sp w8 g8 A qa pa na da) g8 A qa pa na da).drew) := hkf.drew
      clear hrf hkf hsw hT
      go_region
      change Exit.then _ _ Exit.normal _ (sp (sp w8 g8 A qa pa na da) g8 A qa pa na da).drew
      have hrf := HRF.out
      have hkf := HKF.out
      clear HRF HKF
      generalize (sp (sp w8 g8 A qa pa na da) g8 A qa pa na da).drew = wf at hrf hkf ⊢
      have HDf : Hid (RdP wf (some ⟨g8, 0, none⟩) T) := RwP.rd (N := w7.heap.size) (n := n) (cap := cap8) (by unfold RwP; rw [HTL.out]; exact hrf)
      have HBf : Hid (Below w.heap.size w wf) := HB7.out.trans ((HB8.out.trans (hkf.below (by have := HB8.out.size; omega) (fun j hj => by have hj' : j = g8 := hj; omega))).mono HB7.out.size)
      have HL5f : Hid (RdP wf (some ⟨g5, 0, none⟩) (P.take A ++ P.drop (A + 1))) := (HD5'.out.later HB8.out).kept hkf (fun b o e hbr => by cases e; have hbr' : g5 = g8 := hbr; omega)
      have HL7f : Hid (RdP wf (some ⟨g7, 0, none⟩) (P.take (A + 1) ++ P.drop A)) := (HD7.out.later HB8.out).kept hkf (fun b o e hbr => by cases e; have hbr' : g7 = g8 := hbr; omega)
      have hw5 := whole_any (some ⟨g5, 0, none⟩) cap5 (P.take A ++ P.drop (A + 1)) (by rw [HL5.out]; omega) wf HL5f.out
      rw [HL5.out] at hw5
      clear ca0 ca1 ca2 ca3 cb0 cb1 cb2 cb3 fa0 fa1 fa2 fa3 fb0 fb1 fb2 fb3 hrf hkf
      go_wp2_with fail
      refine hw5.mono ?_
      rintro e9 w9 ⟨hp9, hb9⟩
      obtain rfl : e9 = wB := by
        rcases hp9 with ⟨hh, _⟩ | ⟨_, hh⟩
        · exact absurd hh (wh_less HWH.out A (by rw [HLP.out]; exact hAn) (by rw [HLP.out]; exact n2'))
        · exact hh
      have hw7 := whole_any (some ⟨g7, 0, none⟩) cap7 (P.take (A + 1) ++ P.drop A) (by rw [HL7.out]; omega) w9 (HL7f.out.later hb9)
      rw [HL7.out] at hw7
      have HB9 : Hid (Below wf.heap.size wf w9) := hb9
      clear hw5 hp9 hb9
      unfold wB
      go_wp2_with fail
      refine hw7.mono ?_
      rintro e10 w10 ⟨hp10, hb10⟩
      obtain rfl : e10 = wB := by
        rcases hp10 with ⟨hh, _⟩ | ⟨_, hh⟩
        · exact absurd hh (wh_more HWH.out A (by rw [HLP.out]; exact hAn))
        · exact hh
      have HB10 : Hid (Below wf.heap.size wf w10) := Below.then HB9.out hb10
      have hw8 := whole_any (some ⟨g8, 0, none⟩) cap8 T (by rw [HTL.out]; omega) w10 (HDf.out.later HB10.out)
      rw [HTL.out] at hw8
      clear hw7 hp10 hb10
      unfold wB
      go_wp2_with fail
      refine hw8.mono ?_
      rintro e11 w11 ⟨hp11, hb11⟩
      have HB11 : Hid (Below w.heap.size w w11) := Below.then (Below.then HBf.out HB10.out) hb11
      clear hw8 hb11
      obtain rfl : e11 = wA T := by
        rcases hp11 with ⟨_, hh⟩ | ⟨hh, _⟩
        · exact hh
        · exact absurd (by rw [HTP.out]; exact HWH.out) hh
      unfold wA
      go_wp2_with fail
      go_ret
      exact ⟨ret_bool (by simp), HB11.out⟩
    · have hrf := row_setP (row_setP HO8.out A (by rw [HLP.out]; exact hAn) qb pb nb db) B (by rw [List.length_set, HLP.out]; exact hBn) qa pa na da
      have hkf := kept_setP (kept_setP (Kept.refl (fun j => j = g8) w8) A qb pb nb db) B qa pa na da
      obtain ⟨T, hT⟩ : ∃ T, T = (P.set A ⟨qb, pb, nb, db⟩).set B ⟨qa, pa, na, da⟩ := ⟨_, rfl⟩
      have HTN : Hid (¬ Wh T) := by
        unfold Hid
        rw [hT, ← HXA.out, ← HXB.out]
        exact wh_swap HWH.out A B (by rw [HLP.out]; exact hAn) (by rw [HLP.out]; exact hBn) hAB
      have HTL : Hid (T.length = n) := by unfold Hid; rw [hT, List.length_set, List.length_set]; exact HLP.out
      rw [← hT] at hrf
      have HRF : Hid (((sp (sp w8 g8 A qb pb nb db) g8 B qa pa na da).drew).ownsRow w7.heap.size 23 4 (.slice (some ⟨g8, 0, none⟩) n cap8) n (cellsP T)) := row_drew hrf
      have HKF : Hid (Kept (fun j => j = g8) w8 (sp (sp w8 g8 A qb pb nb db) g8 B qa pa na da).drew) := hkf.drew
      have hab : ((A : Int) == (B : Int)) = false := by simp; omega
      have ne00 : ¬ A * 4 = B * 4 := by omega
      have ne01 : ¬ A * 4 = B * 4 + 1 := by omega
      have ne02 : ¬ A * 4 = B * 4 + 2 := by omega
      have ne03 : ¬ A * 4 = B * 4 + 3 := by omega
      have ne10 : ¬ A * 4 + 1 = B * 4 := by omega
      have ne11 : ¬ A * 4 + 1 = B * 4 + 1 := by omega
      have ne12 : ¬ A * 4 + 1 = B * 4 + 2 := by omega
      have ne13 : ¬ A * 4 + 1 = B * 4 + 3 := by omega
      have ne20 : ¬ A * 4 + 2 = B * 4 := by omega
      have ne21 : ¬ A * 4 + 2 = B * 4 + 1 := by omega
      have ne22 : ¬ A * 4 + 2 = B * 4 + 2 := by omega
      have ne23 : ¬ A * 4 + 2 = B * 4 + 3 := by omega
      have ne30 : ¬ A * 4 + 3 = B * 4 := by omega
      have ne31 : ¬ A * 4 + 3 = B * 4 + 1 := by omega
      have ne32 : ¬ A * 4 + 3 = B * 4 + 2 := by omega
      have ne33 : ¬ A * 4 + 3 = B * 4 + 3 := by omega
      clear hrf hkf hT
      go_region
      change Exit.then _ _ Exit.normal _ (sp (sp w8 g8 A qb pb nb db) g8 B qa pa na da).drew
      have hrf := HRF.out
      have hkf := HKF.out
      clear HRF HKF
      generalize (sp (sp w8 g8 A qb pb nb db) g8 B qa pa na da).drew = wf at hrf hkf ⊢
      have HDf : Hid (RdP wf (some ⟨g8, 0, none⟩) T) := RwP.rd (N := w7.heap.size) (n := n) (cap := cap8) (by unfold RwP; rw [HTL.out]; exact hrf)
      have HBf : Hid (Below w.heap.size w wf) := HB7.out.trans ((HB8.out.trans (hkf.below (by have := HB8.out.size; omega) (fun j hj => by have hj' : j = g8 := hj; omega))).mono HB7.out.size)
      have HL5f : Hid (RdP wf (some ⟨g5, 0, none⟩) (P.take A ++ P.drop (A + 1))) := (HD5'.out.later HB8.out).kept hkf (fun b o e hbr => by cases e; have hbr' : g5 = g8 := hbr; omega)
      have HL7f : Hid (RdP wf (some ⟨g7, 0, none⟩) (P.take (A + 1) ++ P.drop A)) := (HD7.out.later HB8.out).kept hkf (fun b o e hbr => by cases e; have hbr' : g7 = g8 := hbr; omega)
      have hw5 := whole_any (some ⟨g5, 0, none⟩) cap5 (P.take A ++ P.drop (A + 1)) (by rw [HL5.out]; omega) wf HL5f.out
      rw [HL5.out] at hw5
      clear ca0 ca1 ca2 ca3 cb0 cb1 cb2 cb3 fa0 fa1 fa2 fa3 fb0 fb1 fb2 fb3 hrf hkf
      go_wp2_with fail
      refine hw5.mono ?_
      rintro e9 w9 ⟨hp9, hb9⟩
      obtain rfl : e9 = wB := by
        rcases hp9 with ⟨hh, _⟩ | ⟨_, hh⟩
        · exact absurd hh (wh_less HWH.out A (by rw [HLP.out]; exact hAn) (by rw [HLP.out]; exact n2'))
        · exact hh
      have hw7 := whole_any (some ⟨g7, 0, none⟩) cap7 (P.take (A + 1) ++ P.drop A) (by rw [HL7.out]; omega) w9 (HL7f.out.later hb9)
      rw [HL7.out] at hw7
      have HB9 : Hid (Below wf.heap.size wf w9) := hb9
      clear hw5 hp9 hb9
      unfold wB
      go_wp2_with fail
      refine hw7.mono ?_
      rintro e10 w10 ⟨hp10, hb10⟩
      obtain rfl : e10 = wB := by
        rcases hp10 with ⟨hh, _⟩ | ⟨_, hh⟩
        · exact absurd hh (wh_more HWH.out A (by rw [HLP.out]; exact hAn))
        · exact hh
      have HB10 : Hid (Below wf.heap.size wf w10) := Below.then HB9.out hb10
      have hw8 := whole_any (some ⟨g8, 0, none⟩) cap8 T (by rw [HTL.out]; omega) w10 (HDf.out.later HB10.out)
      rw [HTL.out] at hw8
      clear hw7 hp10 hb10
      unfold wB
      go_wp2_with fail
      refine hw8.mono ?_
      rintro e11 w11 ⟨hp11, hb11⟩
      have HB11 : Hid (Below w.heap.size w w11) := Below.then (Below.then HBf.out HB10.out) hb11
      clear hw8 hb11
      obtain rfl : e11 = wB := by
        rcases hp11 with ⟨hh, _⟩ | ⟨_, hh⟩
        · exact absurd hh HTN.out
        · exact hh
      unfold wB
      go_wp2_with fail
      go_ret
      exact ⟨ret_bool (by simp), HB11.out⟩
theorem walk (s0 : ByteArray) (a1 a2 : Int) (hl0 : s0.size ≤ 140737488351232) (w1 : (Lit.int .i64 a1).wf = true) (w2 : (Lit.int .i64 a2).wf = true) (w : World) :
    Calls Try.prog 8 #[.string s0, .int .i64 a1, .int .i64 a2] w fun e w' => e = .returned (.bool true) ∧ Below w.heap.size w w' := by
  by_cases h : s0.size ≤ 5865
  · by_cases h23 : s0.size ≤ 23
    · exact walk_short s0 a1 a2 w h23
    · exact walk_some s0 a1 a2 w h (by omega)
  · exact walk_long s0 a1 a2 w h (by omega)
theorem own : ownKnob Try.prog.godebug = none := by kernel_rfl
theorem laidOut : laidOutB Try.prog = true := by kernel_rfl
theorem text_reach {s : ByteArray} (h : s.data.toList.length ≤ reachBytes) : s.size ≤ 140737488351232 := by
  have e2 : s.data.toList.length = s.data.size := Array.length_toList
  have e1 : s.size = s.data.size := rfl
  unfold reachBytes at h
  omega
set_option maxRecDepth 100000 in
theorem lifted (os : Os) (started : os.Started) (H : Type) (enc : TypeId × Value → H) :
    ReturnsInHanded {} Try.checked os 8 .any (Rows.frameBrokenSpec.pre6 enc Try.prog Try.f8 Rows.frameBrokenRow.domain false) (Rows.frameBrokenSpec.post enc Try.prog Try.f8 false true false false) := by
  refine returnsInHanded_of_change_sized (C := Try.checked) own started (by kernel_rfl) Try.func8
    (ChangeSpec.witness6 (enc := enc) (C := Try.checked) false ⟨#[], #[.string ⟨#[]⟩, .int .i64 0, .int .i64 0], []⟩ 8 (by kernel_rfl) (by kernel_rfl) (by kernel_rfl) (by kernel_rfl)) ?_
  intro W base args ds gs before hval0 hW hcnd hsz0 _
  have hsz : (DataW.weightsEach Try.prog (Try.f8.params.toList ++ Rows.frameBrokenSpec.plain.varTypes Try.prog) (ds ++ gs)).all (· ≤ reachBytes) = true := hsz0
  clear hsz0
  have hval : ∀ (j : Nat) t v, Try.f8.params[j]? = some t → args[j]? = some v → Value.okWide Try.prog W .any base t v := hval0
  have hW' := hW
  obtain ⟨p, q, hA0, hV, rfl, hfz, hnd⟩ := hW
  have hA : DataW.TrodAll enc Try.prog W 0 (fun _ => true) true Try.f8.params.toList args.toList ds p := hA0
  rw [Try.params8] at hA hval hsz
  obtain ⟨v0, vs0, d0, ds0, p0, q0, hargs, rfl, rfl, h0, r0⟩ := trodAll_cons hA
  obtain ⟨v1, vs1, d1, ds1, p1, q1, rfl, rfl, rfl, h1, r1⟩ := trodAll_cons r0
  obtain ⟨v2, vs2, d2, ds2, p2, q2, rfl, rfl, rfl, h2, r2⟩ := trodAll_cons r1
  obtain ⟨rfl, rfl, rfl⟩ := trodAll_nil r2
  obtain rfl : args = #[v0, v1, v2] := by cases args; simp_all
  obtain ⟨rfl, rfl⟩ := trodVars_none hV
  obtain ⟨s0, rfl, rfl, rfl, hs0⟩ := Go.ChangeMaps.open_string Try.underlying9 (hval 0 9 v0 rfl rfl) h0
  have hl0 : s0.size ≤ 140737488351232 := text_reach (sized_string hsz (j := 0) (t := 9) rfl rfl)
  obtain ⟨a1, rfl, rfl, rfl, w1⟩ := open_int Try.underlying3 (hval 1 3 v1 rfl rfl) h1
  obtain ⟨a2, rfl, rfl, rfl, w2⟩ := open_int Try.underlying3 (hval 2 3 v2 rfl rfl) h2
  clear hA0 hval0
  refine (walk s0 a1 a2 hl0 w1 w2 W).mono fun e W' ⟨he, bel⟩ => ?_
  subst he
  exact ⟨_, rfl, _, _, _, [], _, [], hW', trodAll_mk1 (shut_bool Try.underlying4 _), (trodAll_cons_mk (Go.ChangeMaps.shut_string Try.underlying9 hs0) (trodAll_cons_mk (shut_int Try.underlying3 w1) (trodAll_cons_mk (shut_int Try.underlying3 w2) trodAll_mk0))), rfl, bel.frame _, fun h => by cases h⟩
theorem over : Rows.frameBrokenRow.holds Try.pinned (OpenSpec.ofChange Rows.frameBrokenSpec) :=
  OpenClaim.holds_of_wide 8 Try.f8 rfl rfl rfl rfl rfl rfl rfl ⟨rfl, rfl, rfl, rfl, rfl⟩ rfl rfl rfl rfl rfl (by kernel_rfl) Try.func8 (by kernel_rfl)
    (of_decide_eq_true (by kernel_rfl)) (by unfold Func.isWrapper; first | (rw [if_pos (by decide +kernel)]; kernel_rfl) | (rw [if_neg (by decide +kernel)]; exact ⟨rfl, rfl⟩))
    (fun os started H enc _ => lifted os started H enc)
end Go.Proofs.Ytoohoapbcdekgaa.frameBroken
namespace Go.Proofs.Ytoohoapbcdekgaa
theorem frameBroken_holds : Rows.FrameBrokenSaid := frameBroken.over
#print axioms frameBroken_holds
end Go.Proofs.Ytoohoapbcdekgaa
