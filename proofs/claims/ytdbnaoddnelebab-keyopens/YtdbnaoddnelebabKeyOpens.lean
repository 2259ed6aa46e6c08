/- For every three keys: Seal and Open of package key answer what the document says; what was sealed is opened by what gives its key, by no other. No conditions. -/
import Derived.Test.YtdbnaoddnelebabRows
import Derived.Test.YtdbnaoddnelebabKeyG
import Derived.Test.YtdbnaoddnelebabKeyD
import Derived.Test.YtdbnaoddnelebabKeyQ
import Derived.Test.YtdbnaoddnelebabOpenKey
namespace Go.Proofs.Ytdbnaoddnelebab.keyOpens
open Go.ChangeShapes Go.WideShapes Go.ChangeAt Go.RowKit
set_option linter.unusedVariables false

theorem good_below (b s : Int) (w : World) : Calls Try.prog 11 #[.agg #[.int .i64 b, .int .i64 s]] w fun r w' => r = .returned (.bool (gd b s)) ∧ Below w.heap.size w w' :=
  (good_any b s w).mono fun e w' ⟨he, hw⟩ => ⟨he, hw ▸ below1 _ _⟩
theorem seals_same (a b c d : Int) : ∃ (x y z u e : Int),
    (∀ w, Calls Try.prog 7 #[.agg #[.int .i64 a, .int .i64 b], .agg #[.int .i64 c, .int .i64 d]] w fun r w' => r = .returned (.tuple #[.agg #[.int .i64 x, .int .i64 y, .int .i64 z, .int .i64 u], .int .i64 e]) ∧ Below w.heap.size w w') ∧
    (∀ w, Calls Try.prog 8 #[.agg #[.int .i64 a, .int .i64 b], .agg #[.int .i64 c, .int .i64 d]] w fun r w' => r = .returned (.tuple #[.agg #[.int .i64 x, .int .i64 y, .int .i64 z, .int .i64 u], .int .i64 e]) ∧ Below w.heap.size w w') := by
  by_cases h : Gd a b
  · by_cases k : Gd c d
    · exact ⟨_, _, _, _, _, seal_yes a b c d h k, rSeal_yes a b c d h k⟩
    · exact ⟨_, _, _, _, _, seal_low a b c d h k, rSeal_low a b c d h k⟩
  · exact ⟨_, _, _, _, _, seal_up a b c d h, rSeal_up a b c d h⟩
/- The ways: all good and opened; all good and not given; the first, the second, the third isn't good. -/
theorem opens_same (a b c d x y : Int) : ∃ (p q e : Int),
    (∀ w, Calls Try.prog 9 #[.agg #[.int .i64 a, .int .i64 b, .int .i64 c, .int .i64 d], .agg #[.int .i64 x, .int .i64 y]] w fun r w' => r = .returned (.tuple #[.agg #[.int .i64 p, .int .i64 q], .int .i64 e]) ∧ Below w.heap.size w w') ∧
    (∀ w, Calls Try.prog 10 #[.agg #[.int .i64 a, .int .i64 b, .int .i64 c, .int .i64 d], .agg #[.int .i64 x, .int .i64 y]] w fun r w' => r = .returned (.tuple #[.agg #[.int .i64 p, .int .i64 q], .int .i64 e]) ∧ Below w.heap.size w w') ∧
    ((gd a b = true ∧ gd c d = true ∧ gd x y = true ∧ ((gv x y a b = true ∧ p = c ∧ q = d ∧ e = 0) ∨ (gv x y a b = false ∧ e = 5))) ∨ (e = 3 ∧ ((gd a b = false) ∨ (gd a b = true ∧ gd c d = false) ∨ (gd a b = true ∧ gd c d = true ∧ gd x y = false)))) := by
  by_cases h : Gd a b
  · by_cases k : Gd c d
    · by_cases m : Gd x y
      · cases g : gv x y a b
        · exact ⟨_, _, _, open_off a b c d x y h k m g, rOpen_off a b c d x y h k m g, Or.inl ⟨gd_yes h, gd_yes k, gd_yes m, Or.inr ⟨rfl, rfl⟩⟩⟩
        · exact ⟨_, _, _, open_yes a b c d x y h k m g, rOpen_yes a b c d x y h k m g, Or.inl ⟨gd_yes h, gd_yes k, gd_yes m, Or.inl ⟨rfl, rfl, rfl, rfl⟩⟩⟩
      · exact ⟨_, _, _, open_bad a b c d x y h k m, rOpen_bad a b c d x y h k m, Or.inr ⟨rfl, Or.inr (Or.inr ⟨gd_yes h, gd_yes k, gd_no m⟩)⟩⟩
    · exact ⟨_, _, _, open_low a b c d x y h k, rOpen_low a b c d x y h k, Or.inr ⟨rfl, Or.inr (Or.inl ⟨gd_yes h, gd_no k⟩)⟩⟩
  · exact ⟨_, _, _, open_up a b c d x y h, rOpen_up a b c d x y h, Or.inr ⟨rfl, Or.inl (gd_no h)⟩⟩

set_option maxHeartbeats 4000000 in
theorem walk (a b c d x y : Int) (w0 : (Lit.int .i64 a).wf = true) (w1 : (Lit.int .i64 b).wf = true) (w2 : (Lit.int .i64 c).wf = true) (w3 : (Lit.int .i64 d).wf = true) (w4 : (Lit.int .i64 x).wf = true) (w5 : (Lit.int .i64 y).wf = true) (w : World) :
    Calls Try.prog 3 #[.agg #[.int .i64 a, .int .i64 b], .agg #[.int .i64 c, .int .i64 d], .agg #[.int .i64 x, .int .i64 y]] w fun e w' => e = .returned (.bool true) ∧ Below w.heap.size w w' := by
  clear w0 w1 w2 w3 w4 w5
  obtain ⟨s1, s2, s3, s4, es, hS, hS'⟩ := seals_same a b c d
  obtain ⟨p, q, eo, hO, hO', hcase⟩ := opens_same a b c d x y
  have hG1 := good_below a b
  have hG2 := good_below c d
  have hG3 := good_below x y
  have hV := gives_any x y a b
  obtain ⟨g1, eg1⟩ : ∃ g, gd a b = g := ⟨_, rfl⟩
  obtain ⟨g2, eg2⟩ : ∃ g, gd c d = g := ⟨_, rfl⟩
  obtain ⟨g3, eg3⟩ : ∃ g, gd x y = g := ⟨_, rfl⟩
  obtain ⟨g4, eg4⟩ : ∃ g, gv x y a b = g := ⟨_, rfl⟩
  rw [eg1] at hG1 hcase
  rw [eg2] at hG2 hcase
  rw [eg3] at hG3 hcase
  rw [eg4] at hV hcase
  clear eg1 eg2 eg3 eg4
  rcases hcase with ⟨rfl, rfl, rfl, ⟨rfl, rfl, rfl, rfl⟩ | ⟨rfl, rfl⟩⟩ | ⟨rfl, rfl | ⟨rfl, rfl⟩ | ⟨rfl, rfl, rfl⟩⟩
  · go_enter Try.func3, Try.ntmps3
    go_wp2_with fail
    refine (lives_any _).mono ?_
    rintro e w1 ⟨rfl, hb⟩
    have K1 := Kq.call ((((Kq.start w).box2 _ _ _ _ rfl).box2 (w.heap.size + 1) _ _ _ (by simp)).box2 (w.heap.size + 2) _ _ _ (by simp)) hb
    clear hb
    have c0 := K1.get 2 rfl
    have c1 := K1.get 3 rfl
    have c2 := K1.get 4 rfl
    have c3 := K1.get 5 rfl
    go_wp2_with fail
    refine (hS _).mono ?_
    rintro e w2 ⟨rfl, hb⟩
    have K2 := K1.call hb
    clear hb K1 c0 c1 c2 c3
    have c0 := K2.geta 2 rfl
    have c1 := K2.geta 3 rfl
    have c2 := K2.geta 4 rfl
    have c3 := K2.geta 5 rfl
    go_wp2_with fail
    refine (hS' _).mono ?_
    rintro e w3 ⟨rfl, hb⟩
    have K3 := Kq.call (K2.box4 _ _ _ _ _ _ rfl) hb
    clear hb K2 c0 c1 c2 c3 hS hS'
    have d0 := K3.geta 0 rfl
    have d1 := K3.geta 1 rfl
    have d2 := K3.geta 2 rfl
    have d3 := K3.geta 3 rfl
    have c0 := K3.geta 6 rfl
    have c1 := K3.geta 7 rfl
    have c2 := K3.geta 8 rfl
    have c3 := K3.geta 9 rfl
    have b0 := K3.getb 4 rfl
    have b1 := K3.getb 5 rfl
    go_wp2_with fail
    refine (hO _).mono ?_
    rintro e w4 ⟨rfl, hb⟩
    have K4 := Kq.call ((K3.alloc _).box4 (w3.heap.size + 1) _ _ _ _ _ (by simp)) hb
    clear hb K3 c0 c1 c2 c3 d0 d1 d2 d3 b0 b1
    have d0 := K4.geta 0 rfl
    have d1 := K4.geta 1 rfl
    have d2 := K4.geta 2 rfl
    have d3 := K4.geta 3 rfl
    have b0 := K4.geta 8 rfl
    have b1 := K4.geta 9 rfl
    go_wp2_with fail
    refine (hO' _).mono ?_
    rintro e w5 ⟨rfl, hb⟩
    have K5 := Kq.call (K4.box2 _ _ _ _ rfl) hb
    clear hb K4 d0 d1 d2 d3 b0 b1 hO hO'
    have k0 := K5.geta 0 rfl
    have k1 := K5.geta 1 rfl
    have c0 := K5.geta 14 rfl
    have c1 := K5.geta 15 rfl
    go_wp2_with fail
    refine (hG1 _).mono ?_
    rintro e w6 ⟨rfl, hb⟩
    have K6 := Kq.call (K5.alloc _) hb
    clear hb K5 k0 k1 c0 c1
    have c0 := K6.get 12 rfl
    have c1 := K6.get 13 rfl
    go_wp2_with fail
    refine (hG2 _).mono ?_
    rintro e w7 ⟨rfl, hb⟩
    have K7 := K6.call hb
    clear hb K6 c0 c1
    have c0 := K7.get 10 rfl
    have c1 := K7.get 11 rfl
    go_wp2_with fail
    refine (hG3 _).mono ?_
    rintro e w8 ⟨rfl, hb⟩
    have K8 := K7.call hb
    clear hb K7 c0 c1
    have c0 := K8.get 10 rfl
    have c1 := K8.get 11 rfl
    have c2 := K8.get 14 rfl
    have c3 := K8.get 15 rfl
    go_wp2_with fail
    refine (hV _).mono ?_
    rintro e w9 ⟨rfl, hb⟩
    have K9 := K8.call hb
    clear hb K8 c0 c1 c2 c3
    have c0 := K9.get 0 rfl
    have c1 := K9.get 1 rfl
    have c2 := K9.get 12 rfl
    have c3 := K9.get 13 rfl
    go_wp2
    go_ret
    exact ⟨rfl, K9.below⟩
  · go_enter Try.func3, Try.ntmps3
    go_wp2_with fail
    refine (lives_any _).mono ?_
    rintro e w1 ⟨rfl, hb⟩
    have K1 := Kq.call ((((Kq.start w).box2 _ _ _ _ rfl).box2 (w.heap.size + 1) _ _ _ (by simp)).box2 (w.heap.size + 2) _ _ _ (by simp)) hb
    clear hb
    have c0 := K1.get 2 rfl
    have c1 := K1.get 3 rfl
    have c2 := K1.get 4 rfl
    have c3 := K1.get 5 rfl
    go_wp2_with fail
    refine (hS _).mono ?_
    rintro e w2 ⟨rfl, hb⟩
    have K2 := K1.call hb
    clear hb K1 c0 c1 c2 c3
    have c0 := K2.geta 2 rfl
    have c1 := K2.geta 3 rfl
    have c2 := K2.geta 4 rfl
    have c3 := K2.geta 5 rfl
    go_wp2_with fail
    refine (hS' _).mono ?_
    rintro e w3 ⟨rfl, hb⟩
    have K3 := Kq.call (K2.box4 _ _ _ _ _ _ rfl) hb
    clear hb K2 c0 c1 c2 c3 hS hS'
    have d0 := K3.geta 0 rfl
    have d1 := K3.geta 1 rfl
    have d2 := K3.geta 2 rfl
    have d3 := K3.geta 3 rfl
    have c0 := K3.geta 6 rfl
    have c1 := K3.geta 7 rfl
    have c2 := K3.geta 8 rfl
    have c3 := K3.geta 9 rfl
    have b0 := K3.getb 4 rfl
    have b1 := K3.getb 5 rfl
    go_wp2_with fail
    refine (hO _).mono ?_
    rintro e w4 ⟨rfl, hb⟩
    have K4 := Kq.call ((K3.alloc _).box4 (w3.heap.size + 1) _ _ _ _ _ (by simp)) hb
    clear hb K3 c0 c1 c2 c3 d0 d1 d2 d3 b0 b1
    have d0 := K4.geta 0 rfl
    have d1 := K4.geta 1 rfl
    have d2 := K4.geta 2 rfl
    have d3 := K4.geta 3 rfl
    have b0 := K4.geta 8 rfl
    have b1 := K4.geta 9 rfl
    go_wp2_with fail
    refine (hO' _).mono ?_
    rintro e w5 ⟨rfl, hb⟩
    have K5 := Kq.call (K4.box2 _ _ _ _ rfl) hb
    clear hb K4 d0 d1 d2 d3 b0 b1 hO hO'
    have k0 := K5.geta 0 rfl
    have k1 := K5.geta 1 rfl
    have c0 := K5.geta 14 rfl
    have c1 := K5.geta 15 rfl
    go_wp2_with fail
    refine (hG1 _).mono ?_
    rintro e w6 ⟨rfl, hb⟩
    have K6 := Kq.call (K5.alloc _) hb
    clear hb K5 k0 k1 c0 c1
    have c0 := K6.get 12 rfl
    have c1 := K6.get 13 rfl
    go_wp2_with fail
    refine (hG2 _).mono ?_
    rintro e w7 ⟨rfl, hb⟩
    have K7 := K6.call hb
    clear hb K6 c0 c1
    have c0 := K7.get 10 rfl
    have c1 := K7.get 11 rfl
    go_wp2_with fail
    refine (hG3 _).mono ?_
    rintro e w8 ⟨rfl, hb⟩
    have K8 := K7.call hb
    clear hb K7 c0 c1
    have c0 := K8.get 10 rfl
    have c1 := K8.get 11 rfl
    have c2 := K8.get 14 rfl
    have c3 := K8.get 15 rfl
    go_wp2_with fail
    refine (hV _).mono ?_
    rintro e w9 ⟨rfl, hb⟩
    have K9 := K8.call hb
    clear hb K8 c0 c1 c2 c3
    go_wp2
    go_ret
    exact ⟨rfl, K9.below⟩
  · go_enter Try.func3, Try.ntmps3
    go_wp2_with fail
    refine (lives_any _).mono ?_
    rintro e w1 ⟨rfl, hb⟩
    have K1 := Kq.call ((((Kq.start w).box2 _ _ _ _ rfl).box2 (w.heap.size + 1) _ _ _ (by simp)).box2 (w.heap.size + 2) _ _ _ (by simp)) hb
    clear hb
    have c0 := K1.get 2 rfl
    have c1 := K1.get 3 rfl
    have c2 := K1.get 4 rfl
    have c3 := K1.get 5 rfl
    go_wp2_with fail
    refine (hS _).mono ?_
    rintro e w2 ⟨rfl, hb⟩
    have K2 := K1.call hb
    clear hb K1 c0 c1 c2 c3
    have c0 := K2.geta 2 rfl
    have c1 := K2.geta 3 rfl
    have c2 := K2.geta 4 rfl
    have c3 := K2.geta 5 rfl
    go_wp2_with fail
    refine (hS' _).mono ?_
    rintro e w3 ⟨rfl, hb⟩
    have K3 := Kq.call (K2.box4 _ _ _ _ _ _ rfl) hb
    clear hb K2 c0 c1 c2 c3 hS hS'
    have d0 := K3.geta 0 rfl
    have d1 := K3.geta 1 rfl
    have d2 := K3.geta 2 rfl
    have d3 := K3.geta 3 rfl
    have c0 := K3.geta 6 rfl
    have c1 := K3.geta 7 rfl
    have c2 := K3.geta 8 rfl
    have c3 := K3.geta 9 rfl
    have b0 := K3.getb 4 rfl
    have b1 := K3.getb 5 rfl
    go_wp2_with fail
    refine (hO _).mono ?_
    rintro e w4 ⟨rfl, hb⟩
    have K4 := Kq.call ((K3.alloc _).box4 (w3.heap.size + 1) _ _ _ _ _ (by simp)) hb
    clear hb K3 c0 c1 c2 c3 d0 d1 d2 d3 b0 b1
    have d0 := K4.geta 0 rfl
    have d1 := K4.geta 1 rfl
    have d2 := K4.geta 2 rfl
    have d3 := K4.geta 3 rfl
    have b0 := K4.geta 8 rfl
    have b1 := K4.geta 9 rfl
    go_wp2_with fail
    refine (hO' _).mono ?_
    rintro e w5 ⟨rfl, hb⟩
    have K5 := Kq.call (K4.box2 _ _ _ _ rfl) hb
    clear hb K4 d0 d1 d2 d3 b0 b1 hO hO'
    have k0 := K5.geta 0 rfl
    have k1 := K5.geta 1 rfl
    have c0 := K5.geta 14 rfl
    have c1 := K5.geta 15 rfl
    go_wp2_with fail
    refine (hG1 _).mono ?_
    rintro e w6 ⟨rfl, hb⟩
    have K6 := Kq.call (K5.alloc _) hb
    clear hb K5 k0 k1 c0 c1
    go_wp2
    go_ret
    exact ⟨rfl, K6.below⟩
  · go_enter Try.func3, Try.ntmps3
    go_wp2_with fail
    refine (lives_any _).mono ?_
    rintro e w1 ⟨rfl, hb⟩
    have K1 := Kq.call ((((Kq.start w).box2 _ _ _ _ rfl).box2 (w.heap.size + 1) _ _ _ (by simp)).box2 (w.heap.size + 2) _ _ _ (by simp)) hb
    clear hb
    have c0 := K1.get 2 rfl
    have c1 := K1.get 3 rfl
    have c2 := K1.get 4 rfl
    have c3 := K1.get 5 rfl
    go_wp2_with fail
    refine (hS _).mono ?_
    rintro e w2 ⟨rfl, hb⟩
    have K2 := K1.call hb
    clear hb K1 c0 c1 c2 c3
    have c0 := K2.geta 2 rfl
    have c1 := K2.geta 3 rfl
    have c2 := K2.geta 4 rfl
    have c3 := K2.geta 5 rfl
    go_wp2_with fail
    refine (hS' _).mono ?_
    rintro e w3 ⟨rfl, hb⟩
    have K3 := Kq.call (K2.box4 _ _ _ _ _ _ rfl) hb
    clear hb K2 c0 c1 c2 c3 hS hS'
    have d0 := K3.geta 0 rfl
    have d1 := K3.geta 1 rfl
    have d2 := K3.geta 2 rfl
    have d3 := K3.geta 3 rfl
    have c0 := K3.geta 6 rfl
    have c1 := K3.geta 7 rfl
    have c2 := K3.geta 8 rfl
    have c3 := K3.geta 9 rfl
    have b0 := K3.getb 4 rfl
    have b1 := K3.getb 5 rfl
    go_wp2_with fail
    refine (hO _).mono ?_
    rintro e w4 ⟨rfl, hb⟩
    have K4 := Kq.call ((K3.alloc _).box4 (w3.heap.size + 1) _ _ _ _ _ (by simp)) hb
    clear hb K3 c0 c1 c2 c3 d0 d1 d2 d3 b0 b1
    have d0 := K4.geta 0 rfl
    have d1 := K4.geta 1 rfl
    have d2 := K4.geta 2 rfl
    have d3 := K4.geta 3 rfl
    have b0 := K4.geta 8 rfl
    have b1 := K4.geta 9 rfl
    go_wp2_with fail
    refine (hO' _).mono ?_
    rintro e w5 ⟨rfl, hb⟩
    have K5 := Kq.call (K4.box2 _ _ _ _ rfl) hb
    clear hb K4 d0 d1 d2 d3 b0 b1 hO hO'
    have k0 := K5.geta 0 rfl
    have k1 := K5.geta 1 rfl
    have c0 := K5.geta 14 rfl
    have c1 := K5.geta 15 rfl
    go_wp2_with fail
    refine (hG1 _).mono ?_
    rintro e w6 ⟨rfl, hb⟩
    have K6 := Kq.call (K5.alloc _) hb
    clear hb K5 k0 k1 c0 c1
    have c0 := K6.get 12 rfl
    have c1 := K6.get 13 rfl
    go_wp2_with fail
    refine (hG2 _).mono ?_
    rintro e w7 ⟨rfl, hb⟩
    have K7 := K6.call hb
    clear hb K6 c0 c1
    go_wp2
    go_ret
    exact ⟨rfl, K7.below⟩
  · go_enter Try.func3, Try.ntmps3
    go_wp2_with fail
    refine (lives_any _).mono ?_
    rintro e w1 ⟨rfl, hb⟩
    have K1 := Kq.call ((((Kq.start w).box2 _ _ _ _ rfl).box2 (w.heap.size + 1) _ _ _ (by simp)).box2 (w.heap.size + 2) _ _ _ (by simp)) hb
    clear hb
    have c0 := K1.get 2 rfl
    have c1 := K1.get 3 rfl
    have c2 := K1.get 4 rfl
    have c3 := K1.get 5 rfl
    go_wp2_with fail
    refine (hS _).mono ?_
    rintro e w2 ⟨rfl, hb⟩
    have K2 := K1.call hb
    clear hb K1 c0 c1 c2 c3
    have c0 := K2.geta 2 rfl
    have c1 := K2.geta 3 rfl
    have c2 := K2.geta 4 rfl
    have c3 := K2.geta 5 rfl
    go_wp2_with fail
    refine (hS' _).mono ?_
    rintro e w3 ⟨rfl, hb⟩
    have K3 := Kq.call (K2.box4 _ _ _ _ _ _ rfl) hb
    clear hb K2 c0 c1 c2 c3 hS hS'
    have d0 := K3.geta 0 rfl
    have d1 := K3.geta 1 rfl
    have d2 := K3.geta 2 rfl
    have d3 := K3.geta 3 rfl
    have c0 := K3.geta 6 rfl
    have c1 := K3.geta 7 rfl
    have c2 := K3.geta 8 rfl
    have c3 := K3.geta 9 rfl
    have b0 := K3.getb 4 rfl
    have b1 := K3.getb 5 rfl
    go_wp2_with fail
    refine (hO _).mono ?_
    rintro e w4 ⟨rfl, hb⟩
    have K4 := Kq.call ((K3.alloc _).box4 (w3.heap.size + 1) _ _ _ _ _ (by simp)) hb
    clear hb K3 c0 c1 c2 c3 d0 d1 d2 d3 b0 b1
    have d0 := K4.geta 0 rfl
    have d1 := K4.geta 1 rfl
    have d2 := K4.geta 2 rfl
    have d3 := K4.geta 3 rfl
    have b0 := K4.geta 8 rfl
    have b1 := K4.geta 9 rfl
    go_wp2_with fail
    refine (hO' _).mono ?_
    rintro e w5 ⟨rfl, hb⟩
    have K5 := Kq.call (K4.box2 _ _ _ _ rfl) hb
    clear hb K4 d0 d1 d2 d3 b0 b1 hO hO'
    have k0 := K5.geta 0 rfl
    have k1 := K5.geta 1 rfl
    have c0 := K5.geta 14 rfl
    have c1 := K5.geta 15 rfl
    go_wp2_with fail
    refine (hG1 _).mono ?_
    rintro e w6 ⟨rfl, hb⟩
    have K6 := Kq.call (K5.alloc _) hb
    clear hb K5 k0 k1 c0 c1
    have c0 := K6.get 12 rfl
    have c1 := K6.get 13 rfl
    go_wp2_with fail
    refine (hG2 _).mono ?_
    rintro e w7 ⟨rfl, hb⟩
    have K7 := K6.call hb
    clear hb K6 c0 c1
    have c0 := K7.get 10 rfl
    have c1 := K7.get 11 rfl
    go_wp2_with fail
    refine (hG3 _).mono ?_
    rintro e w8 ⟨rfl, hb⟩
    have K8 := K7.call hb
    clear hb K7 c0 c1
    go_wp2
    go_ret
    exact ⟨rfl, K8.below⟩

theorem own : ownKnob Try.prog.godebug = none := by kernel_rfl
theorem laidOut : laidOutB Try.prog = true := by kernel_rfl
set_option maxRecDepth 100000 in
theorem lifted (os : Os) (started : os.Started) (H : Type) (enc : TypeId × Value → H) :
    ReturnsInHanded {} Try.checked os 3 .any (Rows.keyOpensSpec.pre6 enc Try.prog Try.f3 Rows.keyOpensRow.domain false) (Rows.keyOpensSpec.post enc Try.prog Try.f3 false true false false) := by
  refine returnsInHanded_of_change (C := Try.checked) own started (by kernel_rfl) Try.func3
    (ChangeSpec.witness6 (enc := enc) (C := Try.checked) false ⟨#[], #[.agg #[.int .i64 0, .int .i64 0], .agg #[.int .i64 0, .int .i64 0], .agg #[.int .i64 0, .int .i64 0]], []⟩ 8 (by kernel_rfl) (by kernel_rfl) (by kernel_rfl) (by kernel_rfl)) ?_
  intro W base args ds gs before hval0 hW hcnd _
  have hval : ∀ (j : Nat) t v, Try.f3.params[j]? = some t → args[j]? = some v → Value.okWide Try.prog W .any base t v := hval0
  have hW' := hW
  obtain ⟨p, q, hA0, hV, rfl, hfz, hnd⟩ := hW
  have hA : DataW.TrodAll enc Try.prog W 0 (fun _ => true) true Try.f3.params.toList args.toList ds p := hA0
  rw [Try.params3] at hA hval
  obtain ⟨v0, vs0, d0, ds0, p0, q0, hargs, rfl, rfl, h0, r0⟩ := trodAll_cons hA
  obtain ⟨v1, vs1, d1, ds1, p1, q1, rfl, rfl, rfl, h1, r1⟩ := trodAll_cons r0
  obtain ⟨v2, vs2, d2, ds2, p2, q2, rfl, rfl, rfl, h2, r2⟩ := trodAll_cons r1
  obtain ⟨rfl, rfl, rfl⟩ := trodAll_nil r2
  obtain rfl : args = #[v0, v1, v2] := by cases args; simp_all
  obtain ⟨rfl, rfl⟩ := trodVars_none hV
  have k0 := h0
  have lt0 : ∀ x ∈ p0, x.block < W.heap.size := by obtain ⟨m, hm⟩ := k0; exact DataW.trod_lt m _ _ _ hm
  obtain ⟨a0_0, a0_1, rfl, w0_0, w0_1⟩ := open_pair Try.underlying23 (by kernel_rfl) (by kernel_rfl) rfl rfl Try.underlying3 (hval 0 23 v0 rfl rfl) h0
  have k1 := h1
  have lt1 : ∀ x ∈ p1, x.block < W.heap.size := by obtain ⟨m, hm⟩ := k1; exact DataW.trod_lt m _ _ _ hm
  obtain ⟨a1_0, a1_1, rfl, w1_0, w1_1⟩ := open_pair Try.underlying23 (by kernel_rfl) (by kernel_rfl) rfl rfl Try.underlying3 (hval 1 23 v1 rfl rfl) h1
  have k2 := h2
  have lt2 : ∀ x ∈ p2, x.block < W.heap.size := by obtain ⟨m, hm⟩ := k2; exact DataW.trod_lt m _ _ _ hm
  obtain ⟨a2_0, a2_1, rfl, w2_0, w2_1⟩ := open_pair Try.underlying23 (by kernel_rfl) (by kernel_rfl) rfl rfl Try.underlying3 (hval 2 23 v2 rfl rfl) h2
  clear hA0 hval0
  refine (walk a0_0 a0_1 a1_0 a1_1 a2_0 a2_1 w0_0 w0_1 w1_0 w1_1 w2_0 w2_1 W).mono fun e W' ⟨he, bel⟩ => ?_
  subst he
  exact ⟨_, rfl, _, _, _, [], _, [], hW', trodAll_mk1 (shut_bool Try.underlying4 _), (trodAll_cons_mk (Below.trod laidOut (by kernel_rfl) (of_decide_eq_true (by kernel_rfl)) k0 bel lt0) (trodAll_cons_mk (Below.trod laidOut (by kernel_rfl) (of_decide_eq_true (by kernel_rfl)) k1 bel lt1) (trodAll_cons_mk (Below.trod laidOut (by kernel_rfl) (of_decide_eq_true (by kernel_rfl)) k2 bel lt2) trodAll_mk0))), rfl, bel.frame _, fun h => by cases h⟩
theorem over : Rows.keyOpensRow.holds Try.pinned (OpenSpec.ofChange Rows.keyOpensSpec) :=
  OpenClaim.holds_of_wide 3 Try.f3 rfl rfl rfl rfl rfl rfl rfl ⟨rfl, rfl, rfl, rfl, rfl⟩ rfl rfl rfl rfl rfl (by kernel_rfl) Try.func3 (by kernel_rfl)
    (of_decide_eq_true (by kernel_rfl)) (by unfold Func.isWrapper; first | (rw [if_pos (by decide +kernel)]; kernel_rfl) | (rw [if_neg (by decide +kernel)]; exact ⟨rfl, rfl⟩))
    (fun os started H enc _ => lifted os started H enc)
end Go.Proofs.Ytdbnaoddnelebab.keyOpens
namespace Go.Proofs.Ytdbnaoddnelebab
theorem keyOpens_holds : Rows.KeyOpensSaid := keyOpens.over
#print axioms keyOpens_holds
end Go.Proofs.Ytdbnaoddnelebab
