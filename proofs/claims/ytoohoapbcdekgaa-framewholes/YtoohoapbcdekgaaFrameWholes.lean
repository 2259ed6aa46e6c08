/- For every list of pieces: Whole answers as the document's, and the pieces stay. No conditions. -/
import Derived.Test.YtoohoapbcdekgaaRows
import Derived.Test.YtoohoapbcdekgaaFrL
import Derived.Test.YtoohoapbcdekgaaFrW
import Derived.Test.YtoohoapbcdekgaaOpenFr
import Derived.Laws.AppendOwnNone
import Derived.OpenShut
import Derived.SizedLaws
import Derived.ChangeMaps5
namespace Go.Proofs.Ytoohoapbcdekgaa.frameWholes
open Go.ChangeShapes Go.WideShapes Go.ChangeAt Go.RowKit Go.Maps
set_option linter.unusedVariables false
set_option linter.unusedSimpArgs false

def x9 : Pc := ⟨-9, 0, 0, ⟨#[]⟩⟩
theorem cells9 : cellsP [x9] = [.int .i64 (-9), .int .i64 0, .int .i64 0, .string ⟨#[]⟩] := rfl
theorem wp_ends {l : List Pc} {e e' : Ending} (h : WP l e) (h' : WP l e') : ∃ N T E, e = .returned (.tuple #[.int .i64 N, .string T, .int .i64 E]) ∧ e' = .returned (.tuple #[.int .i64 N, .string T, .int .i64 E]) := by
  rcases h with ⟨h1, rfl⟩ | ⟨h1, rfl⟩ <;> rcases h' with ⟨h2, rfl⟩ | ⟨h2, rfl⟩
  · exact ⟨_, _, _, rfl, rfl⟩
  · exact absurd h1 h2
  · exact absurd h2 h1
  · exact ⟨_, _, _, rfl, rfl⟩
theorem row_cap {w : World} {B e z m g cap : Nat} {xs : List Value} (h : w.ownsRow B e z (.slice (some ⟨g, 0, none⟩) m cap) m xs) : m ≤ cap := by
  rcases h.2 with ⟨h0, _⟩ | ⟨g', cap', cur, hv, hb, hh, h1, _⟩
  · cases h0
  · cases hv; exact h1
set_option maxHeartbeats 4000000 in
set_option maxRecDepth 100000 in
theorem walk_some (b o c : Nat) (l : List Pc) (w : World) (rd : RdP w (some ⟨b, o, none⟩) l) (hl : l.length * 40 ≤ 140737488351232) (h0 : 0 < l.length) :
    Calls Try.prog 5 #[.slice (some ⟨b, o, none⟩) l.length c] w fun e w' => e = .returned (.bool true) ∧ Below w.heap.size w w' := by
  obtain ⟨i0, hi, hz0, hz1, hz2⟩ := info_parts infoP
  have HRD : Hid (RdP w (some ⟨b, o, none⟩) l) := rd
  obtain ⟨n, hn⟩ : ∃ n, l.length = n := ⟨_, rfl⟩
  rw [hn] at hl h0 ⊢
  have HN : Hid (l.length = n) := hn
  have HCL : Hid ((cellsP l).length = n * 4) := by unfold Hid; rw [cellsP_length, hn]
  clear rd hn
  go_enter Try.func5, Try.ntmps5
  go_wp2_with fail
  refine (lives_any _).mono ?_
  rintro e w1 ⟨rfl, hb1⟩
  have HB1 : Hid (Below w.heap.size w w1) := hb1
  have hs1 := hb1.size
  have HE0 : Hid ((w1.alloc (.cells #[] 23)).ownsRow w1.heap.size 23 4 (.slice (some ⟨w1.heap.size, 0, none⟩) 0 0) 0 []) := row_empty w1 23 4
  have HNW : Hid (∀ j u, (cellsP l)[j]? = some u → (w1.alloc (.cells #[] 23)).cell? ((⟨b, o, none⟩ : Addr).add j) = some u) := ((HRD.out.later hb1).later (below1 w1 (.cells #[] 23))).news
  clear hb1
  go_wp2_with (first
    | (at_builtin; refine wpList_append_lies _ rfl _ _ _ rfl w1.heap.size 23 i0 _ 4 40 Try.underlying37 hi hz0 hz1 hz2 rfl (by omega) _ 0 [] rfl HE0.out ⟨b, o, none⟩ n c (cellsP l) rfl HCL.out HNW.out (cellsP_one _) h0 (by unfold maxLen; omega) (by omega) (by simp) (w1.heap.size + 1) (by simp) ?_; intro g2 cap2 w2 hown2 hgrow2 hat2 hlt2; rw [Nat.zero_add, List.nil_append] at hown2; have HO2 : Hid (w2.ownsRow w1.heap.size 23 4 (.slice (some ⟨g2, 0, none⟩) n cap2) n (cellsP l)) := hown2; have HG2 : Hid ((w1.alloc (.cells #[] 23)).grownBy w2 (some w1.heap.size)) := hgrow2; have hs2 : w1.heap.size + 1 ≤ w2.heap.size := (by have := hgrow2.size; simpa using this); clear hown2 hgrow2 hat2 hlt2)
    | (at_builtin; refine wpList_append_lies _ rfl _ _ _ rfl w1.heap.size 23 i0 _ 4 40 Try.underlying37 hi hz0 hz1 hz2 rfl (by omega) _ n _ rfl (HO2.out.alloc _) ⟨w2.heap.size, 0, none⟩ 1 1 [.int .i64 (-9), .int .i64 0, .int .i64 0, .string ⟨#[]⟩] rfl rfl (cell_four_at _ _ _ _ _ _ _ rfl) (by simp [Value.oneCell']) (by omega) (by unfold maxLen; omega) (by omega) (by simp; omega) (w2.heap.size + 1) (by simp) ?_; intro g3 cap3 w3 hown3 hgrow3 hat3 hlt3; have hcap3 : n + 1 ≤ cap3 := row_cap hown3; have t1 : (0 : Int) ≤ (n : Int) := (by omega); have t2 : (n : Int) ≤ (cap3 : Int) := (by omega); have t3 : n ≤ cap3 := (by omega); have HG3 : Hid _ := hgrow3; have HO3 : Hid _ := hown3; clear hown3 hgrow3 hat3 hlt3))
  have HB2 : Hid (Below w.heap.size w w2) := (Below.more HB1.out _).grown HG2.out (by simp; omega) (fun j hj => by cases hj; exact hs1)
  have HB3 : Hid (Below w.heap.size w w3) := (Below.more HB2.out _).grown HG3.out (by simp; omega) (fun j hj => by have := (HO2.out.lt j hj).1; omega)
  have hrow3 : w3.ownsRow w1.heap.size 23 4 (.slice (some ⟨g3, 0, none⟩) (n + 1) cap3) (n + 1) (cellsP (l ++ [x9])) := by rw [cellsP_append, cells9]; exact HO3.out
  have hl9 : (l ++ [x9]).length = n + 1 := by rw [List.length_append, HN.out]; rfl
  have hrd3 : RdP w3 (some ⟨g3, 0, none⟩) (l ++ [x9]) := RwP.rd (N := w1.heap.size) (n := n + 1) (cap := cap3) (by unfold RwP; rw [hl9]; exact hrow3)
  have HRL : Hid (RdP w3 (some ⟨g3, 0, none⟩) l) := by
    intro i hi
    obtain ⟨b', o', e', x⟩ := hrd3 i (by rw [List.length_append]; omega)
    have eg : (l ++ [x9]).getD i pc0 = l.getD i pc0 := by simp [List.getD_eq_getElem?_getD, List.getElem?_append_left hi]
    rw [eg] at x
    exact ⟨b', o', e', x⟩
  have HX9 : Hid (w3.cell? ⟨g3, n * 4, none⟩ = some (.int .i64 (-9))) := by
    obtain ⟨b', o', e', x⟩ := hrd3 n (by rw [hl9]; omega)
    obtain ⟨eb, eo⟩ : g3 = b' ∧ 0 = o' := by simpa using e'
    have eg : (l ++ [x9]).getD n pc0 = x9 := by
      have := HN.out
      subst this
      simp [List.getD_eq_getElem?_getD]
    rw [eg, ← eb, ← eo, Nat.zero_add] at x
    exact x.c0
  have HRA : Hid (RdP w3 (some ⟨b, o, none⟩) l) := HRD.out.later HB3.out
  have hw1 := fun c => whole_any (some ⟨g3, 0, none⟩) c l (by rw [HN.out]; omega) w3 HRL.out
  simp only [HN.out] at hw1
  clear hrow3 hl9 hrd3 HO3 HG3
  go_wp2_with fail
  refine (hw1 _).mono ?_
  rintro e4 w4 ⟨hp4, hb4⟩
  have hw2 := rWhole_any (some ⟨b, o, none⟩) c l w4 (HRA.out.later hb4)
  simp only [HN.out] at hw2
  have HP4 : Hid (WP l e4) := hp4
  have hend : ∃ N T E, e4 = .returned (.tuple #[.int .i64 N, .string T, .int .i64 E]) ∧ ∀ e', WP l e' → e' = .returned (.tuple #[.int .i64 N, .string T, .int .i64 E]) := by
    obtain ⟨N, T, E, q1, -⟩ := wp_ends hp4 hp4
    refine ⟨N, T, E, q1, fun e' h' => ?_⟩
    obtain ⟨N', T', E', q2, q3⟩ := wp_ends hp4 h'
    rw [q1] at q2
    cases q2
    exact q3
  obtain ⟨N, T, E, rfl, hall⟩ := hend
  have HALL : Hid (∀ e', WP l e' → e' = .returned (.tuple #[.int .i64 N, .string T, .int .i64 E])) := hall
  have HB4 : Hid (Below w3.heap.size w3 w4) := hb4
  clear hw1 hp4 hb4 hall HP4
  go_wp2_with fail
  refine hw2.mono ?_
  rintro e5 w5 ⟨hp5, hb5⟩
  obtain rfl := HALL.out e5 hp5
  have HB5 : Hid (Below w3.heap.size w3 w5) := Below.then HB4.out hb5
  clear hw2 hp5 hb5
  go_wp2_with fail
  go_loopw [36] (fun i wr => ∃ k : Nat, k ≤ n ∧ i = .int .i64 (k : Int) ∧ Below w3.heap.size w3 wr) (fun i _ => n - (intOf i).toNat)
  case atStart => exact ⟨0, by omega, rfl, HB5.out⟩
  case round =>
    obtain ⟨k, hk, rfl, hb⟩ := hrel
    have HB : Hid (Below w3.heap.size w3 wr) := hb
    by_cases hkn : k < n
    · obtain ⟨b1, o1, ea, x0, x1, x2, x3⟩ := (HRA.out.later hb) k (by rw [HN.out]; exact hkn)
      obtain ⟨ea1, ea2⟩ : b = b1 ∧ o = o1 := by simpa using ea
      rw [← ea1, ← ea2] at x0 x1 x2 x3
      obtain ⟨b', o', eb, y0, y1, y2, y3⟩ := (HRL.out.later hb) k (by rw [HN.out]; exact hkn)
      obtain ⟨eb1, eb2⟩ : g3 = b' ∧ 0 = o' := by simpa using eb
      rw [← eb1, ← eb2, Nat.zero_add] at y0 y1 y2 y3
      obtain ⟨⟨q, p, m, d⟩, hx⟩ : ∃ x, l.getD k pc0 = x := ⟨_, rfl⟩
      rw [hx] at x0 x1 x2 x3 y0 y1 y2 y3
      clear hx ea ea1 ea2 eb eb1 eb2 hb
      have x0 : wr.cell? ⟨b, o + k * 4, none⟩ = some (.int .i64 q) := x0
      have x1 : wr.cell? ⟨b, o + k * 4 + 1, none⟩ = some (.int .i64 p) := x1
      have x2 : wr.cell? ⟨b, o + k * 4 + 2, none⟩ = some (.int .i64 m) := x2
      have x3 : wr.cell? ⟨b, o + k * 4 + 3, none⟩ = some (.string d) := x3
      have y0 : wr.cell? ⟨g3, k * 4, none⟩ = some (.int .i64 q) := y0
      have y1 : wr.cell? ⟨g3, k * 4 + 1, none⟩ = some (.int .i64 p) := y1
      have y2 : wr.cell? ⟨g3, k * 4 + 2, none⟩ = some (.int .i64 m) := y2
      have y3 : wr.cell? ⟨g3, k * 4 + 3, none⟩ = some (.string d) := y3
      have j1 : (0 : Int) ≤ (k : Int) := by omega
      have j2 : (k : Int) < (n : Int) := by omega
      have j3 : (k : Int) < (n : Int) + 1 := by omega
      go_wp2_with fail
      go_quiet (fail)
      go_wp2_with fail
      go_roundw
      case rel => exact ⟨k + 1, by omega, by go_num, below_drewN HB.out _⟩
      case measure => simp [intOf]; omega
    · have hjk' : decide ((k : Int) < (n : Int)) = false := by simp; omega
      have x9c := cell_later hb HX9.out
      have j1 : (0 : Int) ≤ (n : Int) := by omega
      have j3 : (n : Int) < (n : Int) + 1 := by omega
      clear hb
      go_wp2_with fail
      go_ret
      exact ⟨ret_bool (by simp), Below.then HB3.out HB.out⟩
set_option maxHeartbeats 4000000 in
set_option maxRecDepth 100000 in
theorem walk_zero (ad : Addr) (c : Nat) (w : World) :
    Calls Try.prog 5 #[.slice (some ad) 0 c] w fun e w' => e = .returned (.bool true) ∧ Below w.heap.size w w' := by
  obtain ⟨i0, hi, hz0, hz1, hz2⟩ := info_parts infoP
  go_enter Try.func5, Try.ntmps5
  go_wp2_with fail
  refine (lives_any _).mono ?_
  rintro e w1 ⟨rfl, hb1⟩
  have HB1 : Hid (Below w.heap.size w w1) := hb1
  have hs1 := hb1.size
  have HE0 : Hid ((w1.alloc (.cells #[] 23)).ownsRow w1.heap.size 23 4 (.slice (some ⟨w1.heap.size, 0, none⟩) 0 0) 0 []) := row_empty w1 23 4
  clear hb1
  go_wp2_with (first
    | (at_builtin; refine wpList_append_fits _ rfl _ _ _ rfl w1.heap.size 23 i0 4 Try.underlying37 hi hz1 w1.heap.size 0 0 [] rfl HE0.out ad 0 c [] rfl rfl (fun j u hu => by simp at hu) (fun u hu => by simp at hu) (by omega) ?_; intro w2 hown2 hgrow2; have HO2 : Hid (w2.ownsRow w1.heap.size 23 4 (.slice (some ⟨w1.heap.size, 0, none⟩) 0 0) 0 []) := hown2; have HG2 : Hid ((w1.alloc (.cells #[] 23)).grownBy w2 (some w1.heap.size)) := hgrow2; have hs2 : w1.heap.size + 1 ≤ w2.heap.size := (by have := hgrow2.size; simpa using this); clear hown2 hgrow2)
    | (at_builtin; refine wpList_append_lies _ rfl _ _ _ rfl w1.heap.size 23 i0 _ 4 40 Try.underlying37 hi hz0 hz1 hz2 rfl (by omega) _ 0 _ rfl (HO2.out.alloc _) ⟨w2.heap.size, 0, none⟩ 1 1 [.int .i64 (-9), .int .i64 0, .int .i64 0, .string ⟨#[]⟩] rfl rfl (cell_four_at _ _ _ _ _ _ _ rfl) (by simp [Value.oneCell']) (by omega) (by unfold maxLen; omega) (by omega) (by simp; omega) (w2.heap.size + 1) (by simp) ?_; intro g3 cap3 w3 hown3 hgrow3 hat3 hlt3; have hcap3 : 0 + 1 ≤ cap3 := row_cap hown3; have HG3 : Hid _ := hgrow3; have HO3 : Hid (w3.ownsRow w1.heap.size 23 4 (.slice (some ⟨g3, 0, none⟩) (0 + 1) cap3) (0 + 1) ([] ++ [.int .i64 (-9), .int .i64 0, .int .i64 0, .string ⟨#[]⟩])) := hown3; clear hown3 hgrow3 hat3 hlt3))
  have HB2 : Hid (Below w.heap.size w w2) := (Below.more HB1.out _).grown HG2.out (by simp; omega) (fun j hj => by cases hj; exact hs1)
  have HB3 : Hid (Below w.heap.size w w3) := (Below.more HB2.out _).grown HG3.out (by simp; omega) (fun j hj => by cases hj; exact hs1)
  have c9 : w3.cell? ⟨g3, 0, none⟩ = some (.int .i64 (-9)) := by
    rw [HO3.out.cellAt 0 (by omega)]; rfl
  clear HO3 HG3
  refine (whole_nil _ _ _).mono ?_
  rintro e4 w4 ⟨hp4, hb4⟩
  have hend : e4 = wB := by
    rcases hp4 with ⟨h, _⟩ | ⟨_, h⟩
    · exact absurd rfl h.ne
    · exact h
  subst hend
  unfold wB
  have HB4 : Hid (Below w3.heap.size w3 w4) := hb4
  clear hp4 hb4
  go_wp2_with fail
  refine (rWhole_nil _ _ _).mono ?_
  rintro e5 w5 ⟨hp5, hb5⟩
  have hend : e5 = wB := by
    rcases hp5 with ⟨h, _⟩ | ⟨_, h⟩
    · exact absurd rfl h.ne
    · exact h
  subst hend
  unfold wB
  have HB5 : Hid (Below w3.heap.size w3 w5) := Below.then HB4.out hb5
  have d9 := cell_later HB5.out c9
  clear hp5 hb5 c9
  go_wp2_with fail
  refine wp_loop_rounds 1 ?_
  rw [rounds_succ]; go_wp2_with fail
  go_ret
  exact ⟨rfl, Below.then HB3.out HB5.out⟩
set_option maxHeartbeats 4000000 in
set_option maxRecDepth 100000 in
theorem walk_nil (w : World) :
    Calls Try.prog 5 #[.slice none 0 0] w fun e w' => e = .returned (.bool true) ∧ Below w.heap.size w w' := by
  obtain ⟨i0, hi, hz0, hz1, hz2⟩ := info_parts infoP
  go_enter Try.func5, Try.ntmps5
  go_wp2_with fail
  refine (lives_any _).mono ?_
  rintro e w1 ⟨rfl, hb1⟩
  have HB1 : Hid (Below w.heap.size w w1) := hb1
  have hs1 := hb1.size
  have HE0 : Hid ((w1.alloc (.cells #[] 23)).ownsRow w1.heap.size 23 4 (.slice (some ⟨w1.heap.size, 0, none⟩) 0 0) 0 []) := row_empty w1 23 4
  clear hb1
  go_wp2_with (first
    | (at_builtin; refine wpList_append_own_none rfl _ _ _ rfl w1.heap.size 23 i0 4 Try.underlying37 hi _ 0 [] rfl HE0.out rfl ?_)
    | (at_builtin; refine wpList_append_lies _ rfl _ _ _ rfl w1.heap.size 23 i0 _ 4 40 Try.underlying37 hi hz0 hz1 hz2 rfl (by omega) _ 0 _ rfl (HE0.out.alloc _) ⟨w1.heap.size + 1, 0, none⟩ 1 1 [.int .i64 (-9), .int .i64 0, .int .i64 0, .string ⟨#[]⟩] rfl rfl (cell_four_at _ _ _ _ _ _ _ (by simp)) (by simp [Value.oneCell']) (by omega) (by unfold maxLen; omega) (by omega) (by simp; omega) (w1.heap.size + 2) (by simp) ?_; intro g3 cap3 w3 hown3 hgrow3 hat3 hlt3; have hcap3 : 0 + 1 ≤ cap3 := row_cap hown3; have HG3 : Hid _ := hgrow3; have HO3 : Hid (w3.ownsRow w1.heap.size 23 4 (.slice (some ⟨g3, 0, none⟩) (0 + 1) cap3) (0 + 1) ([] ++ [.int .i64 (-9), .int .i64 0, .int .i64 0, .string ⟨#[]⟩])) := hown3; clear hown3 hgrow3 hat3 hlt3))
  have HB3 : Hid (Below w.heap.size w w3) := (Below.more (Below.more HB1.out _) _).grown HG3.out (by simp; omega) (fun j hj => by cases hj; exact hs1)
  have c9 : w3.cell? ⟨g3, 0, none⟩ = some (.int .i64 (-9)) := by
    rw [HO3.out.cellAt 0 (by omega)]; rfl
  clear HO3 HG3
  refine (whole_nil _ _ _).mono ?_
  rintro e4 w4 ⟨hp4, hb4⟩
  have hend : e4 = wB := by
    rcases hp4 with ⟨h, _⟩ | ⟨_, h⟩
    · exact absurd rfl h.ne
    · exact h
  subst hend
  unfold wB
  have HB4 : Hid (Below w3.heap.size w3 w4) := hb4
  clear hp4 hb4
  go_wp2_with fail
  refine (rWhole_nil _ _ _).mono ?_
  rintro e5 w5 ⟨hp5, hb5⟩
  have hend : e5 = wB := by
    rcases hp5 with ⟨h, _⟩ | ⟨_, h⟩
    · exact absurd rfl h.ne
    · exact h
  subst hend
  unfold wB
  have HB5 : Hid (Below w3.heap.size w3 w5) := Below.then HB4.out hb5
  have d9 := cell_later HB5.out c9
  clear hp5 hb5 c9
  go_wp2_with fail
  refine wp_loop_rounds 1 ?_
  rw [rounds_succ]; go_wp2_with fail
  go_ret
  exact ⟨rfl, Below.then HB3.out HB5.out⟩
theorem walk (a0 : Option Addr) (c0 : Nat) (l0 : List Pc) (w : World) (rd0 : RdP w a0 l0) (hl0 : l0.length * 40 ≤ 140737488351232) (hn0 : a0 = none → c0 = 0) (hg0 : ∀ p ∈ l0, (Lit.int .i64 p.q).wf = true ∧ (Lit.int .i64 p.p).wf = true ∧ (Lit.int .i64 p.n).wf = true ∧ p.d.size ≤ 9223372036854775807) :
    Calls Try.prog 5 #[.slice a0 l0.length c0] w fun e w' => e = .returned (.bool true) ∧ Below w.heap.size w w' := by
  by_cases h0 : l0 = []
  · subst h0
    cases a0 with
    | none =>
      have := hn0 rfl
      subst this
      exact walk_nil w
    | some ad => exact walk_zero ad c0 w
  · obtain ⟨b, o, rfl, -⟩ := rd0.spot h0
    exact walk_some b o c0 l0 w rd0 hl0 (List.length_pos_iff.2 h0)
theorem own : ownKnob Try.prog.godebug = none := by kernel_rfl
theorem laidOut : laidOutB Try.prog = true := by kernel_rfl
set_option maxRecDepth 100000 in
theorem lifted (os : Os) (started : os.Started) (H : Type) (enc : TypeId × Value → H) :
    ReturnsInHanded {} Try.checked os 5 .any (Rows.frameWholesSpec.pre6 enc Try.prog Try.f5 Rows.frameWholesRow.domain false) (Rows.frameWholesSpec.post enc Try.prog Try.f5 false true false false) := by
  refine returnsInHanded_of_change_sized (C := Try.checked) own started (by kernel_rfl) Try.func5
    (ChangeSpec.witness6 (enc := enc) (C := Try.checked) false ⟨#[], #[.slice none 0 0], []⟩ 8 (by kernel_rfl) (by kernel_rfl) (by kernel_rfl) (by kernel_rfl)) ?_
  intro W base args ds gs before hval0 hW hcnd hsz0 _
  have hsz : (DataW.weightsEach Try.prog (Try.f5.params.toList ++ Rows.frameWholesSpec.plain.varTypes Try.prog) (ds ++ gs)).all (· ≤ reachBytes) = true := hsz0
  clear hsz0
  have hval : ∀ (j : Nat) t v, Try.f5.params[j]? = some t → args[j]? = some v → Value.okWide Try.prog W .any base t v := hval0
  have hW' := hW
  obtain ⟨p, q, hA0, hV, rfl, hfz, hnd⟩ := hW
  have hA : DataW.TrodAll enc Try.prog W 0 (fun _ => true) true Try.f5.params.toList args.toList ds p := hA0
  rw [Try.params5] at hA hval hsz
  obtain ⟨v0, vs0, d0, ds0, p0, q0, hargs, rfl, rfl, h0, r0⟩ := trodAll_cons hA
  obtain ⟨rfl, rfl, rfl⟩ := trodAll_nil r0
  obtain rfl : args = #[v0] := by cases args; simp_all
  obtain ⟨rfl, rfl⟩ := trodVars_none hV
  have k0 := h0
  have lt0 : ∀ x ∈ p0, x.block < W.heap.size := by obtain ⟨m, hm⟩ := k0; exact DataW.trod_lt m _ _ _ hm
  obtain ⟨a0, c0, l0, rfl, rd0, hl0, hn0, hg0⟩ := pieces_of (fun es sp e => by subst e; have h := sized_slice hsz (j := 0) (t := 37) (e := 23) rfl rfl Try.underlying37; rw [bytesP] at h; exact h) (okWide_slice Try.underlying37 (hval 0 37 v0 rfl rfl)) h0
  clear hA0 hval0
  refine (walk a0 c0 l0 W rd0 hl0 hn0 hg0).mono fun e W' ⟨he, bel⟩ => ?_
  subst he
  exact ⟨_, rfl, _, _, _, [], _, [], hW', trodAll_mk1 (shut_bool Try.underlying4 _), (trodAll_cons_mk (Below.trod laidOut (by kernel_rfl) (of_decide_eq_true (by kernel_rfl)) k0 bel lt0) trodAll_mk0), rfl, bel.frame _, fun h => by cases h⟩
theorem over : Rows.frameWholesRow.holds Try.pinned (OpenSpec.ofChange Rows.frameWholesSpec) :=
  OpenClaim.holds_of_wide 5 Try.f5 rfl rfl rfl rfl rfl rfl rfl ⟨rfl, rfl, rfl, rfl, rfl⟩ rfl rfl rfl rfl rfl (by kernel_rfl) Try.func5 (by kernel_rfl)
    (of_decide_eq_true (by kernel_rfl)) (by unfold Func.isWrapper; first | (rw [if_pos (by decide +kernel)]; kernel_rfl) | (rw [if_neg (by decide +kernel)]; exact ⟨rfl, rfl⟩))
    (fun os started H enc _ => lifted os started H enc)
end Go.Proofs.Ytoohoapbcdekgaa.frameWholes
namespace Go.Proofs.Ytoohoapbcdekgaa
theorem frameWholes_holds : Rows.FrameWholesSaid := frameWholes.over
#print axioms frameWholes_holds
end Go.Proofs.Ytoohoapbcdekgaa
