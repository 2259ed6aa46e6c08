/- Contract: the pieces of the program's blocks, as the statements take them. -/
import Derived.Test.YtoohoapbcdekgaaFrL
namespace Go.Proofs.Ytoohoapbcdekgaa
open Go.RowKit Go.Maps
set_option linter.unusedVariables false
set_option linter.unusedSimpArgs false

theorem row_mono {w : World} {B B' e z n : Nat} {v : Value} {xs : List Value} (h : w.ownsRow B e z v n xs) (hb : B' ≤ B) : w.ownsRow B' e z v n xs := by
  refine ⟨h.1, ?_⟩
  rcases h.2 with h0 | ⟨g, cap, cur, hv, hg, rest⟩
  · exact .inl h0
  · exact .inr ⟨g, cap, cur, hv, Nat.le_trans hb hg, rest⟩
theorem un_same (q p n : Int) (d : ByteArray) (h : rt q p n d.size = true) (W : World) : Calls Try.prog 14 #[.string (bl q p n d)] W fun e w' => e = .returned (.tuple #[.agg #[.int .i64 q, .int .i64 p, .int .i64 n, .string d], .int .i64 0]) ∧ Below W.heap.size W w' := by
  have hu := unblock_yes (bl q p n d) W (ub_bl q p n d h)
  rw [rq_bl q p n d h, (bts_bl q p n d h).1, (bts_bl q p n d h).2, rdd_bl q p n d h] at hu
  exact hu
set_option maxHeartbeats 1000000 in
set_option maxRecDepth 100000 in
theorem pieces_seq (q : Int) (s : ByteArray) (w : World) (hq : gs q = false) : Calls Try.prog 21 #[.int .i64 q, .string s] w fun e w' => e = .returned (.tuple #[.slice none 0 0, .bool false]) ∧ Below w.heap.size w w' := by
  go_enter Try.func21, Try.ntmps21
  go_wp2_with fail
  refine (pack_seq q s w hq).mono ?_
  rintro e w1 ⟨rfl, hb⟩
  go_wp2_with fail
  go_ret2
  exact ⟨rfl, hb⟩
set_option maxHeartbeats 1000000 in
set_option maxRecDepth 100000 in
theorem pieces_long (q : Int) (s : ByteArray) (w : World) (hq : gs q = true) (h : ¬ s.size ≤ 5865) (hs : s.size ≤ 281474976710656) : Calls Try.prog 21 #[.int .i64 q, .string s] w fun e w' => e = .returned (.tuple #[.slice none 0 0, .bool false]) ∧ Below w.heap.size w w' := by
  go_enter Try.func21, Try.ntmps21
  go_wp2_with fail
  refine (pack_long q s w hq h hs).mono ?_
  rintro e w1 ⟨rfl, hb⟩
  go_wp2_with fail
  go_ret2
  exact ⟨rfl, hb⟩
set_option maxHeartbeats 2000000 in
set_option maxRecDepth 100000 in
theorem pieces_yes (q : Int) (s : ByteArray) (w : World) (hq : gs q = true) (h : s.size ≤ 5865) : Calls Try.prog 21 #[.int .i64 q, .string s] w fun e w' => ∃ v, e = .returned (.tuple #[v, .bool true]) ∧ RwP w' w.heap.size v (pcs q s) ∧ Below w.heap.size w w' := by
  obtain ⟨i0, hi, hz0, hz1, hz2⟩ := info_parts infoP
  have hpk := pack_yes q s w hq h
  obtain ⟨e1, n1, n2, -, -⟩ := np_spec s.size h
  have hun : ∀ k, k < np s.size → ∀ W, Calls Try.prog 14 #[.string ((blks q s).getD k ⟨#[]⟩)] W fun e w' => e = .returned (.tuple #[.agg #[.int .i64 ((pcs q s).getD k pc0).q, .int .i64 ((pcs q s).getD k pc0).p, .int .i64 ((pcs q s).getD k pc0).n, .string ((pcs q s).getD k pc0).d], .int .i64 0]) ∧ Below W.heap.size W w' := fun k hk W => by
    rw [blks_get q s k hk, pcs_get q s k hk]
    exact un_same q k (np s.size : Int) (dt s k) (piece_right q s hq h k hk) W
  have hlb : (blks q s).length = np s.size := blks_length q s
  have hlp : (pcs q s).length = np s.size := pcs_length q s
  obtain ⟨n, hn⟩ : ∃ n, np s.size = n := ⟨_, rfl⟩
  obtain ⟨B, hB⟩ : ∃ B, blks q s = B := ⟨_, rfl⟩
  obtain ⟨P, hP⟩ : ∃ P, pcs q s = P := ⟨_, rfl⟩
  simp only [hn, hB, hP] at hpk hun hlb hlp n1 n2
  rw [hP]
  have HLB : Hid (B.length = n) := hlb
  have HLP : Hid (P.length = n) := hlp
  have HUN : Hid (∀ k, k < n → ∀ W, Calls Try.prog 14 #[.string (B.getD k ⟨#[]⟩)] W fun e w' => e = .returned (.tuple #[.agg #[.int .i64 (P.getD k pc0).q, .int .i64 (P.getD k pc0).p, .int .i64 (P.getD k pc0).n, .string (P.getD k pc0).d], .int .i64 0]) ∧ Below W.heap.size W w') := hun
  have n0 : ((n : Int) == 0) = false := by simp; omega
  clear e1 hn hB hP hun hlb hlp h hq
  go_enter Try.func21, Try.ntmps21
  go_wp2_with fail
  refine hpk.mono ?_
  rintro e w1 ⟨v, rfl, hrow, hb1⟩
  unfold RwS at hrow
  obtain ⟨a, cap, rfl⟩ := row_spell hrow
  have HRD : Hid (RdS w1 a B) := RwS.rd hrow
  rw [HLB.out]
  have HB1 : Hid (Below w.heap.size w w1) := hb1
  clear hpk hrow hb1
  go_wp2_with fail
  go_loopw [8, 28] (fun v i wr => ∃ k : Nat, k ≤ n ∧ i = .int .i64 (k : Int) ∧ wr.ownsRow w1.heap.size 23 4 v k (cellsP (P.take k)) ∧ Below w1.heap.size w1 wr) (fun _ i _ => n - (intOf i).toNat)
  case atStart => exact ⟨0, by omega, rfl, World.ownsRow_nil _ _ _ _, Below.refl _ _⟩
  case round =>
    obtain ⟨k, hk, rfl, hrow, hb⟩ := hrel
    have HROW : Hid (wr.ownsRow w1.heap.size 23 4 u8 k (cellsP (P.take k))) := hrow
    have HB : Hid (Below w1.heap.size w1 wr) := hb
    clear hrow
    by_cases hkn : k < n
    · obtain ⟨b, o, ea, c0⟩ := (HRD.out.later hb) k (by rw [HLB.out]; exact hkn)
      subst ea
      have j1 : (0 : Int) ≤ (k : Int) := by omega
      have j2 : (k : Int) < (n : Int) := by omega
      have hu := HUN.out k hkn
      have HS : Hid (P.take (k + 1) = P.take k ++ [P.getD k pc0]) := take_snoc P k _ (by rw [HLP.out]; exact hkn)
      have HX : Hid (cellsP [P.getD k pc0] = [.int .i64 (P.getD k pc0).q, .int .i64 (P.getD k pc0).p, .int .i64 (P.getD k pc0).n, .string (P.getD k pc0).d]) := rfl
      obtain ⟨x, hx⟩ : ∃ x, P.getD k pc0 = x := ⟨_, rfl⟩
      obtain ⟨X, hX⟩ : ∃ X, B.getD k ⟨#[]⟩ = X := ⟨_, rfl⟩
      simp only [hx, hX] at hu
      rw [hx] at HS
      rw [hx] at HX
      rw [hX] at c0
      clear hx hX hb
      obtain ⟨q1, p1, m1, d1⟩ := x
      go_wp2_with fail
      refine (hu _).mono ?_
      rintro e w3 ⟨rfl, hb3⟩
      have HROW3 : Hid (w3.ownsRow w1.heap.size 23 4 u8 k (cellsP (P.take k))) := row_later HROW.out hb3
      have HB3 : Hid (Below w1.heap.size w1 w3) := Below.then HB.out hb3
      have hs3 : w1.heap.size ≤ w3.heap.size := HB3.out.size
      clear hb3 hu c0
      go_wp2_with (at_builtin; refine wpList_append_lies _ rfl _ _ _ rfl w1.heap.size 23 i0 _ 4 40 Try.underlying37 hi hz0 hz1 hz2 rfl (by omega) _ k _ rfl ((HROW3.out.alloc _).alloc _) ⟨w3.heap.size + 1, 0, none⟩ 1 1 [.int .i64 q1, .int .i64 p1, .int .i64 m1, .string d1] rfl rfl (cell_four_at _ _ _ _ _ _ _ (by simp)) (by simp [Value.oneCell']) (by omega) (by unfold maxLen; omega) (by omega) (by simp; omega) (w3.heap.size + 2) (by simp) ?_; intro g4 cap4 w4 hown4 hgrow4 hat4 hlt4; have HG4 : Hid _ := hgrow4; have HO4 : Hid _ := hown4; clear hown4 hgrow4 hat4 hlt4)
      go_roundw
      case rel =>
        refine ⟨k + 1, by omega, by go_num, ?_, ?_⟩
        · rw [HS.out, cellsP_append, HX.out]; exact HO4.out
        · exact (Below.more (Below.more HB3.out _) _).grown HG4.out (by simp; omega) (fun j hj => (HROW3.out.lt j hj).1)
      case measure => simp [intOf]; omega
    · have i2 : decide ((k : Int) < (n : Int)) = false := by simp; omega
      clear hb
      go_wp2_with fail
      go_ret2
      refine ⟨_, rfl, ?_, HB1.out.trans (HB.out.mono HB1.out.size)⟩
      have e : P.take k = P := List.take_of_length_le (by rw [HLP.out]; omega)
      have hr := HROW.out
      rw [e] at hr
      obtain rfl : k = n := by omega
      unfold RwP
      rw [HLP.out]
      exact row_mono hr HB1.out.size
end Go.Proofs.Ytoohoapbcdekgaa
