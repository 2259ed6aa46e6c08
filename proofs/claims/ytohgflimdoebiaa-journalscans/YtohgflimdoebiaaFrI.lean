/- Contracts: the document's Pieces and Pack; Same. -/
import Derived.Test.YtohgflimdoebiaaFrE
import Derived.Test.YtohgflimdoebiaaFrMJ
namespace Go.Proofs.Ytohgflimdoebiaa
open Go.RowKit Go.Maps
set_option linter.unusedVariables false
set_option linter.unusedSimpArgs false

set_option maxHeartbeats 2000000 in
theorem same_any (a a' : Option Addr) (c c' : Nat) (l : List ByteArray) (w : World) (hl : l.length ≤ 8796093022208) (h1 : RdS w a l) (h2 : RdS w a' l) :
    Calls Try.prog 10 #[.slice a l.length c, .slice a' l.length c'] w fun e w' => e = .returned (.bool true) ∧ Below w.heap.size w w' := by
  have H1 : Hid (RdS w a l) := h1
  have H2 : Hid (RdS w a' l) := h2
  obtain ⟨n, hn⟩ : ∃ n, l.length = n := ⟨_, rfl⟩
  have HN : Hid (l.length = n) := hn
  rw [hn] at hl ⊢
  clear h1 h2 hn
  go_enter Try.func10, Try.ntmps10
  go_wp2_with fail
  go_loopw [13] (fun i wr => ∃ k : Nat, k ≤ n ∧ i = .int .i64 (k : Int) ∧ Below w.heap.size w wr) (fun i _ => n - (intOf i).toNat)
  case atStart => exact ⟨0, by omega, rfl, Below.refl _ _⟩
  case round =>
    obtain ⟨k, hk, rfl, hb⟩ := hrel
    have HB : Hid (Below w.heap.size w wr) := hb
    by_cases hkn : k < n
    · obtain ⟨b, o, e1, x0⟩ := H1.out k (by rw [HN.out]; exact hkn)
      obtain ⟨b', o', e2, y0⟩ := H2.out k (by rw [HN.out]; exact hkn)
      have x1 := cell_later hb x0
      have y1 := cell_later hb y0
      obtain ⟨t, et⟩ : ∃ t, l.getD k ⟨#[]⟩ = t := ⟨_, rfl⟩
      rw [et] at x1 y1
      subst e1 e2
      have j1 : (0 : Int) ≤ (k : Int) := by omega
      have j2 : (k : Int) < (n : Int) := by omega
      clear et x0 y0 hb
      go_wp2_with fail
      go_region_held3 (fun w' => w'.cell? ⟨b, o + k, none⟩ = some (.string t) ∧ w'.cell? ⟨b', o' + k, none⟩ = some (.string t)) (go_keep) (fail)
      go_wp2
      go_roundw
      case rel => exact ⟨k + 1, by omega, by go_num, HB.out.drew⟩
      case measure => simp [intOf]; omega
    · have hjk' : decide ((k : Int) < (n : Int)) = false := by simp; omega
      clear hb
      go_wp2
      go_ret
      exact ⟨rfl, HB.out⟩
theorem rPieces_low (q : Int) (s : ByteArray) (w : World) (hq : q < 1) : Calls Try.prog 59 #[.int .i64 q, .string s] w fun e w' => e = .returned (.tuple #[.slice none 0 0, .int .i64 7]) ∧ Below w.heap.size w w' := by
  go_enter Try.func59, Try.ntmps59
  go_wp2_with fail
  go_ret2
  exact ⟨rfl, Below.refl _ _⟩
theorem rPieces_high (q : Int) (s : ByteArray) (w : World) (hq0 : ¬ q < 1) (hq : 65535 < q) : Calls Try.prog 59 #[.int .i64 q, .string s] w fun e w' => e = .returned (.tuple #[.slice none 0 0, .int .i64 7]) ∧ Below w.heap.size w w' := by
  go_enter Try.func59, Try.ntmps59
  go_wp2_with fail
  go_ret2
  exact ⟨rfl, Below.refl _ _⟩
theorem rPieces_seq (q : Int) (s : ByteArray) (w : World) (hq : gs q = false) : Calls Try.prog 59 #[.int .i64 q, .string s] w fun e w' => e = .returned (.tuple #[.slice none 0 0, .int .i64 7]) ∧ Below w.heap.size w w' := by
  by_cases h1 : q < 1
  · exact rPieces_low q s w h1
  · refine rPieces_high q s w h1 ?_
    by_cases h2 : q ≤ 65535
    · have : gs q = true := by unfold gs; rw [Bool.and_eq_true]; exact ⟨decide_eq_true (by omega), decide_eq_true h2⟩
      rw [this] at hq; cases hq
    · omega
theorem gs_both {q : Int} (h : gs q = true) : 1 ≤ q ∧ q ≤ 65535 := by simp [gs] at h; exact h
theorem rPieces_long (q : Int) (s : ByteArray) (w : World) (hq : gs q = true) (h : ¬ s.size ≤ 5865) : Calls Try.prog 59 #[.int .i64 q, .string s] w fun e w' => e = .returned (.tuple #[.slice none 0 0, .int .i64 9]) ∧ Below w.heap.size w w' := by
  obtain ⟨q1, q2⟩ := gs_both hq
  obtain ⟨z, hz⟩ : ∃ z, s.size = z := ⟨_, rfl⟩
  have h5 : (5865 : Int) < (z : Int) := by omega
  have f1 : decide (q < 1) = false := by simp; omega
  have f2 : decide (65535 < q) = false := by simp; omega
  clear h hq
  go_enter Try.func59, Try.ntmps59
  go_wp2_with fail
  go_ret2
  exact ⟨rfl, Below.refl _ _⟩
theorem tail_list (s : ByteArray) (a : Nat) : (s.extract a s.size).data.toList = s.data.toList.drop a := by
  have hl := dlen s
  rw [extract_list]
  exact List.take_of_length_le (by rw [List.length_drop, hl]; exact Nat.le_refl _)
theorem rest_extract (s : ByteArray) (a b : Nat) (ha : a ≤ s.size) : (s.extract a s.size).extract b (s.size - a) = s.extract (a + b) s.size := by
  apply ByteArray.ext
  apply Array.ext'
  have hl := dlen s
  rw [extract_list, tail_list, tail_list, List.drop_drop]
  exact List.take_of_length_le (by rw [List.length_drop, hl]; omega)
theorem head_extract (s : ByteArray) (i : Nat) (h : 23 * i ≤ s.size) : (s.extract (23 * i) s.size).extract 0 (min 23 (s.size - 23 * i)) = dt s i := by
  apply ByteArray.ext
  apply Array.ext'
  have hl := dlen s
  rw [dt_list s i h, extract_list, tail_list, List.drop_zero, Nat.sub_zero]
  by_cases h23 : 23 ≤ s.size - 23 * i
  · rw [Nat.min_eq_left h23]
  · rw [Nat.min_eq_right (by omega), List.take_of_length_le (by rw [List.length_drop, hl]; exact Nat.le_refl _), List.take_of_length_le (by rw [List.length_drop, hl]; omega)]
theorem tail_size (s : ByteArray) (a : Nat) (h : a ≤ s.size) : (s.extract a s.size).size = s.size - a := by
  rw [← dlen, extract_list, List.length_take, List.length_drop, dlen]; omega
set_option maxHeartbeats 2000000 in
set_option maxRecDepth 100000 in
theorem rPieces_yes (q : Int) (s : ByteArray) (w : World) (hq : gs q = true) (h : s.size ≤ 5865) : Calls Try.prog 59 #[.int .i64 q, .string s] w fun e w' => ∃ v, e = .returned (.tuple #[v, .int .i64 0]) ∧ RwP w' w.heap.size v (pcs q s) ∧ Below w.heap.size w w' := by
  obtain ⟨i0, hi, hz0, hz1, hz2⟩ := info_parts infoP
  obtain ⟨q1, q2⟩ := gs_both hq
  have f1 : decide (q < 1) = false := by simp; omega
  have f2 : decide (65535 < q) = false := by simp; omega
  obtain ⟨e1, n1, n2, n3, n4⟩ := np_spec s.size h
  have hpt := fun W => rParts_any (s.size : Int) W
  simp only [e1] at hpt
  have hat := np_at s.size h
  have hlp : (pcs q s).length = np s.size := pcs_length q s
  have hget : ∀ k, k < np s.size → (pcs q s).getD k pc0 = ⟨q, (k : Int), (np s.size : Int), dt s k⟩ := fun k hk => pcs_get q s k hk
  obtain ⟨z, hz⟩ : ∃ z, s.size = z := ⟨_, rfl⟩
  have HZ : Hid (s.size = z) := hz
  rw [hz] at hlp n1 n2 n3 n4 h hat hget
  simp only [hz] at hpt
  have f3 : decide (5865 < (z : Int)) = false := by simp; omega
  obtain ⟨n, hn⟩ : ∃ n, np z = n := ⟨_, rfl⟩
  obtain ⟨P, hP⟩ : ∃ P, pcs q s = P := ⟨_, rfl⟩
  rw [hn] at hlp n1 n2 n3 n4 hat hget
  simp only [hn] at hpt
  rw [hP] at hlp hget ⊢
  have HLP : Hid (P.length = n) := hlp
  have HGET : Hid (∀ k, k < n → P.getD k pc0 = ⟨q, (k : Int), (n : Int), dt s k⟩) := hget
  have HAT : Hid (∀ i, i < n → 23 * i ≤ z ∧ (i < n - 1 → 23 * i + 23 ≤ z)) := hat
  have HN4 : Hid (z ≤ 23 * n) := n3
  clear hq e1 hn hP hlp hget hat n3 n4
  go_enter Try.func59, Try.ntmps59
  go_wp2_with fail
  refine (hpt _).mono ?_
  rintro e w1 ⟨rfl, rfl⟩
  clear hpt
  go_wp2_with fail
  go_loopw [1, 7, 8] (fun t v i wr => ∃ k : Nat, k ≤ n ∧ i = .int .i64 (k : Int) ∧ t = .string (s.extract (min (23 * k) z) z) ∧ wr.ownsRow w1.heap.size 93 4 v k (cellsP (P.take k)) ∧ Below w1.heap.size w1 wr) (fun _ _ i _ => n - (intOf i).toNat)
  case atStart => exact ⟨0, by omega, rfl, by rw [Nat.mul_zero, Nat.zero_min, ← HZ.out]; congr 1; apply ByteArray.ext; simp, World.ownsRow_nil _ _ _ _, Below.refl _ _⟩
  case round =>
    obtain ⟨k, hk, rfl, rfl, hrow, hb⟩ := hrel
    have HROW : Hid (wr.ownsRow w1.heap.size 93 4 u7 k (cellsP (P.take k))) := hrow
    have HB : Hid (Below w1.heap.size w1 wr) := hb
    clear hrow hb
    by_cases hkn : k < n
    · have j2 : (k : Int) < (n : Int) := by omega
      obtain ⟨a1, a2⟩ := HAT.out k hkn
      have HS : Hid (P.take (k + 1) = P.take k ++ [⟨q, (k : Int), (n : Int), dt s k⟩]) := by
        unfold Hid; rw [take_snoc P k pc0 (by rw [HLP.out]; exact hkn), HGET.out k hkn]
      rw [Nat.min_eq_left a1]
      have hts := tail_size s (23 * k) (by rw [HZ.out]; exact a1)
      have hhd := head_extract s k (by rw [HZ.out]; exact a1)
      have hre := fun b => rest_extract s (23 * k) b (by rw [HZ.out]; exact a1)
      rw [HZ.out] at hts hhd hre
      obtain ⟨T, hT⟩ : ∃ T, s.extract (23 * k) z = T := ⟨_, rfl⟩
      rw [hT] at hts hhd ⊢
      simp only [hT] at hre
      obtain ⟨t, ht⟩ : ∃ t, z - 23 * k = t := ⟨_, rfl⟩
      rw [ht] at hts hhd hre
      obtain ⟨m, hm⟩ : ∃ m, min 23 t = m := ⟨_, rfl⟩
      have hmi : min (23 : Int) (t : Int) = (m : Int) := by omega
      rw [hm] at hhd
      have m1 : (0 : Int) ≤ (m : Int) := by omega
      have m2 : (m : Int) ≤ (t : Int) := by omega
      have HRE : Hid (T.extract m t = s.extract (min (23 * (k + 1)) z) z) := by
        unfold Hid
        rw [hre m]
        by_cases h23 : 23 ≤ t
        · congr 1; omega
        · have em : 23 * k + m = z := by omega
          rw [em, Nat.min_eq_right (by omega)]
      have HHD : Hid (T.extract 0 m = dt s k) := hhd
      obtain ⟨D, hD⟩ : ∃ D, dt s k = D := ⟨_, rfl⟩
      rw [hD] at HS HHD
      have hs3 : w1.heap.size ≤ wr.heap.size := HB.out.size
      clear hT ht hm hhd hre hD a1 a2
      go_wp2_with (at_builtin; rw [HHD.out]; refine wpList_append_lies _ rfl _ _ _ rfl w1.heap.size 93 i0 _ 4 40 Try.underlying96 hi hz0 hz1 hz2 rfl (by omega) _ k _ rfl (HROW.out.alloc _) ⟨wr.heap.size, 0, none⟩ 1 1 [.int .i64 q, .int .i64 (k : Int), .int .i64 (n : Int), .string D] rfl rfl (cell_four_at _ _ _ _ _ _ _ rfl) (by simp [Value.oneCell']) (by omega) (by unfold maxLen; omega) (by omega) (by simp; omega) (wr.heap.size + 1) (by simp) ?_; intro g4 cap4 w4 hown4 hgrow4 hat4 hlt4; have HG4 : Hid _ := hgrow4; have HO4 : Hid _ := hown4; clear hown4 hgrow4 hat4 hlt4)
      go_roundw
      case rel =>
        refine ⟨k + 1, by omega, by go_num, by rw [HRE.out], ?_, ?_⟩
        · rw [HS.out, cellsP_append]; exact HO4.out
        · exact (Below.more HB.out _).grown HG4.out (by simp; omega) (fun j hj => (HROW.out.lt j hj).1)
      case measure => simp [intOf]; omega
    · have i2 : decide ((k : Int) < (n : Int)) = false := by simp; omega
      go_wp2_with fail
      go_ret2
      refine ⟨_, rfl, ?_, HB.out⟩
      have e : P.take k = P := List.take_of_length_le (by rw [HLP.out]; omega)
      have hr := HROW.out
      rw [e] at hr
      obtain rfl : k = n := by omega
      unfold RwP
      rw [HLP.out]
      exact hr
set_option maxHeartbeats 1000000 in
set_option maxRecDepth 100000 in
theorem rPack_no (q : Int) (s : ByteArray) (w : World) (E : Int) (h : ∀ W, Calls Try.prog 59 #[.int .i64 q, .string s] W fun e w' => e = .returned (.tuple #[.slice none 0 0, .int .i64 E]) ∧ Below W.heap.size W w') : Calls Try.prog 51 #[.int .i64 q, .string s] w fun e w' => e = .returned (.tuple #[.slice none 0 0, .int .i64 E]) ∧ Below w.heap.size w w' := by
  go_enter Try.func51, Try.ntmps51
  go_wp2_with fail
  refine (h _).mono ?_
  rintro e w1 ⟨rfl, hb1⟩
  clear h
  go_wp2_with fail
  refine wp_loop_rounds 1 ?_
  rw [rounds_succ]; go_wp2_with fail
  go_ret2
  exact ⟨rfl, hb1⟩
set_option maxHeartbeats 2000000 in
set_option maxRecDepth 100000 in
theorem rPack_yes (q : Int) (s : ByteArray) (w : World) (hq : gs q = true) (h : s.size ≤ 5865) : Calls Try.prog 51 #[.int .i64 q, .string s] w fun e w' => ∃ v, e = .returned (.tuple #[v, .int .i64 0]) ∧ RwS w' w.heap.size v (blks q s) ∧ Below w.heap.size w w' := by
  obtain ⟨i0, hi, hz0, hz1, hz2⟩ := info_parts infoS
  have hpp := rPieces_yes q s w hq h
  obtain ⟨e1, n1, n2, -, -⟩ := np_spec s.size h
  have hbl : ∀ k, k < np s.size → ∀ W, Calls Try.prog 57 #[.agg #[.int .i64 ((pcs q s).getD k pc0).q, .int .i64 ((pcs q s).getD k pc0).p, .int .i64 ((pcs q s).getD k pc0).n, .string ((pcs q s).getD k pc0).d]] W fun e w' => e = .returned (.tuple #[.string ((blks q s).getD k ⟨#[]⟩), .int .i64 0]) ∧ Below W.heap.size W w' := fun k hk W => by
    have hb := rBlock_any q k (np s.size : Int) (dt s k) W
    rw [piece_right q s hq h k hk] at hb
    rw [blks_get q s k hk, pcs_get q s k hk]
    exact hb
  have hlb : (blks q s).length = np s.size := blks_length q s
  have hlp : (pcs q s).length = np s.size := pcs_length q s
  obtain ⟨n, hn⟩ : ∃ n, np s.size = n := ⟨_, rfl⟩
  obtain ⟨B, hB⟩ : ∃ B, blks q s = B := ⟨_, rfl⟩
  obtain ⟨P, hP⟩ : ∃ P, pcs q s = P := ⟨_, rfl⟩
  simp only [hn, hB, hP] at hpp hbl hlb hlp n1 n2
  rw [hB]
  have HLB : Hid (B.length = n) := hlb
  have HLP : Hid (P.length = n) := hlp
  have HBL : Hid (∀ k, k < n → ∀ W, Calls Try.prog 57 #[.agg #[.int .i64 (P.getD k pc0).q, .int .i64 (P.getD k pc0).p, .int .i64 (P.getD k pc0).n, .string (P.getD k pc0).d]] W fun e w' => e = .returned (.tuple #[.string (B.getD k ⟨#[]⟩), .int .i64 0]) ∧ Below W.heap.size W w') := hbl
  clear e1 hn hB hP hbl hlb hlp h hq
  go_enter Try.func51, Try.ntmps51
  go_wp2_with fail
  refine hpp.mono ?_
  rintro e w1 ⟨v, rfl, hrow, hb1⟩
  unfold RwP at hrow
  obtain ⟨a, cap, rfl⟩ := row_spell hrow
  have HRD : Hid (RdP w1 a P) := RwP.rd hrow
  rw [HLP.out]
  have HB1 : Hid (Below w.heap.size w w1) := hb1
  clear hpp hrow hb1
  go_wp2_with fail
  go_loopw [8, 21] (fun v i wr => ∃ k : Nat, k ≤ n ∧ i = .int .i64 (k : Int) ∧ wr.ownsRow w1.heap.size 9 1 v k (cellsS (B.take k)) ∧ Below w1.heap.size w1 wr) (fun _ i _ => n - (intOf i).toNat)
  case atStart => exact ⟨0, by omega, rfl, World.ownsRow_nil _ _ _ _, Below.refl _ _⟩
  case round =>
    obtain ⟨k, hk, rfl, hrow, hb⟩ := hrel
    have HROW : Hid (wr.ownsRow w1.heap.size 9 1 u8 k (cellsS (B.take k))) := hrow
    have HB : Hid (Below w1.heap.size w1 wr) := hb
    clear hrow
    by_cases hkn : k < n
    · obtain ⟨b, o, ea, c0, c1, c2, c3⟩ := (HRD.out.later hb) k (by rw [HLP.out]; exact hkn)
      subst ea
      have j1 : (0 : Int) ≤ (k : Int) := by omega
      have j2 : (k : Int) < (n : Int) := by omega
      have hu := HBL.out k hkn
      have HS : Hid (B.take (k + 1) = B.take k ++ [B.getD k ⟨#[]⟩]) := take_snoc B k _ (by rw [HLB.out]; exact hkn)
      obtain ⟨x, hx⟩ : ∃ x, P.getD k pc0 = x := ⟨_, rfl⟩
      obtain ⟨X, hX⟩ : ∃ X, B.getD k ⟨#[]⟩ = X := ⟨_, rfl⟩
      simp only [hx, hX] at hu
      rw [hX] at HS
      rw [hx] at c0 c1 c2 c3
      clear hx hX hb
      obtain ⟨q1, p1, m1, d1⟩ := x
      have c0 : wr.cell? ⟨b, o + k * 4, none⟩ = some (.int .i64 q1) := c0
      have c1 : wr.cell? ⟨b, o + k * 4 + 1, none⟩ = some (.int .i64 p1) := c1
      have c2 : wr.cell? ⟨b, o + k * 4 + 2, none⟩ = some (.int .i64 m1) := c2
      have c3 : wr.cell? ⟨b, o + k * 4 + 3, none⟩ = some (.string d1) := c3
      go_wp2_with fail
      refine (hu _).mono ?_
      rintro e w3 ⟨rfl, hb3⟩
      have HROW3 : Hid (w3.ownsRow w1.heap.size 9 1 u8 k (cellsS (B.take k))) := row_later (HROW.out.alloc _) hb3
      have HB3 : Hid (Below w1.heap.size w1 w3) := Below.then (Below.more HB.out _) hb3
      have hs3 : w1.heap.size ≤ w3.heap.size := HB3.out.size
      clear hb3 hu c0 c1 c2 c3
      go_wp2_with (at_builtin; refine wpList_append_lies _ rfl _ _ _ rfl w1.heap.size 9 i0 _ 1 16 Try.underlying22 hi hz0 hz1 hz2 rfl (by omega) _ k _ rfl (HROW3.out.alloc _) ⟨w3.heap.size, 0, none⟩ 1 1 [.string X] rfl rfl (cell_one_at _ _ _ _ rfl) (by simp [Value.oneCell']) (by omega) (by unfold maxLen; omega) (by omega) (by simp; omega) (w3.heap.size + 1) (by simp) ?_; intro g4 cap4 w4 hown4 hgrow4 hat4 hlt4; have HG4 : Hid _ := hgrow4; have HO4 : Hid _ := hown4; clear hown4 hgrow4 hat4 hlt4)
      go_roundw
      case rel =>
        refine ⟨k + 1, by omega, by go_num, ?_, ?_⟩
        · rw [HS.out, cellsS_append]; exact HO4.out
        · exact (Below.more HB3.out _).grown HG4.out (by simp; omega) (fun j hj => (HROW3.out.lt j hj).1)
      case measure => simp [intOf]; omega
    · have i2 : decide ((k : Int) < (n : Int)) = false := by simp; omega
      clear hb
      go_wp2_with fail
      go_ret2
      refine ⟨_, rfl, ?_, HB1.out.trans (HB.out.mono HB1.out.size)⟩
      have e : B.take k = B := List.take_of_length_le (by rw [HLB.out]; omega)
      have hr := HROW.out
      rw [e] at hr
      obtain rfl : k = n := by omega
      unfold RwS
      rw [HLB.out]
      refine ⟨hr.1, ?_⟩
      rcases hr.2 with h0 | ⟨g, cap, cur, hv, hg, rest⟩
      · exact .inl h0
      · exact .inr ⟨g, cap, cur, hv, Nat.le_trans HB1.out.size hg, rest⟩
end Go.Proofs.Ytohgflimdoebiaa
