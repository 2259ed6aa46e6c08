/- Contracts: data, Pack. -/
import Derived.Test.YtohgflimdoebiaaFrD
import Derived.Test.YtohgflimdoebiaaFrMJ
namespace Go.Proofs.Ytohgflimdoebiaa
open Go.RowKit Go.Maps
set_option linter.unusedVariables false
set_option linter.unusedSimpArgs false

set_option maxHeartbeats 1000000 in
theorem data_any (s : ByteArray) (i : Nat) (w : World) (h : s.size ≤ 5865) (h1 : 23 * i ≤ s.size) : Calls Try.prog 54 #[.string s, .int .i64 (i : Int)] w fun e w' => e = .returned (.string (dt s i)) ∧ w' = w := by
  have HD : Hid (dt s i = s.extract (23 * i) (min (23 * i + 23) s.size)) := rfl
  obtain ⟨z, hz⟩ : ∃ z, s.size = z := ⟨_, rfl⟩
  obtain ⟨a, ha⟩ : ∃ a, 23 * i = a := ⟨_, rfl⟩
  rw [hz, ha] at HD
  rw [hz] at h
  rw [hz, ha] at h1
  have e1 : (i : Int) * 23 = (a : Int) := by omega
  have w1 : IntKind.i64.wrap (a : Int) = (a : Int) := Bt.wrap_fit _ (by omega) (by omega)
  have w2 : IntKind.i64.wrap ((a : Int) + 23) = (a : Int) + 23 := Bt.wrap_fit _ (by omega) (by omega)
  have x1 : (0 : Int) ≤ (a : Int) := by omega
  clear ha
  by_cases hm : (a : Int) + 23 ≤ (z : Int)
  · have x2 : min ((a : Int) + 23) (z : Int) = (a : Int) + 23 := by omega
    have x3 : (a : Int) ≤ (a : Int) + 23 := by omega
    have x4 : ((a : Int) + 23).toNat = a + 23 := by omega
    have x5 : (0 : Int) ≤ (a : Int) + 23 := by omega
    have x6 : min (a + 23) z = a + 23 := by omega
    go_enter Try.func54, Try.ntmps54
    go_wp2
    go_ret
    exact ⟨ret_str (by rw [HD.out, x6]), rfl⟩
  · have x2 : min ((a : Int) + 23) (z : Int) = (z : Int) := by omega
    have x3 : (a : Int) ≤ (z : Int) := by omega
    have x6 : min (a + 23) z = z := by omega
    go_enter Try.func54, Try.ntmps54
    go_wp2
    go_ret
    exact ⟨ret_str (by rw [HD.out, x6]), rfl⟩
theorem pack_seq (q : Int) (s : ByteArray) (w : World) (hq : gs q = false) : Calls Try.prog 43 #[.int .i64 q, .string s] w fun e w' => e = .returned (.tuple #[.slice none 0 0, .int .i64 7]) ∧ Below w.heap.size w w' := by
  have hg := fun W => goodSeq_any q W
  rw [hq] at hg
  go_enter Try.func43, Try.ntmps43
  go_wp2_with fail
  refine (hg _).mono ?_
  rintro e w1 ⟨rfl, rfl⟩
  go_wp2_with fail
  go_ret2
  exact ⟨rfl, Below.refl _ _⟩
theorem pack_long (q : Int) (s : ByteArray) (w : World) (hq : gs q = true) (h : ¬ s.size ≤ 5865) (hs : s.size ≤ 281474976710656) : Calls Try.prog 43 #[.int .i64 q, .string s] w fun e w' => e = .returned (.tuple #[.slice none 0 0, .int .i64 9]) ∧ Below w.heap.size w w' := by
  have hg := fun W => goodSeq_any q W
  rw [hq] at hg
  have hp := fun W => parts_any (s.size : Int) (by omega) (by omega) W
  rw [pt_no s.size h] at hp
  clear hs h
  go_enter Try.func43, Try.ntmps43
  go_wp2_with fail
  refine (hg _).mono ?_
  rintro e w1 ⟨rfl, rfl⟩
  go_wp2_with fail
  refine (hp _).mono ?_
  rintro e w1 ⟨rfl, rfl⟩
  go_wp2_with fail
  go_ret2
  exact ⟨rfl, Below.refl _ _⟩
set_option maxHeartbeats 2000000 in
set_option maxRecDepth 100000 in
theorem pack_yes (q : Int) (s : ByteArray) (w : World) (hq : gs q = true) (h : s.size ≤ 5865) : Calls Try.prog 43 #[.int .i64 q, .string s] w fun e w' => ∃ v, e = .returned (.tuple #[v, .int .i64 0]) ∧ RwS w' w.heap.size v (blks q s) ∧ Below w.heap.size w w' := by
  obtain ⟨i0, hi, hz0, hz1, hz2⟩ := info_parts infoS
  have hg := fun W => goodSeq_any q W
  rw [hq] at hg
  have hp := fun W => parts_any (s.size : Int) (by omega) (by omega) W
  obtain ⟨e1, n1, n2, -, -⟩ := np_spec s.size h
  rw [e1] at hp
  have hda : ∀ k, k < np s.size → ∀ W, Calls Try.prog 54 #[.string s, .int .i64 (k : Int)] W fun e w' => e = .returned (.string (dt s k)) ∧ w' = W := fun k hk W => data_any s k W h (np_at s.size h k hk).1
  have hbl : ∀ k, k < np s.size → ∀ W, Calls Try.prog 53 #[.agg #[.int .i64 q, .int .i64 (k : Int), .int .i64 (np s.size : Int), .string (dt s k)]] W fun e w' => e = .returned (.tuple #[.string ((blks q s).getD k ⟨#[]⟩), .int .i64 0]) ∧ Below W.heap.size W w' := fun k hk W => by
    have hb := block_any q k (np s.size : Int) (dt s k) W
    rw [piece_right q s hq h k hk] at hb
    rw [blks_get q s k hk]
    exact hb
  have hlen : (blks q s).length = np s.size := blks_length q s
  obtain ⟨n, hn⟩ : ∃ n, np s.size = n := ⟨_, rfl⟩
  obtain ⟨B, hB⟩ : ∃ B, blks q s = B := ⟨_, rfl⟩
  simp only [hn, hB] at hp hda hbl hlen n1 n2
  rw [hB]
  have HN : Hid (B.length = n) := hlen
  have HDA : Hid (∀ k, k < n → ∀ W, Calls Try.prog 54 #[.string s, .int .i64 (k : Int)] W fun e w' => e = .returned (.string (dt s k)) ∧ w' = W) := hda
  have HBL : Hid (∀ k, k < n → ∀ W, Calls Try.prog 53 #[.agg #[.int .i64 q, .int .i64 (k : Int), .int .i64 (n : Int), .string (dt s k)]] W fun e w' => e = .returned (.tuple #[.string (B.getD k ⟨#[]⟩), .int .i64 0]) ∧ Below W.heap.size W w') := hbl
  have n0 : ((n : Int) == 0) = false := by simp; omega
  clear e1 hn hB hda hbl hlen h hq
  go_enter Try.func43, Try.ntmps43
  go_wp2_with fail
  refine (hg _).mono ?_
  rintro e w1 ⟨rfl, rfl⟩
  go_wp2_with fail
  refine (hp _).mono ?_
  rintro e w1 ⟨rfl, rfl⟩
  clear hg hp
  go_wp2_with fail
  go_loopw [7, 20] (fun v i wr => ∃ k : Nat, k ≤ n ∧ i = .int .i64 (k : Int) ∧ wr.ownsRow w1.heap.size 9 1 v k (cellsS (B.take k)) ∧ Below w1.heap.size w1 wr) (fun _ i _ => n - (intOf i).toNat)
  case atStart => exact ⟨0, by omega, rfl, World.ownsRow_nil _ _ _ _, Below.refl _ _⟩
  case round =>
    obtain ⟨k, hk, rfl, hrow, hb⟩ := hrel
    have HROW : Hid (wr.ownsRow w1.heap.size 9 1 u7 k (cellsS (B.take k))) := hrow
    have HB : Hid (Below w1.heap.size w1 wr) := hb
    clear hrow hb
    by_cases hkn : k < n
    · have i2 : (k : Int) < (n : Int) := by omega
      go_wp2_with fail
      refine (HDA.out k hkn _).mono ?_
      rintro e w2 ⟨rfl, rfl⟩
      go_wp2_with fail
      refine (HBL.out k hkn _).mono ?_
      rintro e w3 ⟨rfl, hb3⟩
      have HS : Hid (B.take (k + 1) = B.take k ++ [B.getD k ⟨#[]⟩]) := take_snoc B k _ (by rw [HN.out]; exact hkn)
      obtain ⟨X, hX⟩ : ∃ X, B.getD k ⟨#[]⟩ = X := ⟨_, rfl⟩
      rw [hX] at HS
      rw [hX]
      have HROW3 : Hid (w3.ownsRow w1.heap.size 9 1 u7 k (cellsS (B.take k))) := row_later HROW.out hb3
      have HB3 : Hid (Below w1.heap.size w1 w3) := Below.then HB.out hb3
      have hs3 : w1.heap.size ≤ w3.heap.size := HB3.out.size
      clear hX hb3
      go_wp2_with (at_builtin; refine wpList_append_lies _ rfl _ _ _ rfl w1.heap.size 9 i0 _ 1 16 Try.underlying22 hi hz0 hz1 hz2 rfl (by omega) _ k _ rfl (HROW3.out.alloc _) ⟨w3.heap.size, 0, none⟩ 1 1 [.string X] rfl rfl (cell_one_at _ _ _ _ rfl) (by simp [Value.oneCell']) (by omega) (by unfold maxLen; omega) (by omega) (by simp; omega) (w3.heap.size + 1) (by simp) ?_; intro g4 cap4 w4 hown4 hgrow4 hat4 hlt4; have HG4 : Hid _ := hgrow4; have HO4 : Hid _ := hown4; clear hown4 hgrow4 hat4 hlt4)
      go_roundw
      case rel =>
        refine ⟨k + 1, by omega, by go_num, ?_, ?_⟩
        · rw [HS.out, cellsS_append]; exact HO4.out
        · exact (Below.more HB3.out _).grown HG4.out (by simp; omega) (fun j hj => (HROW3.out.lt j hj).1)
      case measure => simp [intOf]; omega
    · have i2 : decide ((k : Int) < (n : Int)) = false := by simp; omega
      go_wp2_with fail
      go_ret2
      refine ⟨_, rfl, ?_, HB.out⟩
      have e : B.take k = B := List.take_of_length_le (by rw [HN.out]; omega)
      have hr := HROW.out
      rw [e] at hr
      obtain rfl : k = n := by omega
      unfold RwS
      rw [HN.out]
      exact hr
end Go.Proofs.Ytohgflimdoebiaa
