/- Contracts: read, Unblock. -/
import Derived.Test.YtohgflimdoebiaaFrC
namespace Go.Proofs.Ytohgflimdoebiaa
open Go.RowKit Go.Maps
set_option linter.unusedVariables false
set_option linter.unusedSimpArgs false

theorem rdI4 (w : World) (T : TypeId) (n : Nat) (hn : n = w.heap.size) : Bt.RdI (w.alloc (.cells #[.int .i64 16, .int .i64 8, .int .i64 8, .int .i64 8] T)) (some ⟨n, 0, none⟩) [16, 8, 8, 8] := by
  subst hn
  intro i hi
  refine ⟨w.heap.size, 0, rfl, ?_⟩
  have hi4 : i < 4 := hi
  have : i = 0 ∨ i = 1 ∨ i = 2 ∨ i = 3 := by omega
  rcases this with rfl | rfl | rfl | rfl <;> simp [go_sem]
theorem bys5 (s : ByteArray) (h : 5 ≤ s.size) : Bt.bys (s.extract 0 5) = [bt s 0, bt s 1, bt s 2, bt s 3, bt s 4] := by
  unfold Bt.bys bt
  rw [extract_list]
  have hl : 5 ≤ s.data.toList.length := by rw [dlen]; exact h
  match s.data.toList, hl with
  | a :: b :: c :: d :: e :: l, _ => simp
theorem un5 (s : ByteArray) (h : 5 ≤ s.size) : Bt.unL (Bt.tb (Bt.bys (s.extract 0 5))) [16, 8, 8, 8] = [256 * bt s 0 + bt s 1, bt s 2, bt s 3, bt s 4] ∧ Bt.unE (Bt.tb (Bt.bys (s.extract 0 5))) [16, 8, 8, 8] = 0 := by
  rw [bys5 s h]
  exact head_un _ _ _ _ _ (bt_lt s 0) (bt_lt s 1) (bt_lt s 2) (bt_lt s 3) (bt_lt s 4)
theorem row4 {w : World} {B : Nat} {v : Value} {a b c d : Nat} (h : w.ownsRow B 112 1 v 4 (Bt.u64s [a, b, c, d])) : ∃ g cap, v = .slice (some ⟨g, 0, none⟩) 4 cap ∧ w.cell? ⟨g, 0, none⟩ = some (.int .u64 (a : Int)) ∧ w.cell? ⟨g, 1, none⟩ = some (.int .u64 (b : Int)) ∧ w.cell? ⟨g, 2, none⟩ = some (.int .u64 (c : Int)) ∧ w.cell? ⟨g, 3, none⟩ = some (.int .u64 (d : Int)) := by
  rcases h.2 with ⟨h0, hn⟩ | ⟨g, cap, cur, hv, _⟩
  · cases hn
  · subst hv
    refine ⟨g, cap, rfl, ?_, ?_, ?_, ?_⟩
    · rw [h.cellAt 0 (by omega)]; rfl
    · rw [h.cellAt 1 (by omega)]; rfl
    · rw [h.cellAt 2 (by omega)]; rfl
    · rw [h.cellAt 3 (by omega)]; rfl
set_option maxHeartbeats 2000000 in
set_option maxRecDepth 100000 in
theorem read_any (s : ByteArray) (w : World) (h : s.size = 32) (h4 : bt s 4 ≤ 23) : Calls Try.prog 83 #[.string s] w fun e w' => e = .returned (.agg #[.int .i64 (rq s), .int .i64 (bt s 2 : Nat), .int .i64 (bt s 3 : Nat), .string (rdd s)]) ∧ Below w.heap.size w w' := by
  obtain ⟨u1, u2⟩ := un5 s (by omega)
  have b0 := bt_lt s 0
  have b1 := bt_lt s 1
  have b2 := bt_lt s 2
  have b3 := bt_lt s 3
  have HQ : Hid (rq s = ((256 * bt s 0 + bt s 1 : Nat) : Int)) := rfl
  have HD : Hid (rdd s = s.extract 5 (5 + bt s 4)) := rfl
  obtain ⟨A, hA⟩ : ∃ A, 256 * bt s 0 + bt s 1 = A := ⟨_, rfl⟩
  obtain ⟨b, hb2⟩ : ∃ b, bt s 2 = b := ⟨_, rfl⟩
  obtain ⟨c, hc3⟩ : ∃ c, bt s 3 = c := ⟨_, rfl⟩
  obtain ⟨z, hz4⟩ : ∃ z, bt s 4 = z := ⟨_, rfl⟩
  have hA2 : A < 65536 := by omega
  rw [hA] at u1 HQ
  rw [hb2] at u1 b2 ⊢
  rw [hc3] at u1 b3 ⊢
  rw [hz4] at u1 h4 HD
  clear hA hb2 hc3 hz4 b0 b1
  have w1 : IntKind.i64.wrap (A : Int) = (A : Int) := Bt.wrap_fit _ (by omega) (by omega)
  have w2 : IntKind.i64.wrap (b : Int) = (b : Int) := Bt.wrap_fit _ (by omega) (by omega)
  have w3 : IntKind.i64.wrap (c : Int) = (c : Int) := Bt.wrap_fit _ (by omega) (by omega)
  have w4 : IntKind.i64.wrap (z : Int) = (z : Int) := Bt.wrap_fit _ (by omega) (by omega)
  have w5 : IntKind.i64.wrap (5 + (z : Int)) = 5 + (z : Int) := Bt.wrap_fit _ (by omega) (by omega)
  go_enter Try.func83, Try.ntmps83
  go_wp2_with fail
  have hun := Bt.unpack_any (some ⟨w.heap.size + 1, 0, none⟩) 4 4 [16, 8, 8, 8] _ (s.extract 0 5) rfl rfl _ (by omega) (by have := ByteArray.size_extract (a := s) (b := 0) (e := 5); omega) (rdI4 (w.alloc (.cells #[.int .i64 0, .int .i64 0, .int .i64 0, .string ⟨#[]⟩] 93)) 3 _ (by simp))
  rw [u1, u2] at hun
  refine hun.mono ?_
  rintro e w6 ⟨v, rfl, hrow, hb⟩
  obtain ⟨g, cap, rfl, c0, c1, c2, c3⟩ := row4 hrow
  have hg := (hrow.lt g rfl).1
  simp at hg
  have hgn : w.heap.size ≠ g := by omega
  have hgn' : g ≠ w.heap.size := by omega
  have hblk : w6.heap[w.heap.size]? = some (.cells #[.int .i64 0, .int .i64 0, .int .i64 0, .string ⟨#[]⟩] 93) := by
    rw [hb.block w.heap.size (by simp; omega)]
    rw [Below.heap_alloc _ _ _ (by simp)]
    exact heap_alloc_new w _
  have d0 : w6.cell? ⟨w.heap.size, 0, none⟩ = some (.int .i64 0) := by simp [World.cell?, hblk]
  have d1 : w6.cell? ⟨w.heap.size, 1, none⟩ = some (.int .i64 0) := by simp [World.cell?, hblk]
  have d2 : w6.cell? ⟨w.heap.size, 2, none⟩ = some (.int .i64 0) := by simp [World.cell?, hblk]
  have d3 : w6.cell? ⟨w.heap.size, 3, none⟩ = some (.string ⟨#[]⟩) := by simp [World.cell?, hblk]
  have f0 : ∀ j, w6.frozen? ⟨w.heap.size, j, none⟩ = false := fun j => by simp [World.frozen?, hblk]
  have f1 := f0 0
  have f2 := f0 1
  have f3 := f0 2
  have f4 := f0 3
  have HB6 : Hid (Below w.heap.size w w6) := Below.then (Below.more (below1 _ _) _) hb
  have z0 : (0 : Int) ≤ (z : Int) := by omega
  have z1 : (5 : Int) + (z : Int) ≤ 32 := by omega
  have z2 : (5 : Int) ≤ 5 + (z : Int) := by omega
  have z3 : ((5 : Int) + (z : Int)).toNat = 5 + z := by omega
  have z4 : (0 : Int) ≤ 5 + (z : Int) := by omega
  clear hun hrow hb u1 u2 hblk f0
  go_wp2_with fail
  go_region_held3 (fun w' => w'.cell? ⟨g, 0, none⟩ = some (.int .u64 (A : Int)) ∧ w'.cell? ⟨g, 1, none⟩ = some (.int .u64 (b : Int)) ∧ w'.cell? ⟨g, 2, none⟩ = some (.int .u64 (c : Int)) ∧ w'.cell? ⟨g, 3, none⟩ = some (.int .u64 (z : Int))) (go_keep) (fail)
  go_wp2
  refine bodyPost_ret (v := .agg #[.int .i64 (A : Int), .int .i64 (b : Int), .int .i64 (c : Int), .string (s.extract 5 (5 + z))]) (by simp [results, Try.results83, go_sem, d0, d1, d2, d3]) rfl ⟨by rw [HQ.out, HD.out], ?_⟩
  exact Below.drew ((((HB6.out.setCell (Nat.le_refl _) _).setCell (Nat.le_refl _) _).setCell (Nat.le_refl _) _).setCell (Nat.le_refl _) _)
theorem str_ne {X Y : ByteArray} (h : X ≠ Y) : (X.toList == Y.toList) = false := by
  rw [beq_eq_false_iff_ne, ByteArray.toList_eq, ByteArray.toList_eq]
  intro e
  exact h (ByteArray.ext (Array.ext' e))
set_option maxHeartbeats 2000000 in
set_option maxRecDepth 100000 in
theorem unblock_size (s : ByteArray) (w : World) (h : s.size ≠ 32) : Calls Try.prog 70 #[.string s] w fun e w' => e = .returned (.tuple #[.agg #[.int .i64 0, .int .i64 0, .int .i64 0, .string ⟨#[]⟩], .int .i64 7]) ∧ Below w.heap.size w w' := by
  obtain ⟨z, hz⟩ : ∃ z, s.size = z := ⟨_, rfl⟩
  have h0 : ((z : Int) != 32) = true := by simp; omega
  clear h
  go_enter Try.func70, Try.ntmps70
  go_wp2
  refine bodyPost_ret (v := .tuple #[.agg #[.int .i64 0, .int .i64 0, .int .i64 0, .string ⟨#[]⟩], .int .i64 7]) (by simp [results, Try.results70, go_sem, *]) rfl ⟨rfl, ?_⟩
  exact below1 _ _
set_option maxHeartbeats 2000000 in
set_option maxRecDepth 100000 in
theorem unblock_big (s : ByteArray) (w : World) (h : s.size = 32) (h4 : 23 < bt s 4) : Calls Try.prog 70 #[.string s] w fun e w' => e = .returned (.tuple #[.agg #[.int .i64 0, .int .i64 0, .int .i64 0, .string ⟨#[]⟩], .int .i64 7]) ∧ Below w.heap.size w w' := by
  have e4 := bt_get s 4 (by omega)
  obtain ⟨t, ht⟩ : ∃ t, bt s 4 = t := ⟨_, rfl⟩
  rw [ht] at e4 h4
  have e4' := e4.symm
  have h5 : (23 : Int) < (t : Int) := by omega
  clear e4 ht
  go_enter Try.func70, Try.ntmps70
  go_wp2
  refine bodyPost_ret (v := .tuple #[.agg #[.int .i64 0, .int .i64 0, .int .i64 0, .string ⟨#[]⟩], .int .i64 7]) (by simp [results, Try.results70, go_sem, *]) rfl ⟨rfl, ?_⟩
  exact below1 _ _
set_option maxHeartbeats 2000000 in
set_option maxRecDepth 100000 in
theorem unblock_wrong (s : ByteArray) (w : World) (h : s.size = 32) (h4 : bt s 4 ≤ 23) (hr : rt (rq s) (bt s 2) (bt s 3) (rdd s).size = false) : Calls Try.prog 70 #[.string s] w fun e w' => e = .returned (.tuple #[.agg #[.int .i64 0, .int .i64 0, .int .i64 0, .string ⟨#[]⟩], .int .i64 7]) ∧ Below w.heap.size w w' := by
  have e4 := bt_get s 4 (by omega)
  have hrd := fun W => read_any s W h h4
  have hsz := rdd_size s h h4
  obtain ⟨t, ht⟩ : ∃ t, bt s 4 = t := ⟨_, rfl⟩
  rw [ht] at e4 h4 hsz
  have e4' := e4.symm
  have h5 : decide ((23 : Int) < (t : Int)) = false := by simp; omega
  obtain ⟨D, hD⟩ : ∃ D, rdd s = D := ⟨_, rfl⟩
  obtain ⟨q, hq⟩ : ∃ q, rq s = q := ⟨_, rfl⟩
  obtain ⟨p, hp⟩ : ∃ p, bt s 2 = p := ⟨_, rfl⟩
  obtain ⟨n, hn⟩ : ∃ n, bt s 3 = n := ⟨_, rfl⟩
  rw [hD, hq, hp, hn] at hr
  simp only [hD, hq, hp, hn] at hrd
  rw [hD] at hsz
  have hblk := fun W => block_no q p n D W hr
  clear hr
  clear e4 ht hD hq hp hn hsz
  go_enter Try.func70, Try.ntmps70
  go_wp2_with fail
  refine (hrd _).mono ?_
  rintro e w1 ⟨rfl, hb1⟩
  have hsz1 := hb1.size
  simp at hsz1
  have g0 : w1.heap[w.heap.size]? = some (.cells #[.int .i64 0, .int .i64 0, .int .i64 0, .string ⟨#[]⟩] 93) := by
    rw [hb1.block w.heap.size (by simp)]
    exact heap_alloc_new w _
  have HB1 : Hid (Below w.heap.size w w1) := Below.then (below1 _ _) hb1
  clear hb1 hrd
  go_wp2_with fail
  refine (hblk _).mono ?_
  rintro e w2 ⟨rfl, hb2⟩
  have hne : w1.heap.size ≠ w.heap.size := by omega
  have G0 : w2.heap[w.heap.size]? = some (.cells #[.int .i64 0, .int .i64 0, .int .i64 0, .string ⟨#[]⟩] 93) := by
    rw [hb2.block w.heap.size (by simp; omega), Below.heap_alloc _ _ _ (by omega)]
    exact g0
  have G1 : w2.heap[w1.heap.size]? = some (.cells #[.int .i64 q, .int .i64 (p : Int), .int .i64 (n : Int), .string D] 93) := by
    rw [hb2.block w1.heap.size (by simp)]
    exact heap_alloc_new w1 _
  have HB2 : Hid (Below w.heap.size w w2) := Below.then HB1.out (Below.then (below1 _ _) hb2)
  have d0 : w2.cell? ⟨w.heap.size, 0, none⟩ = some (.int .i64 0) := by simp [World.cell?, G0]
  have d1 : w2.cell? ⟨w.heap.size, 1, none⟩ = some (.int .i64 0) := by simp [World.cell?, G0]
  have d2 : w2.cell? ⟨w.heap.size, 2, none⟩ = some (.int .i64 0) := by simp [World.cell?, G0]
  have d3 : w2.cell? ⟨w.heap.size, 3, none⟩ = some (.string ⟨#[]⟩) := by simp [World.cell?, G0]
  have f0 : w2.frozen? ⟨w.heap.size, 0, none⟩ = false := by simp [World.frozen?, G0]
  have f1 : w2.frozen? ⟨w.heap.size, 1, none⟩ = false := by simp [World.frozen?, G0]
  have f2 : w2.frozen? ⟨w.heap.size, 2, none⟩ = false := by simp [World.frozen?, G0]
  have f3 : w2.frozen? ⟨w.heap.size, 3, none⟩ = false := by simp [World.frozen?, G0]
  have p0 : w2.cell? ⟨w1.heap.size, 0, none⟩ = some (.int .i64 q) := by simp [World.cell?, G1]
  have p1 : w2.cell? ⟨w1.heap.size, 1, none⟩ = some (.int .i64 (p : Int)) := by simp [World.cell?, G1]
  have p2 : w2.cell? ⟨w1.heap.size, 2, none⟩ = some (.int .i64 (n : Int)) := by simp [World.cell?, G1]
  have p3 : w2.cell? ⟨w1.heap.size, 3, none⟩ = some (.string D) := by simp [World.cell?, G1]
  clear hb2 g0 G0 G1 hblk
  go_wp2_with fail
  refine bodyPost_ret (v := .tuple #[.agg #[.int .i64 0, .int .i64 0, .int .i64 0, .string ⟨#[]⟩], .int .i64 7]) (by simp [results, Try.results70, go_sem, *]) rfl ⟨rfl, ?_⟩
  exact (((HB2.out.setCell (Nat.le_refl _) _).setCell (Nat.le_refl _) _).setCell (Nat.le_refl _) _).setCell (Nat.le_refl _) _
set_option maxHeartbeats 2000000 in
set_option maxRecDepth 100000 in
theorem unblock_other (s : ByteArray) (w : World) (h : s.size = 32) (h4 : bt s 4 ≤ 23) (hr : rt (rq s) (bt s 2) (bt s 3) (rdd s).size = true) (hne0 : bl (rq s) (bt s 2) (bt s 3) (rdd s) ≠ s) : Calls Try.prog 70 #[.string s] w fun e w' => e = .returned (.tuple #[.agg #[.int .i64 0, .int .i64 0, .int .i64 0, .string ⟨#[]⟩], .int .i64 7]) ∧ Below w.heap.size w w' := by
  have e4 := bt_get s 4 (by omega)
  have hrd := fun W => read_any s W h h4
  have hsz := rdd_size s h h4
  obtain ⟨t, ht⟩ : ∃ t, bt s 4 = t := ⟨_, rfl⟩
  rw [ht] at e4 h4 hsz
  have e4' := e4.symm
  have h5 : decide ((23 : Int) < (t : Int)) = false := by simp; omega
  obtain ⟨D, hD⟩ : ∃ D, rdd s = D := ⟨_, rfl⟩
  obtain ⟨q, hq⟩ : ∃ q, rq s = q := ⟨_, rfl⟩
  obtain ⟨p, hp⟩ : ∃ p, bt s 2 = p := ⟨_, rfl⟩
  obtain ⟨n, hn⟩ : ∃ n, bt s 3 = n := ⟨_, rfl⟩
  rw [hD, hq, hp, hn] at hr
  simp only [hD, hq, hp, hn] at hrd
  rw [hD] at hsz
  rw [hD, hq, hp, hn] at hne0
  have hblk := fun W => block_any q p n D W
  simp only [hr, if_true] at hblk
  obtain ⟨X, hX⟩ : ∃ X, bl q p n D = X := ⟨_, rfl⟩
  simp only [hX] at hblk
  rw [hX] at hne0
  have hst := str_ne hne0
  clear hr hX hne0
  clear e4 ht hD hq hp hn hsz
  go_enter Try.func70, Try.ntmps70
  go_wp2_with fail
  refine (hrd _).mono ?_
  rintro e w1 ⟨rfl, hb1⟩
  have hsz1 := hb1.size
  simp at hsz1
  have g0 : w1.heap[w.heap.size]? = some (.cells #[.int .i64 0, .int .i64 0, .int .i64 0, .string ⟨#[]⟩] 93) := by
    rw [hb1.block w.heap.size (by simp)]
    exact heap_alloc_new w _
  have HB1 : Hid (Below w.heap.size w w1) := Below.then (below1 _ _) hb1
  clear hb1 hrd
  go_wp2_with fail
  refine (hblk _).mono ?_
  rintro e w2 ⟨rfl, hb2⟩
  have hne : w1.heap.size ≠ w.heap.size := by omega
  have G0 : w2.heap[w.heap.size]? = some (.cells #[.int .i64 0, .int .i64 0, .int .i64 0, .string ⟨#[]⟩] 93) := by
    rw [hb2.block w.heap.size (by simp; omega), Below.heap_alloc _ _ _ (by omega)]
    exact g0
  have G1 : w2.heap[w1.heap.size]? = some (.cells #[.int .i64 q, .int .i64 (p : Int), .int .i64 (n : Int), .string D] 93) := by
    rw [hb2.block w1.heap.size (by simp)]
    exact heap_alloc_new w1 _
  have HB2 : Hid (Below w.heap.size w w2) := Below.then HB1.out (Below.then (below1 _ _) hb2)
  have d0 : w2.cell? ⟨w.heap.size, 0, none⟩ = some (.int .i64 0) := by simp [World.cell?, G0]
  have d1 : w2.cell? ⟨w.heap.size, 1, none⟩ = some (.int .i64 0) := by simp [World.cell?, G0]
  have d2 : w2.cell? ⟨w.heap.size, 2, none⟩ = some (.int .i64 0) := by simp [World.cell?, G0]
  have d3 : w2.cell? ⟨w.heap.size, 3, none⟩ = some (.string ⟨#[]⟩) := by simp [World.cell?, G0]
  have f0 : w2.frozen? ⟨w.heap.size, 0, none⟩ = false := by simp [World.frozen?, G0]
  have f1 : w2.frozen? ⟨w.heap.size, 1, none⟩ = false := by simp [World.frozen?, G0]
  have f2 : w2.frozen? ⟨w.heap.size, 2, none⟩ = false := by simp [World.frozen?, G0]
  have f3 : w2.frozen? ⟨w.heap.size, 3, none⟩ = false := by simp [World.frozen?, G0]
  have p0 : w2.cell? ⟨w1.heap.size, 0, none⟩ = some (.int .i64 q) := by simp [World.cell?, G1]
  have p1 : w2.cell? ⟨w1.heap.size, 1, none⟩ = some (.int .i64 (p : Int)) := by simp [World.cell?, G1]
  have p2 : w2.cell? ⟨w1.heap.size, 2, none⟩ = some (.int .i64 (n : Int)) := by simp [World.cell?, G1]
  have p3 : w2.cell? ⟨w1.heap.size, 3, none⟩ = some (.string D) := by simp [World.cell?, G1]
  clear hb2 g0 G0 G1 hblk
  go_wp2_with fail
  refine bodyPost_ret (v := .tuple #[.agg #[.int .i64 0, .int .i64 0, .int .i64 0, .string ⟨#[]⟩], .int .i64 7]) (by simp [results, Try.results70, go_sem, *]) rfl ⟨rfl, ?_⟩
  exact (((HB2.out.setCell (Nat.le_refl _) _).setCell (Nat.le_refl _) _).setCell (Nat.le_refl _) _).setCell (Nat.le_refl _) _
set_option maxHeartbeats 2000000 in
set_option maxRecDepth 100000 in
theorem unblock_same (s : ByteArray) (w : World) (h : s.size = 32) (h4 : bt s 4 ≤ 23) (hr : rt (rq s) (bt s 2) (bt s 3) (rdd s).size = true) (he : bl (rq s) (bt s 2) (bt s 3) (rdd s) = s) : Calls Try.prog 70 #[.string s] w fun e w' => e = .returned (.tuple #[.agg #[.int .i64 (rq s), .int .i64 (bt s 2 : Nat), .int .i64 (bt s 3 : Nat), .string (rdd s)], .int .i64 0]) ∧ Below w.heap.size w w' := by
  have e4 := bt_get s 4 (by omega)
  have hrd := fun W => read_any s W h h4
  have hsz := rdd_size s h h4
  obtain ⟨t, ht⟩ : ∃ t, bt s 4 = t := ⟨_, rfl⟩
  rw [ht] at e4 h4 hsz
  have e4' := e4.symm
  have h5 : decide ((23 : Int) < (t : Int)) = false := by simp; omega
  obtain ⟨D, hD⟩ : ∃ D, rdd s = D := ⟨_, rfl⟩
  obtain ⟨q, hq⟩ : ∃ q, rq s = q := ⟨_, rfl⟩
  obtain ⟨p, hp⟩ : ∃ p, bt s 2 = p := ⟨_, rfl⟩
  obtain ⟨n, hn⟩ : ∃ n, bt s 3 = n := ⟨_, rfl⟩
  rw [hD, hq, hp, hn] at hr
  simp only [hD, hq, hp, hn] at hrd
  rw [hD] at hsz
  rw [hD, hq, hp, hn] at he ⊢
  have hblk := fun W => block_any q p n D W
  simp only [hr, if_true, he] at hblk
  clear hr he
  clear e4 ht hD hq hp hn hsz
  go_enter Try.func70, Try.ntmps70
  go_wp2_with fail
  refine (hrd _).mono ?_
  rintro e w1 ⟨rfl, hb1⟩
  have hsz1 := hb1.size
  simp at hsz1
  have g0 : w1.heap[w.heap.size]? = some (.cells #[.int .i64 0, .int .i64 0, .int .i64 0, .string ⟨#[]⟩] 93) := by
    rw [hb1.block w.heap.size (by simp)]
    exact heap_alloc_new w _
  have HB1 : Hid (Below w.heap.size w w1) := Below.then (below1 _ _) hb1
  clear hb1 hrd
  go_wp2_with fail
  refine (hblk _).mono ?_
  rintro e w2 ⟨rfl, hb2⟩
  have hne : w1.heap.size ≠ w.heap.size := by omega
  have G0 : w2.heap[w.heap.size]? = some (.cells #[.int .i64 0, .int .i64 0, .int .i64 0, .string ⟨#[]⟩] 93) := by
    rw [hb2.block w.heap.size (by simp; omega), Below.heap_alloc _ _ _ (by omega)]
    exact g0
  have G1 : w2.heap[w1.heap.size]? = some (.cells #[.int .i64 q, .int .i64 (p : Int), .int .i64 (n : Int), .string D] 93) := by
    rw [hb2.block w1.heap.size (by simp)]
    exact heap_alloc_new w1 _
  have HB2 : Hid (Below w.heap.size w w2) := Below.then HB1.out (Below.then (below1 _ _) hb2)
  have d0 : w2.cell? ⟨w.heap.size, 0, none⟩ = some (.int .i64 0) := by simp [World.cell?, G0]
  have d1 : w2.cell? ⟨w.heap.size, 1, none⟩ = some (.int .i64 0) := by simp [World.cell?, G0]
  have d2 : w2.cell? ⟨w.heap.size, 2, none⟩ = some (.int .i64 0) := by simp [World.cell?, G0]
  have d3 : w2.cell? ⟨w.heap.size, 3, none⟩ = some (.string ⟨#[]⟩) := by simp [World.cell?, G0]
  have f0 : w2.frozen? ⟨w.heap.size, 0, none⟩ = false := by simp [World.frozen?, G0]
  have f1 : w2.frozen? ⟨w.heap.size, 1, none⟩ = false := by simp [World.frozen?, G0]
  have f2 : w2.frozen? ⟨w.heap.size, 2, none⟩ = false := by simp [World.frozen?, G0]
  have f3 : w2.frozen? ⟨w.heap.size, 3, none⟩ = false := by simp [World.frozen?, G0]
  have p0 : w2.cell? ⟨w1.heap.size, 0, none⟩ = some (.int .i64 q) := by simp [World.cell?, G1]
  have p1 : w2.cell? ⟨w1.heap.size, 1, none⟩ = some (.int .i64 (p : Int)) := by simp [World.cell?, G1]
  have p2 : w2.cell? ⟨w1.heap.size, 2, none⟩ = some (.int .i64 (n : Int)) := by simp [World.cell?, G1]
  have p3 : w2.cell? ⟨w1.heap.size, 3, none⟩ = some (.string D) := by simp [World.cell?, G1]
  clear hb2 g0 G0 G1 hblk
  go_wp2_with fail
  refine bodyPost_ret (v := .tuple #[.agg #[.int .i64 q, .int .i64 (p : Int), .int .i64 (n : Int), .string D], .int .i64 0]) (by simp [results, Try.results70, go_sem, *]) rfl ⟨rfl, ?_⟩
  exact (((HB2.out.setCell (Nat.le_refl _) _).setCell (Nat.le_refl _) _).setCell (Nat.le_refl _) _).setCell (Nat.le_refl _) _
theorem unblock_yes (s : ByteArray) (w : World) (h : Ub s) : Calls Try.prog 70 #[.string s] w fun e w' => e = .returned (.tuple #[.agg #[.int .i64 (rq s), .int .i64 (bt s 2 : Nat), .int .i64 (bt s 3 : Nat), .string (rdd s)], .int .i64 0]) ∧ Below w.heap.size w w' :=
  unblock_same s w h.size h.len (ub_rt h) h.same
theorem unblock_no (s : ByteArray) (w : World) (h : ¬ Ub s) : Calls Try.prog 70 #[.string s] w fun e w' => e = .returned (.tuple #[.agg #[.int .i64 0, .int .i64 0, .int .i64 0, .string ⟨#[]⟩], .int .i64 7]) ∧ Below w.heap.size w w' := by
  by_cases h0 : s.size = 32
  · by_cases h4 : bt s 4 ≤ 23
    · cases hr : rt (rq s) (bt s 2) (bt s 3) (rdd s).size with
      | false => exact unblock_wrong s w h0 h4 hr
      | true => exact unblock_other s w h0 h4 hr (fun e => h ⟨h0, h4, by rw [rdd_size s h0 h4] at hr; exact hr, e⟩)
    · exact unblock_big s w h0 (by omega)
  · exact unblock_size s w h0
end Go.Proofs.Ytohgflimdoebiaa
