/- Contract: the document's Unblock. -/
import Derived.Test.YtohgflimdoebiaaFrD
import Derived.Test.YtohgflimdoebiaaFrE
namespace Go.Proofs.Ytohgflimdoebiaa
open Go.RowKit Go.Maps
set_option linter.unusedVariables false
set_option linter.unusedSimpArgs false

set_option maxHeartbeats 2000000 in
set_option maxRecDepth 100000 in
theorem rUnblock_size (s : ByteArray) (w : World) (h : s.size ≠ 32) : Calls Try.prog 46 #[.string s] w fun e w' => e = .returned (.tuple #[.agg #[.int .i64 0, .int .i64 0, .int .i64 0, .string ⟨#[]⟩], .int .i64 7]) ∧ Below w.heap.size w w' := by
  obtain ⟨z, hz⟩ : ∃ z, s.size = z := ⟨_, rfl⟩
  have h0 : ((z : Int) != 32) = true := by simp; omega
  clear h
  go_enter Try.func46, Try.ntmps46
  go_wp2
  refine bodyPost_ret (v := .tuple #[.agg #[.int .i64 0, .int .i64 0, .int .i64 0, .string ⟨#[]⟩], .int .i64 7]) (by simp [results, Try.results46, go_sem, *]) rfl ⟨rfl, ?_⟩
  exact below1 _ _
set_option maxHeartbeats 2000000 in
set_option maxRecDepth 100000 in
theorem rUnblock_big (s : ByteArray) (w : World) (h : s.size = 32) (h4 : 23 < bt s 4) : Calls Try.prog 46 #[.string s] w fun e w' => e = .returned (.tuple #[.agg #[.int .i64 0, .int .i64 0, .int .i64 0, .string ⟨#[]⟩], .int .i64 7]) ∧ Below w.heap.size w w' := by
  have e4 := bt_get s 4 (by omega)
  obtain ⟨t, ht⟩ : ∃ t, bt s 4 = t := ⟨_, rfl⟩
  rw [ht] at e4 h4
  have e4' := e4.symm
  have h5 : (23 : Int) < (t : Int) := by omega
  clear e4 ht
  go_enter Try.func46, Try.ntmps46
  go_wp2
  refine bodyPost_ret (v := .tuple #[.agg #[.int .i64 0, .int .i64 0, .int .i64 0, .string ⟨#[]⟩], .int .i64 7]) (by simp [results, Try.results46, go_sem, *]) rfl ⟨rfl, ?_⟩
  exact below1 _ _
set_option maxHeartbeats 2000000 in
set_option maxRecDepth 100000 in
theorem rUnblock_wrong (s : ByteArray) (w : World) (h : s.size = 32) (h4 : bt s 4 ≤ 23) (hr : rt (rq s) (bt s 2) (bt s 3) (rdd s).size = false) : Calls Try.prog 46 #[.string s] w fun e w' => e = .returned (.tuple #[.agg #[.int .i64 0, .int .i64 0, .int .i64 0, .string ⟨#[]⟩], .int .i64 7]) ∧ Below w.heap.size w w' := by
  have e4 := bt_get s 4 (by omega)
  have hrd := fun W => read_any s W h h4
  have hsz := rdd_size s h h4
  obtain ⟨t, ht⟩ : ∃ t, bt s 4 = t := ⟨_, rfl⟩
  rw [ht] at e4 h4 hsz
  have e4' := e4.symm
  have h5 : decide ((23 : Int) < (t : Int)) = false := by simp; omega
  obtain ⟨D, hD⟩ : ∃ D, rdd s = D := ⟨_, rfl⟩
  obtain ⟨q, hq⟩ : ∃ q, rq s = q := ⟨_, rfl⟩
  obtain ⟨p, hp⟩ : ∃ p, bt s 2 = p := ⟨_, rfl⟩
  obtain ⟨n, hn⟩ : ∃ n, bt s 3 = n := ⟨_, rfl⟩
  rw [hD, hq, hp, hn] at hr
  simp only [hD, hq, hp, hn] at hrd
  rw [hD] at hsz
  have hblk := fun W => rBlock_no q p n D W hr
  clear hr
  have r0 := bt_get s 0 (by omega)
  have r1 := bt_get s 1 (by omega)
  have r2 := bt_get s 2 (by omega)
  have r3 := bt_get s 3 (by omega)
  have l0 := bt_lt s 0
  have l1 := bt_lt s 1
  have l2 := bt_lt s 2
  have l3 := bt_lt s 3
  have hQ : rq s = ((256 * bt s 0 + bt s 1 : Nat) : Int) := rfl
  rw [hq] at hQ
  obtain ⟨x0, hx0⟩ : ∃ x, bt s 0 = x := ⟨_, rfl⟩
  obtain ⟨x1, hx1⟩ : ∃ x, bt s 1 = x := ⟨_, rfl⟩
  rw [hx0] at r0 l0 hQ
  rw [hx1] at r1 l1 hQ
  rw [hp] at r2 l2
  rw [hn] at r3 l3
  have y0 := r0.symm
  have y1 := r1.symm
  have y2 := r2.symm
  have y3 := r3.symm
  have HDD : Hid (s.extract 5 (5 + t) = D) := by unfold Hid; rw [← hD, ← ht]; rfl
  have HQ : Hid (q = 256 * (x0 : Int) + (x1 : Int)) := by unfold Hid; rw [hQ]; omega
  have w5 : IntKind.i64.wrap (5 + (t : Int)) = 5 + (t : Int) := Bt.wrap_fit _ (by omega) (by omega)
  have w6 : IntKind.i64.wrap (256 * (x0 : Int)) = 256 * (x0 : Int) := Bt.wrap_fit _ (by omega) (by omega)
  have w7 : IntKind.i64.wrap (256 * (x0 : Int) + (x1 : Int)) = 256 * (x0 : Int) + (x1 : Int) := Bt.wrap_fit _ (by omega) (by omega)
  have z1 : (5 : Int) + (t : Int) ≤ 32 := by omega
  have v0 : IntKind.i64.wrap (x0 : Int) = (x0 : Int) := Bt.wrap_fit _ (by omega) (by omega)
  have v1 : IntKind.i64.wrap (x1 : Int) = (x1 : Int) := Bt.wrap_fit _ (by omega) (by omega)
  have v2 : IntKind.i64.wrap (p : Int) = (p : Int) := Bt.wrap_fit _ (by omega) (by omega)
  have v3 : IntKind.i64.wrap (n : Int) = (n : Int) := Bt.wrap_fit _ (by omega) (by omega)
  have z0 : (0 : Int) ≤ (t : Int) := by omega
  have w4 : IntKind.i64.wrap (t : Int) = (t : Int) := Bt.wrap_fit _ (by omega) (by omega)
  have z2 : (5 : Int) ≤ 5 + (t : Int) := by omega
  have z3 : ((5 : Int) + (t : Int)).toNat = 5 + t := by omega
  have z4 : (0 : Int) ≤ 5 + (t : Int) := by omega
  clear e4 ht hD hq hp hn hsz hrd r0 r1 r2 r3 hx0 hx1 hQ
  go_enter Try.func46, Try.ntmps46
  go_wp2_with fail
  have G0 : (w.alloc (.cells #[.int .i64 0, .int .i64 0, .int .i64 0, .string ⟨#[]⟩] 93)).heap[w.heap.size]? = some (.cells #[.int .i64 0, .int .i64 0, .int .i64 0, .string ⟨#[]⟩] 93) := heap_alloc_new w _
  have HB0 : Hid (Below w.heap.size w (w.alloc (.cells #[.int .i64 0, .int .i64 0, .int .i64 0, .string ⟨#[]⟩] 93))) := below1 _ _
  have hs0 : w.heap.size < (w.alloc (.cells #[.int .i64 0, .int .i64 0, .int .i64 0, .string ⟨#[]⟩] 93)).heap.size := by simp
  generalize (w.alloc (.cells #[.int .i64 0, .int .i64 0, .int .i64 0, .string ⟨#[]⟩] 93)) = w0 at G0 HB0 hs0 ⊢
  refine wp_region_held_drew (S := fun _ => True) (by kernel_rfl) trivial (fun _ => ?_)
  refine wpAnyH_take (i := 0) (oi := { dst := some 16, op := Op.move (Operand.tmp 0), type := _, pos := _, after := _, guard := none }) (v := .string s) rfl (by kernel_rfl) (by kernel_rfl) (by kernel_rfl) (fun _ _ _ h => h) (Or.inl ⟨by rfl, fun w hSw => by go_simp⟩) trivial ?_
  simp only [Act.put, List.setIfInBounds_toArray, List.set_cons_zero, List.set_cons_succ]
  refine wpAnyH_take (i := 1) (oi := { dst := some 17, op := Op.index 9 (Operand.tmp 16) (Operand.const (Value.int IntKind.i64 0)), type := _, pos := _, after := _, guard := none }) (v := .int .u8 (x0 : Int)) rfl (by kernel_rfl) (by kernel_rfl) (by kernel_rfl) (fun _ _ _ h => h) (Or.inl ⟨by rfl, fun w hSw => by go_simp⟩) trivial ?_
  simp only [Act.put, List.setIfInBounds_toArray, List.set_cons_zero, List.set_cons_succ]
  refine wpAnyH_take (i := 2) (oi := { dst := some 18, op := Op.convert 5 3 (Operand.tmp 17), type := _, pos := _, after := _, guard := none }) (v := .int .i64 (x0 : Int)) rfl (by kernel_rfl) (by kernel_rfl) (by kernel_rfl) (fun _ _ _ h => h) (Or.inl ⟨by rfl, fun w hSw => by go_simp⟩) trivial ?_
  simp only [Act.put, List.setIfInBounds_toArray, List.set_cons_zero, List.set_cons_succ]
  refine wpAnyH_take (i := 3) (oi := { dst := some 19, op := Op.binOp BinOp.mul 3 (Operand.const (Value.int IntKind.i64 256)) (Operand.tmp 18) 3, type := _, pos := _, after := _, guard := none }) (v := .int .i64 (256 * (x0 : Int))) rfl (by kernel_rfl) (by kernel_rfl) (by kernel_rfl) (fun _ _ _ h => h) (Or.inl ⟨by rfl, fun w hSw => by go_simp⟩) trivial ?_
  simp only [Act.put, List.setIfInBounds_toArray, List.set_cons_zero, List.set_cons_succ]
  refine wpAnyH_take (i := 4) (oi := { dst := some 20, op := Op.move (Operand.tmp 0), type := _, pos := _, after := _, guard := none }) (v := .string s) rfl (by kernel_rfl) (by kernel_rfl) (by kernel_rfl) (fun _ _ _ h => h) (Or.inl ⟨by rfl, fun w hSw => by go_simp⟩) trivial ?_
  simp only [Act.put, List.setIfInBounds_toArray, List.set_cons_zero, List.set_cons_succ]
  refine wpAnyH_take (i := 5) (oi := { dst := some 21, op := Op.index 9 (Operand.tmp 20) (Operand.const (Value.int IntKind.i64 1)), type := _, pos := _, after := _, guard := none }) (v := .int .u8 (x1 : Int)) rfl (by kernel_rfl) (by kernel_rfl) (by kernel_rfl) (fun _ _ _ h => h) (Or.inl ⟨by rfl, fun w hSw => by go_simp⟩) trivial ?_
  simp only [Act.put, List.setIfInBounds_toArray, List.set_cons_zero, List.set_cons_succ]
  refine wpAnyH_take (i := 6) (oi := { dst := some 22, op := Op.convert 5 3 (Operand.tmp 21), type := _, pos := _, after := _, guard := none }) (v := .int .i64 (x1 : Int)) rfl (by kernel_rfl) (by kernel_rfl) (by kernel_rfl) (fun _ _ _ h => h) (Or.inl ⟨by rfl, fun w hSw => by go_simp⟩) trivial ?_
  simp only [Act.put, List.setIfInBounds_toArray, List.set_cons_zero, List.set_cons_succ]
  refine wpAnyH_take (i := 7) (oi := { dst := some 23, op := Op.binOp BinOp.add 3 (Operand.tmp 19) (Operand.tmp 22) 3, type := _, pos := _, after := _, guard := none }) (v := .int .i64 (256 * (x0 : Int) + (x1 : Int))) rfl (by kernel_rfl) (by kernel_rfl) (by kernel_rfl) (fun _ _ _ h => h) (Or.inl ⟨by rfl, fun w hSw => by go_simp⟩) trivial ?_
  simp only [Act.put, List.setIfInBounds_toArray, List.set_cons_zero, List.set_cons_succ]
  refine wpAnyH_take (i := 8) (oi := { dst := some 24, op := Op.move (Operand.tmp 0), type := _, pos := _, after := _, guard := none }) (v := .string s) rfl (by kernel_rfl) (by kernel_rfl) (by kernel_rfl) (fun _ _ _ h => h) (Or.inl ⟨by rfl, fun w hSw => by go_simp⟩) trivial ?_
  simp only [Act.put, List.setIfInBounds_toArray, List.set_cons_zero, List.set_cons_succ]
  refine wpAnyH_take (i := 9) (oi := { dst := some 25, op := Op.index 9 (Operand.tmp 24) (Operand.const (Value.int IntKind.i64 2)), type := _, pos := _, after := _, guard := none }) (v := .int .u8 (p : Int)) rfl (by kernel_rfl) (by kernel_rfl) (by kernel_rfl) (fun _ _ _ h => h) (Or.inl ⟨by rfl, fun w hSw => by go_simp⟩) trivial ?_
  simp only [Act.put, List.setIfInBounds_toArray, List.set_cons_zero, List.set_cons_succ]
  refine wpAnyH_take (i := 10) (oi := { dst := some 26, op := Op.convert 5 3 (Operand.tmp 25), type := _, pos := _, after := _, guard := none }) (v := .int .i64 (p : Int)) rfl (by kernel_rfl) (by kernel_rfl) (by kernel_rfl) (fun _ _ _ h => h) (Or.inl ⟨by rfl, fun w hSw => by go_simp⟩) trivial ?_
  simp only [Act.put, List.setIfInBounds_toArray, List.set_cons_zero, List.set_cons_succ]
  refine wpAnyH_take (i := 11) (oi := { dst := some 27, op := Op.move (Operand.tmp 0), type := _, pos := _, after := _, guard := none }) (v := .string s) rfl (by kernel_rfl) (by kernel_rfl) (by kernel_rfl) (fun _ _ _ h => h) (Or.inl ⟨by rfl, fun w hSw => by go_simp⟩) trivial ?_
  simp only [Act.put, List.setIfInBounds_toArray, List.set_cons_zero, List.set_cons_succ]
  refine wpAnyH_take (i := 12) (oi := { dst := some 28, op := Op.index 9 (Operand.tmp 27) (Operand.const (Value.int IntKind.i64 3)), type := _, pos := _, after := _, guard := none }) (v := .int .u8 (n : Int)) rfl (by kernel_rfl) (by kernel_rfl) (by kernel_rfl) (fun _ _ _ h => h) (Or.inl ⟨by rfl, fun w hSw => by go_simp⟩) trivial ?_
  simp only [Act.put, List.setIfInBounds_toArray, List.set_cons_zero, List.set_cons_succ]
  refine wpAnyH_take (i := 13) (oi := { dst := some 29, op := Op.convert 5 3 (Operand.tmp 28), type := _, pos := _, after := _, guard := none }) (v := .int .i64 (n : Int)) rfl (by kernel_rfl) (by kernel_rfl) (by kernel_rfl) (fun _ _ _ h => h) (Or.inl ⟨by rfl, fun w hSw => by go_simp⟩) trivial ?_
  simp only [Act.put, List.setIfInBounds_toArray, List.set_cons_zero, List.set_cons_succ]
  refine wpAnyH_take (i := 14) (oi := { dst := some 30, op := Op.move (Operand.tmp 0), type := _, pos := _, after := _, guard := none }) (v := .string s) rfl (by kernel_rfl) (by kernel_rfl) (by kernel_rfl) (fun _ _ _ h => h) (Or.inl ⟨by rfl, fun w hSw => by go_simp⟩) trivial ?_
  simp only [Act.put, List.setIfInBounds_toArray, List.set_cons_zero, List.set_cons_succ]
  refine wpAnyH_take (i := 15) (oi := { dst := some 31, op := Op.move (Operand.tmp 0), type := _, pos := _, after := _, guard := none }) (v := .string s) rfl (by kernel_rfl) (by kernel_rfl) (by kernel_rfl) (fun _ _ _ h => h) (Or.inl ⟨by rfl, fun w hSw => by go_simp⟩) trivial ?_
  simp only [Act.put, List.setIfInBounds_toArray, List.set_cons_zero, List.set_cons_succ]
  refine wpAnyH_take (i := 16) (oi := { dst := some 32, op := Op.index 9 (Operand.tmp 31) (Operand.const (Value.int IntKind.i64 4)), type := _, pos := _, after := _, guard := none }) (v := .int .u8 (t : Int)) rfl (by kernel_rfl) (by kernel_rfl) (by kernel_rfl) (fun _ _ _ h => h) (Or.inl ⟨by rfl, fun w hSw => by go_simp⟩) trivial ?_
  simp only [Act.put, List.setIfInBounds_toArray, List.set_cons_zero, List.set_cons_succ]
  refine wpAnyH_take (i := 17) (oi := { dst := some 33, op := Op.convert 5 3 (Operand.tmp 32), type := _, pos := _, after := _, guard := none }) (v := .int .i64 (t : Int)) rfl (by kernel_rfl) (by kernel_rfl) (by kernel_rfl) (fun _ _ _ h => h) (Or.inl ⟨by rfl, fun w hSw => by go_simp⟩) trivial ?_
  simp only [Act.put, List.setIfInBounds_toArray, List.set_cons_zero, List.set_cons_succ]
  refine wpAnyH_take (i := 18) (oi := { dst := some 34, op := Op.binOp BinOp.add 3 (Operand.const (Value.int IntKind.i64 5)) (Operand.tmp 33) 3, type := _, pos := _, after := _, guard := none }) (v := .int .i64 (5 + (t : Int))) rfl (by kernel_rfl) (by kernel_rfl) (by kernel_rfl) (fun _ _ _ h => h) (Or.inl ⟨by rfl, fun w hSw => by go_simp⟩) trivial ?_
  simp only [Act.put, List.setIfInBounds_toArray, List.set_cons_zero, List.set_cons_succ]
  refine wpAnyH_take (i := 19) (oi := { dst := some 35, op := Op.slice 9 (Operand.tmp 30) (some (Operand.const (Value.int IntKind.i64 5))) (some (Operand.tmp 34)) none, type := _, pos := _, after := _, guard := none }) (v := .string (s.extract 5 (5 + t))) rfl (by kernel_rfl) (by kernel_rfl) (by kernel_rfl) (fun _ _ _ h => h) (Or.inl ⟨by rfl, fun w hSw => by go_simp⟩) trivial ?_
  simp only [Act.put, List.setIfInBounds_toArray, List.set_cons_zero, List.set_cons_succ]
  refine wpAnyH_take (i := 20) (oi := { dst := some 36, op := Op.build 93 #[(0, Operand.tmp 23), (1, Operand.tmp 26), (2, Operand.tmp 29), (3, Operand.tmp 35)], type := _, pos := _, after := _, guard := none }) (v := .agg #[.int .i64 (256 * (x0 : Int) + (x1 : Int)), .int .i64 (p : Int), .int .i64 (n : Int), .string (s.extract 5 (5 + t))]) rfl (by kernel_rfl) (by kernel_rfl) (by kernel_rfl) (fun _ _ _ h => h) (Or.inl ⟨by rfl, fun w hSw => by go_simp⟩) trivial ?_
  simp only [Act.put, List.setIfInBounds_toArray, List.set_cons_zero, List.set_cons_succ]
  refine wpAnyH_ready (rs := [21]) (by kernel_rfl) (by simp) ?_
  refine AllReadyH.cons (o := { dst := some 4, op := Op.alloc 93, type := _, pos := _, after := _, guard := none }) rfl (fun K hK => ?_) AllReadyH.nil
  go_wp2_with fail
  refine hK.out _ _ trivial (fun _ => ?_)
  clear hK K
  try simp only [Act.put, List.setIfInBounds_toArray, List.set_cons_zero, List.set_cons_succ]
  refine wpAnyH_ready (rs := [22]) (by kernel_rfl) (by simp) ?_
  refine AllReadyH.cons (o := { dst := none, op := Op.store 93 (Operand.tmp 4) (Operand.tmp 36), type := _, pos := _, after := _, guard := none }) rfl (fun K hK => ?_) AllReadyH.nil
  go_wp2_with fail
  refine hK.out _ _ trivial (fun _ => ?_)
  clear hK K
  try simp only [Act.put, List.setIfInBounds_toArray, List.set_cons_zero, List.set_cons_succ]
  refine wpAnyH_done (by kernel_rfl) ?_ _
  go_wp2_with fail
  rw [← HQ.out, HDD.out]
  refine (hblk _).mono ?_
  rintro e w2 ⟨rfl, hb2⟩
  have hne : w0.heap.size ≠ w.heap.size := by omega
  have G0' : w2.heap[w.heap.size]? = some (.cells #[.int .i64 0, .int .i64 0, .int .i64 0, .string ⟨#[]⟩] 93) := by
    rw [hb2.block w.heap.size (by simp; omega)]
    show (w0.alloc _).heap[w.heap.size]? = _
    rw [Below.heap_alloc _ _ _ (by omega)]
    exact G0
  have G1 : w2.heap[w0.heap.size]? = some (.cells #[.int .i64 q, .int .i64 (p : Int), .int .i64 (n : Int), .string D] 93) := by
    rw [hb2.block w0.heap.size (by simp)]
    exact heap_alloc_new w0 _
  have HB2 : Hid (Below w.heap.size w w2) := Below.then (Below.drew (Below.more HB0.out _)) hb2
  have d0 : w2.cell? ⟨w.heap.size, 0, none⟩ = some (.int .i64 0) := by simp [World.cell?, G0']
  have d1 : w2.cell? ⟨w.heap.size, 1, none⟩ = some (.int .i64 0) := by simp [World.cell?, G0']
  have d2 : w2.cell? ⟨w.heap.size, 2, none⟩ = some (.int .i64 0) := by simp [World.cell?, G0']
  have d3 : w2.cell? ⟨w.heap.size, 3, none⟩ = some (.string ⟨#[]⟩) := by simp [World.cell?, G0']
  have f0 : w2.frozen? ⟨w.heap.size, 0, none⟩ = false := by simp [World.frozen?, G0']
  have f1 : w2.frozen? ⟨w.heap.size, 1, none⟩ = false := by simp [World.frozen?, G0']
  have f2 : w2.frozen? ⟨w.heap.size, 2, none⟩ = false := by simp [World.frozen?, G0']
  have f3 : w2.frozen? ⟨w.heap.size, 3, none⟩ = false := by simp [World.frozen?, G0']
  have p0 : w2.cell? ⟨w0.heap.size, 0, none⟩ = some (.int .i64 q) := by simp [World.cell?, G1]
  have p1 : w2.cell? ⟨w0.heap.size, 1, none⟩ = some (.int .i64 (p : Int)) := by simp [World.cell?, G1]
  have p2 : w2.cell? ⟨w0.heap.size, 2, none⟩ = some (.int .i64 (n : Int)) := by simp [World.cell?, G1]
  have p3 : w2.cell? ⟨w0.heap.size, 3, none⟩ = some (.string D) := by simp [World.cell?, G1]
  clear hb2 G0 G0' G1 hblk y0 y1 y2 y3 v0 v1 v2 v3 w4 w5 w6 w7 z0 z1 z2 z3 z4
  go_wp2_with fail
  refine bodyPost_ret (v := .tuple #[.agg #[.int .i64 0, .int .i64 0, .int .i64 0, .string ⟨#[]⟩], .int .i64 7]) (by simp [results, Try.results46, go_sem, *]) rfl ⟨rfl, ?_⟩
  exact (((HB2.out.setCell (Nat.le_refl _) _).setCell (Nat.le_refl _) _).setCell (Nat.le_refl _) _).setCell (Nat.le_refl _) _
set_option maxHeartbeats 2000000 in
set_option maxRecDepth 100000 in
theorem rUnblock_other (s : ByteArray) (w : World) (h : s.size = 32) (h4 : bt s 4 ≤ 23) (hr : rt (rq s) (bt s 2) (bt s 3) (rdd s).size = true) (hne0 : bl (rq s) (bt s 2) (bt s 3) (rdd s) ≠ s) : Calls Try.prog 46 #[.string s] w fun e w' => e = .returned (.tuple #[.agg #[.int .i64 0, .int .i64 0, .int .i64 0, .string ⟨#[]⟩], .int .i64 7]) ∧ Below w.heap.size w w' := by
  have e4 := bt_get s 4 (by omega)
  have hrd := fun W => read_any s W h h4
  have hsz := rdd_size s h h4
  obtain ⟨t, ht⟩ : ∃ t, bt s 4 = t := ⟨_, rfl⟩
  rw [ht] at e4 h4 hsz
  have e4' := e4.symm
  have h5 : decide ((23 : Int) < (t : Int)) = false := by simp; omega
  obtain ⟨D, hD⟩ : ∃ D, rdd s = D := ⟨_, rfl⟩
  obtain ⟨q, hq⟩ : ∃ q, rq s = q := ⟨_, rfl⟩
  obtain ⟨p, hp⟩ : ∃ p, bt s 2 = p := ⟨_, rfl⟩
  obtain ⟨n, hn⟩ : ∃ n, bt s 3 = n := ⟨_, rfl⟩
  rw [hD, hq, hp, hn] at hr
  simp only [hD, hq, hp, hn] at hrd
  rw [hD] at hsz
  rw [hD, hq, hp, hn] at hne0
  have hblk := fun W => rBlock_any q p n D W
  simp only [hr, if_true] at hblk
  obtain ⟨X, hX⟩ : ∃ X, bl q p n D = X := ⟨_, rfl⟩
  simp only [hX] at hblk
  rw [hX] at hne0
  have hst := str_ne hne0
  clear hr hX hne0
  have r0 := bt_get s 0 (by omega)
  have r1 := bt_get s 1 (by omega)
  have r2 := bt_get s 2 (by omega)
  have r3 := bt_get s 3 (by omega)
  have l0 := bt_lt s 0
  have l1 := bt_lt s 1
  have l2 := bt_lt s 2
  have l3 := bt_lt s 3
  have hQ : rq s = ((256 * bt s 0 + bt s 1 : Nat) : Int) := rfl
  rw [hq] at hQ
  obtain ⟨x0, hx0⟩ : ∃ x, bt s 0 = x := ⟨_, rfl⟩
  obtain ⟨x1, hx1⟩ : ∃ x, bt s 1 = x := ⟨_, rfl⟩
  rw [hx0] at r0 l0 hQ
  rw [hx1] at r1 l1 hQ
  rw [hp] at r2 l2
  rw [hn] at r3 l3
  have y0 := r0.symm
  have y1 := r1.symm
  have y2 := r2.symm
  have y3 := r3.symm
  have HDD : Hid (s.extract 5 (5 + t) = D) := by unfold Hid; rw [← hD, ← ht]; rfl
  have HQ : Hid (q = 256 * (x0 : Int) + (x1 : Int)) := by unfold Hid; rw [hQ]; omega
  have w5 : IntKind.i64.wrap (5 + (t : Int)) = 5 + (t : Int) := Bt.wrap_fit _ (by omega) (by omega)
  have w6 : IntKind.i64.wrap (256 * (x0 : Int)) = 256 * (x0 : Int) := Bt.wrap_fit _ (by omega) (by omega)
  have w7 : IntKind.i64.wrap (256 * (x0 : Int) + (x1 : Int)) = 256 * (x0 : Int) + (x1 : Int) := Bt.wrap_fit _ (by omega) (by omega)
  have z1 : (5 : Int) + (t : Int) ≤ 32 := by omega
  have v0 : IntKind.i64.wrap (x0 : Int) = (x0 : Int) := Bt.wrap_fit _ (by omega) (by omega)
  have v1 : IntKind.i64.wrap (x1 : Int) = (x1 : Int) := Bt.wrap_fit _ (by omega) (by omega)
  have v2 : IntKind.i64.wrap (p : Int) = (p : Int) := Bt.wrap_fit _ (by omega) (by omega)
  have v3 : IntKind.i64.wrap (n : Int) = (n : Int) := Bt.wrap_fit _ (by omega) (by omega)
  have z0 : (0 : Int) ≤ (t : Int) := by omega
  have w4 : IntKind.i64.wrap (t : Int) = (t : Int) := Bt.wrap_fit _ (by omega) (by omega)
  have z2 : (5 : Int) ≤ 5 + (t : Int) := by omega
  have z3 : ((5 : Int) + (t : Int)).toNat = 5 + t := by omega
  have z4 : (0 : Int) ≤ 5 + (t : Int) := by omega
  clear e4 ht hD hq hp hn hsz hrd r0 r1 r2 r3 hx0 hx1 hQ
  go_enter Try.func46, Try.ntmps46
  go_wp2_with fail
  have G0 : (w.alloc (.cells #[.int .i64 0, .int .i64 0, .int .i64 0, .string ⟨#[]⟩] 93)).heap[w.heap.size]? = some (.cells #[.int .i64 0, .int .i64 0, .int .i64 0, .string ⟨#[]⟩] 93) := heap_alloc_new w _
  have HB0 : Hid (Below w.heap.size w (w.alloc (.cells #[.int .i64 0, .int .i64 0, .int .i64 0, .string ⟨#[]⟩] 93))) := below1 _ _
  have hs0 : w.heap.size < (w.alloc (.cells #[.int .i64 0, .int .i64 0, .int .i64 0, .string ⟨#[]⟩] 93)).heap.size := by simp
  generalize (w.alloc (.cells #[.int .i64 0, .int .i64 0, .int .i64 0, .string ⟨#[]⟩] 93)) = w0 at G0 HB0 hs0 ⊢
  refine wp_region_held_drew (S := fun _ => True) (by kernel_rfl) trivial (fun _ => ?_)
  refine wpAnyH_take (i := 0) (oi := { dst := some 16, op := Op.move (Operand.tmp 0), type := _, pos := _, after := _, guard := none }) (v := .string s) rfl (by kernel_rfl) (by kernel_rfl) (by kernel_rfl) (fun _ _ _ h => h) (Or.inl ⟨by rfl, fun w hSw => by go_simp⟩) trivial ?_
  simp only [Act.put, List.setIfInBounds_toArray, List.set_cons_zero, List.set_cons_succ]
  refine wpAnyH_take (i := 1) (oi := { dst := some 17, op := Op.index 9 (Operand.tmp 16) (Operand.const (Value.int IntKind.i64 0)), type := _, pos := _, after := _, guard := none }) (v := .int .u8 (x0 : Int)) rfl (by kernel_rfl) (by kernel_rfl) (by kernel_rfl) (fun _ _ _ h => h) (Or.inl ⟨by rfl, fun w hSw => by go_simp⟩) trivial ?_
  simp only [Act.put, List.setIfInBounds_toArray, List.set_cons_zero, List.set_cons_succ]
  refine wpAnyH_take (i := 2) (oi := { dst := some 18, op := Op.convert 5 3 (Operand.tmp 17), type := _, pos := _, after := _, guard := none }) (v := .int .i64 (x0 : Int)) rfl (by kernel_rfl) (by kernel_rfl) (by kernel_rfl) (fun _ _ _ h => h) (Or.inl ⟨by rfl, fun w hSw => by go_simp⟩) trivial ?_
  simp only [Act.put, List.setIfInBounds_toArray, List.set_cons_zero, List.set_cons_succ]
  refine wpAnyH_take (i := 3) (oi := { dst := some 19, op := Op.binOp BinOp.mul 3 (Operand.const (Value.int IntKind.i64 256)) (Operand.tmp 18) 3, type := _, pos := _, after := _, guard := none }) (v := .int .i64 (256 * (x0 : Int))) rfl (by kernel_rfl) (by kernel_rfl) (by kernel_rfl) (fun _ _ _ h => h) (Or.inl ⟨by rfl, fun w hSw => by go_simp⟩) trivial ?_
  simp only [Act.put, List.setIfInBounds_toArray, List.set_cons_zero, List.set_cons_succ]
  refine wpAnyH_take (i := 4) (oi := { dst := some 20, op := Op.move (Operand.tmp 0), type := _, pos := _, after := _, guard := none }) (v := .string s) rfl (by kernel_rfl) (by kernel_rfl) (by kernel_rfl) (fun _ _ _ h => h) (Or.inl ⟨by rfl, fun w hSw => by go_simp⟩) trivial ?_
  simp only [Act.put, List.setIfInBounds_toArray, List.set_cons_zero, List.set_cons_succ]
  refine wpAnyH_take (i := 5) (oi := { dst := some 21, op := Op.index 9 (Operand.tmp 20) (Operand.const (Value.int IntKind.i64 1)), type := _, pos := _, after := _, guard := none }) (v := .int .u8 (x1 : Int)) rfl (by kernel_rfl) (by kernel_rfl) (by kernel_rfl) (fun _ _ _ h => h) (Or.inl ⟨by rfl, fun w hSw => by go_simp⟩) trivial ?_
  simp only [Act.put, List.setIfInBounds_toArray, List.set_cons_zero, List.set_cons_succ]
  refine wpAnyH_take (i := 6) (oi := { dst := some 22, op := Op.convert 5 3 (Operand.tmp 21), type := _, pos := _, after := _, guard := none }) (v := .int .i64 (x1 : Int)) rfl (by kernel_rfl) (by kernel_rfl) (by kernel_rfl) (fun _ _ _ h => h) (Or.inl ⟨by rfl, fun w hSw => by go_simp⟩) trivial ?_
  simp only [Act.put, List.setIfInBounds_toArray, List.set_cons_zero, List.set_cons_succ]
  refine wpAnyH_take (i := 7) (oi := { dst := some 23, op := Op.binOp BinOp.add 3 (Operand.tmp 19) (Operand.tmp 22) 3, type := _, pos := _, after := _, guard := none }) (v := .int .i64 (256 * (x0 : Int) + (x1 : Int))) rfl (by kernel_rfl) (by kernel_rfl) (by kernel_rfl) (fun _ _ _ h => h) (Or.inl ⟨by rfl, fun w hSw => by go_simp⟩) trivial ?_
  simp only [Act.put, List.setIfInBounds_toArray, List.set_cons_zero, List.set_cons_succ]
  refine wpAnyH_take (i := 8) (oi := { dst := some 24, op := Op.move (Operand.tmp 0), type := _, pos := _, after := _, guard := none }) (v := .string s) rfl (by kernel_rfl) (by kernel_rfl) (by kernel_rfl) (fun _ _ _ h => h) (Or.inl ⟨by rfl, fun w hSw => by go_simp⟩) trivial ?_
  simp only [Act.put, List.setIfInBounds_toArray, List.set_cons_zero, List.set_cons_succ]
  refine wpAnyH_take (i := 9) (oi := { dst := some 25, op := Op.index 9 (Operand.tmp 24) (Operand.const (Value.int IntKind.i64 2)), type := _, pos := _, after := _, guard := none }) (v := .int .u8 (p : Int)) rfl (by kernel_rfl) (by kernel_rfl) (by kernel_rfl) (fun _ _ _ h => h) (Or.inl ⟨by rfl, fun w hSw => by go_simp⟩) trivial ?_
  simp only [Act.put, List.setIfInBounds_toArray, List.set_cons_zero, List.set_cons_succ]
  refine wpAnyH_take (i := 10) (oi := { dst := some 26, op := Op.convert 5 3 (Operand.tmp 25), type := _, pos := _, after := _, guard := none }) (v := .int .i64 (p : Int)) rfl (by kernel_rfl) (by kernel_rfl) (by kernel_rfl) (fun _ _ _ h => h) (Or.inl ⟨by rfl, fun w hSw => by go_simp⟩) trivial ?_
  simp only [Act.put, List.setIfInBounds_toArray, List.set_cons_zero, List.set_cons_succ]
  refine wpAnyH_take (i := 11) (oi := { dst := some 27, op := Op.move (Operand.tmp 0), type := _, pos := _, after := _, guard := none }) (v := .string s) rfl (by kernel_rfl) (by kernel_rfl) (by kernel_rfl) (fun _ _ _ h => h) (Or.inl ⟨by rfl, fun w hSw => by go_simp⟩) trivial ?_
  simp only [Act.put, List.setIfInBounds_toArray, List.set_cons_zero, List.set_cons_succ]
  refine wpAnyH_take (i := 12) (oi := { dst := some 28, op := Op.index 9 (Operand.tmp 27) (Operand.const (Value.int IntKind.i64 3)), type := _, pos := _, after := _, guard := none }) (v := .int .u8 (n : Int)) rfl (by kernel_rfl) (by kernel_rfl) (by kernel_rfl) (fun _ _ _ h => h) (Or.inl ⟨by rfl, fun w hSw => by go_simp⟩) trivial ?_
  simp only [Act.put, List.setIfInBounds_toArray, List.set_cons_zero, List.set_cons_succ]
  refine wpAnyH_take (i := 13) (oi := { dst := some 29, op := Op.convert 5 3 (Operand.tmp 28), type := _, pos := _, after := _, guard := none }) (v := .int .i64 (n : Int)) rfl (by kernel_rfl) (by kernel_rfl) (by kernel_rfl) (fun _ _ _ h => h) (Or.inl ⟨by rfl, fun w hSw => by go_simp⟩) trivial ?_
  simp only [Act.put, List.setIfInBounds_toArray, List.set_cons_zero, List.set_cons_succ]
  refine wpAnyH_take (i := 14) (oi := { dst := some 30, op := Op.move (Operand.tmp 0), type := _, pos := _, after := _, guard := none }) (v := .string s) rfl (by kernel_rfl) (by kernel_rfl) (by kernel_rfl) (fun _ _ _ h => h) (Or.inl ⟨by rfl, fun w hSw => by go_simp⟩) trivial ?_
  simp only [Act.put, List.setIfInBounds_toArray, List.set_cons_zero, List.set_cons_succ]
  refine wpAnyH_take (i := 15) (oi := { dst := some 31, op := Op.move (Operand.tmp 0), type := _, pos := _, after := _, guard := none }) (v := .string s) rfl (by kernel_rfl) (by kernel_rfl) (by kernel_rfl) (fun _ _ _ h => h) (Or.inl ⟨by rfl, fun w hSw => by go_simp⟩) trivial ?_
  simp only [Act.put, List.setIfInBounds_toArray, List.set_cons_zero, List.set_cons_succ]
  refine wpAnyH_take (i := 16) (oi := { dst := some 32, op := Op.index 9 (Operand.tmp 31) (Operand.const (Value.int IntKind.i64 4)), type := _, pos := _, after := _, guard := none }) (v := .int .u8 (t : Int)) rfl (by kernel_rfl) (by kernel_rfl) (by kernel_rfl) (fun _ _ _ h => h) (Or.inl ⟨by rfl, fun w hSw => by go_simp⟩) trivial ?_
  simp only [Act.put, List.setIfInBounds_toArray, List.set_cons_zero, List.set_cons_succ]
  refine wpAnyH_take (i := 17) (oi := { dst := some 33, op := Op.convert 5 3 (Operand.tmp 32), type := _, pos := _, after := _, guard := none }) (v := .int .i64 (t : Int)) rfl (by kernel_rfl) (by kernel_rfl) (by kernel_rfl) (fun _ _ _ h => h) (Or.inl ⟨by rfl, fun w hSw => by go_simp⟩) trivial ?_
  simp only [Act.put, List.setIfInBounds_toArray, List.set_cons_zero, List.set_cons_succ]
  refine wpAnyH_take (i := 18) (oi := { dst := some 34, op := Op.binOp BinOp.add 3 (Operand.const (Value.int IntKind.i64 5)) (Operand.tmp 33) 3, type := _, pos := _, after := _, guard := none }) (v := .int .i64 (5 + (t : Int))) rfl (by kernel_rfl) (by kernel_rfl) (by kernel_rfl) (fun _ _ _ h => h) (Or.inl ⟨by rfl, fun w hSw => by go_simp⟩) trivial ?_
  simp only [Act.put, List.setIfInBounds_toArray, List.set_cons_zero, List.set_cons_succ]
  refine wpAnyH_take (i := 19) (oi := { dst := some 35, op := Op.slice 9 (Operand.tmp 30) (some (Operand.const (Value.int IntKind.i64 5))) (some (Operand.tmp 34)) none, type := _, pos := _, after := _, guard := none }) (v := .string (s.extract 5 (5 + t))) rfl (by kernel_rfl) (by kernel_rfl) (by kernel_rfl) (fun _ _ _ h => h) (Or.inl ⟨by rfl, fun w hSw => by go_simp⟩) trivial ?_
  simp only [Act.put, List.setIfInBounds_toArray, List.set_cons_zero, List.set_cons_succ]
  refine wpAnyH_take (i := 20) (oi := { dst := some 36, op := Op.build 93 #[(0, Operand.tmp 23), (1, Operand.tmp 26), (2, Operand.tmp 29), (3, Operand.tmp 35)], type := _, pos := _, after := _, guard := none }) (v := .agg #[.int .i64 (256 * (x0 : Int) + (x1 : Int)), .int .i64 (p : Int), .int .i64 (n : Int), .string (s.extract 5 (5 + t))]) rfl (by kernel_rfl) (by kernel_rfl) (by kernel_rfl) (fun _ _ _ h => h) (Or.inl ⟨by rfl, fun w hSw => by go_simp⟩) trivial ?_
  simp only [Act.put, List.setIfInBounds_toArray, List.set_cons_zero, List.set_cons_succ]
  refine wpAnyH_ready (rs := [21]) (by kernel_rfl) (by simp) ?_
  refine AllReadyH.cons (o := { dst := some 4, op := Op.alloc 93, type := _, pos := _, after := _, guard := none }) rfl (fun K hK => ?_) AllReadyH.nil
  go_wp2_with fail
  refine hK.out _ _ trivial (fun _ => ?_)
  clear hK K
  try simp only [Act.put, List.setIfInBounds_toArray, List.set_cons_zero, List.set_cons_succ]
  refine wpAnyH_ready (rs := [22]) (by kernel_rfl) (by simp) ?_
  refine AllReadyH.cons (o := { dst := none, op := Op.store 93 (Operand.tmp 4) (Operand.tmp 36), type := _, pos := _, after := _, guard := none }) rfl (fun K hK => ?_) AllReadyH.nil
  go_wp2_with fail
  refine hK.out _ _ trivial (fun _ => ?_)
  clear hK K
  try simp only [Act.put, List.setIfInBounds_toArray, List.set_cons_zero, List.set_cons_succ]
  refine wpAnyH_done (by kernel_rfl) ?_ _
  go_wp2_with fail
  rw [← HQ.out, HDD.out]
  refine (hblk _).mono ?_
  rintro e w2 ⟨rfl, hb2⟩
  have hne : w0.heap.size ≠ w.heap.size := by omega
  have G0' : w2.heap[w.heap.size]? = some (.cells #[.int .i64 0, .int .i64 0, .int .i64 0, .string ⟨#[]⟩] 93) := by
    rw [hb2.block w.heap.size (by simp; omega)]
    show (w0.alloc _).heap[w.heap.size]? = _
    rw [Below.heap_alloc _ _ _ (by omega)]
    exact G0
  have G1 : w2.heap[w0.heap.size]? = some (.cells #[.int .i64 q, .int .i64 (p : Int), .int .i64 (n : Int), .string D] 93) := by
    rw [hb2.block w0.heap.size (by simp)]
    exact heap_alloc_new w0 _
  have HB2 : Hid (Below w.heap.size w w2) := Below.then (Below.drew (Below.more HB0.out _)) hb2
  have d0 : w2.cell? ⟨w.heap.size, 0, none⟩ = some (.int .i64 0) := by simp [World.cell?, G0']
  have d1 : w2.cell? ⟨w.heap.size, 1, none⟩ = some (.int .i64 0) := by simp [World.cell?, G0']
  have d2 : w2.cell? ⟨w.heap.size, 2, none⟩ = some (.int .i64 0) := by simp [World.cell?, G0']
  have d3 : w2.cell? ⟨w.heap.size, 3, none⟩ = some (.string ⟨#[]⟩) := by simp [World.cell?, G0']
  have f0 : w2.frozen? ⟨w.heap.size, 0, none⟩ = false := by simp [World.frozen?, G0']
  have f1 : w2.frozen? ⟨w.heap.size, 1, none⟩ = false := by simp [World.frozen?, G0']
  have f2 : w2.frozen? ⟨w.heap.size, 2, none⟩ = false := by simp [World.frozen?, G0']
  have f3 : w2.frozen? ⟨w.heap.size, 3, none⟩ = false := by simp [World.frozen?, G0']
  have p0 : w2.cell? ⟨w0.heap.size, 0, none⟩ = some (.int .i64 q) := by simp [World.cell?, G1]
  have p1 : w2.cell? ⟨w0.heap.size, 1, none⟩ = some (.int .i64 (p : Int)) := by simp [World.cell?, G1]
  have p2 : w2.cell? ⟨w0.heap.size, 2, none⟩ = some (.int .i64 (n : Int)) := by simp [World.cell?, G1]
  have p3 : w2.cell? ⟨w0.heap.size, 3, none⟩ = some (.string D) := by simp [World.cell?, G1]
  clear hb2 G0 G0' G1 hblk y0 y1 y2 y3 v0 v1 v2 v3 w4 w5 w6 w7 z0 z1 z2 z3 z4
  go_wp2_with fail
  refine bodyPost_ret (v := .tuple #[.agg #[.int .i64 0, .int .i64 0, .int .i64 0, .string ⟨#[]⟩], .int .i64 7]) (by simp [results, Try.results46, go_sem, *]) rfl ⟨rfl, ?_⟩
  exact (((HB2.out.setCell (Nat.le_refl _) _).setCell (Nat.le_refl _) _).setCell (Nat.le_refl _) _).setCell (Nat.le_refl _) _
set_option maxHeartbeats 2000000 in
set_option maxRecDepth 100000 in
theorem rUnblock_same (s : ByteArray) (w : World) (h : s.size = 32) (h4 : bt s 4 ≤ 23) (hr : rt (rq s) (bt s 2) (bt s 3) (rdd s).size = true) (he : bl (rq s) (bt s 2) (bt s 3) (rdd s) = s) : Calls Try.prog 46 #[.string s] w fun e w' => e = .returned (.tuple #[.agg #[.int .i64 (rq s), .int .i64 (bt s 2 : Nat), .int .i64 (bt s 3 : Nat), .string (rdd s)], .int .i64 0]) ∧ Below w.heap.size w w' := by
  have e4 := bt_get s 4 (by omega)
  have hrd := fun W => read_any s W h h4
  have hsz := rdd_size s h h4
  obtain ⟨t, ht⟩ : ∃ t, bt s 4 = t := ⟨_, rfl⟩
  rw [ht] at e4 h4 hsz
  have e4' := e4.symm
  have h5 : decide ((23 : Int) < (t : Int)) = false := by simp; omega
  obtain ⟨D, hD⟩ : ∃ D, rdd s = D := ⟨_, rfl⟩
  obtain ⟨q, hq⟩ : ∃ q, rq s = q := ⟨_, rfl⟩
  obtain ⟨p, hp⟩ : ∃ p, bt s 2 = p := ⟨_, rfl⟩
  obtain ⟨n, hn⟩ : ∃ n, bt s 3 = n := ⟨_, rfl⟩
  rw [hD, hq, hp, hn] at hr
  simp only [hD, hq, hp, hn] at hrd
  rw [hD] at hsz
  rw [hD, hq, hp, hn] at he ⊢
  have hblk := fun W => rBlock_any q p n D W
  simp only [hr, if_true, he] at hblk
  clear hr he
  have r0 := bt_get s 0 (by omega)
  have r1 := bt_get s 1 (by omega)
  have r2 := bt_get s 2 (by omega)
  have r3 := bt_get s 3 (by omega)
  have l0 := bt_lt s 0
  have l1 := bt_lt s 1
  have l2 := bt_lt s 2
  have l3 := bt_lt s 3
  have hQ : rq s = ((256 * bt s 0 + bt s 1 : Nat) : Int) := rfl
  rw [hq] at hQ
  obtain ⟨x0, hx0⟩ : ∃ x, bt s 0 = x := ⟨_, rfl⟩
  obtain ⟨x1, hx1⟩ : ∃ x, bt s 1 = x := ⟨_, rfl⟩
  rw [hx0] at r0 l0 hQ
  rw [hx1] at r1 l1 hQ
  rw [hp] at r2 l2
  rw [hn] at r3 l3
  have y0 := r0.symm
  have y1 := r1.symm
  have y2 := r2.symm
  have y3 := r3.symm
  have HDD : Hid (s.extract 5 (5 + t) = D) := by unfold Hid; rw [← hD, ← ht]; rfl
  have HQ : Hid (q = 256 * (x0 : Int) + (x1 : Int)) := by unfold Hid; rw [hQ]; omega
  have w5 : IntKind.i64.wrap (5 + (t : Int)) = 5 + (t : Int) := Bt.wrap_fit _ (by omega) (by omega)
  have w6 : IntKind.i64.wrap (256 * (x0 : Int)) = 256 * (x0 : Int) := Bt.wrap_fit _ (by omega) (by omega)
  have w7 : IntKind.i64.wrap (256 * (x0 : Int) + (x1 : Int)) = 256 * (x0 : Int) + (x1 : Int) := Bt.wrap_fit _ (by omega) (by omega)
  have z1 : (5 : Int) + (t : Int) ≤ 32 := by omega
  have v0 : IntKind.i64.wrap (x0 : Int) = (x0 : Int) := Bt.wrap_fit _ (by omega) (by omega)
  have v1 : IntKind.i64.wrap (x1 : Int) = (x1 : Int) := Bt.wrap_fit _ (by omega) (by omega)
  have v2 : IntKind.i64.wrap (p : Int) = (p : Int) := Bt.wrap_fit _ (by omega) (by omega)
  have v3 : IntKind.i64.wrap (n : Int) = (n : Int) := Bt.wrap_fit _ (by omega) (by omega)
  have z0 : (0 : Int) ≤ (t : Int) := by omega
  have w4 : IntKind.i64.wrap (t : Int) = (t : Int) := Bt.wrap_fit _ (by omega) (by omega)
  have z2 : (5 : Int) ≤ 5 + (t : Int) := by omega
  have z3 : ((5 : Int) + (t : Int)).toNat = 5 + t := by omega
  have z4 : (0 : Int) ≤ 5 + (t : Int) := by omega
  clear e4 ht hD hq hp hn hsz hrd r0 r1 r2 r3 hx0 hx1 hQ
  go_enter Try.func46, Try.ntmps46
  go_wp2_with fail
  have G0 : (w.alloc (.cells #[.int .i64 0, .int .i64 0, .int .i64 0, .string ⟨#[]⟩] 93)).heap[w.heap.size]? = some (.cells #[.int .i64 0, .int .i64 0, .int .i64 0, .string ⟨#[]⟩] 93) := heap_alloc_new w _
  have HB0 : Hid (Below w.heap.size w (w.alloc (.cells #[.int .i64 0, .int .i64 0, .int .i64 0, .string ⟨#[]⟩] 93))) := below1 _ _
  have hs0 : w.heap.size < (w.alloc (.cells #[.int .i64 0, .int .i64 0, .int .i64 0, .string ⟨#[]⟩] 93)).heap.size := by simp
  generalize (w.alloc (.cells #[.int .i64 0, .int .i64 0, .int .i64 0, .string ⟨#[]⟩] 93)) = w0 at G0 HB0 hs0 ⊢
  refine wp_region_held_drew (S := fun _ => True) (by kernel_rfl) trivial (fun _ => ?_)
  refine wpAnyH_take (i := 0) (oi := { dst := some 16, op := Op.move (Operand.tmp 0), type := _, pos := _, after := _, guard := none }) (v := .string s) rfl (by kernel_rfl) (by kernel_rfl) (by kernel_rfl) (fun _ _ _ h => h) (Or.inl ⟨by rfl, fun w hSw => by go_simp⟩) trivial ?_
  simp only [Act.put, List.setIfInBounds_toArray, List.set_cons_zero, List.set_cons_succ]
  refine wpAnyH_take (i := 1) (oi := { dst := some 17, op := Op.index 9 (Operand.tmp 16) (Operand.const (Value.int IntKind.i64 0)), type := _, pos := _, after := _, guard := none }) (v := .int .u8 (x0 : Int)) rfl (by kernel_rfl) (by kernel_rfl) (by kernel_rfl) (fun _ _ _ h => h) (Or.inl ⟨by rfl, fun w hSw => by go_simp⟩) trivial ?_
  simp only [Act.put, List.setIfInBounds_toArray, List.set_cons_zero, List.set_cons_succ]
  refine wpAnyH_take (i := 2) (oi := { dst := some 18, op := Op.convert 5 3 (Operand.tmp 17), type := _, pos := _, after := _, guard := none }) (v := .int .i64 (x0 : Int)) rfl (by kernel_rfl) (by kernel_rfl) (by kernel_rfl) (fun _ _ _ h => h) (Or.inl ⟨by rfl, fun w hSw => by go_simp⟩) trivial ?_
  simp only [Act.put, List.setIfInBounds_toArray, List.set_cons_zero, List.set_cons_succ]
  refine wpAnyH_take (i := 3) (oi := { dst := some 19, op := Op.binOp BinOp.mul 3 (Operand.const (Value.int IntKind.i64 256)) (Operand.tmp 18) 3, type := _, pos := _, after := _, guard := none }) (v := .int .i64 (256 * (x0 : Int))) rfl (by kernel_rfl) (by kernel_rfl) (by kernel_rfl) (fun _ _ _ h => h) (Or.inl ⟨by rfl, fun w hSw => by go_simp⟩) trivial ?_
  simp only [Act.put, List.setIfInBounds_toArray, List.set_cons_zero, List.set_cons_succ]
  refine wpAnyH_take (i := 4) (oi := { dst := some 20, op := Op.move (Operand.tmp 0), type := _, pos := _, after := _, guard := none }) (v := .string s) rfl (by kernel_rfl) (by kernel_rfl) (by kernel_rfl) (fun _ _ _ h => h) (Or.inl ⟨by rfl, fun w hSw => by go_simp⟩) trivial ?_
  simp only [Act.put, List.setIfInBounds_toArray, List.set_cons_zero, List.set_cons_succ]
  refine wpAnyH_take (i := 5) (oi := { dst := some 21, op := Op.index 9 (Operand.tmp 20) (Operand.const (Value.int IntKind.i64 1)), type := _, pos := _, after := _, guard := none }) (v := .int .u8 (x1 : Int)) rfl (by kernel_rfl) (by kernel_rfl) (by kernel_rfl) (fun _ _ _ h => h) (Or.inl ⟨by rfl, fun w hSw => by go_simp⟩) trivial ?_
  simp only [Act.put, List.setIfInBounds_toArray, List.set_cons_zero, List.set_cons_succ]
  refine wpAnyH_take (i := 6) (oi := { dst := some 22, op := Op.convert 5 3 (Operand.tmp 21), type := _, pos := _, after := _, guard := none }) (v := .int .i64 (x1 : Int)) rfl (by kernel_rfl) (by kernel_rfl) (by kernel_rfl) (fun _ _ _ h => h) (Or.inl ⟨by rfl, fun w hSw => by go_simp⟩) trivial ?_
  simp only [Act.put, List.setIfInBounds_toArray, List.set_cons_zero, List.set_cons_succ]
  refine wpAnyH_take (i := 7) (oi := { dst := some 23, op := Op.binOp BinOp.add 3 (Operand.tmp 19) (Operand.tmp 22) 3, type := _, pos := _, after := _, guard := none }) (v := .int .i64 (256 * (x0 : Int) + (x1 : Int))) rfl (by kernel_rfl) (by kernel_rfl) (by kernel_rfl) (fun _ _ _ h => h) (Or.inl ⟨by rfl, fun w hSw => by go_simp⟩) trivial ?_
  simp only [Act.put, List.setIfInBounds_toArray, List.set_cons_zero, List.set_cons_succ]
  refine wpAnyH_take (i := 8) (oi := { dst := some 24, op := Op.move (Operand.tmp 0), type := _, pos := _, after := _, guard := none }) (v := .string s) rfl (by kernel_rfl) (by kernel_rfl) (by kernel_rfl) (fun _ _ _ h => h) (Or.inl ⟨by rfl, fun w hSw => by go_simp⟩) trivial ?_
  simp only [Act.put, List.setIfInBounds_toArray, List.set_cons_zero, List.set_cons_succ]
  refine wpAnyH_take (i := 9) (oi := { dst := some 25, op := Op.index 9 (Operand.tmp 24) (Operand.const (Value.int IntKind.i64 2)), type := _, pos := _, after := _, guard := none }) (v := .int .u8 (p : Int)) rfl (by kernel_rfl) (by kernel_rfl) (by kernel_rfl) (fun _ _ _ h => h) (Or.inl ⟨by rfl, fun w hSw => by go_simp⟩) trivial ?_
  simp only [Act.put, List.setIfInBounds_toArray, List.set_cons_zero, List.set_cons_succ]
  refine wpAnyH_take (i := 10) (oi := { dst := some 26, op := Op.convert 5 3 (Operand.tmp 25), type := _, pos := _, after := _, guard := none }) (v := .int .i64 (p : Int)) rfl (by kernel_rfl) (by kernel_rfl) (by kernel_rfl) (fun _ _ _ h => h) (Or.inl ⟨by rfl, fun w hSw => by go_simp⟩) trivial ?_
  simp only [Act.put, List.setIfInBounds_toArray, List.set_cons_zero, List.set_cons_succ]
  refine wpAnyH_take (i := 11) (oi := { dst := some 27, op := Op.move (Operand.tmp 0), type := _, pos := _, after := _, guard := none }) (v := .string s) rfl (by kernel_rfl) (by kernel_rfl) (by kernel_rfl) (fun _ _ _ h => h) (Or.inl ⟨by rfl, fun w hSw => by go_simp⟩) trivial ?_
  simp only [Act.put, List.setIfInBounds_toArray, List.set_cons_zero, List.set_cons_succ]
  refine wpAnyH_take (i := 12) (oi := { dst := some 28, op := Op.index 9 (Operand.tmp 27) (Operand.const (Value.int IntKind.i64 3)), type := _, pos := _, after := _, guard := none }) (v := .int .u8 (n : Int)) rfl (by kernel_rfl) (by kernel_rfl) (by kernel_rfl) (fun _ _ _ h => h) (Or.inl ⟨by rfl, fun w hSw => by go_simp⟩) trivial ?_
  simp only [Act.put, List.setIfInBounds_toArray, List.set_cons_zero, List.set_cons_succ]
  refine wpAnyH_take (i := 13) (oi := { dst := some 29, op := Op.convert 5 3 (Operand.tmp 28), type := _, pos := _, after := _, guard := none }) (v := .int .i64 (n : Int)) rfl (by kernel_rfl) (by kernel_rfl) (by kernel_rfl) (fun _ _ _ h => h) (Or.inl ⟨by rfl, fun w hSw => by go_simp⟩) trivial ?_
  simp only [Act.put, List.setIfInBounds_toArray, List.set_cons_zero, List.set_cons_succ]
  refine wpAnyH_take (i := 14) (oi := { dst := some 30, op := Op.move (Operand.tmp 0), type := _, pos := _, after := _, guard := none }) (v := .string s) rfl (by kernel_rfl) (by kernel_rfl) (by kernel_rfl) (fun _ _ _ h => h) (Or.inl ⟨by rfl, fun w hSw => by go_simp⟩) trivial ?_
  simp only [Act.put, List.setIfInBounds_toArray, List.set_cons_zero, List.set_cons_succ]
  refine wpAnyH_take (i := 15) (oi := { dst := some 31, op := Op.move (Operand.tmp 0), type := _, pos := _, after := _, guard := none }) (v := .string s) rfl (by kernel_rfl) (by kernel_rfl) (by kernel_rfl) (fun _ _ _ h => h) (Or.inl ⟨by rfl, fun w hSw => by go_simp⟩) trivial ?_
  simp only [Act.put, List.setIfInBounds_toArray, List.set_cons_zero, List.set_cons_succ]
  refine wpAnyH_take (i := 16) (oi := { dst := some 32, op := Op.index 9 (Operand.tmp 31) (Operand.const (Value.int IntKind.i64 4)), type := _, pos := _, after := _, guard := none }) (v := .int .u8 (t : Int)) rfl (by kernel_rfl) (by kernel_rfl) (by kernel_rfl) (fun _ _ _ h => h) (Or.inl ⟨by rfl, fun w hSw => by go_simp⟩) trivial ?_
  simp only [Act.put, List.setIfInBounds_toArray, List.set_cons_zero, List.set_cons_succ]
  refine wpAnyH_take (i := 17) (oi := { dst := some 33, op := Op.convert 5 3 (Operand.tmp 32), type := _, pos := _, after := _, guard := none }) (v := .int .i64 (t : Int)) rfl (by kernel_rfl) (by kernel_rfl) (by kernel_rfl) (fun _ _ _ h => h) (Or.inl ⟨by rfl, fun w hSw => by go_simp⟩) trivial ?_
  simp only [Act.put, List.setIfInBounds_toArray, List.set_cons_zero, List.set_cons_succ]
  refine wpAnyH_take (i := 18) (oi := { dst := some 34, op := Op.binOp BinOp.add 3 (Operand.const (Value.int IntKind.i64 5)) (Operand.tmp 33) 3, type := _, pos := _, after := _, guard := none }) (v := .int .i64 (5 + (t : Int))) rfl (by kernel_rfl) (by kernel_rfl) (by kernel_rfl) (fun _ _ _ h => h) (Or.inl ⟨by rfl, fun w hSw => by go_simp⟩) trivial ?_
  simp only [Act.put, List.setIfInBounds_toArray, List.set_cons_zero, List.set_cons_succ]
  refine wpAnyH_take (i := 19) (oi := { dst := some 35, op := Op.slice 9 (Operand.tmp 30) (some (Operand.const (Value.int IntKind.i64 5))) (some (Operand.tmp 34)) none, type := _, pos := _, after := _, guard := none }) (v := .string (s.extract 5 (5 + t))) rfl (by kernel_rfl) (by kernel_rfl) (by kernel_rfl) (fun _ _ _ h => h) (Or.inl ⟨by rfl, fun w hSw => by go_simp⟩) trivial ?_
  simp only [Act.put, List.setIfInBounds_toArray, List.set_cons_zero, List.set_cons_succ]
  refine wpAnyH_take (i := 20) (oi := { dst := some 36, op := Op.build 93 #[(0, Operand.tmp 23), (1, Operand.tmp 26), (2, Operand.tmp 29), (3, Operand.tmp 35)], type := _, pos := _, after := _, guard := none }) (v := .agg #[.int .i64 (256 * (x0 : Int) + (x1 : Int)), .int .i64 (p : Int), .int .i64 (n : Int), .string (s.extract 5 (5 + t))]) rfl (by kernel_rfl) (by kernel_rfl) (by kernel_rfl) (fun _ _ _ h => h) (Or.inl ⟨by rfl, fun w hSw => by go_simp⟩) trivial ?_
  simp only [Act.put, List.setIfInBounds_toArray, List.set_cons_zero, List.set_cons_succ]
  refine wpAnyH_ready (rs := [21]) (by kernel_rfl) (by simp) ?_
  refine AllReadyH.cons (o := { dst := some 4, op := Op.alloc 93, type := _, pos := _, after := _, guard := none }) rfl (fun K hK => ?_) AllReadyH.nil
  go_wp2_with fail
  refine hK.out _ _ trivial (fun _ => ?_)
  clear hK K
  try simp only [Act.put, List.setIfInBounds_toArray, List.set_cons_zero, List.set_cons_succ]
  refine wpAnyH_ready (rs := [22]) (by kernel_rfl) (by simp) ?_
  refine AllReadyH.cons (o := { dst := none, op := Op.store 93 (Operand.tmp 4) (Operand.tmp 36), type := _, pos := _, after := _, guard := none }) rfl (fun K hK => ?_) AllReadyH.nil
  go_wp2_with fail
  refine hK.out _ _ trivial (fun _ => ?_)
  clear hK K
  try simp only [Act.put, List.setIfInBounds_toArray, List.set_cons_zero, List.set_cons_succ]
  refine wpAnyH_done (by kernel_rfl) ?_ _
  go_wp2_with fail
  rw [← HQ.out, HDD.out]
  refine (hblk _).mono ?_
  rintro e w2 ⟨rfl, hb2⟩
  have hne : w0.heap.size ≠ w.heap.size := by omega
  have G0' : w2.heap[w.heap.size]? = some (.cells #[.int .i64 0, .int .i64 0, .int .i64 0, .string ⟨#[]⟩] 93) := by
    rw [hb2.block w.heap.size (by simp; omega)]
    show (w0.alloc _).heap[w.heap.size]? = _
    rw [Below.heap_alloc _ _ _ (by omega)]
    exact G0
  have G1 : w2.heap[w0.heap.size]? = some (.cells #[.int .i64 q, .int .i64 (p : Int), .int .i64 (n : Int), .string D] 93) := by
    rw [hb2.block w0.heap.size (by simp)]
    exact heap_alloc_new w0 _
  have HB2 : Hid (Below w.heap.size w w2) := Below.then (Below.drew (Below.more HB0.out _)) hb2
  have d0 : w2.cell? ⟨w.heap.size, 0, none⟩ = some (.int .i64 0) := by simp [World.cell?, G0']
  have d1 : w2.cell? ⟨w.heap.size, 1, none⟩ = some (.int .i64 0) := by simp [World.cell?, G0']
  have d2 : w2.cell? ⟨w.heap.size, 2, none⟩ = some (.int .i64 0) := by simp [World.cell?, G0']
  have d3 : w2.cell? ⟨w.heap.size, 3, none⟩ = some (.string ⟨#[]⟩) := by simp [World.cell?, G0']
  have f0 : w2.frozen? ⟨w.heap.size, 0, none⟩ = false := by simp [World.frozen?, G0']
  have f1 : w2.frozen? ⟨w.heap.size, 1, none⟩ = false := by simp [World.frozen?, G0']
  have f2 : w2.frozen? ⟨w.heap.size, 2, none⟩ = false := by simp [World.frozen?, G0']
  have f3 : w2.frozen? ⟨w.heap.size, 3, none⟩ = false := by simp [World.frozen?, G0']
  have p0 : w2.cell? ⟨w0.heap.size, 0, none⟩ = some (.int .i64 q) := by simp [World.cell?, G1]
  have p1 : w2.cell? ⟨w0.heap.size, 1, none⟩ = some (.int .i64 (p : Int)) := by simp [World.cell?, G1]
  have p2 : w2.cell? ⟨w0.heap.size, 2, none⟩ = some (.int .i64 (n : Int)) := by simp [World.cell?, G1]
  have p3 : w2.cell? ⟨w0.heap.size, 3, none⟩ = some (.string D) := by simp [World.cell?, G1]
  clear hb2 G0 G0' G1 hblk y0 y1 y2 y3 v0 v1 v2 v3 w4 w5 w6 w7 z0 z1 z2 z3 z4
  go_wp2_with fail
  refine bodyPost_ret (v := .tuple #[.agg #[.int .i64 q, .int .i64 (p : Int), .int .i64 (n : Int), .string D], .int .i64 0]) (by simp [results, Try.results46, go_sem, *]) rfl ⟨rfl, ?_⟩
  exact (((HB2.out.setCell (Nat.le_refl _) _).setCell (Nat.le_refl _) _).setCell (Nat.le_refl _) _).setCell (Nat.le_refl _) _
theorem rUnblock_yes (s : ByteArray) (w : World) (h : Ub s) : Calls Try.prog 46 #[.string s] w fun e w' => e = .returned (.tuple #[.agg #[.int .i64 (rq s), .int .i64 (bt s 2 : Nat), .int .i64 (bt s 3 : Nat), .string (rdd s)], .int .i64 0]) ∧ Below w.heap.size w w' :=
  rUnblock_same s w h.size h.len (ub_rt h) h.same
theorem rUnblock_no (s : ByteArray) (w : World) (h : ¬ Ub s) : Calls Try.prog 46 #[.string s] w fun e w' => e = .returned (.tuple #[.agg #[.int .i64 0, .int .i64 0, .int .i64 0, .string ⟨#[]⟩], .int .i64 7]) ∧ Below w.heap.size w w' := by
  by_cases h0 : s.size = 32
  · by_cases h4 : bt s 4 ≤ 23
    · cases hr : rt (rq s) (bt s 2) (bt s 3) (rdd s).size with
      | false => exact rUnblock_wrong s w h0 h4 hr
      | true => exact rUnblock_other s w h0 h4 hr (fun e => h ⟨h0, h4, by rw [rdd_size s h0 h4] at hr; exact hr, e⟩)
    · exact rUnblock_big s w h0 (by omega)
  · exact rUnblock_size s w h0
end Go.Proofs.Ytohgflimdoebiaa
