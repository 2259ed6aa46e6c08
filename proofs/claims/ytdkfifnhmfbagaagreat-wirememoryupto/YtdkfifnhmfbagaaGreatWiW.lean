/- A writer that is written to, and boxes beside it; contracts: number, octet, key, box, seat, item. -/
import Derived.Test.YtdkfifnhmfbagaaGreatWiD
namespace Go.Proofs.YtdkfifnhmfbagaaGreat.Wi
open Go.RowKit Go.Maps
open Bt (Wr Fw Kept bo bo_length)
open Rt (gd)
set_option linter.unusedVariables false
set_option linter.unusedSimpArgs false

/- What a writing leaves: all but the writer's blocks; its new blocks are the old ones or new memory. -/
structure Wst (g : Nat) (W : World) (x : Value) (W' : World) (x' : Value) : Prop where
  kept : Kept (Fw g x) W W'
  own : ∀ k, Fw g x' k → Fw g x k ∨ W.heap.size ≤ k
theorem Wst.refl (g : Nat) (W : World) (x : Value) : Wst g W x W x := ⟨Kept.refl _ _, fun k h => .inl h⟩
theorem Wst.trans {g : Nat} {W W1 W2 : World} {x x1 x2 : Value} (h : Wst g W x W1 x1) (k : Wst g W1 x1 W2 x2) : Wst g W x W2 x2 :=
  ⟨h.kept.trans k.kept fun i hi hf => (h.own i hf).resolve_right (by omega), fun i hi => by
    rcases k.own i hi with h1 | h1
    · exact h.own i h1
    · exact .inr (Nat.le_trans h.kept.size h1)⟩
theorem Wst.alloc {g : Nat} {W W1 : World} {x x1 : Value} (h : Wst g W x W1 x1) (o : Obj) : Wst g W x (W1.alloc o) x1 := ⟨h.kept.alloc o, h.own⟩
theorem Wst.below {g N : Nat} {W W1 : World} {x x1 : Value} (h : Wst g W x W1 x1) (hN : N ≤ W.heap.size) (hF : ∀ k, Fw g x k → N ≤ k) : Below N W W1 := h.kept.below hN hF
theorem Wst.row {g k : Nat} {W W1 : World} {x x1 : Value} {o : Obj} (h : Wst g W x W1 x1) (hk : W.heap[k]? = some o) (hn : ¬ Fw g x k) : W1.heap[k]? = some o := (h.kept.block k (row_lt hk) hn).trans hk
theorem Wst.nf {g k : Nat} {W W1 : World} {x x1 : Value} (h : Wst g W x W1 x1) (hk : k < W.heap.size) (hn : ¬ Fw g x k) : ¬ Fw g x1 k := fun hf => by
  rcases h.own k hf with h1 | h1
  · exact hn h1
  · omega
/- What a writing answers. -/
def WP (n0 g : Nat) (W : World) (x : Value) (l : List Bool) (W' : World) : Prop := ∃ x', Wr n0 W' g l x' ∧ Wst g W x W' x'
/- The writer, and two boxes. -/
structure WB (n0 g : Nat) (W0 W : World) (x0 x : Value) (l : List Bool) (C D : Nat) (ac ad : Obj) : Prop where
  wr : Wr n0 W g l x
  sz : n0 ≤ W.heap.size
  st : Wst g W0 x0 W x
  hc : W.heap[C]? = some ac
  hd : W.heap[D]? = some ad
  nc : ¬ Fw g x C
  nd : ¬ Fw g x D
section
variable {n0 g : Nat} {W0 W W' : World} {x0 x : Value} {l l' : List Bool} {C D : Nat} {ac ad : Obj}
theorem WB.new2 (h : Wr n0 W g l x) (hn : n0 ≤ W.heap.size) (a b : Obj) : WB n0 g W ((W.alloc a).alloc b) x x l W.heap.size (W.heap.size + 1) a b where
  wr := (h.alloc a).alloc b
  sz := by simp; omega
  st := ((Wst.refl g W x).alloc a).alloc b
  hc := row_later (heap_alloc_last W a) (below_alloc _ _)
  hd := by have := heap_alloc_last (W.alloc a) b; rw [World.size_alloc] at this; exact this
  nc := fun hf => by have := h.inHeap _ hf; omega
  nd := fun hf => by have := h.inHeap _ hf; omega
theorem WB.new1 (h : Wr n0 W g l x) (hn : n0 ≤ W.heap.size) (a : Obj) : WB n0 g W (W.alloc a) x x l W.heap.size W.heap.size a a where
  wr := h.alloc a
  sz := by simp; omega
  st := (Wst.refl g W x).alloc a
  hc := heap_alloc_last W a
  hd := heap_alloc_last W a
  nc := fun hf => by have := h.inHeap _ hf; omega
  nd := fun hf => by have := h.inHeap _ hf; omega
theorem WB.next (h : WB n0 g W0 W x0 x l C D ac ad) (hp : WP n0 g W x l' W') : ∃ x', WB n0 g W0 W' x0 x' l' C D ac ad := by
  obtain ⟨x', hw, hs⟩ := hp
  exact ⟨x', hw, Nat.le_trans h.sz hs.kept.size, h.st.trans hs, hs.row h.hc h.nc, hs.row h.hd h.nd, hs.nf (row_lt h.hc) h.nc, hs.nf (row_lt h.hd) h.nd⟩
theorem WB.alloc (h : WB n0 g W0 W x0 x l C D ac ad) (o : Obj) : WB n0 g W0 (W.alloc o) x0 x l C D ac ad :=
  ⟨h.wr.alloc o, by have := h.sz; simp; omega, h.st.alloc o, row_later h.hc (below_alloc _ _), row_later h.hd (below_alloc _ _), h.nc, h.nd⟩
theorem WB.later (h : WB n0 g W0 W x0 x l C D ac ad) (hb : Below W.heap.size W W') : WB n0 g W0 W' x0 x l C D ac ad :=
  ⟨h.wr.kept (Kept.ofBelow (F := fun _ => False) hb) (fun _ _ h => h), Nat.le_trans h.sz hb.size, h.st.trans ⟨Kept.ofBelow hb, fun k hk => .inl hk⟩, row_later h.hc hb, row_later h.hd hb, h.nc, h.nd⟩
theorem WB.out (h : WB n0 g W0 W x0 x l C D ac ad) : WP n0 g W0 x0 l W := ⟨x, h.wr, h.st⟩
end
theorem put_wp (n0 g v n : Nat) (l : List Bool) (x : Value) (w : World) (h1 : 1 ≤ n) (h2 : n ≤ 64) (hv : v < 2 ^ n) (hB : n0 ≤ w.heap.size) (hw : Wr n0 w g l x) (hl : l.length + n ≤ 1099511627776) :
    Calls Tryz.prog 63 #[.pointer (some ⟨g, 0, none⟩), .int .u64 (v : Int), .int .i64 (n : Int)] w fun e w' => e = .returned (.int .i64 0) ∧ WP n0 g w x (l ++ bo v n) w' := by
  refine (Bt.put_yes n0 g v n l x w h1 h2 hv hB hw hl).mono ?_
  rintro e w' ⟨rfl, x', hw', hk, ho⟩
  refine ⟨rfl, x', hw', hk, fun k hf => ?_⟩
  rcases hf with rfl | hf
  · exact .inl (.inl rfl)
  · rcases ho with ho | ho
    · exact .inl (.inr (by rw [← ho]; exact hf))
    · exact .inr (ho k hf)
theorem c1' {w : World} {B : Nat} {a : Value} {t : TypeId} (h : w.heap[B]? = some (.cells #[a] t (0, 0))) : w.cell? ⟨B, 0, none⟩ = some a := cell_of_row w B 0 _ _ _ h
theorem c2' {w : World} {B : Nat} {a b : Value} {t : TypeId} (h : w.heap[B]? = some (.cells #[a, b] t (0, 0))) : w.cell? ⟨B, 0, none⟩ = some a ∧ w.cell? ⟨B, 1, none⟩ = some b := ⟨cell_of_row w B 0 _ _ _ h, cell_of_row w B 1 _ _ _ h⟩
set_option maxRecDepth 100000 in
theorem wNumber_any (n0 g v n : Nat) (l : List Bool) (x : Value) (w : World) (h1 : 1 ≤ n) (h2 : n ≤ 60) (hv : v < 2 ^ n) (hB : n0 ≤ w.heap.size) (hw : Wr n0 w g l x) (hl : l.length + n ≤ 1099511627776) :
    Calls Tryz.prog 29 #[.agg #[.pointer (some ⟨g, 0, none⟩)], .int .i64 (v : Int), .int .i64 (n : Int)] w fun e w' => e = .returned (.tuple #[]) ∧ WP n0 g w x (l ++ bo v n) w' := by
  have hb := WB.new1 hw hB (.cells #[.pointer (some ⟨g, 0, none⟩)] 64)
  have hv60 : v < 1152921504606846976 := Nat.lt_of_lt_of_le hv (by have := Nat.pow_le_pow_right (n := 2) (by decide) h2; simpa using this)
  have hwv : IntKind.u64.wrap (v : Int) = (v : Int) := by rw [IntKind.wrap_u64]; omega
  have hp := put_wp n0 g v n l x (w.alloc (.cells #[.pointer (some ⟨g, 0, none⟩)] 64)) h1 (by omega) hv hb.sz hb.wr hl
  have HB : Hid (WB n0 g w (w.alloc (.cells #[.pointer (some ⟨g, 0, none⟩)] 64)) x x l w.heap.size w.heap.size (.cells #[.pointer (some ⟨g, 0, none⟩)] 64) (.cells #[.pointer (some ⟨g, 0, none⟩)] 64)) := hb
  clear hb hv hw hl hB h1 h2
  go_enter Tryz.func29, Tryz.ntmps29
  go_wp2_with fail
  refine hp.mono ?_
  rintro e w2 ⟨rfl, hp2⟩
  have HP : Hid (WP n0 g w x (l ++ bo v n) w2) := (HB.out.next hp2).elim fun _ h => h.out
  clear hp hp2
  go_wp2_with fail
  go_end0
  exact ⟨rfl, HP.out⟩
set_option maxRecDepth 100000 in
theorem wOctet_any (n0 g v : Nat) (l : List Bool) (x : Value) (w : World) (hv : v < 256) (hB : n0 ≤ w.heap.size) (hw : Wr n0 w g l x) (hl : l.length + 8 ≤ 1099511627776) :
    Calls Tryz.prog 71 #[.agg #[.pointer (some ⟨g, 0, none⟩)], .int .u8 (v : Int)] w fun e w' => e = .returned (.tuple #[]) ∧ WP n0 g w x (l ++ bo v 8) w' := by
  have hb := WB.new1 hw hB (.cells #[.pointer (some ⟨g, 0, none⟩)] 64)
  have hp := wNumber_any n0 g v 8 l x (w.alloc (.cells #[.pointer (some ⟨g, 0, none⟩)] 64)) (by omega) (by omega) hv hb.sz hb.wr hl
  have HB : Hid (WB n0 g w (w.alloc (.cells #[.pointer (some ⟨g, 0, none⟩)] 64)) x x l w.heap.size w.heap.size (.cells #[.pointer (some ⟨g, 0, none⟩)] 64) (.cells #[.pointer (some ⟨g, 0, none⟩)] 64)) := hb
  clear hb hw hl hB
  go_enter Tryz.func71, Tryz.ntmps71
  go_wp2_with fail
  refine hp.mono ?_
  rintro e w2 ⟨rfl, hp2⟩
  have HP : Hid (WP n0 g w x (l ++ bo v 8) w2) := (HB.out.next hp2).elim fun _ h => h.out
  clear hp hp2
  go_wp2_with fail
  go_end0
  exact ⟨rfl, HP.out⟩
set_option maxRecDepth 100000 in
theorem wKey_any (n0 g : Nat) (k : Int × Int) (l : List Bool) (x : Value) (w : World) (hk : gK k = true) (hB : n0 ≤ w.heap.size) (hw : Wr n0 w g l x) (hl : l.length + 24 ≤ 1099511627776) :
    Calls Tryz.prog 69 #[.agg #[.pointer (some ⟨g, 0, none⟩)], .agg #[.int .i64 k.1, .int .i64 k.2] ] w fun e w' => e = .returned (.tuple #[]) ∧ WP n0 g w x (l ++ eK k) w' := by
  have hk' := gK_iff.1 hk
  obtain ⟨b, s⟩ := k
  dsimp only at *
  have HE : Hid (eK (b, s) = bo (b.toNat * 256 + s.toNat) 24) := (key_bits _ _ (by omega)).symm
  rw [HE.out]
  have e0 : b * 256 + s = ((b.toNat * 256 + s.toNat : Nat) : Int) := by omega
  have hpk := Rt.pack_yes b s (by unfold Rt.Gd; omega)
  rw [e0] at hpk
  have hv : b.toNat * 256 + s.toNat < 2 ^ 24 := by omega
  generalize b.toNat * 256 + s.toNat = v at *
  have hwv : IntKind.i64.wrap (v : Int) = (v : Int) := Bt.wrap_fit _ (by omega) (by omega)
  have hb := WB.new2 hw hB (.cells #[.pointer (some ⟨g, 0, none⟩)] 64) (.cells #[.int .i64 b, .int .i64 s] 29)
  clear e0 HE hk hk' hw hB
  go_enter Tryz.func69, Tryz.ntmps69
  go_upto_region 1 with (fail)
  generalize (w.alloc (.cells #[.pointer (some ⟨g, 0, none⟩)] 64)).alloc (.cells #[.int .i64 b, .int .i64 s] 29) = w1 at *
  obtain ⟨D, hD⟩ : ∃ D, w.heap.size + 1 = D := ⟨_, rfl⟩
  rw [hD] at hb ⊢
  obtain ⟨C, hC⟩ : ∃ C, w.heap.size = C := ⟨_, rfl⟩
  rw [hC] at hb ⊢
  clear hD hC
  obtain ⟨d0, d1⟩ := c2' hb.hd
  have HB : Hid (WB n0 g w w1 x x l C D (.cells #[.pointer (some ⟨g, 0, none⟩)] 64) (.cells #[.int .i64 b, .int .i64 s] 29)) := hb
  clear hb
  have hpk := hpk w1
  go_wp2_with fail
  refine hpk.mono ?_
  rintro e w2 ⟨rfl, hw2⟩
  have hb2 := HB.out.later (W' := w2) (by rw [hw2]; exact Below.plus (below_alloc _ _) _)
  have c0 := c1' hb2.hc
  have hp := wNumber_any n0 g v 24 l x w2 (by omega) (by omega) hv hb2.sz hb2.wr hl
  have HB2 : Hid (WB n0 g w w2 x x l C D (.cells #[.pointer (some ⟨g, 0, none⟩)] 64) (.cells #[.int .i64 b, .int .i64 s] 29)) := hb2
  clear hb2 hw2 hpk d0 d1 HB
  go_wp2_with fail
  refine hp.mono ?_
  rintro e w3 ⟨rfl, hp2⟩
  have HP : Hid (WP n0 g w x (l ++ bo v 24) w3) := (HB2.out.next hp2).elim fun _ h => h.out
  clear hp hp2
  go_wp2_with fail
  go_end0
  exact ⟨rfl, HP.out⟩
set_option maxRecDepth 100000 in
theorem wBox_any (n0 g : Nat) (k : (Int × Int) × (Int × Int)) (l : List Bool) (x : Value) (w : World) (hk : gB k = true) (hB : n0 ≤ w.heap.size) (hw : Wr n0 w g l x) (hl : l.length + 48 ≤ 1099511627776) :
    Calls Tryz.prog 68 #[.agg #[.pointer (some ⟨g, 0, none⟩)], .agg #[.int .i64 k.1.1, .int .i64 k.1.2, .int .i64 k.2.1, .int .i64 k.2.2] ] w fun e w' => e = .returned (.tuple #[]) ∧ WP n0 g w x (l ++ eB k) w' := by
  have hk' := gB_iff.1 hk
  obtain ⟨⟨a, b⟩, c, d⟩ := k
  dsimp only at *
  have HE : Hid (l ++ eB ((a, b), c, d) = l ++ eK (a, b) ++ eK (c, d)) := by unfold Hid eB; rw [List.append_assoc]
  have HK : Hid (gK (a, b) = true ∧ gK (c, d) = true) := hk'
  rw [HE.out]
  have hb := WB.new2 hw hB (.cells #[.pointer (some ⟨g, 0, none⟩)] 64) (.cells #[.int .i64 a, .int .i64 b, .int .i64 c, .int .i64 d] 31)
  clear HE hk hk' hw hB
  have hl2 : (l ++ eK (a, b)).length + 24 ≤ 1099511627776 := by rw [List.length_append]; simp [eK]; omega
  go_enter Tryz.func68, Tryz.ntmps68
  go_upto_region 1 with (fail)
  generalize (w.alloc (.cells #[.pointer (some ⟨g, 0, none⟩)] 64)).alloc (.cells #[.int .i64 a, .int .i64 b, .int .i64 c, .int .i64 d] 31) = w1 at *
  obtain ⟨D, hD⟩ : ∃ D, w.heap.size + 1 = D := ⟨_, rfl⟩
  rw [hD] at hb ⊢
  obtain ⟨C, hC⟩ : ∃ C, w.heap.size = C := ⟨_, rfl⟩
  rw [hC] at hb ⊢
  clear hD hC
  obtain ⟨d0, d1, d2, d3⟩ := c4 hb.hd
  have c0 := c1' hb.hc
  have hp := wKey_any n0 g (a, b) l x w1 HK.out.1 hb.sz hb.wr (by omega)
  have HB : Hid (WB n0 g w w1 x x l C D (.cells #[.pointer (some ⟨g, 0, none⟩)] 64) (.cells #[.int .i64 a, .int .i64 b, .int .i64 c, .int .i64 d] 31)) := hb
  clear hb
  dsimp only at hp
  go_wp2_with fail
  refine hp.mono ?_
  rintro e w2 ⟨rfl, hp2⟩
  obtain ⟨x2, hb2⟩ := HB.out.next hp2
  clear hp hp2 HB c0 d0 d1 d2 d3
  obtain ⟨d0, d1, d2, d3⟩ := c4 hb2.hd
  have c0 := c1' hb2.hc
  have hp := wKey_any n0 g (c, d) (l ++ eK (a, b)) x2 w2 HK.out.2 hb2.sz hb2.wr hl2
  have HB : Hid (WB n0 g w w2 x x2 (l ++ eK (a, b)) C D (.cells #[.pointer (some ⟨g, 0, none⟩)] 64) (.cells #[.int .i64 a, .int .i64 b, .int .i64 c, .int .i64 d] 31)) := hb2
  clear hb2
  dsimp only at hp
  go_wp2_with fail
  refine hp.mono ?_
  rintro e w3 ⟨rfl, hp2⟩
  have HP : Hid (WP n0 g w x (l ++ eK (a, b) ++ eK (c, d)) w3) := (HB.out.next hp2).elim fun _ h => h.out
  clear hp hp2
  go_wp2_with fail
  go_end0
  exact ⟨rfl, HP.out⟩
end Go.Proofs.YtdkfifnhmfbagaaGreat.Wi
