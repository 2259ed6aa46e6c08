/- The walk of KeyFewest. -/
import Derived.Test.YtdbnaoddnelebabKfMath
import Derived.Test.YtdbnaoddnelebabKlLeast
import Derived.Test.YtdbnaoddnelebabKlSame
import Derived.Test.YtdbnaoddnelebabKeyD
import Derived.Test.YtdbnaoddnelebabKeyQ
import Derived.Deep.AppendLies
import Derived.Deep.RegionHeld3
namespace Go.Proofs.Ytdbnaoddnelebab
open Go.Maps Go.RowKit Go.Sort Go.Lib
set_option linter.unusedVariables false

theorem good_below (b s : Int) (w : World) : Calls Try.prog 11 #[.agg #[.int .i64 b, .int .i64 s]] w fun r w' => r = .returned (.bool (gd b s)) ∧ Below w.heap.size w w' :=
  (good_any b s w).mono fun e w' ⟨he, hw⟩ => ⟨he, hw ▸ below1 _ _⟩

theorem wrap_j (j : Nat) (h : j ≤ 1000000) : IntKind.i64.wrap ((j : Int) + 1 - 1) = (j : Int) := by
  simp only [IntKind.wrap, IntKind.bits, IntKind.signed]; simp; omega
theorem getD_mem {l : List (Int × Int)} {j : Nat} (h : j < l.length) : l.getD j (0, 0) ∈ l := by rw [List.getD, List.getElem?_eq_getElem h]; exact List.getElem_mem h
theorem drop_cons {l : List (Int × Int)} {j : Nat} (h : j < l.length) : l.drop j = l.getD j (0, 0) :: l.drop (j + 1) := by
  rw [List.drop_eq_getElem_cons h, List.getD, List.getElem?_eq_getElem h]; rfl
theorem kq4 {w0 w : World} {a b c d : Addr} {x y z u : Value} (K : Kq w0 [(a, x), (b, y), (c, z), (d, u)] w) : Kq w0 [(a, x), (b, y), (c, z), (d, u)] w ∧ w.cell? a = some x ∧ w.cell? b = some y ∧ w.cell? c = some z ∧ w.cell? d = some u := ⟨K, K.get 0 rfl, K.get 1 rfl, K.get 2 rfl, K.get 3 rfl⟩
theorem far2 {W W' : World} {row : Option Nat} {b o1 o2 : Nat} {x y : Value} (hg : W.grownBy W' row) (hne : some b ≠ row) (h : W.cell? ⟨b, o1, none⟩ = some x ∧ W.cell? ⟨b, o2, none⟩ = some y) : W'.cell? ⟨b, o1, none⟩ = some x ∧ W'.cell? ⟨b, o2, none⟩ = some y :=
  ⟨(World.cell?_of_block (w := W) (hg.block b (World.block_lt_of_cell? _ _ h.1) hne)).trans h.1, (World.cell?_of_block (w := W) (hg.block b (World.block_lt_of_cell? _ _ h.1) hne)).trans h.2⟩
theorem kq3 {w0 w : World} {a b c : Addr} {x y z : Value} (K : Kq w0 [(a, x), (b, y), (c, z)] w) : Kq w0 [(a, x), (b, y), (c, z)] w ∧ w.cell? a = some x ∧ w.cell? b = some y ∧ w.cell? c = some z := ⟨K, K.get 0 rfl, K.get 1 rfl, K.get 2 rfl⟩
/- What the walk knows of the least keys l of ks. -/
structure Lk (ks l : List (Int × Int)) : Prop where
  le : l.length ≤ 65535
  good : ∀ i, i < l.length → gd (l.getD i (0, 0)).1 (l.getD i (0, 0)).2 = true
  up : ∀ i, i + 1 < l.length → (l.getD i (0, 0)).1 < (l.getD (i + 1) (0, 0)).1
  one : ∀ k, k ∈ ks → cnt l k = if gd k.1 k.2 then 1 else 0
  again : ∀ ms, (∀ k, k ∈ ms ↔ k ∈ ks) → lst ms = l
  self : lst l = l
theorem lk_lst (ks : List (Int × Int)) : Lk ks (lst ks) where
  le := lpart_le _ _
  good := fun i hi => gd_yes (lst_good hi)
  up := fun i hi => lst_up hi
  one := fun k hk => cnt_lst hk
  again := fun ms h => lst_congr h
  self := lst_lst ks
/- What Least answers, of a list that has the least keys l. -/
def Ans (w' : World) (l : List (Int × Int)) (e : Ending) (w'' : World) : Prop :=
  ∃ g cap, e = .returned (.slice (some ⟨g, 0, none⟩) l.length cap) ∧ w'.heap.size ≤ g ∧ w''.ownsRow (w'.heap.size + 1) 23 2 (.slice (some ⟨g, 0, none⟩) l.length cap) l.length (cellsL l) ∧ Below w'.heap.size w' w''
theorem least_ans (a : Option Addr) (c : Nat) (ks l : List (Int × Int)) (w : World) (hl : ks.length ≤ 8796093022208) (h : RdAt w a ks) (he : lst ks = l) : Calls Try.prog 14 #[.slice a ks.length c] w (Ans w l) := by
  subst he; exact least_any a c ks w hl h

set_option maxHeartbeats 8000000 in
set_option maxRecDepth 100000 in
theorem few_some (b o c n : Nat) (ks l : List (Int × Int)) (hn : ks.length = n) (hk : Lk ks l) (w : World) (hl : n ≤ 1048576)
    (h1 : ∀ i, i < n → w.cell? ⟨b, o + i * 2, none⟩ = some (.int .i64 (ks.getD i (0, 0)).1) ∧ w.cell? ⟨b, o + i * 2 + 1, none⟩ = some (.int .i64 (ks.getD i (0, 0)).2)) :
    Calls Try.prog 5 #[.slice (some ⟨b, o, none⟩) n c] w fun e w' => e = .returned (.bool true) ∧ Below w.heap.size w w' := by
  obtain ⟨i0, hi, hz0, hz1, hz2⟩ := info_parts infoKey
  have HN : Hid (ks.length = n) := hn
  have HK : Hid (Lk ks l) := hk
  have hrd : RdAt w (some ⟨b, o, none⟩) ks := fun i hi => ⟨b, o, rfl, h1 i (by rw [← hn]; exact hi)⟩
  have HLE : Hid (∀ w', Below w.heap.size w w' → Calls Try.prog 14 #[.slice (some ⟨b, o, none⟩) n c] w' (Ans w' l)) := fun w' hb => by
    rw [← hn]; exact least_ans _ c ks l w' (by omega) (hrd.later hb) (hk.again ks (fun _ => Iff.rfl))
  have hm5 := hk.le
  have HRD : Hid (RdAt w (some ⟨b, o, none⟩) ks) := hrd
  clear hn hk hrd h1
  obtain ⟨m, hm⟩ : ∃ m, l.length = m := ⟨_, rfl⟩
  rw [hm] at hm5
  have HM : Hid (l.length = m) := hm
  clear hm
  go_enter Try.func5, Try.ntmps5
  go_wp2_with fail
  refine (lives_any _).mono ?_
  rintro e w1 ⟨rfl, hb1⟩
  go_wp2_with fail
  refine (HLE.out _ hb1).mono ?_
  rintro e w2 ⟨g, cap, rfl, hg, hrow, hb2⟩
  rw [HM.out]
  have HB2 : Hid (Below w.heap.size w w2) := Below.then hb1 hb2
  have HR2 : Hid (RdAt w2 (some ⟨g, 0, none⟩) l) := rd_of_row hrow
  clear hb1 hb2 hg hrow
  go_wp2_with fail
  go_loopw [17] (fun i wr => ∃ k : Nat, k ≤ m ∧ i = .int .i64 (k : Int) ∧ Below w2.heap.size w2 wr) (fun i _ => m - (intOf i).toNat)
  case atStart => exact ⟨0, by omega, rfl, Below.refl _ _⟩
  case round =>
    obtain ⟨k, hk, rfl, hb⟩ := hrel
    by_cases hkm : k < m
    · obtain ⟨g', o', e1, c0, c1⟩ := (HR2.out.later hb) k (by rw [HM.out]; exact hkm)
      obtain ⟨eg, eo⟩ : g = g' ∧ 0 = o' := by simpa using e1
      rw [← eg, ← eo, Nat.zero_add] at c0 c1
      clear eg eo e1
      have hgd := HK.out.good k (by rw [HM.out]; exact hkm)
      obtain ⟨x, y, exy⟩ : ∃ x y, l.getD k (0, 0) = (x, y) := ⟨_, _, rfl⟩
      have HX : Hid (l.getD k (0, 0) = (x, y)) := exy
      rw [exy] at c0 c1 hgd
      clear exy
      have i1 : (0 : Int) ≤ (k : Int) := by omega
      have i2 : (k : Int) < (m : Int) := by omega
      have HB : Hid (Below w2.heap.size w2 wr) := hb
      have n0 := World.new_ne wr _ c0
      by_cases hk0 : k = 0
      · subst hk0
        clear hb
        have hGood := fun w => good_below x y w
        rw [hgd] at hGood
        have i3 : decide ((0 : Int) < ((0 : Nat) : Int)) = false := rfl
        have c0 : wr.cell? ⟨g, 0, none⟩ = some (.int .i64 x) := c0
        have c1 : wr.cell? ⟨g, 1, none⟩ = some (.int .i64 y) := c1
        rw [show ((0 : Nat) : Int) = 0 from rfl] at i2 i3 ⊢
        go_wp2_with fail
        clear c0 c1
        have K0 : Kp wr [(wr.heap.size, .int .i64 x, .int .i64 y)] (wr.alloc (.cells #[.int .i64 x, .int .i64 y] 23)) := (Kp.start wr).box _ _ _ _ rfl
        obtain ⟨-, d0, d1⟩ := kp1 K0
        refine wp_region_held_drew (S := fun w' => Kp wr [(wr.heap.size, .int .i64 x, .int .i64 y)] w' ∧ w'.cell? ⟨wr.heap.size, 0, none⟩ = some (.int .i64 x) ∧ w'.cell? ⟨wr.heap.size, 1, none⟩ = some (.int .i64 y)) (by kernel_rfl) (kp1 K0.drew) (fun hHeld => ?_)
        refine wpAnyH_take (i := 0) (oi := { dst := some 22, op := Op.load 23 (Operand.tmp 5), type := 23, pos := _, after := #[], guard := none }) (v := .agg #[.int .i64 x, .int .i64 y]) rfl (by kernel_rfl) (by kernel_rfl) (by kernel_rfl) (fun _ _ _ h => h) (Or.inl ⟨by rfl, fun w hSw => by (try dsimp only at hSw); go_simp⟩) (by assumption) ?_
        simp only [Act.put, List.setIfInBounds_toArray, List.set_cons_zero, List.set_cons_succ]
        refine wpAnyH_ready (rs := [1]) (by kernel_rfl) (by simp) ?_
        refine AllReadyH.cons (o := { dst := some 23, op := Op.call { callee := Callee.value (Operand.func 11), args := #[Operand.tmp 22], argTypes := #[23] }, type := 4, pos := _, after := #[{ on := 0, ground := Ground.data }], guard := none }) rfl (fun K hK => ?_) AllReadyH.nil
        go_simp
        refine (hGood _).mono ?_
        rintro e w' ⟨rfl, hb⟩
        go_wp2_with fail
        refine hK.out _ _ (kp1 (Kp.call' hHeld hb)) (fun hHeld' => ?_)
        clear hK K hHeld
        try simp only [Act.put, List.setIfInBounds_toArray, List.set_cons_zero, List.set_cons_succ]
        refine wpAnyH_take (i := 2) (oi := { dst := some 24, op := Op.unOp UnOp.not 4 (Operand.tmp 23), type := 4, pos := _, after := #[{ on := 1, ground := Ground.data }], guard := none }) (v := .bool false) rfl (by kernel_rfl) (by kernel_rfl) (by kernel_rfl) (fun _ _ _ h => h) (Or.inl ⟨by rfl, fun w hSw => by (try dsimp only at hSw); go_simp⟩) (by assumption) ?_
        simp only [Act.put, List.setIfInBounds_toArray, List.set_cons_zero, List.set_cons_succ]
        refine wpAnyH_take (i := 3) (oi := { dst := some 25, op := Op.move (Operand.tmp 24), type := 4, pos := _, after := #[{ on := 2, ground := Ground.data }, { on := 1, ground := Ground.chain }], guard := none }) (v := .bool false) rfl (by kernel_rfl) (by kernel_rfl) (by kernel_rfl) (fun _ _ _ h => h) (Or.inl ⟨by rfl, fun w hSw => by (try dsimp only at hSw); go_simp⟩) (by assumption) ?_
        simp only [Act.put, List.setIfInBounds_toArray, List.set_cons_zero, List.set_cons_succ]
        refine wpAnyH_take (i := 4) (oi := { dst := some 26, op := Op.move (Operand.tmp 4), type := 3, pos := _, after := #[{ on := 3, ground := Ground.guard }], guard := some (3, false) }) (v := .int .i64 0) rfl (by kernel_rfl) (by kernel_rfl) (by kernel_rfl) (fun _ _ _ h => h) (Or.inl ⟨by rfl, fun w hSw => by (try dsimp only at hSw); go_simp⟩) (by assumption) ?_
        simp only [Act.put, List.setIfInBounds_toArray, List.set_cons_zero, List.set_cons_succ]
        refine wpAnyH_take (i := 5) (oi := { dst := some 27, op := Op.binOp BinOp.gtr 3 (Operand.tmp 26) (Operand.const (Value.int IntKind.i64 0)) 3, type := 4, pos := _, after := #[{ on := 4, ground := Ground.data }, { on := 3, ground := Ground.guard }], guard := some (3, false) }) (v := .bool false) rfl (by kernel_rfl) (by kernel_rfl) (by kernel_rfl) (fun _ _ _ h => h) (Or.inl ⟨by rfl, fun w hSw => by (try dsimp only at hSw); go_simp⟩) (by assumption) ?_
        simp only [Act.put, List.setIfInBounds_toArray, List.set_cons_zero, List.set_cons_succ]
        refine wpAnyH_take (i := 6) (oi := { dst := some 28, op := Op.move (Operand.tmp 27), type := 4, pos := _, after := #[{ on := 5, ground := Ground.data }, { on := 3, ground := Ground.chain }, { on := 3, ground := Ground.guard }], guard := some (3, false) }) (v := .bool false) rfl (by kernel_rfl) (by kernel_rfl) (by kernel_rfl) (fun _ _ _ h => h) (Or.inl ⟨by rfl, fun w hSw => by (try dsimp only at hSw); go_simp⟩) (by assumption) ?_
        simp only [Act.put, List.setIfInBounds_toArray, List.set_cons_zero, List.set_cons_succ]
        refine wpAnyH_take (i := 7) (oi := { dst := some 29, op := Op.move (Operand.tmp 3), type := 35, pos := _, after := #[{ on := 6, ground := Ground.guard }], guard := some (6, true) }) (v := undef) rfl (by kernel_rfl) (by kernel_rfl) (by kernel_rfl) (fun _ _ _ h => h) (Or.inr ⟨by rfl, rfl⟩) (by assumption) ?_
        simp only [Act.put, List.setIfInBounds_toArray, List.set_cons_zero, List.set_cons_succ]
        refine wpAnyH_take (i := 8) (oi := { dst := some 30, op := Op.move (Operand.tmp 4), type := 3, pos := _, after := #[{ on := 6, ground := Ground.guard }], guard := some (6, true) }) (v := undef) rfl (by kernel_rfl) (by kernel_rfl) (by kernel_rfl) (fun _ _ _ h => h) (Or.inr ⟨by rfl, rfl⟩) (by assumption) ?_
        simp only [Act.put, List.setIfInBounds_toArray, List.set_cons_zero, List.set_cons_succ]
        refine wpAnyH_take (i := 9) (oi := { dst := some 31, op := Op.binOp BinOp.sub 3 (Operand.tmp 30) (Operand.const (Value.int IntKind.i64 1)) 3, type := 3, pos := _, after := #[{ on := 8, ground := Ground.data }, { on := 6, ground := Ground.guard }], guard := some (6, true) }) (v := undef) rfl (by kernel_rfl) (by kernel_rfl) (by kernel_rfl) (fun _ _ _ h => h) (Or.inr ⟨by rfl, rfl⟩) (by assumption) ?_
        simp only [Act.put, List.setIfInBounds_toArray, List.set_cons_zero, List.set_cons_succ]
        refine wpAnyH_take (i := 10) (oi := { dst := some 32, op := Op.indexAddr 35 (Operand.tmp 29) (Operand.tmp 31), type := 0, pos := _, after := #[{ on := 7, ground := Ground.data }, { on := 9, ground := Ground.data }, { on := 6, ground := Ground.guard }], guard := some (6, true) }) (v := undef) rfl (by kernel_rfl) (by kernel_rfl) (by kernel_rfl) (fun _ _ _ h => h) (Or.inr ⟨by rfl, rfl⟩) (by assumption) ?_
        simp only [Act.put, List.setIfInBounds_toArray, List.set_cons_zero, List.set_cons_succ]
        refine wpAnyH_take (i := 11) (oi := { dst := some 33, op := Op.fieldAddr 23 (Operand.tmp 32) 0, type := 0, pos := _, after := #[{ on := 10, ground := Ground.data }, { on := 6, ground := Ground.guard }], guard := some (6, true) }) (v := undef) rfl (by kernel_rfl) (by kernel_rfl) (by kernel_rfl) (fun _ _ _ h => h) (Or.inr ⟨by rfl, rfl⟩) (by assumption) ?_
        simp only [Act.put, List.setIfInBounds_toArray, List.set_cons_zero, List.set_cons_succ]
        refine wpAnyH_take (i := 12) (oi := { dst := some 34, op := Op.load 3 (Operand.tmp 33), type := 3, pos := _, after := #[{ on := 11, ground := Ground.data }, { on := 6, ground := Ground.guard }], guard := some (6, true) }) (v := undef) rfl (by kernel_rfl) (by kernel_rfl) (by kernel_rfl) (fun _ _ _ h => h) (Or.inr ⟨by rfl, rfl⟩) (by assumption) ?_
        simp only [Act.put, List.setIfInBounds_toArray, List.set_cons_zero, List.set_cons_succ]
        refine wpAnyH_take (i := 13) (oi := { dst := some 35, op := Op.fieldAddr 23 (Operand.tmp 5) 0, type := 0, pos := _, after := #[{ on := 6, ground := Ground.guard }], guard := some (6, true) }) (v := undef) rfl (by kernel_rfl) (by kernel_rfl) (by kernel_rfl) (fun _ _ _ h => h) (Or.inr ⟨by rfl, rfl⟩) (by assumption) ?_
        simp only [Act.put, List.setIfInBounds_toArray, List.set_cons_zero, List.set_cons_succ]
        refine wpAnyH_take (i := 14) (oi := { dst := some 36, op := Op.load 3 (Operand.tmp 35), type := 3, pos := _, after := #[{ on := 13, ground := Ground.data }, { on := 6, ground := Ground.guard }], guard := some (6, true) }) (v := undef) rfl (by kernel_rfl) (by kernel_rfl) (by kernel_rfl) (fun _ _ _ h => h) (Or.inr ⟨by rfl, rfl⟩) (by assumption) ?_
        simp only [Act.put, List.setIfInBounds_toArray, List.set_cons_zero, List.set_cons_succ]
        refine wpAnyH_take (i := 15) (oi := { dst := some 37, op := Op.binOp BinOp.geq 3 (Operand.tmp 34) (Operand.tmp 36) 3, type := 4, pos := _, after := #[{ on := 12, ground := Ground.data }, { on := 14, ground := Ground.data }, { on := 6, ground := Ground.guard }], guard := some (6, true) }) (v := undef) rfl (by kernel_rfl) (by kernel_rfl) (by kernel_rfl) (fun _ _ _ h => h) (Or.inr ⟨by rfl, rfl⟩) (by assumption) ?_
        simp only [Act.put, List.setIfInBounds_toArray, List.set_cons_zero, List.set_cons_succ]
        refine wpAnyH_take (i := 16) (oi := { dst := some 38, op := Op.pick (Operand.tmp 28) (Operand.tmp 37) (Operand.const (Value.bool false)), type := 4, pos := _, after := #[{ on := 6, ground := Ground.data }, { on := 15, ground := Ground.data }, { on := 3, ground := Ground.guard }], guard := some (3, false) }) (v := .bool false) rfl (by kernel_rfl) (by kernel_rfl) (by kernel_rfl) (fun _ _ _ h => h) (Or.inl ⟨by rfl, fun w hSw => by (try dsimp only at hSw); go_simp⟩) (by assumption) ?_
        simp only [Act.put, List.setIfInBounds_toArray, List.set_cons_zero, List.set_cons_succ]
        refine wpAnyH_take (i := 17) (oi := { dst := some 39, op := Op.pick (Operand.tmp 25) (Operand.const (Value.bool true)) (Operand.tmp 38), type := 4, pos := _, after := #[{ on := 3, ground := Ground.data }, { on := 16, ground := Ground.data }], guard := none }) (v := .bool false) rfl (by kernel_rfl) (by kernel_rfl) (by kernel_rfl) (fun _ _ _ h => h) (Or.inl ⟨by rfl, fun w hSw => by (try dsimp only at hSw); go_simp⟩) (by assumption) ?_
        simp only [Act.put, List.setIfInBounds_toArray, List.set_cons_zero, List.set_cons_succ]
        refine wpAnyH_done (by kernel_rfl) ?_ _
        go_wp2
        go_roundw
        case rel => exact ⟨0 + 1, by omega, by go_num, Below.then HB.out hHeld'.1.1⟩
        case measure => simp [intOf]; omega
      · obtain ⟨j, rfl⟩ : ∃ j, k = j + 1 := ⟨k - 1, by omega⟩
        obtain ⟨g', o', e1, p0, -⟩ := (HR2.out.later hb) j (by rw [HM.out]; omega)
        obtain ⟨eg, eo⟩ : g = g' ∧ 0 = o' := by simpa using e1
        rw [← eg, ← eo, Nat.zero_add] at p0
        clear eg eo e1
        have hup := HK.out.up j (by rw [HM.out]; exact hkm)
        rw [HX.out] at hup
        obtain ⟨x', ex'⟩ : ∃ x', (l.getD j (0, 0)).1 = x' := ⟨_, rfl⟩
        rw [ex'] at p0 hup
        have hup2 : decide (x ≤ x') = false := by simp at hup ⊢; omega
        have hp : decide ((0 : Int) < (j : Int) + 1) = true := decide_eq_true (by omega)
        have hw1 : IntKind.i64.wrap ((j : Int) + 1 - 1) = (j : Int) := wrap_j j (by omega)
        have hw2 : IntKind.i64.wrap (j : Int) = (j : Int) := by have := hw1; rwa [show (j : Int) + 1 - 1 = j by omega] at this
        have j1 : (0 : Int) ≤ (j : Int) := by omega
        have j2 : (j : Int) < (m : Int) := by omega
        clear ex' hb hup
        rw [show ((j + 1 : Nat) : Int) = (j : Int) + 1 by omega] at i1 i2 ⊢
        have K0 : Kq wr [(⟨wr.heap.size, 0, none⟩, .int .i64 x), (⟨wr.heap.size, 1, none⟩, .int .i64 y), (⟨g, j * 2, none⟩, .int .i64 x')] (wr.alloc (.cells #[.int .i64 x, .int .i64 y] 23)) := Kq.box2 ⟨Below.refl _ _, by simpa using p0⟩ _ _ _ _ rfl
        go_wp2_with fail
        have d0 := K0.get 0 rfl
        have d1 := K0.get 1 rfl
        have d2 := K0.get 2 rfl
        go_region_held3 (fun w' => Kq wr [(⟨wr.heap.size, 0, none⟩, .int .i64 x), (⟨wr.heap.size, 1, none⟩, .int .i64 y), (⟨g, j * 2, none⟩, .int .i64 x')] w' ∧ w'.cell? ⟨wr.heap.size, 0, none⟩ = some (.int .i64 x) ∧ w'.cell? ⟨wr.heap.size, 1, none⟩ = some (.int .i64 y) ∧ w'.cell? ⟨g, j * 2, none⟩ = some (.int .i64 x')) (first | exact kq3 K0.drew | (refine kq3 ?_; exact Kq.call (And.left (by assumption)) hb)) ((go_at_call 11; refine (good_below _ _ _).mono ?_; rintro e w' ⟨rfl, hb⟩))
        go_wp2
        go_roundw
        case rel => exact ⟨j + 1 + 1, by omega, by go_num, Below.then HB.out (Kq.below (And.left (by assumption)))⟩
        case measure => simp [intOf]; omega
    · have hkn' : decide ((k : Int) < (m : Int)) = false := by simp; omega
      have HB : Hid (Below w2.heap.size w2 wr) := hb
      clear hb
      go_wp2_with fail
      go_loopw [6, 7] (fun v i wr' => ∃ k : Nat, k ≤ n ∧ i = .int .i64 ((k : Int) - 1) ∧ Below w2.heap.size w2 wr' ∧ ∃ B : List (Int × Int), B.length = 2 * (n - k) ∧ (∀ q, q ∈ B ↔ q ∈ ks.drop k) ∧ wr'.ownsRow w2.heap.size 23 2 v B.length (cellsL B)) (fun _ i _ => (intOf i + 1).toNat)
      case atStart => exact ⟨n, by omega, by first | rfl | go_num, HB.out, [], by simp, by rw [List.drop_of_length_le (by rw [HN.out]; omega)]; simp, World.ownsRow_nil _ _ _ _⟩
      case round =>
        obtain ⟨k2, hk2, rfl, hb', B, hBl, hBm, hrowB⟩ := hrel
        by_cases hz : k2 = 0
        · subst hz
          obtain ⟨a6, cp, hv, hrd6⟩ : ∃ a6 cp, u6 = .slice a6 B.length cp ∧ RdAt wr a6 B := by
            rcases hrowB.2 with ⟨h0, h00⟩ | ⟨g6, cp, cur, h6, _⟩
            · have hB0 : B = [] := List.length_eq_zero_iff.1 h00
              subst hB0
              exact ⟨none, 0, h0, RdAt.nil _ _⟩
            · rw [h6] at hrowB
              exact ⟨_, cp, h6, rd_of_row hrowB⟩
          have hA := least_ans a6 cp B l wr (by omega) hrd6 (HK.out.again B (by simpa using hBm))
          have HR6 : Hid (RdAt wr (some ⟨g, 0, none⟩) l) := HR2.out.later hb'
          have HB6 : Hid (Below w.heap.size w wr) := Below.then HB2.out hb'
          clear hrd6 hBm hrowB hb' HR2 HRD HB2 HB hBl
          subst hv
          rw [show ((0 : Nat) : Int) - 1 = -1 from rfl]
          go_wp2_with fail
          refine hA.mono ?_
          rintro e w4 ⟨g4, cap4, rfl, hg4, hrow4, hb4⟩
          have hS := same_any (some ⟨g4, 0, none⟩) (some ⟨g, 0, none⟩) cap4 cap l w4 (by rw [HM.out]; omega) (rd_of_row hrow4) (HR6.out.later hb4)
          have HB4 : Hid (Below wr.heap.size wr w4) := hb4
          clear hA hb4 hrow4 hg4
          rw [HM.out] at hS ⊢
          go_wp2_with fail
          refine hS.mono ?_
          rintro e w5 ⟨rfl, hb5⟩
          have hA := least_ans (some ⟨g, 0, none⟩) cap l l w5 (by rw [HM.out]; omega) (HR6.out.later (Below.then HB4.out hb5)) HK.out.self
          rw [HM.out] at hA
          have HB5 : Hid (Below wr.heap.size wr w5) := Below.then HB4.out hb5
          clear hS hb5
          go_wp2_with fail
          refine hA.mono ?_
          rintro e w6 ⟨g4', cap4', rfl, hg4, hrow4, hb4⟩
          have hS := same_any (some ⟨g4', 0, none⟩) (some ⟨g, 0, none⟩) cap4' cap l w6 (by rw [HM.out]; omega) (rd_of_row hrow4) (HR6.out.later (Below.then HB5.out hb4))
          have HB7 : Hid (Below wr.heap.size wr w6) := Below.then HB5.out hb4
          clear hA hb4 hrow4 hg4
          rw [HM.out] at hS ⊢
          go_wp2_with fail
          refine hS.mono ?_
          rintro e w7 ⟨rfl, hb7⟩
          go_wp2
          go_ret
          exact ⟨rfl, Below.then HB6.out (Below.then HB7.out hb7)⟩
        · obtain ⟨j, rfl⟩ : ∃ j, k2 = j + 1 := ⟨k2 - 1, by omega⟩
          have hcast : ((j + 1 : Nat) : Int) - 1 = (j : Int) := by omega
          rw [hcast]
          clear hcast
          obtain ⟨b', o', e1, c0, c1⟩ := (HRD.out.later (Below.then HB2.out hb')) j (by rw [HN.out]; omega)
          obtain ⟨eb, eo⟩ : b = b' ∧ o = o' := by simpa using e1
          rw [← eb, ← eo] at c0 c1
          have hbl : b < w2.heap.size := by
            obtain ⟨b'', o'', e2, d0, _⟩ := (HRD.out.later HB2.out) j (by rw [HN.out]; omega)
            obtain ⟨eb2, _⟩ : b = b'' ∧ o = o'' := by simpa using e2
            have := World.block_lt_of_cell? _ _ d0
            rw [eb2]; exact this
          clear eb eo e1
          obtain ⟨x, y, exy⟩ : ∃ x y, ks.getD j (0, 0) = (x, y) := ⟨_, _, rfl⟩
          have HX : Hid (ks.getD j (0, 0) = (x, y)) := exy
          rw [exy] at c0 c1
          clear exy
          have i1 : (0 : Int) ≤ (j : Int) := by omega
          have i2 : (j : Int) < (n : Int) := by omega
          have hne := row_ne_low hrowB hbl
          have hs2 := hb'.size
          have HB' : Hid (Below w2.heap.size w2 wr) := hb'
          have HBM : Hid (∀ q, q ∈ B ↔ q ∈ ks.drop (j + 1)) := hBm
          have HBL : Hid (B.length = 2 * (n - (j + 1))) := hBl
          have hBb : B.length ≤ 2097152 := by rw [hBl]; omega
          have HRB : Hid (∀ k, u6.ownBlock = some k → w2.heap.size ≤ k) := fun k hk => (hrowB.lt k hk).1
          clear hb' hBm hBl
          go_wp2_with fail
          go_region_held3 (fun w' => w'.cell? ⟨b, o + j * 2, none⟩ = some (.int .i64 x) ∧ w'.cell? ⟨b, o + j * 2 + 1, none⟩ = some (.int .i64 y)) (first | exact far2 hgrow hne (by assumption) | (go_keep; done)) ((refine step_append_lies _ (by rfl) _ _ _ (by rfl) w2.heap.size 23 i0 _ 2 16 Try.underlying35 hi hz0 hz1 hz2 rfl (by omega) _ B.length (cellsL B) (by rfl) ((hrowB.alloc _).drew) ⟨wr.heap.size, 0, none⟩ 2 2 [.int .i64 x, .int .i64 y, .int .i64 x, .int .i64 y] (by rfl) (by rfl) (World.news_of_block (cs := #[.int .i64 x, .int .i64 y, .int .i64 x, .int .i64 y]) (t := 23) (fr := (0, 0)) (heap_alloc_new wr _)) (by simp [Value.oneCell']) (by omega) (by unfold maxLen; omega) (by omega) (by simp; omega) (wr.heap.size + 1) (by simp) ?_; intro gg cap2 w3 hown3 hgrow hat hlt))
          have HC3 : Hid (w3.cell? ⟨b, o + j * 2, none⟩ = some (.int .i64 x) ∧ w3.cell? ⟨b, o + j * 2 + 1, none⟩ = some (.int .i64 y)) := by assumption
          have HW3 : Hid (Below w2.heap.size w2 w3) := Below.grown (Below.drew (HB'.out.alloc HB'.out.size _)) hgrow (by have := HB'.out.size; simp; omega) HRB.out
          have HO3 : Hid (w3.ownsRow w2.heap.size 23 2 (.slice (some ⟨gg, 0, none⟩) (B.length + 2) cap2) (B.length + 2) (cellsL B ++ [.int .i64 x, .int .i64 y, .int .i64 x, .int .i64 y])) := hown3
          clear hgrow hat hlt hown3 hrowB
          go_wp2_with fail
          go_loopw [8, 61] (fun r i wr3 => ∃ q : Nat, q ≤ m ∧ i = .int .i64 (q : Int) ∧ r = .int .i64 ((cnt (l.take q) (x, y) : Nat) : Int) ∧ Below w3.heap.size w3 wr3) (fun _ i _ => m - (intOf i).toNat)
          case atStart => exact ⟨0, by omega, rfl, by simp [cnt], Below.refl _ _⟩
          case round =>
            obtain ⟨q, hq, rfl, rfl, hbq⟩ := hrel
            have hcle := cnt_le l (x, y) q
            by_cases hqm : q < m
            · obtain ⟨g', o', e1, p0, p1⟩ := (HR2.out.later (Below.then HW3.out hbq)) q (by rw [HM.out]; exact hqm)
              obtain ⟨eg, eo⟩ : g = g' ∧ 0 = o' := by simpa using e1
              rw [← eg, ← eo, Nat.zero_add] at p0 p1
              clear eg eo e1
              have hct := cnt_take l (x, y) q (by rw [HM.out]; exact hqm)
              obtain ⟨x', y', exy⟩ : ∃ x' y', l.getD q (0, 0) = (x', y') := ⟨_, _, rfl⟩
              rw [exy] at p0 p1 hct
              clear exy
              have c0 := cell_later hbq HC3.out.1
              have c1 := cell_later hbq HC3.out.2
              obtain ⟨cq, ecq⟩ : ∃ cq, cnt (l.take q) (x, y) = cq := ⟨_, rfl⟩
              rw [ecq] at hct hcle ⊢
              have HCT : Hid (cnt (l.take (q + 1)) (x, y) = cq + if gv x' y' x y then 1 else 0) := hct
              have HBQ : Hid (Below w3.heap.size w3 wr) := hbq
              clear ecq hct
              have q1 : (0 : Int) ≤ (q : Int) := by omega
              have q2 : (q : Int) < (m : Int) := by omega
              have hcb : (cq : Int) ≤ 65535 := by omega
              have K0 : Kq wr [(⟨wr.heap.size, 0, none⟩, .int .i64 x'), (⟨wr.heap.size, 1, none⟩, .int .i64 y'), (⟨b, o + j * 2, none⟩, .int .i64 x), (⟨b, o + j * 2 + 1, none⟩, .int .i64 y)] (wr.alloc (.cells #[.int .i64 x', .int .i64 y'] 23)) := Kq.box2 ⟨Below.refl _ _, by simp [c0, c1]⟩ _ _ _ _ rfl
              clear hbq
              cases hgv : gv x' y' x y
              all_goals
                go_wp2_with fail
                have d0 := K0.get 0 rfl
                have d1 := K0.get 1 rfl
                have d2 := K0.get 2 rfl
                have d3 := K0.get 3 rfl
                go_region_held3 (fun w' => Kq wr [(⟨wr.heap.size, 0, none⟩, .int .i64 x'), (⟨wr.heap.size, 1, none⟩, .int .i64 y'), (⟨b, o + j * 2, none⟩, .int .i64 x), (⟨b, o + j * 2 + 1, none⟩, .int .i64 y)] w' ∧ w'.cell? ⟨wr.heap.size, 0, none⟩ = some (.int .i64 x') ∧ w'.cell? ⟨wr.heap.size, 1, none⟩ = some (.int .i64 y') ∧ w'.cell? ⟨b, o + j * 2, none⟩ = some (.int .i64 x) ∧ w'.cell? ⟨b, o + j * 2 + 1, none⟩ = some (.int .i64 y)) (first | exact kq4 K0.drew | (refine kq4 ?_; exact Kq.call (And.left (by assumption)) hb)) ((go_at_call 12; refine (gives_any _ _ _ _ _).mono ?_; rintro e w' ⟨rfl, hb⟩))
                go_wp2
                go_roundw
                case rel => exact ⟨q + 1, by omega, by go_num, by rw [HCT.out, hgv]; go_num, Below.then HBQ.out (Kq.below (And.left (by assumption)))⟩
                case measure => simp [intOf]; omega
            · have hqn' : decide ((q : Int) < (m : Int)) = false := by simp; omega
              have c0 := cell_later hbq HC3.out.1
              have c1 := cell_later hbq HC3.out.2
              have hmem : (x, y) ∈ ks := by rw [← HX.out]; exact getD_mem (by rw [HN.out]; omega)
              have hcl : (gd x y = true ∧ cnt (l.take q) (x, y) = 1) ∨ (gd x y = false ∧ cnt (l.take q) (x, y) = 0) := by
                rw [List.take_of_length_le (by rw [HM.out]; omega), HK.out.one (x, y) hmem]
                cases gd x y <;> simp
              have HBQ : Hid (Below w3.heap.size w3 wr) := hbq
              have HEND : Hid (∀ w4, Below wr.heap.size wr w4 → ∃ k : Nat, k ≤ n ∧ Value.int .i64 ((j : Int) - 1) = .int .i64 ((k : Int) - 1) ∧ Below w2.heap.size w2 w4 ∧ ∃ B' : List (Int × Int), B'.length = 2 * (n - k) ∧ (∀ q, q ∈ B' ↔ q ∈ ks.drop k) ∧ w4.ownsRow w2.heap.size 23 2 (.slice (some ⟨gg, 0, none⟩) (B.length + 2) cap2) B'.length (cellsL B')) := fun w4 hb4 => by
                refine ⟨j, by omega, rfl, Below.then HW3.out (Below.then HBQ.out hb4), B ++ [(x, y), (x, y)], by simp [HBL.out]; omega, fun q => ?_, ?_⟩
                · rw [drop_cons (by rw [HN.out]; omega), HX.out, List.mem_append, HBM.out q]; simp; exact Or.comm
                · rw [cellsL_append]
                  have := World.ownsRow.kept HO3.out (below_grown (Below.then HBQ.out hb4)) (Or.inr (by simp [Value.ownBlock]))
                  simpa [cellsL] using this
              clear hbq hmem hcle
              rcases hcl with ⟨hgd, hc⟩ | ⟨hgd, hc⟩
              all_goals
                rw [hc]
                clear hc
                go_wp2_with (go_at_call 11; refine (good_below _ _ _).mono ?_; rintro e w4 ⟨rfl, hb4⟩)
                go_roundw
                case rel => exact HEND.out _ hb4
                case measure => simp [intOf]
end Go.Proofs.Ytdbnaoddnelebab
