/- DrA, DrB, DrC, joined. -/
import Derived.Test.YtohgflimdoebiaaDkL
/- The document's disk in memory; its small functions. -/
namespace Go.Proofs.Ytohgflimdoebiaa.Dk
open Go.RowKit Go.Maps
set_option linter.unusedVariables false
set_option linter.unusedSimpArgs false

structure Rk (N : Nat) (w : World) (q : Nat) (s : St) (f y x : Value) : Prop where
  blk : w.heap[q]? = some (.cells #[f, y, x, .int .i64 s.left] 53)
  fst : RwS w N f s.img
  blo : RwS w N y (tx s.bl 2048)
  log : RwW w N x s.log
  ne : ∀ k, f.ownBlock = some k → y.ownBlock ≠ some k
  nq : N ≤ q
  ok : s.Ok
def Fr (q : Nat) (f y x : Value) (k : Nat) : Prop := k = q ∨ f.ownBlock = some k ∨ y.ownBlock = some k ∨ x.ownBlock = some k
theorem row_type {w : World} {N e z n : Nat} {v : Value} {xs : List Value} (h : w.ownsRow N e z v n xs) : ∀ k, v.ownBlock = some k → N ≤ k ∧ k < w.heap.size ∧ ∃ cur, w.heap[k]? = some (.cells cur e (0, 0)) := fun k hk => by
  have hlt := h.lt k hk
  rcases h.2 with ⟨h0, _⟩ | ⟨g, cap, cur, rfl, hb, hgg, rest⟩
  · subst h0; cases hk
  · cases hk; exact ⟨hlt.1, hlt.2, cur, hgg⟩
section
variable {N : Nat} {w w' : World} {q : Nat} {s : St} {f y x : Value}
theorem Rk.c0 (h : Rk N w q s f y x) : w.cell? ⟨q, 0, none⟩ = some f := by simp [World.cell?, h.blk]
theorem Rk.c1 (h : Rk N w q s f y x) : w.cell? ⟨q, 1, none⟩ = some y := by simp [World.cell?, h.blk]
theorem Rk.c2 (h : Rk N w q s f y x) : w.cell? ⟨q, 2, none⟩ = some x := by simp [World.cell?, h.blk]
theorem Rk.c3 (h : Rk N w q s f y x) : w.cell? ⟨q, 3, none⟩ = some (.int .i64 s.left) := by simp [World.cell?, h.blk]
theorem Rk.fr (h : Rk N w q s f y x) (j : Nat) : w.frozen? ⟨q, j, none⟩ = false := by simp [World.frozen?, h.blk]
theorem Rk.qlt (h : Rk N w q s f y x) : q < w.heap.size := (Array.getElem?_eq_some_iff.1 h.blk).1
theorem Rk.fq (h : Rk N w q s f y x) : ∀ k, f.ownBlock = some k → k ≠ q := fun k hk e => by
  subst e
  obtain ⟨_, _, cur, hh⟩ := row_type h.fst k hk
  have := h.blk; rw [hh] at this; simp at this
theorem Rk.yq (h : Rk N w q s f y x) : ∀ k, y.ownBlock = some k → k ≠ q := fun k hk e => by
  subst e
  obtain ⟨_, _, cur, hh⟩ := row_type h.blo k hk
  have := h.blk; rw [hh] at this; simp at this
theorem Rk.xq (h : Rk N w q s f y x) : ∀ k, x.ownBlock = some k → k ≠ q := fun k hk e => by
  subst e
  obtain ⟨_, _, cur, hh⟩ := row_type h.log k hk
  have := h.blk; rw [hh] at this; simp at this
theorem Rk.xf (h : Rk N w q s f y x) : ∀ k, x.ownBlock = some k → f.ownBlock ≠ some k := fun k hk e => by
  obtain ⟨_, _, cur, hh⟩ := row_type h.log k hk
  obtain ⟨_, _, cur', hh'⟩ := row_type h.fst k e
  rw [hh] at hh'; simp at hh'
theorem Rk.xy (h : Rk N w q s f y x) : ∀ k, x.ownBlock = some k → y.ownBlock ≠ some k := fun k hk e => by
  obtain ⟨_, _, cur, hh⟩ := row_type h.log k hk
  obtain ⟨_, _, cur', hh'⟩ := row_type h.blo k e
  rw [hh] at hh'; simp at hh'
theorem Rk.inHeap (h : Rk N w q s f y x) : ∀ k, Fr q f y x k → k < w.heap.size ∧ N ≤ k := fun k hk => by
  rcases hk with rfl | hk | hk | hk
  · exact ⟨h.qlt, h.nq⟩
  · have := row_type h.fst k hk; exact ⟨this.2.1, this.1⟩
  · have := row_type h.blo k hk; exact ⟨this.2.1, this.1⟩
  · have := row_type h.log k hk; exact ⟨this.2.1, this.1⟩
theorem Rk.kept (h : Rk N w q s f y x) {F : Nat → Prop} (hk : Kept F w w') (hF : ∀ k, Fr q f y x k → ¬ F k) : Rk N w' q s f y x :=
  ⟨(hk.block q h.qlt (hF q (.inl rfl))).trans h.blk, hk.row h.fst (fun k hv => hF k (.inr (.inl hv))), hk.row h.blo (fun k hv => hF k (.inr (.inr (.inl hv)))), hk.row h.log (fun k hv => hF k (.inr (.inr (.inr hv)))), h.ne, h.nq, h.ok⟩
theorem Rk.later (h : Rk N w q s f y x) (hb : Below w.heap.size w w') : Rk N w' q s f y x := h.kept (Kept.ofBelow (F := fun _ => False) hb) (fun _ _ h => h)
theorem Rk.power (h : Rk N w q s f y x) (n : Int) (h1 : -1 ≤ n) (h2 : n ≤ 9223372036854775807) : Rk N (w.setCell ⟨q, 3, none⟩ (.int .i64 n)) q ⟨s.img, s.log, n⟩ f y x := by
  have hk : Kept (fun k => k = q) w (w.setCell ⟨q, 3, none⟩ (.int .i64 n)) := (Kept.refl (fun k => k = q) w).setCell (p := ⟨q, 3, none⟩) (fun _ => rfl) _
  refine ⟨?_, hk.row h.fst (fun k hv => h.fq k hv), hk.row h.blo (fun k hv => h.yq k hv), hk.row h.log (fun k hv => h.xq k hv), h.ne, h.nq, ⟨h.ok.i1, h.ok.i2, h.ok.l1, h1, h2⟩⟩
  rw [blk_set h.blk]; simp
/- The blocks' row. -/
theorem Rk.ys (h : Rk N w q s f y x) : ∃ g cap, y = .slice (some ⟨g, 0, none⟩) 2048 cap := by
  rcases h.blo.2 with ⟨_, h0⟩ | ⟨g, cap, cur, hv, _⟩
  · simp at h0
  · rw [tx_length] at hv
    exact ⟨g, cap, hv⟩
end
theorem rOn_any (N : Nat) (w : World) (p : Nat) (s : St) (f y x : Value) (h : Rk N w p s f y x) : Calls Try.prog 18 #[.pointer (some ⟨p, 0, none⟩)] w fun e w' => e = .returned (.bool (decide (s.left ≠ 0))) ∧ w' = w := by
  have h3 := h.c3
  clear h
  obtain ⟨l, hl⟩ : ∃ l, s.left = l := ⟨_, rfl⟩
  rw [hl] at h3 ⊢
  by_cases h0 : l = 0
  · subst h0
    go_enter Try.func18, Try.ntmps18
    go_wp2
    go_ret
    exact ⟨rfl, rfl⟩
  · go_enter Try.func18, Try.ntmps18
    go_wp2
    go_ret
    exact ⟨ret_bool (by simp [h0]), rfl⟩
theorem rUp_any (N : Nat) (w : World) (p : Nat) (s : St) (f y x : Value) (h : Rk N w p s f y x) (n : Int) (h2 : n ≤ 9223372036854775807) : Calls Try.prog 35 #[.pointer (some ⟨p, 0, none⟩), .int .i64 n] w fun e w' => e = .returned (.tuple #[]) ∧ Rk N w' p ⟨s.img, s.log, max n (-1)⟩ f y x ∧ Kept (Fr p f y x) w w' := by
  have h3 := h.c3
  have hf := h.fr 3
  have hp := h.power (max n (-1)) (by omega) (by omega)
  have hk : Kept (Fr p f y x) w (w.setCell ⟨p, 3, none⟩ (.int .i64 (max n (-1)))) := (Kept.refl _ w).setCell (fun _ => .inl rfl) _
  clear h
  by_cases h0 : n < -1
  · have e : max n (-1) = -1 := by omega
    rw [e] at hp hk ⊢
    go_enter Try.func35, Try.ntmps35
    go_wp2
    go_end0
    exact ⟨rfl, by simpa using hp, by simpa using hk⟩
  · have e : max n (-1) = n := by omega
    rw [e] at hp hk ⊢
    have d1 : decide (n < -1) = false := by simp; omega
    go_enter Try.func35, Try.ntmps35
    go_wp2
    go_end0
    exact ⟨rfl, by simpa using hp, by simpa using hk⟩
theorem rOff_any (N : Nat) (w : World) (p : Nat) (s : St) (f y x : Value) (h : Rk N w p s f y x) : Calls Try.prog 37 #[.pointer (some ⟨p, 0, none⟩)] w fun e w' => e = .returned (.tuple #[]) ∧ Rk N w' p ⟨s.img, s.log, 0⟩ f y x ∧ Kept (Fr p f y x) w w' := by
  have h3 := h.c3
  have hf := h.fr 3
  have hp := h.power 0 (by omega) (by omega)
  have hk : Kept (Fr p f y x) w (w.setCell ⟨p, 3, none⟩ (.int .i64 0)) := (Kept.refl _ w).setCell (fun _ => .inl rfl) _
  clear h
  go_enter Try.func37, Try.ntmps37
  go_wp2
  go_end0
  exact ⟨rfl, by simpa using hp, by simpa using hk⟩
theorem tx_nob (n : Nat) : tx (fun _ => ⟨#[]⟩) n = List.replicate n ⟨#[]⟩ := by
  apply List.ext_getElem
  · simp
  · intro i h1 h2
    simp [tx]
set_option maxHeartbeats 1000000 in
theorem rNew_any (w : World) : Calls Try.prog 14 #[] w fun e w' => ∃ p g cap, e = .returned (.pointer (some ⟨p, 0, none⟩)) ∧ Rk w.heap.size w' p nu (.slice none 0 0) (.slice (some ⟨g, 0, none⟩) 2048 cap) (.slice none 0 0) ∧ Below w.heap.size w w' := by
  obtain ⟨i0, hi, hz0, hz1, hz2⟩ := info_parts infoS
  go_enter Try.func14, Try.ntmps14
  go_wp2_with (at_make; refine wpList_make_full _ rfl _ _ 22 rfl w.heap.size 9 i0 _ 1 Try.underlying22 hi hz0 hz1 .i64 .i64 _ _ 2048 rfl rfl rfl rfl (by rw [hz2]; omega) (by unfold maxLen; omega) (Nat.le_refl _) ?_; intro w1 hrow1 hg1)
  go_ret
  have hb1 : Below w.heap.size w w1 := Below.grown (Below.refl _ _) hg1 (Nat.le_refl _) (fun j hj => by cases hj)
  have hb2 := below1 w1 (.cells #[.slice none 0 0, .slice (some ⟨w.heap.size, 0, none⟩) 2048 2048, .slice none 0 0, .int .i64 (-1)] 53)
  have e0 : nu.bl = fun _ => ⟨#[]⟩ := by unfold St.bl nu rp; simp [fnI_nil]
  refine ⟨w1.heap.size, _, _, rfl, ⟨heap_alloc_new w1 _, World.ownsRow_nil _ _ _ _, ?_, World.ownsRow_nil _ _ _ _, (fun k h => by cases h), hb1.size, nu_ok⟩, Below.more hb1 _⟩
  refine row_later ?_ hb2
  rw [show (Value.string ⟨#[]⟩).cells = #[.string ⟨#[]⟩] from rfl, toList_madeCells_one, Nat.mul_one] at hrow1
  rw [tx_length, e0, tx_nob, cellsS, List.map_replicate]
  exact hrow1
end Go.Proofs.Ytohgflimdoebiaa.Dk
/- Contracts of the document's disk: Write, Trim, Image. -/
namespace Go.Proofs.Ytohgflimdoebiaa.Dk
open Go.RowKit Go.Maps
set_option linter.unusedVariables false
set_option linter.unusedSimpArgs false

theorem tx_set (B : Bl) (k : Nat) (t : ByteArray) (n : Nat) : tx (setB B (k : Int) t) n = (tx B n).set k t := by
  apply List.ext_getElem
  · simp
  · intro i h1 h2
    simp only [tx, List.getElem_map, List.getElem_range, List.getElem_set]
    by_cases e : k = i
    · subst e; simp
    · rw [if_neg e, setB_other _ _ (by omega)]
theorem Rk.wrote {N : Nat} {w w2 : World} {q : Nat} {s : St} {f x : Value} {g cap r cap' k : Nat} {t : ByteArray} (h : Rk N w q s f (.slice (some ⟨g, 0, none⟩) 2048 cap) x) (hg : Gp ((k : Int), t))
    (o : Obj) (hgr : ((w.setCell ⟨g, k, none⟩ (.string t)).alloc o).grownBy w2 x.ownBlock)
    (hr : w2.ownsRow N 84 2 (.slice (some ⟨r, 0, none⟩) (s.log.length + 1) cap') (s.log.length + 1) (cellsW s.log ++ [.int .i64 (k : Int), .string t]))
    (hr2 : x.ownBlock = some r ∨ r = w.heap.size + 1) :
    Rk N (w2.setCell ⟨q, 2, none⟩ (.slice (some ⟨r, 0, none⟩) (s.log.length + 1) cap')) q ⟨s.img, s.log ++ [((k : Int), t)], s.left⟩ f (.slice (some ⟨g, 0, none⟩) 2048 cap) (.slice (some ⟨r, 0, none⟩) (s.log.length + 1) cap') ∧
    Kept (Fr q f (.slice (some ⟨g, 0, none⟩) 2048 cap) x) w (w2.setCell ⟨q, 2, none⟩ (.slice (some ⟨r, 0, none⟩) (s.log.length + 1) cap')) ∧
    (∀ j, Fr q f (.slice (some ⟨g, 0, none⟩) 2048 cap) (.slice (some ⟨r, 0, none⟩) (s.log.length + 1) cap') j → Fr q f (.slice (some ⟨g, 0, none⟩) 2048 cap) x j ∨ w.heap.size ≤ j) ∧
    w2.heap[q]? = some (.cells #[f, .slice (some ⟨g, 0, none⟩) 2048 cap, x, .int .i64 s.left] 53) := by
  have hql := h.qlt
  have k1 : Kept (fun j => j = g) w (w.setCell ⟨g, k, none⟩ (.string t)) := (Kept.refl (fun j => j = g) w).setCell (p := ⟨g, k, none⟩) (fun _ => rfl) _
  have k12 : Kept (fun j => x.ownBlock = some j) (w.setCell ⟨g, k, none⟩ (.string t)) w2 := ((Kept.refl (fun j => x.ownBlock = some j) _).alloc o).grown hgr (fun j e _ => e)
  have k2 : Kept (fun j => j = g ∨ x.ownBlock = some j) w w2 := (k1.mono (fun _ _ e => .inl e)).trans k12 (fun i _ e => .inr e)
  have hqq : ¬ (q = g ∨ x.ownBlock = some q) := fun e => by
    rcases e with e | e
    · exact h.yq g rfl e.symm
    · exact h.xq q e rfl
  have hrq : r ≠ q := by
    rcases hr2 with e | e
    · exact h.xq r e
    · omega
  have hblk := (k2.block q hql hqq).trans h.blk
  have ks : Kept (fun j => j = q) w2 (w2.setCell ⟨q, 2, none⟩ (.slice (some ⟨r, 0, none⟩) (s.log.length + 1) cap')) := (Kept.refl (fun j => j = q) w2).setCell (p := ⟨q, 2, none⟩) (fun _ => rfl) _
  have hf2 : RwS w2 N f s.img := k2.row h.fst (fun j e e' => by
    rcases e' with e' | e'
    · subst e'; exact h.ne j e rfl
    · exact h.xf j e' e)
  have hy := h.blo
  unfold RwS at hy
  rw [tx_length] at hy
  have hy1 := (hy.stored k (.string t)).1
  rw [cellsS_set, ← tx_set] at hy1
  have hy2 := k12.row hy1 (fun j e e' => h.xy j e' e)
  have hbl : (St.mk s.img (s.log ++ [((k : Int), t)]) s.left).bl = setB s.bl (k : Int) t := by simp [St.bl, rp_snoc]
  refine ⟨⟨?_, ks.row hf2 (fun j e e' => h.fq j e e'), ?_, ?_, h.ne, h.nq, ⟨h.ok.i1, h.ok.i2, ?_, h.ok.p1, h.ok.p2⟩⟩, ?_, ?_, hblk⟩
  · rw [blk_set hblk]; simp
  · unfold RwS
    rw [tx_length, hbl]
    exact ks.row hy2 (fun j e e' => h.yq j e e')
  · have e1 : cellsW s.log ++ [.int .i64 (k : Int), .string t] = cellsW (s.log ++ [((k : Int), t)]) := by rw [cellsW_append]; rfl
    rw [e1] at hr
    have := ks.row hr (fun j e e' => by cases e; exact hrq e')
    unfold RwW
    simpa using this
  · intro p hp
    rcases List.mem_append.1 hp with hp | hp
    · exact h.ok.l1 p hp
    · simp at hp; subst hp; exact hg
  · refine (k2.mono ?_).setCell (fun _ => .inl rfl) _
    intro j _ e
    rcases e with e | e
    · exact .inr (.inr (.inl (by rw [e]; rfl)))
    · exact .inr (.inr (.inr e))
  · intro j hj
    rcases hj with e | e | e | e
    · exact .inl (.inl e)
    · exact .inl (.inr (.inl e))
    · exact .inl (.inr (.inr (.inl e)))
    · cases e
      rcases hr2 with e | e
      · exact .inl (.inr (.inr (.inr e)))
      · exact .inr (by show w.heap.size ≤ r; omega)
def RWrote (N : Nat) (w : World) (q : Nat) (s : St) (f y x : Value) (w' : World) : Prop := ∃ x', Rk N w' q s f y x' ∧ Kept (Fr q f y x) w w' ∧ (∀ j, Fr q f y x' j → Fr q f y x j ∨ w.heap.size ≤ j)
theorem Rk.same {N : Nat} {w : World} {q : Nat} {s : St} {f y x : Value} (h : Rk N w q s f y x) : RWrote N w q s f y x w := ⟨x, h, Kept.refl _ _, fun k hk => .inl hk⟩
set_option maxHeartbeats 2000000 in
set_option maxRecDepth 100000 in
theorem rWrite_any (N : Nat) (w : World) (p : Nat) (s : St) (f y x : Value) (h : Rk N w p s f y x) (at' : Int) (t : ByteArray) (ht : t.size ≤ 9223372036854775807) (hl : s.log.length + 1 ≤ 5864062014805) (hN : N ≤ w.heap.size) :
    Calls Try.prog 50 #[.pointer (some ⟨p, 0, none⟩), .int .i64 at', .string t] w fun e w' => e = .returned (.int .i64 (we s.left at' t)) ∧ RWrote N w p (nx s at' t) f y x w' := by
  have hon := rOn_any N w p s f y x h
  by_cases h0 : s.left = 0
  · have e0 : decide (s.left ≠ 0) = false := by simp [h0]
    have hwe : we s.left at' t = 11 := by simp [we, h0]
    have hnx : nx s at' t = s := by unfold nx; rw [if_neg (by rw [hwe]; decide)]
    rw [e0] at hon
    rw [hwe, hnx]
    have HD : Hid _ := h.same
    clear h hwe hnx
    go_enter Try.func50, Try.ntmps50
    go_wp2_with (go_at_call 18; refine hon.mono ?_; rintro e w' ⟨rfl, rfl⟩)
    go_ret
    exact ⟨rfl, HD.out⟩
  · have e0 : decide (s.left ≠ 0) = true := by simp [h0]
    rw [e0] at hon
    by_cases h1 : at' < 0
    · have hwe : we s.left at' t = 8 := by simp [we, h0, h1]
      have hnx : nx s at' t = s := by unfold nx; rw [if_neg (by rw [hwe]; decide)]
      rw [hwe, hnx]
      have HD : Hid _ := h.same
      clear h hwe hnx
      go_enter Try.func50, Try.ntmps50
      go_wp2_with (go_at_call 18; refine hon.mono ?_; rintro e w' ⟨rfl, rfl⟩)
      go_ret
      exact ⟨rfl, HD.out⟩
    · have d1 : decide (at' < 0) = false := by simp; omega
      by_cases h2 : 2048 ≤ at'
      · have hwe : we s.left at' t = 8 := by simp [we, h0, h2]
        have hnx : nx s at' t = s := by unfold nx; rw [if_neg (by rw [hwe]; decide)]
        rw [hwe, hnx]
        have HD : Hid _ := h.same
        clear h hwe hnx
        go_enter Try.func50, Try.ntmps50
        go_wp2_with (go_at_call 18; refine hon.mono ?_; rintro e w' ⟨rfl, rfl⟩)
        go_ret
        exact ⟨rfl, HD.out⟩
      · have d2 : decide (2048 ≤ at') = false := by simp; omega
        by_cases h32 : t.size ≤ 32
        · have d32 : decide ((t.size : Int) > 32) = false := by simp; omega
          obtain ⟨k, rfl⟩ : ∃ k : Nat, at' = (k : Int) := ⟨at'.toNat, by omega⟩
          have hg : Gp ((k : Int), t) := ⟨by show (0 : Int) ≤ k; omega, by show (k : Int) < 2048; omega, h32⟩
          have hwe : we s.left (k : Int) t = 0 := we_good h0 hg
          have hnx : nx s (k : Int) t = ⟨s.img, s.log ++ [((k : Int), t)], nl s.left⟩ := by unfold nx; rw [if_pos hwe]
          rw [hwe, hnx]
          obtain ⟨i0, hi, hz0, hz1, hz2⟩ := info_parts infoW
          obtain ⟨g, cap, rfl⟩ := h.ys
          obtain ⟨a0, cap0, rfl⟩ := row_spell h.log
          have HD : Hid (Rk N w p s f (.slice (some ⟨g, 0, none⟩) 2048 cap) (.slice a0 s.log.length cap0)) := h
          have hblo := h.blo
          unfold RwS at hblo
          rw [tx_length] at hblo
          have hcell : w.cell? ⟨g, k, none⟩ = some (.string ((tx s.bl 2048).getD k ⟨#[]⟩)) := by
            rw [hblo.cellAt k (by omega)]; exact cellsS_get _ k (by simp; omega)
          have hfz := hblo.frozenAt k
          have c1 := h.c1
          have k1 : Kept (fun j => j = g) w (w.setCell ⟨g, k, none⟩ (.string t)) := (Kept.refl (fun j => j = g) w).setCell (p := ⟨g, k, none⟩) (fun _ => rfl) _
          have hgp : g ≠ p := h.yq g rfl
          have c2 := k1.cell h.c2 (fun e => hgp e.symm)
          have HRW : Hid ((w.setCell ⟨g, k, none⟩ (.string t)).ownsRow N 84 2 (.slice a0 s.log.length cap0) s.log.length (cellsW s.log)) := k1.row h.log (fun j e e' => by subst e'; exact h.xy j e rfl)
          obtain ⟨n, hn⟩ : ∃ n, s.log.length = n := ⟨_, rfl⟩
          obtain ⟨l, hl0⟩ : ∃ l, s.left = l := ⟨_, rfl⟩
          have HN' : Hid (s.log.length = n) := hn
          have HL' : Hid (s.left = l) := hl0
          have hp1 := h.ok.p1
          have hp2 := h.ok.p2
          rw [hl0] at hp1 hp2 h0
          rw [hn] at hl HRW c2
          have kk1 : (0 : Int) ≤ (k : Int) := by omega
          have kk2 : (k : Int) < 2048 := by omega
          obtain ⟨u, hu⟩ : ∃ u, (tx s.bl 2048).getD k ⟨#[]⟩ = u := ⟨_, rfl⟩
          rw [hu] at hcell
          clear h hwe hnx hblo k1 hu e0 hl0
          go_enter Try.func50, Try.ntmps50
          go_wp2_with (first
            | (go_at_call 18; refine hon.mono ?_; rintro e w' ⟨rfl, rfl⟩)
            | (at_builtin; refine wpList_append_lies _ rfl _ _ _ rfl N 84 i0 _ 2 24 Try.underlying50 hi hz0 hz1 hz2 rfl (by omega) _ n (cellsW s.log) rfl (HRW.out.alloc _) ⟨w'.heap.size, 0, none⟩ 1 1 [.int .i64 (k : Int), .string t] rfl rfl (cell_two_at _ _ _ _ _ (by simp)) (by simp [Value.oneCell']) (by omega) (by unfold maxLen; omega) (by omega) (by simp; omega) (w'.heap.size + 1) (by simp) ?_; intro r cap1 w2 hown2 hgrow2 hat2 hlt2; have HW := HD.out.wrote (r := r) (cap' := cap1) hg _ (by rw [HN'.out]; exact hgrow2) (by rw [HN'.out]; exact hown2) (by rw [HN'.out]; exact hat2); rw [HN'.out] at HW; have e2 : w2.cell? ⟨p, 2, none⟩ = some (.slice a0 n cap0) := (by simp [World.cell?, HW.2.2.2]); have f2 : w2.frozen? ⟨p, 2, none⟩ = false := (by simp [World.frozen?, HW.2.2.2]); have e3 : w2.cell? ⟨p, 3, none⟩ = some (.int .i64 l) := (by simp [World.cell?, HW.2.2.2, HL'.out]); have f3 : w2.frozen? ⟨p, 3, none⟩ = false := (by simp [World.frozen?, HW.2.2.2]); have HW' : Hid _ := HW; clear HW hown2 hgrow2 hat2 hlt2))
          · rename_i hl1
            have hl1' : l ≠ -1 := by intro e; subst e; simp at hl1
            have e : nl s.left = l - 1 := by rw [HL'.out]; unfold nl; rw [if_neg hl1']
            go_ret
            rw [e, HN'.out]
            exact ⟨rfl, _, HW'.out.1.power (l - 1) (by omega) (by omega), HW'.out.2.1.setCell (p := ⟨p, 3, none⟩) (fun _ => .inl rfl) _, HW'.out.2.2.1⟩
          · rename_i hl1
            have hl1' : l = -1 := by have : ¬ (0 < l) := by simpa using hl1
                                     omega
            have e : nl s.left = s.left := by rw [HL'.out]; unfold nl; rw [if_pos hl1', hl1']
            go_ret
            rw [e, HN'.out]
            exact ⟨rfl, _, HW'.out.1, HW'.out.2.1, HW'.out.2.2.1⟩
        · have d32 : decide ((t.size : Int) > 32) = true := by simp; omega
          have hwe : we s.left at' t = 9 := by unfold we; rw [if_neg h0, if_neg (by omega), if_pos (by omega)]
          have hnx : nx s at' t = s := by unfold nx; rw [if_neg (by rw [hwe]; decide)]
          rw [hwe, hnx]
          have HD : Hid _ := h.same
          clear h hwe hnx
          go_enter Try.func50, Try.ntmps50
          go_wp2_with (go_at_call 18; refine hon.mono ?_; rintro e w' ⟨rfl, rfl⟩)
          go_ret
          exact ⟨rfl, HD.out⟩
end Go.Proofs.Ytohgflimdoebiaa.Dk
/- Contracts: Trim, the document's Image; Same, SameWrites. -/
namespace Go.Proofs.Ytohgflimdoebiaa.Dk
open Go.RowKit Go.Maps
set_option linter.unusedVariables false
set_option linter.unusedSimpArgs false

set_option maxHeartbeats 2000000 in
set_option maxRecDepth 100000 in
theorem trim_any (g cap : Nat) (B : Bl) (w : World) (hcap : 2048 ≤ cap) (hr : RdS w (some ⟨g, 0, none⟩) (tx B 2048)) :
    Calls Try.prog 40 #[.slice (some ⟨g, 0, none⟩) 2048 cap] w fun e w' => ∃ v', e = .returned v' ∧ RwS w' w.heap.size v' (im B) ∧ Below w.heap.size w w' := by
  obtain ⟨i0, hi, hz0, hz1, hz2⟩ := info_parts infoS
  have HR : Hid (RdS w (some ⟨g, 0, none⟩) (tx B 2048)) := hr
  obtain ⟨z, hz⟩ : ∃ z, 2048 = z := ⟨_, rfl⟩
  have HZ : Hid (2048 = z) := hz
  have hz9 : z < 3000 := by omega
  rw [hz] at hcap ⊢
  clear hr hz
  go_enter Try.func40, Try.ntmps40
  go_wp2_with fail
  go_loopw [3, 8] (fun nv i wr => ∃ j : Nat, j ≤ z ∧ i = .int .i64 (j : Int) ∧ nv = .int .i64 ((topn B j : Nat) : Int) ∧ wr = w) (fun _ i _ => z - (intOf i).toNat)
  case atStart => exact ⟨0, by omega, rfl, rfl, rfl⟩
  case round =>
    obtain ⟨j, hj, rfl, rfl, rfl⟩ := hrel
    by_cases hjz : j < z
    · obtain ⟨b', o', e', x0⟩ := HR.out j (by rw [tx_length, HZ.out]; exact hjz)
      obtain ⟨rfl, rfl⟩ : g = b' ∧ 0 = o' := by simpa using e'
      rw [tx_getD _ _ _ (by rw [HZ.out]; exact hjz), Nat.zero_add] at x0
      have htl := topn_le B j
      have htn : topn B (j + 1) = if (B (j : Int)).size = 0 then topn B j else j + 1 := rfl
      obtain ⟨t, et⟩ : ∃ t, B (j : Int) = t := ⟨_, rfl⟩
      rw [et] at x0 htn
      have HTN : Hid (topn B (j + 1) = if t.size = 0 then topn B j else j + 1) := htn
      obtain ⟨T, eT⟩ : ∃ T, topn B j = T := ⟨_, rfl⟩
      rw [eT] at HTN htl ⊢
      have j1 : (0 : Int) ≤ (j : Int) := by omega
      have j2 : (j : Int) < (z : Int) := by omega
      clear htn et e' eT
      by_cases h0 : t.size = 0
      · have et := nob_of h0
        subst et
        go_wp2
        go_roundw
        case rel => exact ⟨j + 1, by omega, by go_num, by rw [HTN.out, if_pos h0], trivial⟩
        case measure => simp [intOf]; omega
      · have hb1 : t.toList.isEmpty = false := nob_no h0
        go_wp2
        go_roundw
        case rel => exact ⟨j + 1, by omega, by go_num, by rw [HTN.out, if_neg h0]; go_num, trivial⟩
        case measure => simp [intOf]; omega
    · have hjk' : decide ((j : Int) < (z : Int)) = false := by simp; omega
      have ej : j = 2048 := by have := HZ.out; omega
      have hT : topn B j = top B := by rw [ej]; rfl
      have hTl := top_le B
      obtain ⟨T, eT⟩ : ∃ T, top B = T := ⟨_, rfl⟩
      rw [eT] at hT hTl
      rw [hT]
      have HT : Hid (top B = T) := eT
      have HRT : Hid (RdS wr (some ⟨g, 0, none⟩) (im B)) := by
        have := HR.out.take T
        rw [tx_take _ _ _ hTl, ← eT] at this
        exact this
      have hcl : (cellsS (im B)).length = T * 1 := by rw [cellsS_length, im_length, eT]; omega
      have HCL : Hid ((cellsS (im B)).length = T * 1) := hcl
      have HNW : Hid _ := (HRT.out.later (below1 wr (.cells #[] 9))).news
      have HE0 : Hid _ := row_empty wr 9 1
      have HBB : Hid _ := below1 wr (.cells #[] 9)
      have t1 : (0 : Int) ≤ (T : Int) := by omega
      have t2 : (T : Int) ≤ (cap : Int) := by have := HZ.out; omega
      clear hT ej hcl eT
      by_cases h0 : T = 0
      · have H0 : Hid (T = 0) := h0
        clear h0
        go_wp2_with (at_builtin; refine wpList_append_fits _ rfl _ _ _ rfl wr.heap.size 9 i0 1 Try.underlying22 hi hz1 wr.heap.size 0 0 [] rfl HE0.out ⟨g, 0, none⟩ T cap (cellsS (im B)) rfl HCL.out HNW.out (cellsS_one _) (by have := H0.out; omega) ?_; intro w2 hown2 hgrow2; rw [Nat.zero_add, List.nil_append] at hown2; have HO2 : Hid _ := hown2; have HG2 : Hid _ := hgrow2; clear hown2 hgrow2)
        go_ret
        refine ⟨_, rfl, ?_, HBB.out.grown HG2.out HBB.out.size (fun j hj => by cases hj; exact Nat.le_refl _)⟩
        unfold RwS; rw [im_length, HT.out]; exact HO2.out
      · have h0' : 0 < T := by omega
        go_wp2_with (at_builtin; refine wpList_append_lies _ rfl _ _ _ rfl wr.heap.size 9 i0 _ 1 16 Try.underlying22 hi hz0 hz1 hz2 rfl (by omega) _ 0 [] rfl HE0.out ⟨g, 0, none⟩ T cap (cellsS (im B)) rfl HCL.out HNW.out (cellsS_one _) h0' (by unfold maxLen; omega) (by omega) (by simp) (wr.heap.size + 1) (by simp) ?_; intro g2 cap2 w2 hown2 hgrow2 hat2 hlt2; rw [Nat.zero_add, List.nil_append] at hown2; have HO2 : Hid _ := hown2; have HG2 : Hid _ := hgrow2; clear hown2 hgrow2 hat2 hlt2)
        go_ret
        refine ⟨_, rfl, ?_, HBB.out.grown HG2.out HBB.out.size (fun j hj => by cases hj; exact Nat.le_refl _)⟩
        unfold RwS; rw [im_length, HT.out]; exact HO2.out
set_option maxRecDepth 100000 in
theorem rImage_any (N : Nat) (w : World) (q : Nat) (s : St) (f y x : Value) (h : Rk N w q s f y x) : Calls Try.prog 24 #[.pointer (some ⟨q, 0, none⟩)] w fun e w' => ∃ v', e = .returned v' ∧ RwS w' w.heap.size v' (im s.bl) ∧ Below w.heap.size w w' := by
  have c1 := h.c1
  obtain ⟨g, cap, rfl⟩ := h.ys
  have hcap : 2048 ≤ cap := by
    rcases h.blo.2 with ⟨hv, _⟩ | ⟨g', cap', cur, hv, _, _, h1, _⟩
    · cases hv
    · cases hv; simpa using h1
  have ht := trim_any g cap s.bl w hcap h.blo.rd
  obtain ⟨z, hz⟩ : ∃ z, 2048 = z := ⟨_, rfl⟩
  rw [hz] at c1 ht
  clear h hz hcap
  go_enter Try.func24, Try.ntmps24
  go_wp2_with fail
  refine ht.mono ?_
  rintro e w' ⟨v', rfl, hr, hb⟩
  go_wp2
  go_ret
  exact ⟨_, rfl, hr, hb⟩
theorem toList_beq (t : ByteArray) : (t.toList == t.toList) = true := by simp
set_option maxHeartbeats 2000000 in
theorem same_any (a a' : Option Addr) (c c' : Nat) (l : List ByteArray) (w : World) (hl : l.length ≤ 8796093022208) (h1 : RdS w a l) (h2 : RdS w a' l) :
    Calls Try.prog 10 #[.slice a l.length c, .slice a' l.length c'] w fun e w' => e = .returned (.bool true) ∧ Below w.heap.size w w' := by
  have H1 : Hid (RdS w a l) := h1
  have H2 : Hid (RdS w a' l) := h2
  obtain ⟨n, hn⟩ : ∃ n, l.length = n := ⟨_, rfl⟩
  have HN : Hid (l.length = n) := hn
  rw [hn] at hl ⊢
  clear h1 h2 hn
  go_enter Try.func10, Try.ntmps10
  go_wp2_with fail
  go_loopw [13] (fun i wr => ∃ k : Nat, k ≤ n ∧ i = .int .i64 (k : Int) ∧ Below w.heap.size w wr) (fun i _ => n - (intOf i).toNat)
  case atStart => exact ⟨0, by omega, rfl, Below.refl _ _⟩
  case round =>
    obtain ⟨k, hk, rfl, hb⟩ := hrel
    have HB : Hid (Below w.heap.size w wr) := hb
    by_cases hkn : k < n
    · obtain ⟨b, o, e1, x0⟩ := H1.out k (by rw [HN.out]; exact hkn)
      obtain ⟨b', o', e2, y0⟩ := H2.out k (by rw [HN.out]; exact hkn)
      have x1 := cell_later hb (Nat.le_refl _) x0
      have y1 := cell_later hb (Nat.le_refl _) y0
      obtain ⟨t, et⟩ : ∃ t, l.getD k ⟨#[]⟩ = t := ⟨_, rfl⟩
      rw [et] at x1 y1
      subst e1 e2
      have j1 : (0 : Int) ≤ (k : Int) := by omega
      have j2 : (k : Int) < (n : Int) := by omega
      clear et x0 y0 hb
      go_wp2_with fail
      go_region_held3 (fun w' => w'.cell? ⟨b, o + k, none⟩ = some (.string t) ∧ w'.cell? ⟨b', o' + k, none⟩ = some (.string t)) (go_keep) (fail)
      go_wp2
      go_roundw
      case rel => exact ⟨k + 1, by omega, by go_num, HB.out.drew⟩
      case measure => simp [intOf]; omega
    · have hjk' : decide ((k : Int) < (n : Int)) = false := by simp; omega
      clear hb
      go_wp2
      go_ret
      exact ⟨rfl, HB.out⟩
set_option maxHeartbeats 2000000 in
theorem sameW_any (a a' : Option Addr) (c c' : Nat) (l : List (Int × ByteArray)) (w : World) (hl : l.length ≤ 8796093022208) (h1 : RdW w a l) (h2 : RdW w a' l) :
    Calls Try.prog 21 #[.slice a l.length c, .slice a' l.length c'] w fun e w' => e = .returned (.bool true) ∧ Below w.heap.size w w' := by
  have H1 : Hid (RdW w a l) := h1
  have H2 : Hid (RdW w a' l) := h2
  obtain ⟨n, hn⟩ : ∃ n, l.length = n := ⟨_, rfl⟩
  have HN : Hid (l.length = n) := hn
  rw [hn] at hl ⊢
  clear h1 h2 hn
  go_enter Try.func21, Try.ntmps21
  go_wp2_with fail
  go_loopw [13] (fun i wr => ∃ k : Nat, k ≤ n ∧ i = .int .i64 (k : Int) ∧ Below w.heap.size w wr) (fun i _ => n - (intOf i).toNat)
  case atStart => exact ⟨0, by omega, rfl, Below.refl _ _⟩
  case round =>
    obtain ⟨k, hk, rfl, hb⟩ := hrel
    have HB : Hid (Below w.heap.size w wr) := hb
    by_cases hkn : k < n
    · obtain ⟨b, o, e1, x0, u0⟩ := H1.out k (by rw [HN.out]; exact hkn)
      obtain ⟨b', o', e2, y0, v0⟩ := H2.out k (by rw [HN.out]; exact hkn)
      have x1 := cell_later hb (Nat.le_refl _) x0
      have y1 := cell_later hb (Nat.le_refl _) y0
      have xx1 := cell_later hb (Nat.le_refl _) u0
      have yy1 := cell_later hb (Nat.le_refl _) v0
      obtain ⟨i, t, et⟩ : ∃ i t, l.getD k (0, ⟨#[]⟩) = (i, t) := ⟨_, _, rfl⟩
      rw [et] at x1 y1 xx1 yy1
      subst e1 e2
      have j1 : (0 : Int) ≤ (k : Int) := by omega
      have j2 : (k : Int) < (n : Int) := by omega
      clear et x0 y0 u0 v0 hb
      go_wp2_with fail
      go_region_held3 (fun w' => w'.cell? ⟨b, o + k * 2, none⟩ = some (.int .i64 i) ∧ w'.cell? ⟨b, o + k * 2 + 1, none⟩ = some (.string t) ∧ w'.cell? ⟨b', o' + k * 2, none⟩ = some (.int .i64 i) ∧ w'.cell? ⟨b', o' + k * 2 + 1, none⟩ = some (.string t)) (go_keep) (fail)
      go_wp2
      go_roundw
      case rel => exact ⟨k + 1, by omega, by go_num, HB.out.drew⟩
      case measure => simp [intOf]; omega
    · have hjk' : decide ((k : Int) < (n : Int)) = false := by simp; omega
      clear hb
      go_wp2
      go_ret
      exact ⟨rfl, HB.out⟩
end Go.Proofs.Ytohgflimdoebiaa.Dk
