/- The document's disk in memory; its small functions. -/
import Derived.Test.YtohgflimdoebiaaDkC
namespace Go.Proofs.Ytohgflimdoebiaa.Dk
open Go.RowKit Go.Maps
set_option linter.unusedVariables false
set_option linter.unusedSimpArgs false

structure Rk (N : Nat) (w : World) (q : Nat) (s : St) (f y x : Value) : Prop where
  blk : w.heap[q]? = some (.cells #[f, y, x, .int .i64 s.left] 53)
  fst : RwS w N f s.img
  blo : RwS w N y (tx s.bl 2048)
  log : RwW w N x s.log
  ne : ∀ k, f.ownBlock = some k → y.ownBlock ≠ some k
  nq : N ≤ q
  ok : s.Ok
def Fr (q : Nat) (f y x : Value) (k : Nat) : Prop := k = q ∨ f.ownBlock = some k ∨ y.ownBlock = some k ∨ x.ownBlock = some k
theorem row_type {w : World} {N e z n : Nat} {v : Value} {xs : List Value} (h : w.ownsRow N e z v n xs) : ∀ k, v.ownBlock = some k → N ≤ k ∧ k < w.heap.size ∧ ∃ cur, w.heap[k]? = some (.cells cur e (0, 0)) := fun k hk => by
  have hlt := h.lt k hk
  rcases h.2 with ⟨h0, _⟩ | ⟨g, cap, cur, rfl, hb, hgg, rest⟩
  · subst h0; cases hk
  · cases hk; exact ⟨hlt.1, hlt.2, cur, hgg⟩
section
variable {N : Nat} {w w' : World} {q : Nat} {s : St} {f y x : Value}
theorem Rk.c0 (h : Rk N w q s f y x) : w.cell? ⟨q, 0, none⟩ = some f := by simp [World.cell?, h.blk]
theorem Rk.c1 (h : Rk N w q s f y x) : w.cell? ⟨q, 1, none⟩ = some y := by simp [World.cell?, h.blk]
theorem Rk.c2 (h : Rk N w q s f y x) : w.cell? ⟨q, 2, none⟩ = some x := by simp [World.cell?, h.blk]
theorem Rk.c3 (h : Rk N w q s f y x) : w.cell? ⟨q, 3, none⟩ = some (.int .i64 s.left) := by simp [World.cell?, h.blk]
theorem Rk.fr (h : Rk N w q s f y x) (j : Nat) : w.frozen? ⟨q, j, none⟩ = false := by simp [World.frozen?, h.blk]
theorem Rk.qlt (h : Rk N w q s f y x) : q < w.heap.size := (Array.getElem?_eq_some_iff.1 h.blk).1
theorem Rk.fq (h : Rk N w q s f y x) : ∀ k, f.ownBlock = some k → k ≠ q := fun k hk e => by
  subst e
  obtain ⟨_, _, cur, hh⟩ := row_type h.fst k hk
  have := h.blk; rw [hh] at this; simp at this
theorem Rk.yq (h : Rk N w q s f y x) : ∀ k, y.ownBlock = some k → k ≠ q := fun k hk e => by
  subst e
  obtain ⟨_, _, cur, hh⟩ := row_type h.blo k hk
  have := h.blk; rw [hh] at this; simp at this
theorem Rk.xq (h : Rk N w q s f y x) : ∀ k, x.ownBlock = some k → k ≠ q := fun k hk e => by
  subst e
  obtain ⟨_, _, cur, hh⟩ := row_type h.log k hk
  have := h.blk; rw [hh] at this; simp at this
theorem Rk.xf (h : Rk N w q s f y x) : ∀ k, x.ownBlock = some k → f.ownBlock ≠ some k := fun k hk e => by
  obtain ⟨_, _, cur, hh⟩ := row_type h.log k hk
  obtain ⟨_, _, cur', hh'⟩ := row_type h.fst k e
  rw [hh] at hh'; simp at hh'
theorem Rk.xy (h : Rk N w q s f y x) : ∀ k, x.ownBlock = some k → y.ownBlock ≠ some k := fun k hk e => by
  obtain ⟨_, _, cur, hh⟩ := row_type h.log k hk
  obtain ⟨_, _, cur', hh'⟩ := row_type h.blo k e
  rw [hh] at hh'; simp at hh'
theorem Rk.inHeap (h : Rk N w q s f y x) : ∀ k, Fr q f y x k → k < w.heap.size ∧ N ≤ k := fun k hk => by
  rcases hk with rfl | hk | hk | hk
  · exact ⟨h.qlt, h.nq⟩
  · have := row_type h.fst k hk; exact ⟨this.2.1, this.1⟩
  · have := row_type h.blo k hk; exact ⟨this.2.1, this.1⟩
  · have := row_type h.log k hk; exact ⟨this.2.1, this.1⟩
theorem Rk.kept (h : Rk N w q s f y x) {F : Nat → Prop} (hk : Kept F w w') (hF : ∀ k, Fr q f y x k → ¬ F k) : Rk N w' q s f y x :=
  ⟨(hk.block q h.qlt (hF q (.inl rfl))).trans h.blk, hk.row h.fst (fun k hv => hF k (.inr (.inl hv))), hk.row h.blo (fun k hv => hF k (.inr (.inr (.inl hv)))), hk.row h.log (fun k hv => hF k (.inr (.inr (.inr hv)))), h.ne, h.nq, h.ok⟩
theorem Rk.later (h : Rk N w q s f y x) (hb : Below w.heap.size w w') : Rk N w' q s f y x := h.kept (Kept.ofBelow (F := fun _ => False) hb) (fun _ _ h => h)
theorem Rk.power (h : Rk N w q s f y x) (n : Int) (h1 : -1 ≤ n) (h2 : n ≤ 9223372036854775807) : Rk N (w.setCell ⟨q, 3, none⟩ (.int .i64 n)) q ⟨s.img, s.log, n⟩ f y x := by
  have hk : Kept (fun k => k = q) w (w.setCell ⟨q, 3, none⟩ (.int .i64 n)) := (Kept.refl (fun k => k = q) w).setCell (p := ⟨q, 3, none⟩) (fun _ => rfl) _
  refine ⟨?_, hk.row h.fst (fun k hv => h.fq k hv), hk.row h.blo (fun k hv => h.yq k hv), hk.row h.log (fun k hv => h.xq k hv), h.ne, h.nq, ⟨h.ok.i1, h.ok.i2, h.ok.l1, h1, h2⟩⟩
  rw [blk_set h.blk]; simp
/- The blocks' row. -/
theorem Rk.ys (h : Rk N w q s f y x) : ∃ g cap, y = .slice (some ⟨g, 0, none⟩) 2048 cap := by
  rcases h.blo.2 with ⟨_, h0⟩ | ⟨g, cap, cur, hv, _⟩
  · simp at h0
  · rw [tx_length] at hv
    exact ⟨g, cap, hv⟩
end
theorem rOn_any (N : Nat) (w : World) (p : Nat) (s : St) (f y x : Value) (h : Rk N w p s f y x) : Calls Try.prog 18 #[.pointer (some ⟨p, 0, none⟩)] w fun e w' => e = .returned (.bool (decide (s.left ≠ 0))) ∧ w' = w := by
  have h3 := h.c3
  clear h
  obtain ⟨l, hl⟩ : ∃ l, s.left = l := ⟨_, rfl⟩
  rw [hl] at h3 ⊢
  by_cases h0 : l = 0
  · subst h0
    go_enter Try.func18, Try.ntmps18
    go_wp2
    go_ret
    exact ⟨rfl, rfl⟩
  · go_enter Try.func18, Try.ntmps18
    go_wp2
    go_ret
    exact ⟨ret_bool (by simp [h0]), rfl⟩
theorem rUp_any (N : Nat) (w : World) (p : Nat) (s : St) (f y x : Value) (h : Rk N w p s f y x) (n : Int) (h2 : n ≤ 9223372036854775807) : Calls Try.prog 35 #[.pointer (some ⟨p, 0, none⟩), .int .i64 n] w fun e w' => e = .returned (.tuple #[]) ∧ Rk N w' p ⟨s.img, s.log, max n (-1)⟩ f y x ∧ Kept (Fr p f y x) w w' := by
  have h3 := h.c3
  have hf := h.fr 3
  have hp := h.power (max n (-1)) (by omega) (by omega)
  have hk : Kept (Fr p f y x) w (w.setCell ⟨p, 3, none⟩ (.int .i64 (max n (-1)))) := (Kept.refl _ w).setCell (fun _ => .inl rfl) _
  clear h
  by_cases h0 : n < -1
  · have e : max n (-1) = -1 := by omega
    rw [e] at hp hk ⊢
    go_enter Try.func35, Try.ntmps35
    go_wp2
    go_end0
    exact ⟨rfl, by simpa using hp, by simpa using hk⟩
  · have e : max n (-1) = n := by omega
    rw [e] at hp hk ⊢
    have d1 : decide (n < -1) = false := by simp; omega
    go_enter Try.func35, Try.ntmps35
    go_wp2
    go_end0
    exact ⟨rfl, by simpa using hp, by simpa using hk⟩
theorem rOff_any (N : Nat) (w : World) (p : Nat) (s : St) (f y x : Value) (h : Rk N w p s f y x) : Calls Try.prog 37 #[.pointer (some ⟨p, 0, none⟩)] w fun e w' => e = .returned (.tuple #[]) ∧ Rk N w' p ⟨s.img, s.log, 0⟩ f y x ∧ Kept (Fr p f y x) w w' := by
  have h3 := h.c3
  have hf := h.fr 3
  have hp := h.power 0 (by omega) (by omega)
  have hk : Kept (Fr p f y x) w (w.setCell ⟨p, 3, none⟩ (.int .i64 0)) := (Kept.refl _ w).setCell (fun _ => .inl rfl) _
  clear h
  go_enter Try.func37, Try.ntmps37
  go_wp2
  go_end0
  exact ⟨rfl, by simpa using hp, by simpa using hk⟩
theorem tx_nob (n : Nat) : tx (fun _ => ⟨#[]⟩) n = List.replicate n ⟨#[]⟩ := by
  apply List.ext_getElem
  · simp
  · intro i h1 h2
    simp [tx]
set_option maxHeartbeats 1000000 in
theorem rNew_any (w : World) : Calls Try.prog 14 #[] w fun e w' => ∃ p g cap, e = .returned (.pointer (some ⟨p, 0, none⟩)) ∧ Rk w.heap.size w' p nu (.slice none 0 0) (.slice (some ⟨g, 0, none⟩) 2048 cap) (.slice none 0 0) ∧ Below w.heap.size w w' := by
  obtain ⟨i0, hi, hz0, hz1, hz2⟩ := info_parts infoS
  go_enter Try.func14, Try.ntmps14
  go_wp2_with (at_make; refine wpList_make_full _ rfl _ _ 22 rfl w.heap.size 9 i0 _ 1 Try.underlying22 hi hz0 hz1 .i64 .i64 _ _ 2048 rfl rfl rfl rfl (by rw [hz2]; omega) (by unfold maxLen; omega) (Nat.le_refl _) ?_; intro w1 hrow1 hg1)
  go_ret
  have hb1 : Below w.heap.size w w1 := Below.grown (Below.refl _ _) hg1 (Nat.le_refl _) (fun j hj => by cases hj)
  have hb2 := below1 w1 (.cells #[.slice none 0 0, .slice (some ⟨w.heap.size, 0, none⟩) 2048 2048, .slice none 0 0, .int .i64 (-1)] 53)
  have e0 : nu.bl = fun _ => ⟨#[]⟩ := by unfold St.bl nu rp; simp [fnI_nil]
  refine ⟨w1.heap.size, _, _, rfl, ⟨heap_alloc_new w1 _, World.ownsRow_nil _ _ _ _, ?_, World.ownsRow_nil _ _ _ _, (fun k h => by cases h), hb1.size, nu_ok⟩, Below.more hb1 _⟩
  refine row_later ?_ hb2
  rw [show (Value.string ⟨#[]⟩).cells = #[.string ⟨#[]⟩] from rfl, toList_madeCells_one, Nat.mul_one] at hrow1
  rw [tx_length, e0, tx_nob, cellsS, List.map_replicate]
  exact hrow1
end Go.Proofs.Ytohgflimdoebiaa.Dk
