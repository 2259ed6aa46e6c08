/- Contracts of the document's disk: Write, Trim, Image. -/
import Derived.Test.YtohgflimdoebiaaDrA
namespace Go.Proofs.Ytohgflimdoebiaa.Dk
open Go.RowKit Go.Maps
set_option linter.unusedVariables false
set_option linter.unusedSimpArgs false

theorem tx_set (B : Bl) (k : Nat) (t : ByteArray) (n : Nat) : tx (setB B (k : Int) t) n = (tx B n).set k t := by
  apply List.ext_getElem
  · simp
  · intro i h1 h2
    simp only [tx, List.getElem_map, List.getElem_range, List.getElem_set]
    by_cases e : k = i
    · subst e; simp
    · rw [if_neg e, setB_other _ _ (by omega)]
theorem Rk.wrote {N : Nat} {w w2 : World} {q : Nat} {s : St} {f x : Value} {g cap r cap' k : Nat} {t : ByteArray} (h : Rk N w q s f (.slice (some ⟨g, 0, none⟩) 2048 cap) x) (hg : Gp ((k : Int), t))
    (o : Obj) (hgr : ((w.setCell ⟨g, k, none⟩ (.string t)).alloc o).grownBy w2 x.ownBlock)
    (hr : w2.ownsRow N 84 2 (.slice (some ⟨r, 0, none⟩) (s.log.length + 1) cap') (s.log.length + 1) (cellsW s.log ++ [.int .i64 (k : Int), .string t]))
    (hr2 : x.ownBlock = some r ∨ r = w.heap.size + 1) :
    Rk N (w2.setCell ⟨q, 2, none⟩ (.slice (some ⟨r, 0, none⟩) (s.log.length + 1) cap')) q ⟨s.img, s.log ++ [((k : Int), t)], s.left⟩ f (.slice (some ⟨g, 0, none⟩) 2048 cap) (.slice (some ⟨r, 0, none⟩) (s.log.length + 1) cap') ∧
    Kept (Fr q f (.slice (some ⟨g, 0, none⟩) 2048 cap) x) w (w2.setCell ⟨q, 2, none⟩ (.slice (some ⟨r, 0, none⟩) (s.log.length + 1) cap')) ∧
    (∀ j, Fr q f (.slice (some ⟨g, 0, none⟩) 2048 cap) (.slice (some ⟨r, 0, none⟩) (s.log.length + 1) cap') j → Fr q f (.slice (some ⟨g, 0, none⟩) 2048 cap) x j ∨ w.heap.size ≤ j) ∧
    w2.heap[q]? = some (.cells #[f, .slice (some ⟨g, 0, none⟩) 2048 cap, x, .int .i64 s.left] 53) := by
  have hql := h.qlt
  have k1 : Kept (fun j => j = g) w (w.setCell ⟨g, k, none⟩ (.string t)) := (Kept.refl (fun j => j = g) w).setCell (p := ⟨g, k, none⟩) (fun _ => rfl) _
  have k12 : Kept (fun j => x.ownBlock = some j) (w.setCell ⟨g, k, none⟩ (.string t)) w2 := ((Kept.refl (fun j => x.ownBlock = some j) _).alloc o).grown hgr (fun j e _ => e)
  have k2 : Kept (fun j => j = g ∨ x.ownBlock = some j) w w2 := (k1.mono (fun _ _ e => .inl e)).trans k12 (fun i _ e => .inr e)
  have hqq : ¬ (q = g ∨ x.ownBlock = some q) := fun e => by
    rcases e with e | e
    · exact h.yq g rfl e.symm
    · exact h.xq q e rfl
  have hrq : r ≠ q := by
    rcases hr2 with e | e
    · exact h.xq r e
    · omega
  have hblk := (k2.block q hql hqq).trans h.blk
  have ks : Kept (fun j => j = q) w2 (w2.setCell ⟨q, 2, none⟩ (.slice (some ⟨r, 0, none⟩) (s.log.length + 1) cap')) := (Kept.refl (fun j => j = q) w2).setCell (p := ⟨q, 2, none⟩) (fun _ => rfl) _
  have hf2 : RwS w2 N f s.img := k2.row h.fst (fun j e e' => by
    rcases e' with e' | e'
    · subst e'; exact h.ne j e rfl
    · exact h.xf j e' e)
  have hy := h.blo
  unfold RwS at hy
  rw [tx_length] at hy
  have hy1 := (hy.stored k (.string t)).1
  rw [cellsS_set, ← tx_set] at hy1
  have hy2 := k12.row hy1 (fun j e e' => h.xy j e' e)
  have hbl : (St.mk s.img (s.log ++ [((k : Int), t)]) s.left).bl = setB s.bl (k : Int) t := by simp [St.bl, rp_snoc]
  refine ⟨⟨?_, ks.row hf2 (fun j e e' => h.fq j e e'), ?_, ?_, h.ne, h.nq, ⟨h.ok.i1, h.ok.i2, ?_, h.ok.p1, h.ok.p2⟩⟩, ?_, ?_, hblk⟩
  · rw [blk_set hblk]; simp
  · unfold RwS
    rw [tx_length, hbl]
    exact ks.row hy2 (fun j e e' => h.yq j e e')
  · have e1 : cellsW s.log ++ [.int .i64 (k : Int), .string t] = cellsW (s.log ++ [((k : Int), t)]) := by rw [cellsW_append]; rfl
    rw [e1] at hr
    have := ks.row hr (fun j e e' => by cases e; exact hrq e')
    unfold RwW
    simpa using this
  · intro p hp
    rcases List.mem_append.1 hp with hp | hp
    · exact h.ok.l1 p hp
    · simp at hp; subst hp; exact hg
  · refine (k2.mono ?_).setCell (fun _ => .inl rfl) _
    intro j _ e
    rcases e with e | e
    · exact .inr (.inr (.inl (by rw [e]; rfl)))
    · exact .inr (.inr (.inr e))
  · intro j hj
    rcases hj with e | e | e | e
    · exact .inl (.inl e)
    · exact .inl (.inr (.inl e))
    · exact .inl (.inr (.inr (.inl e)))
    · cases e
      rcases hr2 with e | e
      · exact .inl (.inr (.inr (.inr e)))
      · exact .inr (by show w.heap.size ≤ r; omega)
def RWrote (N : Nat) (w : World) (q : Nat) (s : St) (f y x : Value) (w' : World) : Prop := ∃ x', Rk N w' q s f y x' ∧ Kept (Fr q f y x) w w' ∧ (∀ j, Fr q f y x' j → Fr q f y x j ∨ w.heap.size ≤ j)
theorem Rk.same {N : Nat} {w : World} {q : Nat} {s : St} {f y x : Value} (h : Rk N w q s f y x) : RWrote N w q s f y x w := ⟨x, h, Kept.refl _ _, fun k hk => .inl hk⟩
set_option maxHeartbeats 2000000 in
set_option maxRecDepth 100000 in
theorem rWrite_any (N : Nat) (w : World) (p : Nat) (s : St) (f y x : Value) (h : Rk N w p s f y x) (at' : Int) (t : ByteArray) (ht : t.size ≤ 9223372036854775807) (hl : s.log.length + 1 ≤ 5864062014805) (hN : N ≤ w.heap.size) :
    Calls Try.prog 50 #[.pointer (some ⟨p, 0, none⟩), .int .i64 at', .string t] w fun e w' => e = .returned (.int .i64 (we s.left at' t)) ∧ RWrote N w p (nx s at' t) f y x w' := by
  have hon := rOn_any N w p s f y x h
  by_cases h0 : s.left = 0
  · have e0 : decide (s.left ≠ 0) = false := by simp [h0]
    have hwe : we s.left at' t = 11 := by simp [we, h0]
    have hnx : nx s at' t = s := by unfold nx; rw [if_neg (by rw [hwe]; decide)]
    rw [e0] at hon
    rw [hwe, hnx]
    have HD : Hid _ := h.same
    clear h hwe hnx
    go_enter Try.func50, Try.ntmps50
    go_wp2_with (go_at_call 18; refine hon.mono ?_; rintro e w' ⟨rfl, rfl⟩)
    go_ret
    exact ⟨rfl, HD.out⟩
  · have e0 : decide (s.left ≠ 0) = true := by simp [h0]
    rw [e0] at hon
    by_cases h1 : at' < 0
    · have hwe : we s.left at' t = 8 := by simp [we, h0, h1]
      have hnx : nx s at' t = s := by unfold nx; rw [if_neg (by rw [hwe]; decide)]
      rw [hwe, hnx]
      have HD : Hid _ := h.same
      clear h hwe hnx
      go_enter Try.func50, Try.ntmps50
      go_wp2_with (go_at_call 18; refine hon.mono ?_; rintro e w' ⟨rfl, rfl⟩)
      go_ret
      exact ⟨rfl, HD.out⟩
    · have d1 : decide (at' < 0) = false := by simp; omega
      by_cases h2 : 2048 ≤ at'
      · have hwe : we s.left at' t = 8 := by simp [we, h0, h2]
        have hnx : nx s at' t = s := by unfold nx; rw [if_neg (by rw [hwe]; decide)]
        rw [hwe, hnx]
        have HD : Hid _ := h.same
        clear h hwe hnx
        go_enter Try.func50, Try.ntmps50
        go_wp2_with (go_at_call 18; refine hon.mono ?_; rintro e w' ⟨rfl, rfl⟩)
        go_ret
        exact ⟨rfl, HD.out⟩
      · have d2 : decide (2048 ≤ at') = false := by simp; omega
        by_cases h32 : t.size ≤ 32
        · have d32 : decide ((t.size : Int) > 32) = false := by simp; omega
          obtain ⟨k, rfl⟩ : ∃ k : Nat, at' = (k : Int) := ⟨at'.toNat, by omega⟩
          have hg : Gp ((k : Int), t) := ⟨by show (0 : Int) ≤ k; omega, by show (k : Int) < 2048; omega, h32⟩
          have hwe : we s.left (k : Int) t = 0 := we_good h0 hg
          have hnx : nx s (k : Int) t = ⟨s.img, s.log ++ [((k : Int), t)], nl s.left⟩ := by unfold nx; rw [if_pos hwe]
          rw [hwe, hnx]
          obtain ⟨i0, hi, hz0, hz1, hz2⟩ := info_parts infoW
          obtain ⟨g, cap, rfl⟩ := h.ys
          obtain ⟨a0, cap0, rfl⟩ := row_spell h.log
          have HD : Hid (Rk N w p s f (.slice (some ⟨g, 0, none⟩) 2048 cap) (.slice a0 s.log.length cap0)) := h
          have hblo := h.blo
          unfold RwS at hblo
          rw [tx_length] at hblo
          have hcell : w.cell? ⟨g, k, none⟩ = some (.string ((tx s.bl 2048).getD k ⟨#[]⟩)) := by
            rw [hblo.cellAt k (by omega)]; exact cellsS_get _ k (by simp; omega)
          have hfz := hblo.frozenAt k
          have c1 := h.c1
          have k1 : Kept (fun j => j = g) w (w.setCell ⟨g, k, none⟩ (.string t)) := (Kept.refl (fun j => j = g) w).setCell (p := ⟨g, k, none⟩) (fun _ => rfl) _
          have hgp : g ≠ p := h.yq g rfl
          have c2 := k1.cell h.c2 (fun e => hgp e.symm)
          have HRW : Hid ((w.setCell ⟨g, k, none⟩ (.string t)).ownsRow N 84 2 (.slice a0 s.log.length cap0) s.log.length (cellsW s.log)) := k1.row h.log (fun j e e' => by subst e'; exact h.xy j e rfl)
          obtain ⟨n, hn⟩ : ∃ n, s.log.length = n := ⟨_, rfl⟩
          obtain ⟨l, hl0⟩ : ∃ l, s.left = l := ⟨_, rfl⟩
          have HN' : Hid (s.log.length = n) := hn
          have HL' : Hid (s.left = l) := hl0
          have hp1 := h.ok.p1
          have hp2 := h.ok.p2
          rw [hl0] at hp1 hp2 h0
          rw [hn] at hl HRW c2
          have kk1 : (0 : Int) ≤ (k : Int) := by omega
          have kk2 : (k : Int) < 2048 := by omega
          obtain ⟨u, hu⟩ : ∃ u, (tx s.bl 2048).getD k ⟨#[]⟩ = u := ⟨_, rfl⟩
          rw [hu] at hcell
          clear h hwe hnx hblo k1 hu e0 hl0
          go_enter Try.func50, Try.ntmps50
          go_wp2_with (first
            | (go_at_call 18; refine hon.mono ?_; rintro e w' ⟨rfl, rfl⟩)
            | (at_builtin; refine wpList_append_lies _ rfl _ _ _ rfl N 84 i0 _ 2 24 Try.underlying50 hi hz0 hz1 hz2 rfl (by omega) _ n (cellsW s.log) rfl (HRW.out.alloc _) ⟨w'.heap.size, 0, none⟩ 1 1 [.int .i64 (k : Int), .string t] rfl rfl (cell_two_at _ _ _ _ _ (by simp)) (by simp [Value.oneCell']) (by omega) (by unfold maxLen; omega) (by omega) (by simp; omega) (w'.heap.size + 1) (by simp) ?_; intro r cap1 w2 hown2 hgrow2 hat2 hlt2; have HW := HD.out.wrote (r := r) (cap' := cap1) hg _ (by rw [HN'.out]; exact hgrow2) (by rw [HN'.out]; exact hown2) (by rw [HN'.out]; exact hat2); rw [HN'.out] at HW; have e2 : w2.cell? ⟨p, 2, none⟩ = some (.slice a0 n cap0) := (by simp [World.cell?, HW.2.2.2]); have f2 : w2.frozen? ⟨p, 2, none⟩ = false := (by simp [World.frozen?, HW.2.2.2]); have e3 : w2.cell? ⟨p, 3, none⟩ = some (.int .i64 l) := (by simp [World.cell?, HW.2.2.2, HL'.out]); have f3 : w2.frozen? ⟨p, 3, none⟩ = false := (by simp [World.frozen?, HW.2.2.2]); have HW' : Hid _ := HW; clear HW hown2 hgrow2 hat2 hlt2))
          · rename_i hl1
            have hl1' : l ≠ -1 := by intro e; subst e; simp at hl1
            have e : nl s.left = l - 1 := by rw [HL'.out]; unfold nl; rw [if_neg hl1']
            go_ret
            rw [e, HN'.out]
            exact ⟨rfl, _, HW'.out.1.power (l - 1) (by omega) (by omega), HW'.out.2.1.setCell (p := ⟨p, 3, none⟩) (fun _ => .inl rfl) _, HW'.out.2.2.1⟩
          · rename_i hl1
            have hl1' : l = -1 := by have : ¬ (0 < l) := by simpa using hl1
                                     omega
            have e : nl s.left = s.left := by rw [HL'.out]; unfold nl; rw [if_pos hl1', hl1']
            go_ret
            rw [e, HN'.out]
            exact ⟨rfl, _, HW'.out.1, HW'.out.2.1, HW'.out.2.2.1⟩
        · have d32 : decide ((t.size : Int) > 32) = true := by simp; omega
          have hwe : we s.left at' t = 9 := by unfold we; rw [if_neg h0, if_neg (by omega), if_pos (by omega)]
          have hnx : nx s at' t = s := by unfold nx; rw [if_neg (by rw [hwe]; decide)]
          rw [hwe, hnx]
          have HD : Hid _ := h.same
          clear h hwe hnx
          go_enter Try.func50, Try.ntmps50
          go_wp2_with (go_at_call 18; refine hon.mono ?_; rintro e w' ⟨rfl, rfl⟩)
          go_ret
          exact ⟨rfl, HD.out⟩
end Go.Proofs.Ytohgflimdoebiaa.Dk
