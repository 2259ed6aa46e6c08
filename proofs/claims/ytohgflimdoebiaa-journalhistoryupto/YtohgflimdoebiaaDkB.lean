/- A disk in memory; its small functions. -/
import Derived.Test.YtohgflimdoebiaaDkA
namespace Go.Proofs.Ytohgflimdoebiaa.Dk
open Go.RowKit Go.Maps
set_option linter.unusedVariables false
set_option linter.unusedSimpArgs false

structure Dk (N : Nat) (w : World) (p : Nat) (s : St) (b m : Nat) (x : Value) : Prop where
  blk : w.heap[p]? = some (.cells #[.map (some b), .map (some m), x, .int .i64 s.left] 77)
  mb : Mp w b (2048 + s.log.length) s.bl
  mm : Mp w m 2048 (fnI s.img)
  row : RwW w N x s.log
  ne : b ≠ m
  np : N ≤ p
  nb : N ≤ b
  nm : N ≤ m
  ok : s.Ok
def Fd (p b m : Nat) (x : Value) (k : Nat) : Prop := k = p ∨ k = b ∨ k = m ∨ x.ownBlock = some k
section
variable {N : Nat} {w w' : World} {p : Nat} {s : St} {b m : Nat} {x : Value}
theorem Dk.c0 (h : Dk N w p s b m x) : w.cell? ⟨p, 0, none⟩ = some (.map (some b)) := by simp [World.cell?, h.blk]
theorem Dk.c1 (h : Dk N w p s b m x) : w.cell? ⟨p, 1, none⟩ = some (.map (some m)) := by simp [World.cell?, h.blk]
theorem Dk.c2 (h : Dk N w p s b m x) : w.cell? ⟨p, 2, none⟩ = some x := by simp [World.cell?, h.blk]
theorem Dk.c3 (h : Dk N w p s b m x) : w.cell? ⟨p, 3, none⟩ = some (.int .i64 s.left) := by simp [World.cell?, h.blk]
theorem Dk.fr (h : Dk N w p s b m x) (j : Nat) : w.frozen? ⟨p, j, none⟩ = false := by simp [World.frozen?, h.blk]
theorem Dk.plt (h : Dk N w p s b m x) : p < w.heap.size := (Array.getElem?_eq_some_iff.1 h.blk).1
theorem Dk.pb (h : Dk N w p s b m x) : p ≠ b := fun e => by
  obtain ⟨es, cl, hh⟩ := h.mb.isMap
  rw [← e, h.blk] at hh; cases hh
theorem Dk.pm (h : Dk N w p s b m x) : p ≠ m := fun e => by
  obtain ⟨es, cl, hh⟩ := h.mm.isMap
  rw [← e, h.blk] at hh; cases hh
theorem Dk.px (h : Dk N w p s b m x) : ∀ k, x.ownBlock = some k → k ≠ p ∧ k ≠ b ∧ k ≠ m ∧ k < w.heap.size ∧ N ≤ k := fun k hk => by
  have hlt := h.row.lt k hk
  rcases h.row.2 with ⟨h0, _⟩ | ⟨g, cap, cur, rfl, hb, hgg, rest⟩
  · subst h0; cases hk
  · cases hk
    refine ⟨fun e => ?_, fun e => ?_, fun e => ?_, hlt.2, hlt.1⟩
    · have e' : g = p := e
      subst e'; have q := h.blk; rw [hgg] at q; simp at q
    · have e' : g = b := e
      subst e'
      obtain ⟨es, cl, hh⟩ := h.mb.isMap
      rw [hgg] at hh; cases hh
    · have e' : g = m := e
      subst e'
      obtain ⟨es, cl, hh⟩ := h.mm.isMap
      rw [hgg] at hh; cases hh
theorem Dk.inHeap (h : Dk N w p s b m x) : ∀ k, Fd p b m x k → k < w.heap.size ∧ N ≤ k := fun k hk => by
  rcases hk with rfl | rfl | rfl | hk
  · exact ⟨h.plt, h.np⟩
  · exact ⟨h.mb.lt, h.nb⟩
  · exact ⟨h.mm.lt, h.nm⟩
  · exact ⟨(h.px k hk).2.2.2.1, (h.px k hk).2.2.2.2⟩
theorem Dk.kept (h : Dk N w p s b m x) {F : Nat → Prop} (hk : Kept F w w') (hF : ∀ k, Fd p b m x k → ¬ F k) : Dk N w' p s b m x :=
  ⟨(hk.block p h.plt (hF p (.inl rfl))).trans h.blk, h.mb.kept hk (hF b (.inr (.inl rfl))), h.mm.kept hk (hF m (.inr (.inr (.inl rfl)))), hk.row h.row (fun k hv => hF k (.inr (.inr (.inr hv)))), h.ne, h.np, h.nb, h.nm, h.ok⟩
theorem Dk.later (h : Dk N w p s b m x) (hb : Below w.heap.size w w') : Dk N w' p s b m x := h.kept (Kept.ofBelow (F := fun _ => False) hb) (fun _ _ h => h)
theorem Dk.spell (h : Dk N w p s b m x) : ∃ a cap, x = .slice a s.log.length cap := row_spell h.row
/- The power is set. -/
theorem Dk.power (h : Dk N w p s b m x) (n : Int) (h1 : -1 ≤ n) (h2 : n ≤ 9223372036854775807) : Dk N (w.setCell ⟨p, 3, none⟩ (.int .i64 n)) p ⟨s.img, s.log, n⟩ b m x := by
  have hk : Kept (fun k => k = p) w (w.setCell ⟨p, 3, none⟩ (.int .i64 n)) := (Kept.refl (fun k => k = p) w).setCell (p := ⟨p, 3, none⟩) (fun _ => rfl) _
  refine ⟨?_, h.mb.kept hk (fun e => h.pb e.symm), h.mm.kept hk (fun e => h.pm e.symm), hk.row h.row (fun k hv => (h.px k hv).1), h.ne, h.np, h.nb, h.nm, ⟨h.ok.i1, h.ok.i2, h.ok.l1, h1, h2⟩⟩
  rw [blk_set h.blk]; simp
end
theorem on_any (N : Nat) (w : World) (p : Nat) (s : St) (b m : Nat) (x : Value) (h : Dk N w p s b m x) : Calls Try.prog 17 #[.pointer (some ⟨p, 0, none⟩)] w fun e w' => e = .returned (.bool (decide (s.left ≠ 0))) ∧ w' = w := by
  have h3 := h.c3
  clear h
  obtain ⟨l, hl⟩ : ∃ l, s.left = l := ⟨_, rfl⟩
  rw [hl] at h3 ⊢
  by_cases h0 : l = 0
  · subst h0
    go_enter Try.func17, Try.ntmps17
    go_wp2
    go_ret
    exact ⟨rfl, rfl⟩
  · go_enter Try.func17, Try.ntmps17
    go_wp2
    go_ret
    exact ⟨ret_bool (by simp [h0]), rfl⟩
theorem refusal_any (N : Nat) (w : World) (p : Nat) (s : St) (b m : Nat) (x : Value) (h : Dk N w p s b m x) (at' : Int) : Calls Try.prog 67 #[.pointer (some ⟨p, 0, none⟩), .int .i64 at'] w fun e w' => e = .returned (.int .i64 (rf s.left at')) ∧ w' = w := by
  have hon := on_any N w p s b m x h
  clear h
  obtain ⟨l, hl⟩ : ∃ l, s.left = l := ⟨_, rfl⟩
  rw [hl] at hon ⊢
  by_cases h0 : l = 0
  · have e0 : decide (l ≠ 0) = false := by simp [h0]
    rw [e0] at hon
    go_enter Try.func67, Try.ntmps67
    go_wp2_with (go_at_call 17; refine hon.mono ?_; rintro e w' ⟨rfl, rfl⟩)
    go_ret
    exact ⟨ret_int (by simp [rf, h0]), rfl⟩
  · have e0 : decide (l ≠ 0) = true := by simp [h0]
    rw [e0] at hon
    by_cases h1 : at' < 0
    · go_enter Try.func67, Try.ntmps67
      go_wp2_with (go_at_call 17; refine hon.mono ?_; rintro e w' ⟨rfl, rfl⟩)
      go_ret
      exact ⟨ret_int (by simp [rf, h0, h1]), rfl⟩
    · by_cases h2 : 2048 ≤ at'
      · have d1 : decide (at' < 0) = false := by simp; omega
        go_enter Try.func67, Try.ntmps67
        go_wp2_with (go_at_call 17; refine hon.mono ?_; rintro e w' ⟨rfl, rfl⟩)
        go_ret
        exact ⟨ret_int (by simp [rf, h0, h2]), rfl⟩
      · have d1 : decide (at' < 0) = false := by simp; omega
        have d2 : decide (2048 ≤ at') = false := by simp; omega
        go_enter Try.func67, Try.ntmps67
        go_wp2_with (go_at_call 17; refine hon.mono ?_; rintro e w' ⟨rfl, rfl⟩)
        go_ret
        exact ⟨ret_int (by simp [rf, h0, h1, h2]), rfl⟩
theorem up_any (N : Nat) (w : World) (p : Nat) (s : St) (b m : Nat) (x : Value) (h : Dk N w p s b m x) (n : Int) (h2 : n ≤ 9223372036854775807) : Calls Try.prog 29 #[.pointer (some ⟨p, 0, none⟩), .int .i64 n] w fun e w' => e = .returned (.tuple #[]) ∧ Dk N w' p ⟨s.img, s.log, max n (-1)⟩ b m x ∧ Kept (Fd p b m x) w w' := by
  have h3 := h.c3
  have hf := h.fr 3
  have hp := h.power (max n (-1)) (by omega) (by omega)
  have hk : Kept (Fd p b m x) w (w.setCell ⟨p, 3, none⟩ (.int .i64 (max n (-1)))) := (Kept.refl _ w).setCell (fun _ => .inl rfl) _
  clear h
  by_cases h0 : n < -1
  · have e : max n (-1) = -1 := by omega
    rw [e] at hp hk ⊢
    go_enter Try.func29, Try.ntmps29
    go_wp2
    go_end0
    exact ⟨rfl, by simpa using hp, by simpa using hk⟩
  · have e : max n (-1) = n := by omega
    rw [e] at hp hk ⊢
    have d1 : decide (n < -1) = false := by simp; omega
    go_enter Try.func29, Try.ntmps29
    go_wp2
    go_end0
    exact ⟨rfl, by simpa using hp, by simpa using hk⟩
theorem off_any (N : Nat) (w : World) (p : Nat) (s : St) (b m : Nat) (x : Value) (h : Dk N w p s b m x) : Calls Try.prog 36 #[.pointer (some ⟨p, 0, none⟩)] w fun e w' => e = .returned (.tuple #[]) ∧ Dk N w' p ⟨s.img, s.log, 0⟩ b m x ∧ Kept (Fd p b m x) w w' := by
  have h3 := h.c3
  have hf := h.fr 3
  have hp := h.power 0 (by omega) (by omega)
  have hk : Kept (Fd p b m x) w (w.setCell ⟨p, 3, none⟩ (.int .i64 0)) := (Kept.refl _ w).setCell (fun _ => .inl rfl) _
  clear h
  go_enter Try.func36, Try.ntmps36
  go_wp2
  go_end0
  exact ⟨rfl, by simpa using hp, by simpa using hk⟩
def rd (s : St) (at' : Int) : ByteArray := if rf s.left at' = 0 then s.bl at' else ⟨#[]⟩
theorem new_any (w : World) : Calls Try.prog 13 #[] w fun e w' => ∃ p b m x, e = .returned (.pointer (some ⟨p, 0, none⟩)) ∧ Dk w.heap.size w' p nu b m x ∧ Below w.heap.size w w' := by
  have hmm := @run_makeMap Try.prog
  go_enter Try.func13, Try.ntmps13
  go_wp2
  go_ret
  have hb1 := below1 w (.map #[] 0)
  have hb2 := Below.more hb1 (.map #[] 0)
  have o1 := World.ownsMap_made (H := Unit) w Try.prog 3 (plainElem Try.prog 9)
  have o2 := World.ownsMap_made (H := Unit) (w.alloc (.map #[] 0)) Try.prog 3 (plainElem Try.prog 9)
  have es : (w.alloc (.map #[] 0)).heap.size = w.heap.size + 1 := by simp
  have es2 : ((w.alloc (.map #[] 0)).alloc (.map #[] 0)).heap.size = w.heap.size + 1 + 1 := by simp
  rw [es] at o2
  have e0 : nu.bl = fun _ => ⟨#[]⟩ := by unfold St.bl nu rp; simp [fnI_nil]
  refine ⟨w.heap.size + 1 + 1, w.heap.size, w.heap.size + 1, .slice none 0 0, rfl, ⟨?_, ?_, ?_, ?_, ?_, ?_, ?_, ?_, nu_ok⟩, Below.more hb2 _⟩
  · have := heap_alloc_new ((w.alloc (.map #[] 0)).alloc (.map #[] 0)) (.cells #[.map (some w.heap.size), .map (some (w.heap.size + 1)), .slice none 0 0, .int .i64 (-1)] 77)
    rw [es2] at this
    exact this
  · rw [e0]
    exact ⟨_, ((o1.alloc _).alloc _).mono (Nat.zero_le _), MapIs.empty⟩
  · have : fnI nu.img = fun _ => ⟨#[]⟩ := fnI_nil
    rw [this]
    exact ⟨_, (o2.alloc _).mono (Nat.zero_le _), MapIs.empty⟩
  · exact World.ownsRow_nil _ _ _ _
  · omega
  · omega
  · omega
  · omega
theorem put_any (b n : Nat) (at' : Int) (s : ByteArray) (f : Bl) (w : World) (h : Mp w b n f) (hn : n < 5864062090000) (hw : (Lit.int .i64 at').wf = true) (hs : s.size ≤ 32) : Calls Try.prog 32 #[.map (some b), .int .i64 at', .string s] w fun e w' => e = .returned (.tuple #[]) ∧ Mp w' b (n + 1) (setB f at' s) ∧ Kept (fun k => k = b) w w' := by
  obtain ⟨D, h1, h2⟩ := h
  have HM : Hid (MapIs D f) := h2
  have hD := World.ownsMap.isMap h1
  have hkey := keyOf_int_mk Try.underlying3 hw
  by_cases h0 : s.size = 0
  · have e := nob_of h0
    subst e
    go_enter Try.func32, Try.ntmps32
    go_wp2_with (first
      | (at_delete; refine wpList_delete_own _ rfl _ _ 75 3 rfl 9 intK Try.underlying75 _ b n D rfl h1 _ _ rfl hkey ?_; intro w1 hown1 hturn1)
      | fail)
    refine bodyPost_ret (results_none rfl _ _ _) rfl ?_
    exact ⟨rfl, ⟨_, World.ownsMap.mono hown1 (Nat.le_succ _), HM.out.del at'⟩, (Kept.refl _ w).grown hturn1.grown (fun k hk _ => by cases hk; rfl)⟩
  · have hb1 : s.toList.isEmpty = false := nob_no h0
    have hval := plainElem_string (H := Unit) Try.underlying9 (s := s) (by unfold maxLen; omega)
    go_enter Try.func32, Try.ntmps32
    go_wp2_with (first
      | (at_mapUpdate; refine wpList_mapUpdate_own _ rfl _ _ _ 75 rfl 3 9 intK Try.underlying75 _ b n D rfl h1 (by unfold maxLen; omega) _ _ _ rfl rfl hkey _ [] hval ?_; intro w1 hown1 hgrow1)
      | fail)
    go_end0
    exact ⟨rfl, ⟨_, hown1, HM.out.put hD at' h0⟩, (Kept.refl _ w).grown hgrow1 (fun k hk _ => by cases hk; rfl)⟩
end Go.Proofs.Ytohgflimdoebiaa.Dk
