/- A disk that is being made. -/
import Derived.Test.YtohgflimdoebiaaDkL
import Derived.Deep.DeepCutAuto
namespace Go.Proofs.Ytohgflimdoebiaa.Dk
open Go.RowKit Go.Maps
set_option linter.unusedVariables false
set_option maxRecDepth 4000
set_option linter.unusedSimpArgs false
attribute [local go_sem ↓] Go.wp_at_zero Go.wp_at_succ

/- A disk that is being made. -/
structure Dg (N : Nat) (w : World) (p : Nat) (B M : Bl) (n k : Nat) (L : List (Int × ByteArray)) (b m : Nat) (x : Value) : Prop where
  blk : w.heap[p]? = some (.cells #[.map (some b), .map (some m), x, .int .i64 (-1)] 77)
  mb : Mp w b n B
  mm : Mp w m k M
  row : RwW w N x L
  ne : b ≠ m
  np : N ≤ p
  nb : N ≤ b
  nm : N ≤ m
section
variable {N : Nat} {w w' : World} {p : Nat} {B M : Bl} {n k : Nat} {L : List (Int × ByteArray)} {b m : Nat} {x : Value}
theorem Dg.c0 (h : Dg N w p B M n k L b m x) : w.cell? ⟨p, 0, none⟩ = some (.map (some b)) := by simp [World.cell?, h.blk]
theorem Dg.c1 (h : Dg N w p B M n k L b m x) : w.cell? ⟨p, 1, none⟩ = some (.map (some m)) := by simp [World.cell?, h.blk]
theorem Dg.c2 (h : Dg N w p B M n k L b m x) : w.cell? ⟨p, 2, none⟩ = some x := by simp [World.cell?, h.blk]
theorem Dg.fr (h : Dg N w p B M n k L b m x) (j : Nat) : w.frozen? ⟨p, j, none⟩ = false := by simp [World.frozen?, h.blk]
theorem Dg.plt (h : Dg N w p B M n k L b m x) : p < w.heap.size := (Array.getElem?_eq_some_iff.1 h.blk).1
theorem Dg.pb (h : Dg N w p B M n k L b m x) : p ≠ b := fun e => by
  obtain ⟨es, cl, hh⟩ := h.mb.isMap
  rw [← e, h.blk] at hh; cases hh
theorem Dg.pm (h : Dg N w p B M n k L b m x) : p ≠ m := fun e => by
  obtain ⟨es, cl, hh⟩ := h.mm.isMap
  rw [← e, h.blk] at hh; cases hh
theorem Dg.px (h : Dg N w p B M n k L b m x) : ∀ j, x.ownBlock = some j → j ≠ p ∧ j ≠ b ∧ j ≠ m := fun j hk => by
  rcases h.row.2 with ⟨h0, _⟩ | ⟨g, cap, cur, rfl, hb, hgg, rest⟩
  · subst h0; cases hk
  · cases hk
    refine ⟨fun e => ?_, fun e => ?_, fun e => ?_⟩
    · have e' : g = p := e
      subst e'; have q := h.blk; rw [hgg] at q; simp at q
    · have e' : g = b := e
      subst e'
      obtain ⟨es, cl, hh⟩ := h.mb.isMap
      rw [hgg] at hh; cases hh
    · have e' : g = m := e
      subst e'
      obtain ⟨es, cl, hh⟩ := h.mm.isMap
      rw [hgg] at hh; cases hh
theorem Dg.later (h : Dg N w p B M n k L b m x) (hb : Below w.heap.size w w') : Dg N w' p B M n k L b m x :=
  ⟨(hb.block p h.plt).trans h.blk, h.mb.kept (Kept.ofBelow (F := fun _ => False) hb) (fun e => e), h.mm.kept (Kept.ofBelow (F := fun _ => False) hb) (fun e => e), row_later h.row hb, h.ne, h.np, h.nb, h.nm⟩
theorem Dg.putB (h : Dg N w p B M n k L b m x) {B' : Bl} {n' : Nat} (hk : Kept (fun j => j = b) w w') (hm : Mp w' b n' B') : Dg N w' p B' M n' k L b m x :=
  ⟨(hk.block p h.plt h.pb).trans h.blk, hm, h.mm.kept hk (fun e => h.ne e.symm), hk.row h.row (fun j e e' => (h.px j e).2.1 e'), h.ne, h.np, h.nb, h.nm⟩
theorem Dg.putM (h : Dg N w p B M n k L b m x) {M' : Bl} {k' : Nat} (hk : Kept (fun j => j = m) w w') (hm : Mp w' m k' M') : Dg N w' p B M' n k' L b m x :=
  ⟨(hk.block p h.plt h.pm).trans h.blk, h.mb.kept hk h.ne, hm, hk.row h.row (fun j e e' => (h.px j e).2.2 e'), h.ne, h.np, h.nb, h.nm⟩
theorem Dg.log (h : Dg N w p B M n k L b m x) {v : Value} {L' : List (Int × ByteArray)} (hr : RwW w N v L') (hv : ∀ j, v.ownBlock = some j → j ≠ p) : Dg N (w.setCell ⟨p, 2, none⟩ v) p B M n k L' b m v := by
  have ks : Kept (fun j => j = p) w (w.setCell ⟨p, 2, none⟩ v) := (Kept.refl (fun j => j = p) w).setCell (p := ⟨p, 2, none⟩) (fun _ => rfl) _
  refine ⟨by rw [blk_set h.blk]; simp, h.mb.kept ks (fun e => h.pb e.symm), h.mm.kept ks (fun e => h.pm e.symm), ks.row hr (fun j e e' => hv j e e'), h.ne, h.np, h.nb, h.nm⟩
theorem Dg.done (h : Dg N w p B M n k L b m x) {s : St} (hs : s.Ok) (hL : s.log = L) (hB : s.bl = B) (hM : fnI s.img = M) (hl : s.left = -1) (hn : n ≤ 2048 + L.length) (hk : k ≤ 2048) : Dk N w p s b m x := by
  subst hL hB hM
  refine ⟨by rw [hl]; exact h.blk, h.mb.mono hn, h.mm.mono hk, h.row, h.ne, h.np, h.nb, h.nm, hs⟩
end
theorem thenD {w W : World} (h : Below w.drew.heap.size w.drew W) : Below w.heap.size w W := ⟨h.os, h.tape, h.output, h.size, h.block⟩
theorem cellD {w W : World} {a : Addr} {v : Value} (hc : w.cell? a = some v) (h : Below w.drew.heap.size w.drew W) : W.cell? a = some v := cell_later (thenD h) (Nat.le_refl _) hc
theorem frozenD {w W : World} {g j : Nat} {cs : Array Value} {t : TypeId} (hc : w.heap[g]? = some (.cells cs t)) (h : Below w.drew.heap.size w.drew W) : W.frozen? ⟨g, j, none⟩ = false := by
  have := ((thenD h).block g (Array.getElem?_eq_some_iff.1 hc).1).trans hc
  simp [World.frozen?, this]
theorem thenK {a b W : World} {m : Nat} (h : Below a.heap.size a b) (k : Kept (fun j => j = m) b W) (hm : a.heap.size ≤ m) : Below a.heap.size a W :=
  ⟨k.os.trans h.os, k.tape.trans h.tape, k.output.trans h.output, Nat.le_trans h.size k.size, fun i hi => (k.block i (Nat.lt_of_lt_of_le hi h.size) (by omega)).trans (h.block i hi)⟩
theorem thenB {a b c : World} (h : Below a.heap.size a b) (k : Below b.heap.size b c) : Below a.heap.size a c :=
  ⟨k.os.trans h.os, k.tape.trans h.tape, k.output.trans h.output, Nat.le_trans h.size k.size, fun i hi => (k.block i (Nat.lt_of_lt_of_le hi h.size)).trans (h.block i hi)⟩
theorem cut_made {w w1 w2 : World} {M : Bl} (hm1 : Mp w1 w.heap.size 2048 M) (hb1 : Below w.heap.size w w1) (hs1 : w1.heap.size = w.heap.size + 1) (hm2 : Mp w2 w1.heap.size 2048 M) (hb2 : Below w1.heap.size w1 w2) (hs2 : w2.heap.size = w1.heap.size + 1) (i j : Nat) (hij : (i = w.heap.size ∧ j = w.heap.size + 1) ∨ (i = w.heap.size + 1 ∧ j = w.heap.size)) :
    Dg w.heap.size (w2.alloc (.cells #[.map (some i), .map (some j), .slice none 0 0, .int .i64 (-1)] 77)) (w.heap.size + 1 + 1) M M 2048 2048 [] i j (.slice none 0 0) ∧ Below w.heap.size w (w2.alloc (.cells #[.map (some i), .map (some j), .slice none 0 0, .int .i64 (-1)] 77)) := by
  have b3 := below1 w2 (.cells #[.map (some i), .map (some j), .slice none 0 0, .int .i64 (-1)] 77)
  have e2 : w2.heap.size = w.heap.size + 1 + 1 := by omega
  have ma := (hm1.kept (Kept.ofBelow (F := fun _ => False) hb2) (fun e => e)).kept (Kept.ofBelow (F := fun _ => False) b3) (fun e => e)
  have mb := hm2.kept (Kept.ofBelow (F := fun _ => False) b3) (fun e => e)
  rw [hs1] at mb
  have hblk := heap_alloc_new w2 (.cells #[.map (some i), .map (some j), .slice none 0 0, .int .i64 (-1)] 77)
  rw [e2] at hblk
  refine ⟨?_, thenB (thenB hb1 hb2) b3⟩
  rcases hij with ⟨rfl, rfl⟩ | ⟨rfl, rfl⟩
  · exact ⟨hblk, ma, mb, World.ownsRow_nil _ _ _ _, by omega, by omega, by omega, by omega⟩
  · exact ⟨hblk, mb, ma, World.ownsRow_nil _ _ _ _, by omega, by omega, by omega, by omega⟩
theorem new_raw (w : World) : Calls Try.prog 13 #[] w fun e w' => ∃ p b m x, e = .returned (.pointer (some ⟨p, 0, none⟩)) ∧ Dg w.heap.size w' p (fun _ => ⟨#[]⟩) (fun _ => ⟨#[]⟩) 0 0 [] b m x ∧ Below w.heap.size w w' := by
  have hmm := @run_makeMap Try.prog
  go_enter Try.func13, Try.ntmps13
  go_wp2
  go_ret
  have hb1 := below1 w (.map #[] 0)
  have hb2 := Below.more hb1 (.map #[] 0)
  have o1 := World.ownsMap_made (H := Unit) w Try.prog 3 (plainElem Try.prog 9)
  have o2 := World.ownsMap_made (H := Unit) (w.alloc (.map #[] 0)) Try.prog 3 (plainElem Try.prog 9)
  have es : (w.alloc (.map #[] 0)).heap.size = w.heap.size + 1 := by simp
  have es2 : ((w.alloc (.map #[] 0)).alloc (.map #[] 0)).heap.size = w.heap.size + 1 + 1 := by simp
  rw [es] at o2
  have e0 : nu.bl = fun _ => ⟨#[]⟩ := by unfold St.bl nu rp; simp [fnI_nil]
  refine ⟨w.heap.size + 1 + 1, w.heap.size, w.heap.size + 1, .slice none 0 0, rfl, ⟨?_, ?_, ?_, ?_, ?_, ?_, ?_, ?_⟩, Below.more hb2 _⟩
  · have := heap_alloc_new ((w.alloc (.map #[] 0)).alloc (.map #[] 0)) (.cells #[.map (some w.heap.size), .map (some (w.heap.size + 1)), .slice none 0 0, .int .i64 (-1)] 77)
    rw [es2] at this
    exact this
  · exact ⟨_, (o1.alloc _).alloc _, MapIs.empty⟩
  · exact ⟨_, o2.alloc _, MapIs.empty⟩
  · exact World.ownsRow_nil _ _ _ _
  · omega
  · omega
  · omega
  · omega
end Go.Proofs.Ytohgflimdoebiaa.Dk
