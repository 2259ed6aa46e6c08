/- DkG, DkE, joined. -/
import Derived.Test.YtohgflimdoebiaaDkL
import Derived.Deep.DeepCutAuto
/- A disk that is being made. -/
namespace Go.Proofs.Ytohgflimdoebiaa.Dk
open Go.RowKit Go.Maps
set_option linter.unusedVariables false
set_option maxRecDepth 4000
set_option linter.unusedSimpArgs false
attribute [local go_sem ↓] Go.wp_at_zero Go.wp_at_succ

/- A disk that is being made. -/
structure Dg (N : Nat) (w : World) (p : Nat) (B M : Bl) (n k : Nat) (L : List (Int × ByteArray)) (b m : Nat) (x : Value) : Prop where
  blk : w.heap[p]? = some (.cells #[.map (some b), .map (some m), x, .int .i64 (-1)] 77)
  mb : Mp w b n B
  mm : Mp w m k M
  row : RwW w N x L
  ne : b ≠ m
  np : N ≤ p
  nb : N ≤ b
  nm : N ≤ m
section
variable {N : Nat} {w w' : World} {p : Nat} {B M : Bl} {n k : Nat} {L : List (Int × ByteArray)} {b m : Nat} {x : Value}
theorem Dg.c0 (h : Dg N w p B M n k L b m x) : w.cell? ⟨p, 0, none⟩ = some (.map (some b)) := by simp [World.cell?, h.blk]
theorem Dg.c1 (h : Dg N w p B M n k L b m x) : w.cell? ⟨p, 1, none⟩ = some (.map (some m)) := by simp [World.cell?, h.blk]
theorem Dg.c2 (h : Dg N w p B M n k L b m x) : w.cell? ⟨p, 2, none⟩ = some x := by simp [World.cell?, h.blk]
theorem Dg.fr (h : Dg N w p B M n k L b m x) (j : Nat) : w.frozen? ⟨p, j, none⟩ = false := by simp [World.frozen?, h.blk]
theorem Dg.plt (h : Dg N w p B M n k L b m x) : p < w.heap.size := (Array.getElem?_eq_some_iff.1 h.blk).1
theorem Dg.pb (h : Dg N w p B M n k L b m x) : p ≠ b := fun e => by
  obtain ⟨es, cl, hh⟩ := h.mb.isMap
  rw [← e, h.blk] at hh; cases hh
theorem Dg.pm (h : Dg N w p B M n k L b m x) : p ≠ m := fun e => by
  obtain ⟨es, cl, hh⟩ := h.mm.isMap
  rw [← e, h.blk] at hh; cases hh
theorem Dg.px (h : Dg N w p B M n k L b m x) : ∀ j, x.ownBlock = some j → j ≠ p ∧ j ≠ b ∧ j ≠ m := fun j hk => by
  rcases h.row.2 with ⟨h0, _⟩ | ⟨g, cap, cur, rfl, hb, hgg, rest⟩
  · subst h0; cases hk
  · cases hk
    refine ⟨fun e => ?_, fun e => ?_, fun e => ?_⟩
    · have e' : g = p := e
      subst e'; have q := h.blk; rw [hgg] at q; simp at q
    · have e' : g = b := e
      subst e'
      obtain ⟨es, cl, hh⟩ := h.mb.isMap
      rw [hgg] at hh; cases hh
    · have e' : g = m := e
      subst e'
      obtain ⟨es, cl, hh⟩ := h.mm.isMap
      rw [hgg] at hh; cases hh
theorem Dg.later (h : Dg N w p B M n k L b m x) (hb : Below w.heap.size w w') : Dg N w' p B M n k L b m x :=
  ⟨(hb.block p h.plt).trans h.blk, h.mb.kept (Kept.ofBelow (F := fun _ => False) hb) (fun e => e), h.mm.kept (Kept.ofBelow (F := fun _ => False) hb) (fun e => e), row_later h.row hb, h.ne, h.np, h.nb, h.nm⟩
theorem Dg.putB (h : Dg N w p B M n k L b m x) {B' : Bl} {n' : Nat} (hk : Kept (fun j => j = b) w w') (hm : Mp w' b n' B') : Dg N w' p B' M n' k L b m x :=
  ⟨(hk.block p h.plt h.pb).trans h.blk, hm, h.mm.kept hk (fun e => h.ne e.symm), hk.row h.row (fun j e e' => (h.px j e).2.1 e'), h.ne, h.np, h.nb, h.nm⟩
theorem Dg.putM (h : Dg N w p B M n k L b m x) {M' : Bl} {k' : Nat} (hk : Kept (fun j => j = m) w w') (hm : Mp w' m k' M') : Dg N w' p B M' n k' L b m x :=
  ⟨(hk.block p h.plt h.pm).trans h.blk, h.mb.kept hk h.ne, hm, hk.row h.row (fun j e e' => (h.px j e).2.2 e'), h.ne, h.np, h.nb, h.nm⟩
theorem Dg.log (h : Dg N w p B M n k L b m x) {v : Value} {L' : List (Int × ByteArray)} (hr : RwW w N v L') (hv : ∀ j, v.ownBlock = some j → j ≠ p) : Dg N (w.setCell ⟨p, 2, none⟩ v) p B M n k L' b m v := by
  have ks : Kept (fun j => j = p) w (w.setCell ⟨p, 2, none⟩ v) := (Kept.refl (fun j => j = p) w).setCell (p := ⟨p, 2, none⟩) (fun _ => rfl) _
  refine ⟨by rw [blk_set h.blk]; simp, h.mb.kept ks (fun e => h.pb e.symm), h.mm.kept ks (fun e => h.pm e.symm), ks.row hr (fun j e e' => hv j e e'), h.ne, h.np, h.nb, h.nm⟩
theorem Dg.done (h : Dg N w p B M n k L b m x) {s : St} (hs : s.Ok) (hL : s.log = L) (hB : s.bl = B) (hM : fnI s.img = M) (hl : s.left = -1) (hn : n ≤ 2048 + L.length) (hk : k ≤ 2048) : Dk N w p s b m x := by
  subst hL hB hM
  refine ⟨by rw [hl]; exact h.blk, h.mb.mono hn, h.mm.mono hk, h.row, h.ne, h.np, h.nb, h.nm, hs⟩
end
theorem thenD {w W : World} (h : Below w.drew.heap.size w.drew W) : Below w.heap.size w W := ⟨h.os, h.tape, h.output, h.size, h.block⟩
theorem cellD {w W : World} {a : Addr} {v : Value} (hc : w.cell? a = some v) (h : Below w.drew.heap.size w.drew W) : W.cell? a = some v := cell_later (thenD h) (Nat.le_refl _) hc
theorem frozenD {w W : World} {g j : Nat} {cs : Array Value} {t : TypeId} (hc : w.heap[g]? = some (.cells cs t)) (h : Below w.drew.heap.size w.drew W) : W.frozen? ⟨g, j, none⟩ = false := by
  have := ((thenD h).block g (Array.getElem?_eq_some_iff.1 hc).1).trans hc
  simp [World.frozen?, this]
theorem thenK {a b W : World} {m : Nat} (h : Below a.heap.size a b) (k : Kept (fun j => j = m) b W) (hm : a.heap.size ≤ m) : Below a.heap.size a W :=
  ⟨k.os.trans h.os, k.tape.trans h.tape, k.output.trans h.output, Nat.le_trans h.size k.size, fun i hi => (k.block i (Nat.lt_of_lt_of_le hi h.size) (by omega)).trans (h.block i hi)⟩
theorem thenB {a b c : World} (h : Below a.heap.size a b) (k : Below b.heap.size b c) : Below a.heap.size a c :=
  ⟨k.os.trans h.os, k.tape.trans h.tape, k.output.trans h.output, Nat.le_trans h.size k.size, fun i hi => (k.block i (Nat.lt_of_lt_of_le hi h.size)).trans (h.block i hi)⟩
theorem cut_made {w w1 w2 : World} {M : Bl} (hm1 : Mp w1 w.heap.size 2048 M) (hb1 : Below w.heap.size w w1) (hs1 : w1.heap.size = w.heap.size + 1) (hm2 : Mp w2 w1.heap.size 2048 M) (hb2 : Below w1.heap.size w1 w2) (hs2 : w2.heap.size = w1.heap.size + 1) (i j : Nat) (hij : (i = w.heap.size ∧ j = w.heap.size + 1) ∨ (i = w.heap.size + 1 ∧ j = w.heap.size)) :
    Dg w.heap.size (w2.alloc (.cells #[.map (some i), .map (some j), .slice none 0 0, .int .i64 (-1)] 77)) (w.heap.size + 1 + 1) M M 2048 2048 [] i j (.slice none 0 0) ∧ Below w.heap.size w (w2.alloc (.cells #[.map (some i), .map (some j), .slice none 0 0, .int .i64 (-1)] 77)) := by
  have b3 := below1 w2 (.cells #[.map (some i), .map (some j), .slice none 0 0, .int .i64 (-1)] 77)
  have e2 : w2.heap.size = w.heap.size + 1 + 1 := by omega
  have ma := (hm1.kept (Kept.ofBelow (F := fun _ => False) hb2) (fun e => e)).kept (Kept.ofBelow (F := fun _ => False) b3) (fun e => e)
  have mb := hm2.kept (Kept.ofBelow (F := fun _ => False) b3) (fun e => e)
  rw [hs1] at mb
  have hblk := heap_alloc_new w2 (.cells #[.map (some i), .map (some j), .slice none 0 0, .int .i64 (-1)] 77)
  rw [e2] at hblk
  refine ⟨?_, thenB (thenB hb1 hb2) b3⟩
  rcases hij with ⟨rfl, rfl⟩ | ⟨rfl, rfl⟩
  · exact ⟨hblk, ma, mb, World.ownsRow_nil _ _ _ _, by omega, by omega, by omega, by omega⟩
  · exact ⟨hblk, mb, ma, World.ownsRow_nil _ _ _ _, by omega, by omega, by omega, by omega⟩
theorem new_raw (w : World) : Calls Try.prog 13 #[] w fun e w' => ∃ p b m x, e = .returned (.pointer (some ⟨p, 0, none⟩)) ∧ Dg w.heap.size w' p (fun _ => ⟨#[]⟩) (fun _ => ⟨#[]⟩) 0 0 [] b m x ∧ Below w.heap.size w w' := by
  have hmm := @run_makeMap Try.prog
  go_enter Try.func13, Try.ntmps13
  go_wp2
  go_ret
  have hb1 := below1 w (.map #[] 0)
  have hb2 := Below.more hb1 (.map #[] 0)
  have o1 := World.ownsMap_made (H := Unit) w Try.prog 3 (plainElem Try.prog 9)
  have o2 := World.ownsMap_made (H := Unit) (w.alloc (.map #[] 0)) Try.prog 3 (plainElem Try.prog 9)
  have es : (w.alloc (.map #[] 0)).heap.size = w.heap.size + 1 := by simp
  have es2 : ((w.alloc (.map #[] 0)).alloc (.map #[] 0)).heap.size = w.heap.size + 1 + 1 := by simp
  rw [es] at o2
  have e0 : nu.bl = fun _ => ⟨#[]⟩ := by unfold St.bl nu rp; simp [fnI_nil]
  refine ⟨w.heap.size + 1 + 1, w.heap.size, w.heap.size + 1, .slice none 0 0, rfl, ⟨?_, ?_, ?_, ?_, ?_, ?_, ?_, ?_⟩, Below.more hb2 _⟩
  · have := heap_alloc_new ((w.alloc (.map #[] 0)).alloc (.map #[] 0)) (.cells #[.map (some w.heap.size), .map (some (w.heap.size + 1)), .slice none 0 0, .int .i64 (-1)] 77)
    rw [es2] at this
    exact this
  · exact ⟨_, (o1.alloc _).alloc _, MapIs.empty⟩
  · exact ⟨_, o2.alloc _, MapIs.empty⟩
  · exact World.ownsRow_nil _ _ _ _
  · omega
  · omega
  · omega
  · omega
end Go.Proofs.Ytohgflimdoebiaa.Dk
/- Contract: Cut. -/
namespace Go.Proofs.Ytohgflimdoebiaa.Dk
open Go.RowKit Go.Maps
set_option linter.unusedVariables false
set_option maxRecDepth 4000
set_option linter.unusedSimpArgs false
attribute [local go_sem ↓] Go.wp_at_zero Go.wp_at_succ

set_option maxHeartbeats 2000000 in
theorem cut_any (N : Nat) (w : World) (p : Nat) (s : St) (b m : Nat) (x : Value) (h : Dk N w p s b m x) (hl : s.log.length ≤ 5864062014805) (n : Int) (hw : (Lit.int .i64 n).wf = true) :
    Calls Try.prog 28 #[.pointer (some ⟨p, 0, none⟩), .int .i64 n] w fun e w' => ∃ p' b' m' x', e = .returned (.pointer (some ⟨p', 0, none⟩)) ∧ Dk w.heap.size w' p' (ct s n.toNat) b' m' x' ∧ Below w.heap.size w w' := by
  have c1 := h.c1
  have HD : Hid (Dk N w p s b m x) := h
  have hcl : ∀ W, Below w.heap.size w W → Calls Try.prog 45 #[.map (some m)] W fun e w' => e = .returned (.map (some W.heap.size)) ∧ Mp w' W.heap.size 2048 (fnI s.img) ∧ Below W.heap.size W w' ∧ w'.heap.size = W.heap.size + 1 := fun W hb => mclone_any m 2048 (fnI s.img) W (h.mm.kept (Kept.ofBelow (F := fun _ => False) hb) (fun e => e))
  clear h
  go_enter Try.func28, Try.ntmps28
  go_wp2_with fail
  go_cut [5] (fun s5 wx => ∃ q b' m', s5 = .pointer (some ⟨q, 0, none⟩) ∧ Dg w.heap.size wx q (fnI s.img) (fnI s.img) 2048 2048 [] b' m' (.slice none 0 0) ∧ Below w.heap.size w wx)
  case first =>
    go_region_with (first
      | (go_at_call 45; refine (hcl _ (Below.refl _ w).drew).mono ?_; rintro e w1 ⟨rfl, hm1, hb1, hs1⟩; have c11 := cellD c1 hb1)
      | (go_at_call 45; refine (hcl _ (thenD hb1)).mono ?_; rintro e w2 ⟨rfl, hm2, hb2, hs2⟩))
    all_goals go_wp2
    all_goals go_meet
    all_goals (case rel => first
      | exact ⟨_, _, _, rfl, (cut_made (w := w) hm1 (thenD hb1) hs1 hm2 hb2 hs2 _ _ (.inl ⟨rfl, rfl⟩)).1, (cut_made (w := w) hm1 (thenD hb1) hs1 hm2 hb2 hs2 _ _ (.inl ⟨rfl, rfl⟩)).2⟩
      | exact ⟨_, _, _, rfl, (cut_made (w := w) hm1 (thenD hb1) hs1 hm2 hb2 hs2 _ _ (.inr ⟨rfl, rfl⟩)).1, (cut_made (w := w) hm1 (thenD hb1) hs1 hm2 hb2 hs2 _ _ (.inr ⟨rfl, rfl⟩)).2⟩)
  case rest =>
    obtain ⟨q, b', m', rfl, hg, hb⟩ := hcut
    have hD' := HD.out.later hb
    have d2 := hD'.c2
    have q2 := hg.c2
    have qf := hg.fr 2
    have HG : Hid (Dg w.heap.size wc q (fnI s.img) (fnI s.img) 2048 2048 [] b' m' (.slice none 0 0)) := hg
    have HB : Hid (Below w.heap.size w wc) := hb
    obtain ⟨len, hlen⟩ : ∃ len, s.log.length = len := ⟨_, rfl⟩
    obtain ⟨k, hk⟩ : ∃ k, min n.toNat len = k := ⟨_, rfl⟩
    have htk : s.log.take n.toNat = s.log.take k := by
      rw [← hk, ← hlen, Nat.min_def]
      split
      · rfl
      · rw [List.take_of_length_le (by omega), List.take_length]
    have htl : (s.log.take k).length = k := by simp; omega
    have HTK : Hid (s.log.take n.toNat = s.log.take k) := htk
    have HTL : Hid ((s.log.take k).length = k) := htl
    have HRL : Hid (RwW wc N x s.log) := hD'.row
    have hxp : q ≠ p := by have := hg.np; have := HD.out.plt; omega
    obtain ⟨nn, hnn⟩ : ∃ nn, n.toNat = nn := ⟨_, rfl⟩
    have hmx : (if n < 0 then (0 : Int) else n) = (nn : Int) := by split <;> omega
    have hmn : (if (len : Int) < (nn : Int) then (len : Int) else (nn : Int)) = (k : Int) := by split <;> omega
    have hmn2 : (if len < nn then (len : Int) else (nn : Int)) = (k : Int) := by split <;> omega
    have HNN : Hid (n.toNat = nn) := hnn
    have k0 : (0 : Int) ≤ (k : Int) := by omega
    have hkl : k ≤ len := by omega
    rw [hlen] at hl
    have HLEN : Hid (s.log.length = len) := hlen
    clear hg hb hD' htk htl c1 hnn hlen hk
    go_wp2_with fail
    go_cut [] (fun wx => ∃ v, Dg w.heap.size wx q (fnI s.img) (fnI s.img) 2048 2048 (s.log.take k) b' m' v ∧ Below w.heap.size w wx)
    case first =>
      rcases HRL.out.2 with ⟨rfl, h0⟩ | ⟨g, cap, cur, rfl, _, _, hcap, _⟩
      · have hlen0 : len = 0 := by rw [← HLEN.out]; exact h0
        have hk0 : k = 0 := by omega
        have hcl2 := clone_any (.slice none k len) (s.log.take k) wc.drew (.inl ⟨by rw [hk0, hlen0], by rw [hk0]; simp⟩) (by rw [HTL.out]; omega)
        have e0 : Value.slice none 0 0 = .slice none len len := by rw [hlen0]
        rw [e0] at d2
        have k1 : (k : Int) ≤ (len : Int) := by omega
        clear hlen0 hk0 e0 h0
        go_region_with (first
          | (go_at_call 39; refine hcl2.mono ?_; rintro e w3 ⟨v', rfl, hr3, hb3⟩; have q23 := cellD q2 hb3; have qf3 := frozenD (j := 2) HG.out.blk hb3; obtain ⟨a3, cap3, e3⟩ := row_spell hr3; rw [HTL.out] at e3; subst e3; have HR3 : Hid (RwW w3 wc.drew.heap.size (.slice a3 k cap3) (s.log.take k)) := hr3; clear hr3))
        all_goals go_wp2
        all_goals go_meet
        all_goals (case rel =>
          have hs3 := HB.out.size
          have hpq := HG.out.plt
          refine ⟨_, Dg.log (HG.out.later (thenD hb3)) (L' := s.log.take k) ?_ ?_, ?_⟩
          · exact ⟨HR3.out.1, HR3.out.2.imp id (fun ⟨g, cap, cur, hv, hbg, r⟩ => ⟨g, cap, cur, hv, Nat.le_trans hs3 hbg, r⟩)⟩
          · intro j hj; have := (World.ownsRow.lt HR3.out j hj).1; have e : wc.drew.heap.size = wc.heap.size := rfl; omega
          · exact (Kept.below (((Kept.ofBelow (F := fun j => w.heap.size ≤ j) (thenB HB.out (thenD hb3))).setCell (p := ⟨q, 2, none⟩) (fun h => absurd h (by have := HG.out.np; show ¬ q < _; omega)) (.slice a3 k cap3))) (Nat.le_refl _) (fun j hj => hj)))
      · rw [HLEN.out] at d2 hcap
        have k1 : (k : Int) ≤ (cap : Int) := by omega
        have hcl2 := clone_any (.slice (some ⟨g, 0, none⟩) k cap) (s.log.take k) wc.drew (.inr ⟨g, 0, cap, by rw [HTL.out], HRL.out.rd.take k⟩) (by rw [HTL.out]; omega)
        go_region_with (first
          | (go_at_call 39; refine hcl2.mono ?_; rintro e w3 ⟨v', rfl, hr3, hb3⟩; have q23 := cellD q2 hb3; have qf3 := frozenD (j := 2) HG.out.blk hb3; obtain ⟨a3, cap3, e3⟩ := row_spell hr3; rw [HTL.out] at e3; subst e3; have HR3 : Hid (RwW w3 wc.drew.heap.size (.slice a3 k cap3) (s.log.take k)) := hr3; clear hr3))
        all_goals go_wp2
        all_goals go_meet
        all_goals (case rel =>
          have hs3 := HB.out.size
          have hpq := HG.out.plt
          refine ⟨_, Dg.log (HG.out.later (thenD hb3)) (L' := s.log.take k) ?_ ?_, ?_⟩
          · exact ⟨HR3.out.1, HR3.out.2.imp id (fun ⟨g, cap, cur, hv, hbg, r⟩ => ⟨g, cap, cur, hv, Nat.le_trans hs3 hbg, r⟩)⟩
          · intro j hj; have := (World.ownsRow.lt HR3.out j hj).1; have e : wc.drew.heap.size = wc.heap.size := rfl; omega
          · exact (Kept.below (((Kept.ofBelow (F := fun j => w.heap.size ≤ j) (thenB HB.out (thenD hb3))).setCell (p := ⟨q, 2, none⟩) (fun h => absurd h (by have := HG.out.np; show ¬ q < _; omega)) (.slice a3 k cap3))) (Nat.le_refl _) (fun j hj => hj)))
    case rest =>
      obtain ⟨v, hg, hb⟩ := hcut
      obtain ⟨av, capv, ev⟩ := row_spell hg.row
      rw [HTL.out] at ev
      subst ev
      obtain ⟨L', eL⟩ : ∃ L', s.log.take k = L' := ⟨_, rfl⟩
      have HEL : Hid (s.log.take k = L') := eL
      have HTL' : Hid (L'.length = k) := by rw [← eL]; exact HTL.out
      obtain ⟨M, eM⟩ : ∃ M, fnI s.img = M := ⟨_, rfl⟩
      have HEM : Hid (fnI s.img = M) := eM
      rw [eL, eM] at hg
      have hLg : ∀ p ∈ L', Gp p := fun r hr => HD.out.ok.l1 r (by rw [← eL] at hr; exact List.mem_of_mem_take hr)
      have HLG : Hid (∀ p ∈ L', Gp p) := hLg
      have c2 := hg.c2
      have HG2 : Hid (Dg w.heap.size wc q M M 2048 2048 L' b' m' (.slice av k capv)) := hg
      have HB2 : Hid (Below w.heap.size w wc) := hb
      clear hg hb eL eM hLg HG HB q2 qf d2
      go_wp2_with fail
      go_loopw [42] (fun i wr => ∃ j : Nat, j ≤ k ∧ i = .int .i64 (j : Int) ∧ Dg w.heap.size wr q (rp M (L'.take j)) M (2048 + j) 2048 L' b' m' (.slice av k capv) ∧ Below w.heap.size w wr) (fun i _ => k - (intOf i).toNat)
      case atStart => exact ⟨0, by omega, rfl, HG2.out, HB2.out⟩
      case round =>
        obtain ⟨j, hj, rfl, hg, hb⟩ := hrel
        have HG3 : Hid (Dg w.heap.size wr q (rp M (L'.take j)) M (2048 + j) 2048 L' b' m' (.slice av k capv)) := hg
        have HB3 : Hid (Below w.heap.size w wr) := hb
        by_cases hjk : j < k
        · obtain ⟨g, o, eav, hcs⟩ := hg.row.rd.spot (by intro e; have := HTL'.out; rw [e] at this; simp at this; omega)
          obtain ⟨x0, x1⟩ := hcs j (by rw [HTL'.out]; exact hjk)
          subst eav
          have hgj : Gp (L'.getD j (0, ⟨#[]⟩)) := HLG.out _ (by rw [getD_yes _ _ (by rw [HTL'.out]; exact hjk)]; exact List.getElem_mem _)
          have htk1 : L'.take (j + 1) = L'.take j ++ [L'.getD j (0, ⟨#[]⟩)] := by
            rw [List.take_add_one]; simp [List.getElem?_eq_getElem (show j < L'.length by rw [HTL'.out]; exact hjk)]
          obtain ⟨at', t, eat⟩ : ∃ at' t, L'.getD j (0, ⟨#[]⟩) = (at', t) := ⟨_, _, rfl⟩
          rw [eat] at x0 x1 hgj htk1
          have HTK1 : Hid (L'.take (j + 1) = L'.take j ++ [(at', t)]) := htk1
          have q0 := hg.c0
          have hput := fun W (hM : Mp W b' (2048 + j) (rp M (L'.take j))) => put_any b' (2048 + j) at' t _ W hM (by omega) (wf_of (by have := hgj.1; simp at this; omega) (by have := hgj.2.1; simp at this; omega)) hgj.2.2
          have j1 : (0 : Int) ≤ (j : Int) := by omega
          have j2 : (j : Int) < (k : Int) := by omega
          have HQ : Hid _ := hput
          clear hg hb hcs hgj htk1 eat hput
          go_wp2_with fail
          have hb1 := below1 wr (.cells #[.int .i64 at', .string t] 84)
          have hM1 : Mp (wr.alloc (.cells #[.int .i64 at', .string t] 84)).drew b' (2048 + j) (rp M (L'.take j)) := (HG3.out.later hb1).mb
          have hP := HQ.out _ hM1
          have HG4 : Hid _ := HG3.out.later hb1
          have HB4 : Hid _ := thenB HB3.out hb1
          have q01 := cell_later hb1 (Nat.le_refl _) q0
          clear hM1 hb1
          go_region_with (first
            | (go_at_call 32; refine hP.mono ?_; rintro e w5 ⟨rfl, hm5, hk5⟩))
          all_goals go_wp2
          all_goals go_roundw
          all_goals first
            | (case rel =>
                refine ⟨j + 1, by omega, by go_num, ?_, ?_⟩
                · rw [HTK1.out, rp_snoc]
                  exact Dg.putB (w := (wr.alloc (.cells #[.int .i64 at', .string t] 84))) HG4.out ⟨hk5.os, hk5.tape, hk5.output, hk5.size, hk5.block⟩ hm5
                · exact (thenK HB4.out (W := w5) ⟨hk5.os, hk5.tape, hk5.output, hk5.size, hk5.block⟩ HG4.out.nb))
            | (case measure => simp [intOf]; omega)
        · have hjk' : decide ((j : Int) < (k : Int)) = false := by simp; omega
          have ej : j = k := by omega
          clear hg hb
          go_wp2
          go_ret
          refine ⟨q, b', m', _, rfl, HG3.out.done (ct_ok HD.out.ok _) ?_ ?_ HEM.out rfl ?_ (Nat.le_refl _), HB3.out⟩
          · show s.log.take n.toNat = L'
            rw [HTK.out]; exact HEL.out
          · show rp (fnI s.img) (s.log.take n.toNat) = _
            rw [HTK.out, HEL.out, HEM.out, List.take_of_length_le (by rw [HTL'.out]; omega)]
          · rw [HTL'.out]; omega
end Go.Proofs.Ytohgflimdoebiaa.Dk
