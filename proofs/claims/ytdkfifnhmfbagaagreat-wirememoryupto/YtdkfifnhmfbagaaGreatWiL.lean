/- Contracts: takeList, at seats, items and bytes. -/
import Derived.Test.YtdkfifnhmfbagaaGreatWiU
namespace Go.Proofs.YtdkfifnhmfbagaaGreat.Wi
open Go.RowKit Go.Maps
open Bt (Rr Kept tb bys tb_length bys_length)
open Rt (gd)
set_option linter.unusedVariables false
set_option linter.unusedSimpArgs false

theorem cell_row_new (w : World) (cs : Array Value) (t : TypeId) : ∀ j u, cs.toList[j]? = some u → (w.alloc (.cells cs t)).cell? ((⟨w.heap.size, 0, none⟩ : Addr).add j) = some u := by
  intro j u hu
  have hadd : (⟨w.heap.size, 0, none⟩ : Addr).add j = ⟨w.heap.size, j, none⟩ := by
    unfold Addr.add
    simp
    intro h
    exact h.symm
  rw [hadd, cell_of_row _ _ j _ _ _ (heap_alloc_last w _)]
  simpa using hu
theorem owns_slice {W : World} {b : Nat} {e : TypeId} {sz : Nat} {v : Value} {n : Nat} {xs : List Value} (h : W.ownsRow b e sz v n xs) : ∃ a cap, v = .slice a n cap := by
  rcases h.2 with ⟨rfl, rfl⟩ | ⟨g, cap, cur, rfl, _⟩
  · exact ⟨none, 0, rfl⟩
  · exact ⟨_, cap, rfl⟩
theorem owns_wide {W : World} {b b' : Nat} {e : TypeId} {sz : Nat} {v : Value} {n : Nat} {xs : List Value} (h : W.ownsRow b e sz v n xs) (hb : b' ≤ b) : W.ownsRow b' e sz v n xs := by
  refine ⟨h.1, ?_⟩
  rcases h.2 with h0 | ⟨g, cap, cur, hv, hg, rest⟩
  · exact .inl h0
  · exact .inr ⟨g, cap, cur, hv, Nat.le_trans hb hg, rest⟩
theorem infoSeat : (Tryz.prog.info? 55).map (fun i => (i.zero, i.size, i.bytes)) = some (some (.agg #[.int .i64 0, .int .i64 0]), 2, 16) := by kernel_rfl
theorem infoItem : (Tryz.prog.info? 53).map (fun i => (i.zero, i.size, i.bytes)) = some (some (.agg #[.int .i64 0, .int .i64 0, .int .i64 0, .int .i64 0, .int .i64 0, .int .i64 0]), 6, 48) := by kernel_rfl
theorem info8 : (Tryz.prog.info? 5).map (fun i => (i.zero, i.size, i.bytes)) = some (some (.int .u8 0), 1, 1) := by kernel_rfl
theorem info_of {T : TypeId} {z : Value} {a b : Nat} (h : (Tryz.prog.info? T).map (fun i => (i.zero, i.size, i.bytes)) = some (some z, a, b)) : ∃ i, Tryz.prog.info? T = some i ∧ i.zero = some z ∧ i.size = a ∧ i.bytes = b := by
  cases hq : Tryz.prog.info? T with
  | none => rw [hq] at h; cases h
  | some i =>
    rw [hq] at h
    simp at h
    exact ⟨i, rfl, h.1, h.2.1, h.2.2⟩
def RL {α : Type} (g : Nat) (s : ByteArray) (f : α → List Value) (T : TypeId) (sz : Nat) (w w' : World) (e : Ending) : Option (List α × Nat) → Prop
  | none => e = .panicked pw ∧ Kept (fun k => k = g) w w'
  | some (l, c) => ∃ v, e = .returned v ∧ Rr w' g c s ∧ Kept (fun k => k = g) w w' ∧ w'.ownsRow w.heap.size T sz v l.length (l.flatMap f)
theorem RB.grown {g : Nat} {s : ByteArray} {W0 W W' : World} {c C : Nat} {ad : Obj} {row : Option Nat} (h : RB g s W0 W c C C ad) (hg : W.grownBy W' row) (hr : ∀ k, row = some k → C < k) : RB g s W0 W' c C C ad := by
  obtain ⟨l1, l2, l3⟩ := h.le
  have blk : ∀ k, k ≤ C → k < W.heap.size → W'.heap[k]? = W.heap[k]? := fun k hk h2 => hg.block k h2 (fun e => by have := hr k e.symm; omega)
  exact ⟨⟨(blk g (by omega) (row_lt h.rr.blk)).trans h.rr.blk, h.rr.le⟩, (blk C (Nat.le_refl _) (row_lt h.hc)).trans h.hc, (blk C (Nat.le_refl _) (row_lt h.hd)).trans h.hd, h.kp.grown hg (fun k hk h2 => by have := hr k hk; omega), h.le⟩
theorem flat_snoc' {α : Type} (f : α → List Value) (l : List α) (x : α) : (l ++ [x]).flatMap f = l.flatMap f ++ f x := by simp
set_option maxRecDepth 100000 in
set_option maxHeartbeats 1000000 in
theorem takeS_any (g : Nat) (s : ByteArray) (q c : Nat) (w : World) (h : Rr w g c s) (hs : s.size < 1125899906842624) (h1 : 1 ≤ q) (h2 : q ≤ 11) :
    Calls Tryz.prog 97 #[.agg #[.pointer (some ⟨g, 0, none⟩)], .int .i64 (q : Int), .func (.func 98) #[.agg #[.pointer (some ⟨g, 0, none⟩)] ] #[] ] w fun e w' => RL g s stl 55 2 w w' e (pc q pS (tb (bys s)) c) := by
  have hb := RB.new1 h
  have HS : Hid (s.size < 1125899906842624) := hs
  clear h hs
  obtain ⟨r, hr⟩ : ∃ r, pc q pS (tb (bys s)) c = r := ⟨_, rfl⟩
  have HR : Hid (pc q pS (tb (bys s)) c = r) := hr
  rw [hr]
  clear hr
  obtain ⟨i0, hi, hz0, hz1, hz2⟩ := info_of infoSeat
  go_enter Tryz.func97, Tryz.ntmps97
  go_upto_region 1 with (fail)
  generalize w.alloc (.cells #[.pointer (some ⟨g, 0, none⟩)] 80) = w1 at *
  obtain ⟨C, hC⟩ : ∃ C, w.heap.size = C := ⟨_, rfl⟩
  have HC : Hid (w.heap.size = C) := hC
  rw [hC] at hb ⊢
  clear hC
  obtain ⟨OC, hOC⟩ : ∃ o, o = Obj.cells #[.pointer (some ⟨g, 0, none⟩)] 80 := ⟨_, rfl⟩
  have c0 : w1.cell? ⟨C, 0, none⟩ = some (.pointer (some ⟨g, 0, none⟩)) := cell_of_row w1 C 0 _ _ _ hb.hc
  rw [← hOC] at hb
  clear hOC
  have hp := number_any g s q c w1 hb.rr HS.out h1 (by omega)
  have HB : Hid (RB g s w w1 c C C OC) := hb
  clear hb
  cases hn : pn q (tb (bys s)) c with
  | none =>
    rw [hn] at hp
    have HN : Hid (r = none) := by unfold Hid; rw [← HR.out]; exact pc_no hn
    clear hn
    go_wp2_with fail
    refine hp.mono ?_
    rintro e w2 ⟨rfl, hk2⟩
    have HK : Hid (Kept (fun k => k = g) w w2) := HB.out.gone hk2
    clear hk2 hp
    go_wp2_with fail
    exact ⟨rfl, by rw [HN.out]; exact ⟨rfl, HK.out⟩⟩
  | some p =>
    obtain ⟨n, c1⟩ := p
    rw [hn] at hp
    dsimp only [Option.map] at hp
    have hn2 : n < 2048 := Nat.lt_of_lt_of_le (pn_lt hn) (by have := Nat.pow_le_pow_right (n := 2) (by decide) h2; simpa using this)
    have HPC : Hid (pl pS (tb (bys s)) c1 n = r) := by unfold Hid; rw [← HR.out, pc_yes hn]
    clear hn HR
    go_wp2_with fail
    refine hp.mono ?_
    rintro e w2 ⟨rfl, hr2, hk2⟩
    have HB2 : Hid (RB g s w w2 c1 C C OC) := HB.out.next hr2 hk2
    clear hr2 hk2 hp HB c0
    go_wp2_with fail
    go_loopw [7, 11] (fun li i wx => ∃ k : Nat, k ≤ n ∧ i = .int .i64 (k : Int) ∧ ∃ l ck, pl pS (tb (bys s)) c1 k = some (l, ck) ∧ RB g s w wx ck C C OC ∧ wx.ownsRow (C + 1) 55 2 li l.length (l.flatMap stl)) (fun _ i _ => n - (intOf i).toNat)
    case atStart => exact ⟨0, by omega, rfl, [], c1, rfl, HB2.out, World.ownsRow_nil _ _ _ _⟩
    case round =>
      obtain ⟨k, hk, rfl, l, ck, hpl, hbx, hrow⟩ := hrel
      clear HB2
      have hlen := pl_len hpl
      have HLN : Hid (l.length = k) := hlen
      have HPL : Hid (pl pS (tb (bys s)) c1 k = some (l, ck)) := hpl
      obtain ⟨a, cap, rfl⟩ := owns_slice hrow
      have HROW : Hid (wr.ownsRow (C + 1) 55 2 (.slice a l.length cap) l.length (l.flatMap stl)) := hrow
      have HBX : Hid (RB g s w wr ck C C OC) := hbx
      clear hpl hrow hlen
      by_cases hkn : k < n
      · have hkn' : (k : Int) < (n : Int) := by omega
        have hp := seat_any g s ck wr hbx.rr HS.out
        clear hbx
        cases hx : pS (tb (bys s)) ck with
        | none =>
          rw [hx] at hp
          have HN : Hid (r = none) := by unfold Hid; rw [← HPC.out]; exact pl_stop (pl_next_no HPL.out hx) (by omega)
          clear hx
          go_wp2_with fail
          refine hp.mono ?_
          rintro e w3 ⟨rfl, hk3⟩
          have HK : Hid (Kept (fun k => k = g) w w3) := HBX.out.gone hk3
          clear hk3 hp
          go_wp2_with fail
          exact ⟨rfl, by rw [HN.out]; exact ⟨rfl, HK.out⟩⟩
        | some y =>
          obtain ⟨p, c2⟩ := y
          rw [hx] at hp
          dsimp only [Option.map, stl, itl] at hp
          have HPN : Hid (pl pS (tb (bys s)) c1 (k + 1) = some (l ++ [p], c2)) := pl_next HPL.out hx
          clear hx
          go_wp2_with fail
          refine hp.mono ?_
          rintro e w3 ⟨rfl, hr3, hk3⟩
          have hb3 := HBX.out.next hr3 hk3
          have hle := hb3.le
          have hrow3 := hk3.row HROW.out (fun j hj hF => by have hj2 := (HROW.out.lt j hj).1; have hF' : j = g := hF; omega)
          have HB3 : Hid (RB g s w w3 c2 C C OC) := hb3
          have hsz3 : C + 1 ≤ w3.heap.size := row_lt hb3.hc
          have HNB : Hid (∀ k, (Value.slice a l.length cap).ownBlock = some k → C < k) := fun k hk => (HROW.out.lt k hk).1
          have hl : l.length ≤ 2048 := by rw [HLN.out]; omega
          clear hp hr3 hk3 hb3 HROW HBX hle
          go_wp2_with (at_builtin; (refine wpList_append_own _ rfl _ _ 22 rfl (C + 1) 55 i0 (.agg #[.int .i64 0, .int .i64 0]) 2 16 Tryz.underlying22 hi hz0 hz1 hz2 rfl (by decide) (.slice a l.length cap) l.length (l.flatMap stl) rfl (hrow3.alloc _) ⟨w3.heap.size, 0, none⟩ 1 1 [.int .i64 p.1, .int .i64 p.2] rfl rfl (cell_row_new _ _ _) (by simp [Value.oneCell']) (by unfold maxLen; omega) (by omega) (by simp; omega) ?_); intro v' w4 hown' hg4 _; have HOWN : Hid (w4.ownsRow (C + 1) 55 2 v' (l.length + 1) (l.flatMap stl ++ [.int .i64 p.1, .int .i64 p.2])) := hown'; have HG4 : Hid (RB g s w w4 c2 C C OC) := (HB3.out.later (below_alloc _ _)).grown hg4 HNB.out; clear hown' hg4)
          go_roundw
          case rel => exact ⟨k + 1, by omega, by go_num, l ++ [p], c2, HPN.out, HG4.out, by rw [flat_snoc', List.length_append]; exact HOWN.out⟩
          case measure => simp [intOf]; omega
      · have hkn' : decide ((k : Int) < (n : Int)) = false := by simp; omega
        have HN : Hid (r = some (l, ck)) := by
          unfold Hid
          have e : k = n := by omega
          rw [← HPC.out, ← e]
          exact HPL.out
        clear hbx
        go_wp2_with fail
        go_ret
        rw [HN.out]
        exact ⟨_, rfl, HBX.out.rr, HBX.out.kp, owns_wide HROW.out (by rw [HC.out]; omega)⟩
set_option maxRecDepth 100000 in
set_option maxHeartbeats 1000000 in
theorem takeI_any (g : Nat) (s : ByteArray) (q c : Nat) (w : World) (h : Rr w g c s) (hs : s.size < 1125899906842624) (h1 : 1 ≤ q) (h2 : q ≤ 11) :
    Calls Tryz.prog 99 #[.agg #[.pointer (some ⟨g, 0, none⟩)], .int .i64 (q : Int), .func (.func 100) #[.agg #[.pointer (some ⟨g, 0, none⟩)] ] #[] ] w fun e w' => RL g s itl 53 6 w w' e (pc q pI (tb (bys s)) c) := by
  have hb := RB.new1 h
  have HS : Hid (s.size < 1125899906842624) := hs
  clear h hs
  obtain ⟨r, hr⟩ : ∃ r, pc q pI (tb (bys s)) c = r := ⟨_, rfl⟩
  have HR : Hid (pc q pI (tb (bys s)) c = r) := hr
  rw [hr]
  clear hr
  obtain ⟨i0, hi, hz0, hz1, hz2⟩ := info_of infoItem
  go_enter Tryz.func99, Tryz.ntmps99
  go_upto_region 1 with (fail)
  generalize w.alloc (.cells #[.pointer (some ⟨g, 0, none⟩)] 80) = w1 at *
  obtain ⟨C, hC⟩ : ∃ C, w.heap.size = C := ⟨_, rfl⟩
  have HC : Hid (w.heap.size = C) := hC
  rw [hC] at hb ⊢
  clear hC
  obtain ⟨OC, hOC⟩ : ∃ o, o = Obj.cells #[.pointer (some ⟨g, 0, none⟩)] 80 := ⟨_, rfl⟩
  have c0 : w1.cell? ⟨C, 0, none⟩ = some (.pointer (some ⟨g, 0, none⟩)) := cell_of_row w1 C 0 _ _ _ hb.hc
  rw [← hOC] at hb
  clear hOC
  have hp := number_any g s q c w1 hb.rr HS.out h1 (by omega)
  have HB : Hid (RB g s w w1 c C C OC) := hb
  clear hb
  cases hn : pn q (tb (bys s)) c with
  | none =>
    rw [hn] at hp
    have HN : Hid (r = none) := by unfold Hid; rw [← HR.out]; exact pc_no hn
    clear hn
    go_wp2_with fail
    refine hp.mono ?_
    rintro e w2 ⟨rfl, hk2⟩
    have HK : Hid (Kept (fun k => k = g) w w2) := HB.out.gone hk2
    clear hk2 hp
    go_wp2_with fail
    exact ⟨rfl, by rw [HN.out]; exact ⟨rfl, HK.out⟩⟩
  | some p =>
    obtain ⟨n, c1⟩ := p
    rw [hn] at hp
    dsimp only [Option.map] at hp
    have hn2 : n < 2048 := Nat.lt_of_lt_of_le (pn_lt hn) (by have := Nat.pow_le_pow_right (n := 2) (by decide) h2; simpa using this)
    have HPC : Hid (pl pI (tb (bys s)) c1 n = r) := by unfold Hid; rw [← HR.out, pc_yes hn]
    clear hn HR
    go_wp2_with fail
    refine hp.mono ?_
    rintro e w2 ⟨rfl, hr2, hk2⟩
    have HB2 : Hid (RB g s w w2 c1 C C OC) := HB.out.next hr2 hk2
    clear hr2 hk2 hp HB c0
    go_wp2_with fail
    go_loopw [7, 11] (fun li i wx => ∃ k : Nat, k ≤ n ∧ i = .int .i64 (k : Int) ∧ ∃ l ck, pl pI (tb (bys s)) c1 k = some (l, ck) ∧ RB g s w wx ck C C OC ∧ wx.ownsRow (C + 1) 53 6 li l.length (l.flatMap itl)) (fun _ i _ => n - (intOf i).toNat)
    case atStart => exact ⟨0, by omega, rfl, [], c1, rfl, HB2.out, World.ownsRow_nil _ _ _ _⟩
    case round =>
      obtain ⟨k, hk, rfl, l, ck, hpl, hbx, hrow⟩ := hrel
      clear HB2
      have hlen := pl_len hpl
      have HLN : Hid (l.length = k) := hlen
      have HPL : Hid (pl pI (tb (bys s)) c1 k = some (l, ck)) := hpl
      obtain ⟨a, cap, rfl⟩ := owns_slice hrow
      have HROW : Hid (wr.ownsRow (C + 1) 53 6 (.slice a l.length cap) l.length (l.flatMap itl)) := hrow
      have HBX : Hid (RB g s w wr ck C C OC) := hbx
      clear hpl hrow hlen
      by_cases hkn : k < n
      · have hkn' : (k : Int) < (n : Int) := by omega
        have hp := item_any g s ck wr hbx.rr HS.out
        clear hbx
        cases hx : pI (tb (bys s)) ck with
        | none =>
          rw [hx] at hp
          have HN : Hid (r = none) := by unfold Hid; rw [← HPC.out]; exact pl_stop (pl_next_no HPL.out hx) (by omega)
          clear hx
          go_wp2_with fail
          refine hp.mono ?_
          rintro e w3 ⟨rfl, hk3⟩
          have HK : Hid (Kept (fun k => k = g) w w3) := HBX.out.gone hk3
          clear hk3 hp
          go_wp2_with fail
          exact ⟨rfl, by rw [HN.out]; exact ⟨rfl, HK.out⟩⟩
        | some y =>
          obtain ⟨p, c2⟩ := y
          rw [hx] at hp
          dsimp only [Option.map, stl, itl] at hp
          have HPN : Hid (pl pI (tb (bys s)) c1 (k + 1) = some (l ++ [p], c2)) := pl_next HPL.out hx
          clear hx
          go_wp2_with fail
          refine hp.mono ?_
          rintro e w3 ⟨rfl, hr3, hk3⟩
          have hb3 := HBX.out.next hr3 hk3
          have hle := hb3.le
          have hrow3 := hk3.row HROW.out (fun j hj hF => by have hj2 := (HROW.out.lt j hj).1; have hF' : j = g := hF; omega)
          have HB3 : Hid (RB g s w w3 c2 C C OC) := hb3
          have hsz3 : C + 1 ≤ w3.heap.size := row_lt hb3.hc
          have HNB : Hid (∀ k, (Value.slice a l.length cap).ownBlock = some k → C < k) := fun k hk => (HROW.out.lt k hk).1
          have hl : l.length ≤ 2048 := by rw [HLN.out]; omega
          clear hp hr3 hk3 hb3 HROW HBX hle
          go_wp2_with (at_builtin; (refine wpList_append_own _ rfl _ _ 23 rfl (C + 1) 53 i0 (.agg #[.int .i64 0, .int .i64 0, .int .i64 0, .int .i64 0, .int .i64 0, .int .i64 0]) 6 48 Tryz.underlying23 hi hz0 hz1 hz2 rfl (by decide) (.slice a l.length cap) l.length (l.flatMap itl) rfl (hrow3.alloc _) ⟨w3.heap.size, 0, none⟩ 1 1 [.int .i64 p.1.1, .int .i64 p.1.2, .int .i64 p.2.1.1, .int .i64 p.2.1.2, .int .i64 p.2.2.1, .int .i64 p.2.2.2] rfl rfl (cell_row_new _ _ _) (by simp [Value.oneCell']) (by unfold maxLen; omega) (by omega) (by simp; omega) ?_); intro v' w4 hown' hg4 _; have HOWN : Hid (w4.ownsRow (C + 1) 53 6 v' (l.length + 1) (l.flatMap itl ++ [.int .i64 p.1.1, .int .i64 p.1.2, .int .i64 p.2.1.1, .int .i64 p.2.1.2, .int .i64 p.2.2.1, .int .i64 p.2.2.2])) := hown'; have HG4 : Hid (RB g s w w4 c2 C C OC) := (HB3.out.later (below_alloc _ _)).grown hg4 HNB.out; clear hown' hg4)
          go_roundw
          case rel => exact ⟨k + 1, by omega, by go_num, l ++ [p], c2, HPN.out, HG4.out, by rw [flat_snoc', List.length_append]; exact HOWN.out⟩
          case measure => simp [intOf]; omega
      · have hkn' : decide ((k : Int) < (n : Int)) = false := by simp; omega
        have HN : Hid (r = some (l, ck)) := by
          unfold Hid
          have e : k = n := by omega
          rw [← HPC.out, ← e]
          exact HPL.out
        clear hbx
        go_wp2_with fail
        go_ret
        rw [HN.out]
        exact ⟨_, rfl, HBX.out.rr, HBX.out.kp, owns_wide HROW.out (by rw [HC.out]; omega)⟩
end Go.Proofs.YtdkfifnhmfbagaaGreat.Wi
