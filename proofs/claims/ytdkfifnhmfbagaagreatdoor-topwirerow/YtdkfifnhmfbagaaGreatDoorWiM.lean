/- Contracts: takeList at bytes; the reader's rekey, sealed. -/
import Derived.Test.YtdkfifnhmfbagaaGreatDoorWiJ5
namespace Go.Proofs.YtdkfifnhmfbagaaGreatDoor.Wi
open Go.RowKit Go.Maps
open Bt (Rr Kept tb bys tb_length bys_length tx u8s)
open Rt (gd)
set_option linter.unusedVariables false
set_option linter.unusedSimpArgs false
def u8l (n : Nat) : List Value := [.int .u8 (n : Int)]
set_option maxRecDepth 100000 in
set_option maxHeartbeats 1000000 in
theorem takeB_any (g : Nat) (s : ByteArray) (q c : Nat) (w : World) (h : Rr w g c s) (hs : s.size < 1125899906842624) (h1 : 1 ≤ q) (h2 : q ≤ 11) :
  Calls Tryz.prog 103 #[.agg #[.pointer (some ⟨g, 0, none⟩)], .int .i64 (q : Int), .func (.func 104) #[.agg #[.pointer (some ⟨g, 0, none⟩)] ] #[] ] w fun e w' => RL g s u8l 5 1 w w' e (pc q (pn 8) (tb (bys s)) c) := by
 have hb := RB.new1 h
 have HS : Hid (s.size < 1125899906842624) := hs
 clear h hs
 obtain ⟨r, hr⟩ : ∃ r, pc q (pn 8) (tb (bys s)) c = r := ⟨_, rfl⟩
 have HR : Hid (pc q (pn 8) (tb (bys s)) c = r) := hr
 rw [hr]
 clear hr
 obtain ⟨i0, hi, hz0, hz1, hz2⟩ := info_of info8
 go_enter Tryz.func103, Tryz.ntmps103
 go_upto_region 1 with (fail)
 generalize w.alloc (.cells #[.pointer (some ⟨g, 0, none⟩)] 81) = w1 at *
 obtain ⟨C, hC⟩ : ∃ C, w.heap.size = C := ⟨_, rfl⟩
 have HC : Hid (w.heap.size = C) := hC
 rw [hC] at hb ⊢
 clear hC
 obtain ⟨OC, hOC⟩ : ∃ o, o = Obj.cells #[.pointer (some ⟨g, 0, none⟩)] 81 := ⟨_, rfl⟩
 have c0 : w1.cell? ⟨C, 0, none⟩ = some (.pointer (some ⟨g, 0, none⟩)) := cell_of_row w1 C 0 _ _ _ hb.hc
 rw [← hOC] at hb
 clear hOC
 have hp := number_any g s q c w1 hb.rr HS.out h1 (by omega)
 have HB : Hid (RB g s w w1 c C C OC) := hb
 clear hb
 cases hn : pn q (tb (bys s)) c with
 | none =>
  rw [hn] at hp
  have HN : Hid (r = none) := by unfold Hid; rw [← HR.out]; exact pc_no hn
  clear hn
  go_wp2_with fail
  refine hp.mono ?_
  rintro e w2 ⟨rfl, hk2⟩
  have HK : Hid (Kept (fun k => k = g) w w2) := HB.out.gone hk2
  clear hk2 hp
  go_wp2_with fail
  exact ⟨rfl, by rw [HN.out]; exact ⟨rfl, HK.out⟩⟩
 | some p =>
  obtain ⟨n, c1⟩ := p
  rw [hn] at hp
  dsimp only [Option.map] at hp
  have hn2 : n < 2048 := Nat.lt_of_lt_of_le (pn_lt hn) (by have := Nat.pow_le_pow_right (n := 2) (by decide) h2; simpa using this)
  have HPC : Hid (pl (pn 8) (tb (bys s)) c1 n = r) := by unfold Hid; rw [← HR.out, pc_yes hn]
  clear hn HR
  go_wp2_with fail
  refine hp.mono ?_
  rintro e w2 ⟨rfl, hr2, hk2⟩
  have HB2 : Hid (RB g s w w2 c1 C C OC) := HB.out.next hr2 hk2
  clear hr2 hk2 hp HB c0
  go_wp2_with fail
  go_loopw [7, 11] (fun li i wx => ∃ k : Nat, k ≤ n ∧ i = .int .i64 (k : Int) ∧ ∃ l ck, pl (pn 8) (tb (bys s)) c1 k = some (l, ck) ∧ RB g s w wx ck C C OC ∧ wx.ownsRow (C + 1) 5 1 li l.length (l.flatMap u8l)) (fun _ i _ => n - (intOf i).toNat)
  case atStart => exact ⟨0, by omega, rfl, [], c1, rfl, HB2.out, World.ownsRow_nil _ _ _ _⟩
  case round =>
   obtain ⟨k, hk, rfl, l, ck, hpl, hbx, hrow⟩ := hrel
   clear HB2
   have hlen := pl_len hpl
   have HLN : Hid (l.length = k) := hlen
   have HPL : Hid (pl (pn 8) (tb (bys s)) c1 k = some (l, ck)) := hpl
   obtain ⟨a, cap, rfl⟩ := owns_slice hrow
   have HROW : Hid (wr.ownsRow (C + 1) 5 1 (.slice a l.length cap) l.length (l.flatMap u8l)) := hrow
   have HBX : Hid (RB g s w wr ck C C OC) := hbx
   clear hpl hrow hlen
   by_cases hkn : k < n
   ·have hkn' : (k : Int) < (n : Int) := by omega
    have hp := octet_any g s ck wr hbx.rr HS.out
    clear hbx
    cases hx : (pn 8) (tb (bys s)) ck with
    | none =>
     rw [hx] at hp
     have HN : Hid (r = none) := by unfold Hid; rw [← HPC.out]; exact pl_stop (pl_next_no HPL.out hx) (by omega)
     clear hx
     go_wp2_with fail
     refine hp.mono ?_
     rintro e w3 ⟨rfl, hk3⟩
     have HK : Hid (Kept (fun k => k = g) w w3) := HBX.out.gone hk3
     clear hk3 hp
     go_wp2_with fail
     exact ⟨rfl, by rw [HN.out]; exact ⟨rfl, HK.out⟩⟩
    | some y =>
     obtain ⟨p, c2⟩ := y
     rw [hx] at hp
     dsimp only [Option.map] at hp
     have HPN : Hid (pl (pn 8) (tb (bys s)) c1 (k + 1) = some (l ++ [p], c2)) := pl_next HPL.out hx
     clear hx
     go_wp2_with fail
     refine hp.mono ?_
     rintro e w3 ⟨rfl, hr3, hk3⟩
     have hb3 := HBX.out.next hr3 hk3
     have hle := hb3.le
     have hrow3 := hk3.row HROW.out (fun j hj hF => by have hj2 := (HROW.out.lt j hj).1; have hF' : j = g := hF; omega)
     have HB3 : Hid (RB g s w w3 c2 C C OC) := hb3
     have hsz3 : C + 1 ≤ w3.heap.size := row_lt hb3.hc
     have HNB : Hid (∀ k, (Value.slice a l.length cap).ownBlock = some k → C < k) := fun k hk => (HROW.out.lt k hk).1
     have hl : l.length ≤ 2048 := by rw [HLN.out]; omega
     clear hp hr3 hk3 hb3 HROW HBX hle
     go_wp2_with (at_builtin; (refine wpList_append_own _ rfl _ _ 101 rfl (C + 1) 5 i0 (.int .u8 0) 1 1 Tryz.underlying101 hi hz0 hz1 hz2 rfl (by decide) (.slice a l.length cap) l.length (l.flatMap u8l) rfl (hrow3.alloc _) ⟨w3.heap.size, 0, none⟩ 1 1 [.int .u8 (p : Int)] rfl rfl (cell_row_new _ _ _) (by simp [Value.oneCell']) (by unfold maxLen; omega) (by omega) (by simp; omega) ?_); intro v' w4 hown' hg4 _; have HOWN : Hid (w4.ownsRow (C + 1) 5 1 v' (l.length + 1) (l.flatMap u8l ++ [.int .u8 (p : Int)])) := hown'; have HG4 : Hid (RB g s w w4 c2 C C OC) := (HB3.out.later (below_alloc _ _)).grown hg4 HNB.out; clear hown' hg4)
     go_roundw
     case rel => exact ⟨k + 1, by omega, by go_num, l ++ [p], c2, HPN.out, HG4.out, by rw [flat_snoc', List.length_append]; exact HOWN.out⟩
     case measure => simp [intOf]; omega
   ·have hkn' : decide ((k : Int) < (n : Int)) = false := by simp; omega
    have HN : Hid (r = some (l, ck)) := by
     unfold Hid
     have e : k = n := by omega
     rw [← HPC.out, ← e]
     exact HPL.out
    clear hbx
    go_wp2_with fail
    go_ret
    rw [HN.out]
    exact ⟨_, rfl, HBX.out.rr, HBX.out.kp, owns_wide HROW.out (by rw [HC.out]; omega)⟩
theorem u8_flat (l : List Nat) : l.flatMap u8l = u8s l := by
 induction l with
 | nil => rfl
 | cons x l ih => rw [List.flatMap_cons, ih]; rfl
theorem conv_row {w : World} {B : Nat} {v : Value} {l : List Nat} {n : Nat} (hn : l.length = n) (h : w.ownsRow B 5 1 v n (u8s l)) (hlt : ∀ x ∈ l, x < 256) : (convert 101 9 v).run Tryz.prog w = .ok (.string (tx l)) w := by
 subst hn
 rcases h.2 with ⟨h0, hn⟩ | ⟨r, cap, cur, hv, _⟩
 ·subst h0
  have hp : l = [] := List.length_eq_zero_iff.1 hn
  subst hp
  rw [run_convert_bytes_string w 101 9 5 none 0 0 Tryz.underlying101 Tryz.underlying5 Tryz.underlying9 ]
  rfl
 ·subst hv
  have hc := run_convert_bytes_back (P := Tryz.prog) w 101 9 5 ⟨r, 0, none⟩ cap (l.map UInt8.ofNat) Tryz.underlying101 Tryz.underlying5 Tryz.underlying9 (fun j hj => by
   simp at hj
   have e : ((⟨r, 0, none⟩ : Addr).add j) = ⟨r, j, none⟩ := by unfold Addr.add; split <;> simp_all
   rw [e, h.cellAt j (by omega)]
   have hlt := hlt l[j] (List.getElem_mem hj)
   simp [u8s, hj, UInt8.toNat_ofNat']; omega)
  rw [List.length_map] at hc
  exact hc
theorem pl_lt {T : List Bool} {c : Nat} : ∀ {n : Nat} {l : List Nat} {c' : Nat}, pl (pn 8) T c n = some (l, c') → ∀ x ∈ l, x < 256
 | 0, l, c', h => by cases h; simp
 | n + 1, l, c', h => by
  obtain ⟨l', x, c1, rfl, k1, k2⟩ := pl_inv h
  intro y hy
  rcases List.mem_append.1 hy with hy | hy
  ·exact pl_lt k1 y hy
  ·simp at hy; subst hy; exact pn_lt k2
theorem pc_lt {q : Nat} {T : List Bool} {c : Nat} {l : List Nat} {c' : Nat} (h : pc q (pn 8) T c = some (l, c')) : ∀ x ∈ l, x < 256 := by
 unfold pc at h
 split at h
 ·cases h
 ·exact pl_lt h
theorem owns_block {W W' : World} {b : Nat} {e : TypeId} {sz : Nat} {v : Value} {n : Nat} {xs : List Value} (h : W.ownsRow b e sz v n xs) (hk : ∀ g, b ≤ g → g < W.heap.size → W'.heap[g]? = W.heap[g]?) : W'.ownsRow b e sz v n xs := by
 obtain ⟨h1, h2⟩ := h
 refine ⟨h1, ?_⟩
 rcases h2 with h2 | ⟨g, cap, cur, rfl, h3, h4, r⟩
 ·exact .inl h2
 ·exact .inr ⟨g, cap, cur, rfl, h3, (hk g h3 (Array.getElem?_eq_some_iff.1 h4).1).trans h4, r⟩
theorem owns_kept {W W' : World} {b g : Nat} {e : TypeId} {sz : Nat} {v : Value} {n : Nat} {xs : List Value} (h : W.ownsRow b e sz v n xs) (hk : Kept (fun k => k = g) W W') (hg : g < b) : W'.ownsRow b e sz v n xs := owns_block h fun k h1 h2 => hk.block k h2 (by omega)
theorem owns_set {W : World} {b E j : Nat} {e : TypeId} {sz : Nat} {v u : Value} {n : Nat} {xs : List Value} (h : W.ownsRow b e sz v n xs) (hE : E < b) : (W.setCell ⟨E, j, none⟩ u).ownsRow b e sz v n xs := owns_block h fun k h1 h2 => other_set (by omega) _ _
theorem owns_row {W : World} {b E : Nat} {e : TypeId} {sz : Nat} {v : Value} {n : Nat} {xs : List Value} {cs : Array Value} (h : W.ownsRow b e sz v n xs) (hE : E < b) : (W.setRow E cs).ownsRow b e sz v n xs := owns_block h fun k h1 h2 => setRow_other (by omega) _
theorem owns_cells {W : World} {b E o : Nat} {e : TypeId} {sz : Nat} {v : Value} {n : Nat} {xs vs : List Value} (h : W.ownsRow b e sz v n xs) (hE : E < b) : (W.setCells E o vs).ownsRow b e sz v n xs := owns_block h fun k h1 h2 => other_upd (by omega) _ _
/- Beside the boxes a third one, which is filled. -/
structure RE (g : Nat) (s : ByteArray) (W0 W : World) (c C D E : Nat) (ad : Obj) (T : TypeId) (oe : Array Value) : Prop where
 rb : RB g s W0 W c C D ad
 he : W.heap[E]? = some (.cells oe T (0, 0))
 dc : D ≠ C
 ec : C < E ∧ D < E
section
variable {g : Nat} {s : ByteArray} {W0 W W' : World} {c c' C D E : Nat} {ad : Obj} {T : TypeId} {oe : Array Value}
theorem RE.new (h : RB g s W0 W c C D ad) (hdc : D ≠ C) (oe : Array Value) : RE g s W0 (W.alloc (.cells oe T)) c C D W.heap.size ad T oe :=
 ⟨h.later (below_alloc _ _), heap_alloc_last W _, hdc, row_lt h.hc, row_lt h.hd⟩
theorem RE.next (h : RE g s W0 W c C D E ad T oe) (hr : Rr W' g c' s) (hk : Kept (fun k => k = g) W W') : RE g s W0 W' c' C D E ad T oe :=
 ⟨h.rb.next hr hk, row_kept h.he hk (by have := h.rb.le; have := h.ec; omega), h.dc, h.ec⟩
theorem RE.later (h : RE g s W0 W c C D E ad T oe) (hb : Below W.heap.size W W') : RE g s W0 W' c C D E ad T oe := ⟨h.rb.later hb, row_later h.he hb, h.dc, h.ec⟩
theorem RE.set (h : RE g s W0 W c C D E ad T oe) (j : Nat) (v : Value) {oe' : Array Value} (e : oe.setIfInBounds j v = oe') : RE g s W0 (W.setCell ⟨E, j, none⟩ v) c C D E ad T oe' := by
 obtain ⟨l1, l2, l3⟩ := h.rb.le
 obtain ⟨e1, e2⟩ := h.ec
 refine ⟨⟨⟨(other_set (by omega) _ _).trans h.rb.rr.blk, h.rb.rr.le⟩, (other_set (by omega) _ _).trans h.rb.hc, (other_set (by omega) _ _).trans h.rb.hd, h.rb.kp.setCell (p := ⟨E, j, none⟩) (fun hh => by have hh' : E < W0.heap.size := hh; omega) v, h.rb.le⟩, ?_, h.dc, h.ec⟩
 have := row_set h.he j v
 rw [e] at this
 exact this
theorem RE.setD {ds : Array Value} {U : TypeId} (h : RE g s W0 W c C D E (.cells ds U (0, 0)) T oe) (cs : Array Value) : RE g s W0 (W.setRow D cs) c C D E (.cells cs U (0, 0)) T oe := by
 obtain ⟨e1, e2⟩ := h.ec
 exact ⟨h.rb.setRow cs h.dc, (setRow_other (by omega) _).trans h.he, h.dc, h.ec⟩
end
/- Two lists of blocks of their own. -/
def APv (v u : Value) : Prop := ∀ k, v.ownBlock = some k → u.ownBlock ≠ some k
/- What rekey answers. -/
def RK (g : Nat) (s : ByteArray) (w w' : World) (e : Ending) : Option ((Int × (List (Int × Int) × (List (Int × Int) × List ((Int × Int) × ((Int × Int) × (Int × Int)))))) × Nat) → Prop
 | none => e = .panicked pw ∧ Kept (fun k => k = g) w w'
 | some (r, c) => ∃ vL vJ vI, e = .returned (.agg (rkl r.1 vL vJ vI).toArray) ∧ Rr w' g c s ∧ Kept (fun k => k = g) w w' ∧ w'.ownsRow w.heap.size 108 2 vL r.2.1.length (r.2.1.flatMap stl) ∧ w'.ownsRow w.heap.size 108 2 vJ r.2.2.1.length (r.2.2.1.flatMap stl) ∧ w'.ownsRow w.heap.size 112 6 vI r.2.2.2.length (r.2.2.2.flatMap itl) ∧ APv vL vJ
set_option maxRecDepth 100000 in
set_option maxHeartbeats 1000000 in
theorem rekey_any (g : Nat) (s : ByteArray) (c : Nat) (w : World) (h : Rr w g c s) (hs : s.size < 1125899906842624) :
  Calls Tryz.prog 46 #[.agg #[.pointer (some ⟨g, 0, none⟩)] ] w fun e w' => RK g s w w' e (pR (tb (bys s)) c) := by
 have hb := RE.new (T := 31) (RB.new2 h (.cells #[.int .i64 0, .slice none 0 0, .slice none 0 0, .slice none 0 0] 31)) (by omega) #[.int .i64 0, .slice none 0 0, .slice none 0 0, .slice none 0 0]
 have HS : Hid (s.size < 1125899906842624) := hs
 have hmf : ∀ (fn : Fn) (first cap : Array Value) (w : World), (Instr.makeFunc fn first cap).run Tryz.prog w = .ok (.func fn first cap) w := fun _ _ _ _ => rfl
 clear h hs
 obtain ⟨r, hr⟩ : ∃ r, pR (tb (bys s)) c = r := ⟨_, rfl⟩
 have HR : Hid (pR (tb (bys s)) c = r) := hr
 rw [hr]
 clear hr
 go_enter Tryz.func46, Tryz.ntmps46
 go_upto_region 2 with (fail)
 rw [show ((w.alloc (.cells #[.pointer (some ⟨g, 0, none⟩)] 81)).alloc (.cells #[.int .i64 0, .slice none 0 0, .slice none 0 0, .slice none 0 0] 31)).heap.size = w.heap.size + 2 by simp] at hb
 generalize ((w.alloc (.cells #[.pointer (some ⟨g, 0, none⟩)] 81)).alloc (.cells #[.int .i64 0, .slice none 0 0, .slice none 0 0, .slice none 0 0] 31)).alloc (.cells #[.int .i64 0, .slice none 0 0, .slice none 0 0, .slice none 0 0] 31) = w1 at *
 have HWZ : Hid (w.heap.size ≤ w.heap.size + 2 + 1) := by unfold Hid; omega
 obtain ⟨E, hE⟩ : ∃ D, w.heap.size + 2 = D := ⟨_, rfl⟩
 rw [hE] at hb HWZ ⊢
 obtain ⟨D, hD⟩ : ∃ D, w.heap.size + 1 = D := ⟨_, rfl⟩
 rw [hD] at hb ⊢
 obtain ⟨C, hC⟩ : ∃ C, w.heap.size = C := ⟨_, rfl⟩
 have HCW : Hid (w.heap.size ≤ E + 1) := HWZ.out
 rw [hC] at hb ⊢
 clear hD hC hE HWZ
 have c0 : w1.cell? ⟨C, 0, none⟩ = some (.pointer (some ⟨g, 0, none⟩)) := cell_of_row w1 C 0 _ _ _ hb.rb.hc
 have hp := number_any g s 8 c w1 hb.rb.rr HS.out (by omega) (by omega)
 have HB : Hid (RE g s w w1 c C D E (.cells #[.int .i64 0, .slice none 0 0, .slice none 0 0, .slice none 0 0] 31) 31 #[.int .i64 0, .slice none 0 0, .slice none 0 0, .slice none 0 0]) := hb
 clear hb
 cases hn : pn 8 (tb (bys s)) c with
 | none =>
  rw [hn] at hp
  have HN : Hid (r = none) := by unfold Hid; rw [← HR.out]; exact pq_no (pi_no hn)
  clear hn
  go_wp2_with fail
  refine hp.mono ?_
  rintro e wz ⟨rfl, hkz⟩
  have HK : Hid (Kept (fun k => k = g) w wz) := HB.out.rb.gone hkz
  clear hkz hp
  go_wp2_with fail
  exact ⟨rfl, by rw [HN.out]; exact ⟨rfl, HK.out⟩⟩
 | some p =>
  obtain ⟨e, c1⟩ := p
  rw [hn] at hp
  dsimp only [Option.map] at hp
  have HN1 : Hid (pi 8 (tb (bys s)) c = some ((e : Int), c1)) := pi_yes hn
  clear hn
  go_wp2_with fail
  refine hp.mono ?_
  rintro q w2 ⟨rfl, hr2, hk2⟩
  have hb2 := HB.out.next hr2 hk2
  have HB2 : Hid (RE g s w w2 c1 C D E (.cells #[.int .i64 0, .slice none 0 0, .slice none 0 0, .slice none 0 0] 31) 31 #[.int .i64 0, .slice none 0 0, .slice none 0 0, .slice none 0 0]) := hb2
  obtain ⟨e0, e1, e2, e3⟩ := c4 hb2.he
  have f0 := row_fr hb2.he 0
  clear hr2 hk2 hp HB c0 hb2
  go_upto_region 3 with (fail)
  have hb3 := HB2.out.set 0 (.int .i64 (e : Int)) rfl
  generalize w2.setCell ⟨E, 0, none⟩ (.int .i64 (e : Int)) = w3 at *
  clear e0 e1 e2 e3 f0 HB2
  have c0 : w3.cell? ⟨C, 0, none⟩ = some (.pointer (some ⟨g, 0, none⟩)) := cell_of_row w3 C 0 _ _ _ hb3.rb.hc
  have hp := takeS_any g s 7 c1 w3 hb3.rb.rr HS.out (by omega) (by omega)
  have HB : Hid (RE g s w w3 c1 C D E (.cells #[.int .i64 0, .slice none 0 0, .slice none 0 0, .slice none 0 0] 31) 31 #[.int .i64 (e : Int), .slice none 0 0, .slice none 0 0, .slice none 0 0]) := hb3
  clear hb3
  cases hn : pc 7 pS (tb (bys s)) c1 with
  | none =>
   rw [hn] at hp
   have HN : Hid (r = none) := by unfold Hid; rw [← HR.out]; exact pq_no2 HN1.out (pq_no hn)
   clear hn
   go_wp2_with fail
   refine hp.mono ?_
   rintro e wz ⟨rfl, hkz⟩
   have HK : Hid (Kept (fun k => k = g) w wz) := HB.out.rb.gone hkz
   clear hkz hp
   go_wp2_with fail
   exact ⟨rfl, by rw [HN.out]; exact ⟨rfl, HK.out⟩⟩
  | some p =>
   obtain ⟨L, c2⟩ := p
   rw [hn] at hp
   have HN2 : Hid (pL (tb (bys s)) c1 = some (L, c2)) := hn
   clear hn
   go_wp2_with fail
   refine hp.mono ?_
   rintro q w4 ⟨vL, rfl, hr4, hk4, ho4⟩
   have hb4 := HB.out.next hr4 hk4
   have HB4 : Hid (RE g s w w4 c2 C D E (.cells #[.int .i64 0, .slice none 0 0, .slice none 0 0, .slice none 0 0] 31) 31 #[.int .i64 (e : Int), .slice none 0 0, .slice none 0 0, .slice none 0 0]) := hb4
   have hEw : E + 1 ≤ w3.heap.size := row_lt HB.out.he
   have HOL : Hid (w4.ownsRow (E + 1) 108 2 vL L.length (L.flatMap stl)) := owns_wide ho4 hEw
   obtain ⟨aL, cL, rfl⟩ := owns_slice ho4
   obtain ⟨e0, e1, e2, e3⟩ := c4 hb4.he
   have f0 := row_fr hb4.he 1
   clear hr4 hk4 hp HB c0 hb4 ho4 hEw
   obtain ⟨nL, hnL⟩ : ∃ n, L.length = n := ⟨_, rfl⟩
   have HNL : Hid (L.length = nL) := hnL
   rw [hnL] at HOL ⊢
   clear hnL
   go_upto_region 4 with (fail)
   have hb5 := HB4.out.set 1 (.slice aL nL cL) rfl
   have HOL5 : Hid ((w4.setCell ⟨E, 1, none⟩ (.slice aL nL cL)).ownsRow (E + 1) 108 2 (.slice aL nL cL) nL (L.flatMap stl)) := owns_set HOL.out (by omega)
   generalize w4.setCell ⟨E, 1, none⟩ (.slice aL nL cL) = w5 at *
   clear e0 e1 e2 e3 f0 HB4 HOL
   have c0 : w5.cell? ⟨C, 0, none⟩ = some (.pointer (some ⟨g, 0, none⟩)) := cell_of_row w5 C 0 _ _ _ hb5.rb.hc
   have hp := takeS_any g s 7 c2 w5 hb5.rb.rr HS.out (by omega) (by omega)
   have HB : Hid (RE g s w w5 c2 C D E (.cells #[.int .i64 0, .slice none 0 0, .slice none 0 0, .slice none 0 0] 31) 31 #[.int .i64 (e : Int), .slice aL nL cL, .slice none 0 0, .slice none 0 0]) := hb5
   clear hb5
   cases hn : pc 7 pS (tb (bys s)) c2 with
   | none =>
    rw [hn] at hp
    have HN : Hid (r = none) := by unfold Hid; rw [← HR.out]; exact pq_no2 HN1.out (pq_no2 HN2.out (pq_no hn))
    clear hn
    go_wp2_with fail
    refine hp.mono ?_
    rintro e wz ⟨rfl, hkz⟩
    have HK : Hid (Kept (fun k => k = g) w wz) := HB.out.rb.gone hkz
    clear hkz hp
    go_wp2_with fail
    exact ⟨rfl, by rw [HN.out]; exact ⟨rfl, HK.out⟩⟩
   | some p =>
    obtain ⟨J, c3⟩ := p
    rw [hn] at hp
    have HN3 : Hid (pL (tb (bys s)) c2 = some (J, c3)) := hn
    clear hn
    go_wp2_with fail
    refine hp.mono ?_
    rintro q w6 ⟨vJ, rfl, hr6, hk6, ho6⟩
    have hb6 := HB.out.next hr6 hk6
    have hgE : g < E + 1 := by have := hb6.rb.le; have := hb6.ec; omega
    have HB6 : Hid (RE g s w w6 c3 C D E (.cells #[.int .i64 0, .slice none 0 0, .slice none 0 0, .slice none 0 0] 31) 31 #[.int .i64 (e : Int), .slice aL nL cL, .slice none 0 0, .slice none 0 0]) := hb6
    have hEw : E + 1 ≤ w5.heap.size := row_lt HB.out.he
    have HOL6 : Hid (w6.ownsRow (E + 1) 108 2 (.slice aL nL cL) nL (L.flatMap stl)) := owns_kept HOL5.out hk6 hgE
    have HOJ : Hid (w6.ownsRow (E + 1) 108 2 vJ J.length (J.flatMap stl)) := owns_wide ho6 hEw
    have HAP : Hid (APv (.slice aL nL cL) vJ) := fun k h1 h2 => by
     have := (HOL5.out.lt k h1).2
     have := (ho6.lt k h2).1
     omega
    obtain ⟨aJ, cJ, rfl⟩ := owns_slice ho6
    obtain ⟨e0, e1, e2, e3⟩ := c4 hb6.he
    have f0 := row_fr hb6.he 2
    clear hr6 hk6 hp HB c0 hb6 ho6 hEw HOL5
    obtain ⟨nJ, hnJ⟩ : ∃ n, J.length = n := ⟨_, rfl⟩
    have HNJ : Hid (J.length = nJ) := hnJ
    rw [hnJ] at HOJ HAP ⊢
    clear hnJ
    go_upto_region 5 with (fail)
    have hb7 := HB6.out.set 2 (.slice aJ nJ cJ) rfl
    have HOL7 : Hid ((w6.setCell ⟨E, 2, none⟩ (.slice aJ nJ cJ)).ownsRow (E + 1) 108 2 (.slice aL nL cL) nL (L.flatMap stl)) := owns_set HOL6.out (by omega)
    have HOJ7 : Hid ((w6.setCell ⟨E, 2, none⟩ (.slice aJ nJ cJ)).ownsRow (E + 1) 108 2 (.slice aJ nJ cJ) nJ (J.flatMap stl)) := owns_set HOJ.out (by omega)
    generalize w6.setCell ⟨E, 2, none⟩ (.slice aJ nJ cJ) = w7 at *
    clear e0 e1 e2 e3 f0 HB6 HOJ HOL6
    have c0 : w7.cell? ⟨C, 0, none⟩ = some (.pointer (some ⟨g, 0, none⟩)) := cell_of_row w7 C 0 _ _ _ hb7.rb.hc
    have hp := takeI_any g s 11 c3 w7 hb7.rb.rr HS.out (by omega) (by omega)
    have HB : Hid (RE g s w w7 c3 C D E (.cells #[.int .i64 0, .slice none 0 0, .slice none 0 0, .slice none 0 0] 31) 31 #[.int .i64 (e : Int), .slice aL nL cL, .slice aJ nJ cJ, .slice none 0 0]) := hb7
    clear hb7
    cases hn : pc 11 pI (tb (bys s)) c3 with
    | none =>
     rw [hn] at hp
     have HN : Hid (r = none) := by unfold Hid; rw [← HR.out]; exact pq_no2 HN1.out (pq_no2 HN2.out (pq_no2 HN3.out hn))
     clear hn
     go_wp2_with fail
     refine hp.mono ?_
     rintro e wz ⟨rfl, hkz⟩
     have HK : Hid (Kept (fun k => k = g) w wz) := HB.out.rb.gone hkz
     clear hkz hp
     go_wp2_with fail
     exact ⟨rfl, by rw [HN.out]; exact ⟨rfl, HK.out⟩⟩
    | some p =>
     obtain ⟨I, c4⟩ := p
     rw [hn] at hp
     have HN : Hid (r = some (((e : Int), L, J, I), c4)) := by unfold Hid; rw [← HR.out]; exact pq_yes HN1.out (pq_yes HN2.out (pq_yes HN3.out hn))
     clear hn
     go_wp2_with fail
     refine hp.mono ?_
     rintro q w8 ⟨vI, rfl, hr8, hk8, ho8⟩
     have hb8 := HB.out.next hr8 hk8
     have HB8 : Hid (RE g s w w8 c4 C D E (.cells #[.int .i64 0, .slice none 0 0, .slice none 0 0, .slice none 0 0] 31) 31 #[.int .i64 (e : Int), .slice aL nL cL, .slice aJ nJ cJ, .slice none 0 0]) := hb8
     have hEw : E + 1 ≤ w7.heap.size := row_lt HB.out.he
     have HOL8 : Hid (w8.ownsRow (E + 1) 108 2 (.slice aL nL cL) nL (L.flatMap stl)) := owns_kept HOL7.out hk8 hgE
     have HOJ8 : Hid (w8.ownsRow (E + 1) 108 2 (.slice aJ nJ cJ) nJ (J.flatMap stl)) := owns_kept HOJ7.out hk8 hgE
     have HOI : Hid (w8.ownsRow (E + 1) 112 6 vI I.length (I.flatMap itl)) := owns_wide ho8 hEw
     obtain ⟨aI, cI, rfl⟩ := owns_slice ho8
     obtain ⟨e0, e1, e2, e3⟩ := Wi.c4 hb8.he
     have f0 := row_fr hb8.he 3
     clear hr8 hk8 hp HB c0 hb8 ho8 hEw HOL7 HOJ7
     obtain ⟨nI, hnI⟩ : ∃ n, I.length = n := ⟨_, rfl⟩
     have HNI : Hid (I.length = nI) := hnI
     rw [hnI] at HOI ⊢
     clear hnI
     go_upto_region 6 with (fail)
     have hb9 := HB8.out.set 3 (.slice aI nI cI) rfl
     have HOL9 : Hid ((w8.setCell ⟨E, 3, none⟩ (.slice aI nI cI)).ownsRow (E + 1) 108 2 (.slice aL nL cL) nL (L.flatMap stl)) := owns_set HOL8.out (by omega)
     have HOJ9 : Hid ((w8.setCell ⟨E, 3, none⟩ (.slice aI nI cI)).ownsRow (E + 1) 108 2 (.slice aJ nJ cJ) nJ (J.flatMap stl)) := owns_set HOJ8.out (by omega)
     have HOI9 : Hid ((w8.setCell ⟨E, 3, none⟩ (.slice aI nI cI)).ownsRow (E + 1) 112 6 (.slice aI nI cI) nI (I.flatMap itl)) := owns_set HOI.out (by omega)
     generalize w8.setCell ⟨E, 3, none⟩ (.slice aI nI cI) = w9 at *
     clear e0 e1 e2 e3 f0 HB8 HOI HOJ8 HOL8
     obtain ⟨e0, e1, e2, e3⟩ := Wi.c4 hb9.he
     have HB9 : Hid (RE g s w w9 c4 C D E (.cells #[.int .i64 0, .slice none 0 0, .slice none 0 0, .slice none 0 0] 31) 31 #[.int .i64 (e : Int), .slice aL nL cL, .slice aJ nJ cJ, .slice aI nI cI]) := hb9
     clear hb9
     go_wp2_with (refine stW szRk HB9.out.rb.hd rfl [.int .i64 (e : Int), .slice aL nL cL, .slice aJ nJ cJ, .slice aI nI cI] rfl rfl rfl _ _ rfl rfl rfl ?_)
     have hbA := HB9.out.setD #[.int .i64 (e : Int), .slice aL nL cL, .slice aJ nJ cJ, .slice aI nI cI]
     refine bodyPost_ret (res1 (T := 31) (p := 2) rfl _ _ D #[.int .i64 (e : Int), .slice aL nL cL, .slice aJ nJ cJ, .slice aI nI cI] rfl (run_loadVar_row _ D _ 31 _ _ _ hbA.rb.hd Tryz.underlying31 rfl szRk)) rfl ?_
     rw [HN.out]
     have hDE : D < E + 1 := by have := HB9.out.ec; omega
     refine ⟨.slice aL nL cL, .slice aJ nJ cJ, .slice aI nI cI, rfl, hbA.rb.rr, hbA.rb.kp, ?_, ?_, ?_, HAP.out⟩
     ·dsimp only; rw [HNL.out]; exact owns_wide (owns_row HOL9.out hDE) HCW.out
     ·dsimp only; rw [HNJ.out]; exact owns_wide (owns_row HOJ9.out hDE) HCW.out
     ·dsimp only; rw [HNI.out]; exact owns_wide (owns_row HOI9.out hDE) HCW.out
end Go.Proofs.YtdkfifnhmfbagaaGreatDoor.Wi
