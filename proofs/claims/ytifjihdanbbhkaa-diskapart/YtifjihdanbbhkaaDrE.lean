/- Contract: the document's Cut. -/
import Derived.Test.YtifjihdanbbhkaaDrD
namespace Go.Proofs.Ytifjihdanbbhkaa
open Go.RowKit Go.Maps
set_option linter.unusedVariables false
set_option linter.unusedSimpArgs false
attribute [local go_sem ↓] Go.wp_at_zero Go.wp_at_succ

theorem nx_good {img : List ByteArray} {log : List (Int × ByteArray)} {x : Int} {t : ByteArray} (h : Gp (x, t)) : nx ⟨img, log, -1⟩ x t = ⟨img, log ++ [(x, t)], -1⟩ := by
  unfold nx
  rw [if_pos (we_good (by show (-1 : Int) ≠ 0; decide) h)]
  rfl
def RCut (N : Nat) (s : St) (e : Ending) (w' : World) : Prop := ∃ p f y x, e = .returned (.pointer (some ⟨p, 0, none⟩)) ∧ Rk N w' p s f y x
set_option maxHeartbeats 4000000 in
set_option maxRecDepth 100000 in
theorem rCut_any (N : Nat) (w : World) (q : Nat) (s : St) (f y x : Value) (h : Rk N w q s f y x) (hl : s.log.length ≤ 5864062014805) (n : Int) :
    Calls Try.prog 16 #[.pointer (some ⟨q, 0, none⟩), .int .i64 n] w fun e w' => RCut w.heap.size (ct s n.toNat) e w' ∧ Below w.heap.size w w' := by
  have c0 := h.c0
  obtain ⟨af, capf, rfl⟩ := row_spell h.fst
  have hfrom := rFrom_some af capf s.img w h.ok.i1 h.fst.rd (fun t ht => by have := h.ok.i2 t ht; omega) (fun e => by
    rcases h.fst.2 with ⟨hv, _⟩ | ⟨g', cap', cur, hv, _⟩
    · simp at hv; exact hv.2.2
    · subst e; simp at hv)
  have hlg : lng s.img = false := by
    cases hh : lng s.img with
    | false => rfl
    | true =>
      obtain ⟨t, ht, h32⟩ := List.any_eq_true.1 hh
      have := h.ok.i2 t ht
      simp at h32; omega
  have HD : Hid (Rk N w q s (.slice af s.img.length capf) y x) := h
  have HLG : Hid (lng s.img = false) := hlg
  obtain ⟨li, hli⟩ : ∃ li, s.img.length = li := ⟨_, rfl⟩
  rw [hli] at c0 hfrom HD
  clear h hlg hli
  go_enter Try.func16, Try.ntmps16
  go_wp2_with fail
  refine hfrom.mono ?_
  rintro e w1 ⟨⟨hbad, _⟩ | ⟨_, p, f', y', x', rfl, hk⟩, hb1⟩
  · rw [HLG.out] at hbad; cases hbad
  have HB1 : Hid (Below w.heap.size w w1) := hb1
  have HK1 : Hid (Rk w.heap.size w1 p ⟨s.img, s.log.take 0, -1⟩ f' y' x') := by
    have e : st s.img = ⟨s.img, s.log.take 0, -1⟩ := by simp [st]
    rw [e] at hk; exact hk
  obtain ⟨len, hlen⟩ : ∃ len, s.log.length = len := ⟨_, rfl⟩
  have HLEN : Hid (s.log.length = len) := hlen
  obtain ⟨k, hkk⟩ : ∃ k, min n.toNat len = k := ⟨_, rfl⟩
  have HKK : Hid (min n.toNat len = k) := hkk
  have htk : s.log.take n.toNat = s.log.take k := by
    rw [← hkk, ← hlen, Nat.min_def]
    split
    · rfl
    · rw [List.take_of_length_le (by omega), List.take_length]
  have HTK : Hid (s.log.take n.toNat = s.log.take k) := htk
  rw [hlen] at hl
  clear hk hb1 hfrom c0 hlen hkk htk
  go_wp2_with fail
  go_loopw [7] (fun i wr => ∃ j : Nat, j ≤ k ∧ i = .int .i64 (j : Int) ∧ (∃ x, Rk w.heap.size wr p ⟨s.img, s.log.take j, -1⟩ f' y' x) ∧ Below w.heap.size w wr) (fun i _ => k - (intOf i).toNat)
  case atStart => exact ⟨0, by omega, rfl, ⟨_, HK1.out⟩, HB1.out⟩
  case round =>
    obtain ⟨j, hj, rfl, ⟨xj, hkj⟩, hb⟩ := hrel
    have HKJ : Hid (Rk w.heap.size wr p ⟨s.img, s.log.take j, -1⟩ f' y' xj) := hkj
    have HB : Hid (Below w.heap.size w wr) := hb
    have hdw := HD.out.later hb
    have c2 := hdw.c2
    obtain ⟨al, capl, hxs⟩ := row_spell hdw.log
    subst hxs
    rw [HLEN.out] at c2
    have HRD : Hid (RdW wr al s.log) := hdw.log.rd
    clear hkj hb hdw
    by_cases hjk : j < k
    · have hjl : j < len := by have := HKK.out; omega
      obtain ⟨g, o, eal, hcs⟩ := HRD.out.spot (by intro e; have := HLEN.out; rw [e] at this; simp at this; omega)
      obtain ⟨x0, x1⟩ := hcs j (by rw [HLEN.out]; exact hjl)
      subst eal
      have hgj : Gp (s.log.getD j (0, ⟨#[]⟩)) := HD.out.ok.l1 _ (by rw [getD_yes _ _ (by rw [HLEN.out]; exact hjl)]; exact List.getElem_mem _)
      have htk1 : s.log.take (j + 1) = s.log.take j ++ [s.log.getD j (0, ⟨#[]⟩)] := by
        rw [List.take_add_one]; simp [List.getElem?_eq_getElem (show j < s.log.length by rw [HLEN.out]; exact hjl)]
      obtain ⟨at', t, eat⟩ : ∃ at' t, s.log.getD j (0, ⟨#[]⟩) = (at', t) := ⟨_, _, rfl⟩
      rw [eat] at x0 x1 hgj htk1
      have HTK1 : Hid (s.log.take (j + 1) = s.log.take j ++ [(at', t)]) := htk1
      have HGJ : Hid (Gp (at', t)) := hgj
      have hW : Calls Try.prog 26 #[.pointer (some ⟨p, 0, none⟩), .int .i64 at', .string t] wr.drew fun e w' => e = .returned (.int .i64 0) ∧ (∃ x, Rk w.heap.size w' p ⟨s.img, s.log.take (j + 1), -1⟩ f' y' x) ∧ Below w.heap.size w w' := by
        have hk' : Rk w.heap.size wr.drew p ⟨s.img, s.log.take j, -1⟩ f' y' xj := ⟨HKJ.out.blk, HKJ.out.fst, HKJ.out.blo, HKJ.out.log, HKJ.out.ne, HKJ.out.nq, HKJ.out.ok⟩
        refine (rWrite_any w.heap.size wr.drew p _ f' y' xj hk' at' t (by have := hgj.2.2; simp at this; omega) (by simp; omega) HB.out.size).mono ?_
        rintro e w' ⟨rfl, x2, h2, hkp, _⟩
        refine ⟨ret_int (we_good (by show (-1 : Int) ≠ 0; decide) HGJ.out), ⟨x2, ?_⟩, ?_⟩
        · rw [nx_good HGJ.out] at h2
          rw [HTK1.out]; exact h2
        · have hb2 : Below w.heap.size w wr.drew := HB.out.drew
          have hb3 := Kept.below (B := w.heap.size) hkp HB.out.size (fun i hi => (hk'.inHeap i hi).2)
          exact ⟨hb3.os.trans hb2.os, hb3.tape.trans hb2.tape, hb3.output.trans hb2.output, Nat.le_trans hb2.size hb3.size, fun i hi => (hb3.block i hi).trans (hb2.block i hi)⟩
      have j1 : (0 : Int) ≤ (j : Int) := by omega
      have j2 : (j : Int) < (len : Int) := by omega
      have j3 : (j : Int) < n := by have := HKK.out; omega
      have hlen' : len ≤ 5864062014805 := hl
      clear hgj htk1 eat hcs
      go_wp2_with fail
      go_region_with (first
        | (go_at_call 26; refine hW.mono ?_; rintro e w5 ⟨rfl, hk5, hb5⟩))
      all_goals go_wp2
      all_goals go_roundw
      all_goals first
        | (case rel => exact ⟨j + 1, by omega, by go_num, hk5, hb5⟩)
        | (case measure => simp [intOf]; omega)
    · have ej : j = k := by omega
      by_cases hjn : (j : Int) < n
      · have hjl : decide ((j : Int) < (len : Int)) = false := by have := HKK.out; simp; omega
        have hjl2 : decide (j < len) = false := by have := HKK.out; simp; omega
        clear ej
        go_wp2
        go_ret
        refine ⟨⟨p, f', y', xj, rfl, ?_⟩, HB.out⟩
        have e : ct s n.toNat = ⟨s.img, s.log.take j, -1⟩ := by rw [show j = k by omega, ← HTK.out]; rfl
        rw [e]; exact HKJ.out
      · have hjn' : decide ((j : Int) < n) = false := by simpa using hjn
        go_wp2
        go_ret
        refine ⟨⟨p, f', y', xj, rfl, ?_⟩, HB.out⟩
        have e : ct s n.toNat = ⟨s.img, s.log.take j, -1⟩ := by rw [show j = k by omega, ← HTK.out]; rfl
        rw [e]; exact HKJ.out
end Go.Proofs.Ytifjihdanbbhkaa
