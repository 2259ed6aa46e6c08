/- Contracts: lasting, wipe. -/
import Derived.Test.YtohgflimdoebiaaJnMJ
import Derived.Test.YtohgflimdoebiaaDkL
import Derived.Test.YtohgflimdoebiaaFrVJ
import Derived.Test.YtohgflimdoebiaaFrH
namespace Go.Proofs.Ytohgflimdoebiaa.Dk
open Go.RowKit Go.Maps
set_option linter.unusedVariables false
set_option maxRecDepth 4000
set_option linter.unusedSimpArgs false

theorem Wrote.next {N : Nat} {w w1 w2 : World} {p : Nat} {s2 : St} {b m : Nat} {x x1 : Value} (k1 : Kept (Fd p b m x) w w1) (f1 : ∀ k, Fd p b m x1 k → Fd p b m x k ∨ w.heap.size ≤ k) (h : Wrote N w1 p s2 b m x1 w2) : Wrote N w p s2 b m x w2 := by
  obtain ⟨x2, d2, k2, f2⟩ := h
  refine ⟨x2, d2, k1.trans k2 (fun i hi hF => (f1 i hF).elim id (fun h => absurd h (by omega))), fun j hj => ?_⟩
  rcases f2 j hj with h | h
  · exact f1 j h
  · exact .inr (Nat.le_trans k1.size h)
theorem Wrote.later {N : Nat} {w w1 w2 : World} {p : Nat} {s : St} {b m : Nat} {x : Value} (h : Wrote N w p s b m x w1) (hb : Below w1.heap.size w1 w2) : Wrote N w p s b m x w2 := by
  obtain ⟨x1, d1, k1, f1⟩ := h
  exact ⟨x1, d1.later hb, k1.trans (Kept.ofBelow (F := fun _ => False) hb) (fun _ _ h => h.elim), f1⟩
theorem Wrote.size {N : Nat} {w w1 : World} {p : Nat} {s : St} {b m : Nat} {x : Value} (h : Wrote N w p s b m x w1) : w.heap.size ≤ w1.heap.size := by
  obtain ⟨x1, d1, k1, f1⟩ := h
  exact k1.size
/- What isn't a block of a disk's types isn't of the disk. -/
theorem Dk.notT {N : Nat} {w : World} {p : Nat} {s : St} {b m : Nat} {x : Value} (h : Dk N w p s b m x) {o : Nat} {cs : Array Value} {t : TypeId} {fz : Nat × Nat} (ho : w.heap[o]? = some (.cells cs t fz)) (h1 : t ≠ 77) (h2 : t ≠ 84) : ¬ Fd p b m x o := fun e => by
  rcases e with rfl | rfl | rfl | e
  · have q := h.blk; rw [ho] at q; simp at q; exact h1 q.2.1
  · obtain ⟨es, cl, hh⟩ := h.mb.isMap; rw [ho] at hh; cases hh
  · obtain ⟨es, cl, hh⟩ := h.mm.isMap; rw [ho] at hh; cases hh
  · rcases h.row.2 with ⟨h0, _⟩ | ⟨g, cap, cur, rfl, hb, hgg, rest⟩
    · subst h0; cases e
    · cases e
      rw [ho] at hgg; cases hgg; exact h2 rfl
set_option maxHeartbeats 1000000 in
theorem lasting_any (N : Nat) (w : World) (p : Nat) (s : St) (b m : Nat) (x : Value) (h : Dk N w p s b m x) (at' : Int) (t : ByteArray) (h0 : s.left ≠ 0) (hg : Gp (at', t)) (hl : s.log.length + 1 ≤ 5864062014805) (hN : N ≤ w.heap.size) :
    Calls Try.prog 44 #[.pointer (some ⟨p, 0, none⟩), .int .i64 at', .string t] w fun e w' => e = .returned (.bool (decide ((nx s at' t).left ≠ 0))) ∧ Wrote N w p (nx s at' t) b m x w' := by
  have hg' := hg
  obtain ⟨g1, g2, g3⟩ := hg
  have hwr := write_any N w p s b m x h at' t (wf_of (by simp at g1; omega) (by simp at g2; omega)) (by simp at g3; omega) hl hN
  rw [we_good h0 hg'] at hwr
  obtain ⟨s', hs'⟩ : ∃ s', nx s at' t = s' := ⟨_, rfl⟩
  rw [hs'] at hwr ⊢
  obtain ⟨B, hB⟩ : ∃ B, decide (s'.left ≠ 0) = B := ⟨_, rfl⟩
  have HBB : Hid (decide (s'.left ≠ 0) = B) := hB
  rw [hB]
  clear h h0 hg' g1 g2 g3 hl hN hs' hB
  go_enter Try.func44, Try.ntmps44
  go_wp2_with fail
  refine hwr.mono ?_
  rintro e w1 ⟨rfl, hW⟩
  have HW : Hid (Wrote N w p s' b m x w1) := hW
  obtain ⟨x1, d1, -, -⟩ := hW
  have hon := on_any N w1 p s' b m x1 d1
  rw [HBB.out] at hon
  clear hwr d1
  go_wp2_with fail
  refine hon.mono ?_
  rintro e w2 ⟨rfl, rfl⟩
  go_wp2_with fail
  go_ret
  exact ⟨rfl, HW.out⟩
theorem wps_cons {l : List ByteArray} {k : Nat} (hk : k < l.length) : wps (l.drop k) k = if (l.getD k ⟨#[]⟩).size = 0 then wps (l.drop (k + 1)) (k + 1) else ((k : Int), ⟨#[]⟩) :: wps (l.drop (k + 1)) (k + 1) := by
  rw [List.drop_eq_getElem_cons hk, wps, ← getD_yes (d := ⟨#[]⟩) l k hk]
theorem str_empty {t : ByteArray} (h : t.size = 0) : t.toList.isEmpty = true := by rw [nob_of h, ByteArray.toList_eq]; rfl
set_option maxHeartbeats 2000000 in
theorem wipe_any (N : Nat) (w : World) (p : Nat) (s : St) (b m : Nat) (x : Value) (h : Dk N w p s b m x) (a : Option Addr) (cap : Nat) (l : List ByteArray) (E : Nat) (hrd : RdS w a l) (hF : ∀ g o, a = some ⟨g, o, none⟩ → ¬ Fd p b m x g) (h0 : s.left ≠ 0) (hl : l.length ≤ 2048) (hE : E ≤ l.length) (hlog : s.log.length + 2048 ≤ 5864062014805) (hN : N ≤ w.heap.size) :
    Calls Try.prog 41 #[.pointer (some ⟨p, 0, none⟩), .slice a l.length cap, .int .i64 (E : Int)] w fun e w' => e = .returned (.bool (wl (wps (l.drop E) E) s).2) ∧ Wrote N w p (wl (wps (l.drop E) E) s).1 b m x w' := by
  have HRD : Hid (RdS w a l) := hrd
  have HF : Hid (∀ g o, a = some ⟨g, o, none⟩ → ¬ Fd p b m x g) := hF
  have HD : Hid (Dk N w p s b m x) := h
  obtain ⟨R, hR⟩ : ∃ R, wl (wps (l.drop E) E) s = R := ⟨_, rfl⟩
  have HR : Hid (wl (wps (l.drop E) E) s = R) := hR
  obtain ⟨n, hn⟩ : ∃ n, l.length = n := ⟨_, rfl⟩
  have HLN : Hid (l.length = n) := hn
  rw [hn] at hl hE ⊢
  rw [hR]
  clear hn hrd hF h hR
  go_enter Try.func41, Try.ntmps41
  go_wp2_with fail
  go_loopw [7] (fun i wr => ∃ (k : Nat) (s' : St), E ≤ k ∧ k ≤ n ∧ i = .int .i64 (k : Int) ∧ Wrote N w p s' b m x wr ∧ s'.left ≠ 0 ∧ wl (wps (l.drop k) k) s' = R ∧ s'.log.length ≤ s.log.length + k) (fun i _ => n - (intOf i).toNat)
  case atStart => exact ⟨E, s, Nat.le_refl _, hE, rfl, HD.out.same, h0, HR.out, by omega⟩
  case round =>
    obtain ⟨k, s', hk1, hk2, rfl, hW, hs0, hwl, hlg⟩ := hrel
    have HW : Hid (Wrote N w p s' b m x wr) := hW
    have HWL : Hid (wl (wps (l.drop k) k) s' = R) := hwl
    obtain ⟨x', d', kp, fp⟩ := hW
    have hsz := kp.size
    by_cases hkn : k < n
    · obtain ⟨g, o, ea, c0⟩ := (HRD.out.kept kp HF.out) k (by rw [HLN.out]; exact hkn)
      subst ea
      have HWC : Hid (wps (l.drop k) k = if (l.getD k ⟨#[]⟩).size = 0 then wps (l.drop (k + 1)) (k + 1) else ((k : Int), ⟨#[]⟩) :: wps (l.drop (k + 1)) (k + 1)) := wps_cons (by rw [HLN.out]; exact hkn)
      have j1 : (0 : Int) ≤ (k : Int) := by omega
      have j2 : (k : Int) < (n : Int) := by omega
      by_cases hX : (l.getD k ⟨#[]⟩).size = 0
      · have hst := str_empty hX
        have HN' : Hid (wl (wps (l.drop (k + 1)) (k + 1)) s' = R) := by
          show _ = _
          rw [← HWL.out, HWC.out, if_pos hX]
        obtain ⟨X, hXX⟩ : ∃ X, l.getD k ⟨#[]⟩ = X := ⟨_, rfl⟩
        rw [hXX] at c0 hst
        clear hX hXX hwl d' kp fp
        go_wp2_with fail
        go_roundw
        case rel => exact ⟨k + 1, s', by omega, by omega, by go_num, HW.out, hs0, HN'.out, by omega⟩
        case measure => simp [intOf]; omega
      · have hst := nob_no hX
        have hla := lasting_any N wr p s' b m x' d' (k : Int) ⟨#[]⟩ hs0 ⟨by show (0 : Int) ≤ (k : Int); omega, by show (k : Int) < 2048; omega, by show (⟨#[]⟩ : ByteArray).size ≤ 32; decide⟩ (by omega) (Nat.le_trans hN hsz)
        have HC : Hid (wl (((k : Int), ⟨#[]⟩) :: wps (l.drop (k + 1)) (k + 1)) s' = R) := by
          show _ = _
          rw [← HWL.out, HWC.out, if_neg hX]
        have HLG : Hid ((nx s' (k : Int) ⟨#[]⟩).log.length ≤ s'.log.length + 1) := nx_log _ _ _
        have HTR : Hid (∀ w3, Wrote N wr p (nx s' (k : Int) ⟨#[]⟩) b m x' w3 → Wrote N w p (nx s' (k : Int) ⟨#[]⟩) b m x w3) := fun w3 h3 => Wrote.next kp fp h3
        obtain ⟨X, hXX⟩ : ∃ X, l.getD k ⟨#[]⟩ = X := ⟨_, rfl⟩
        rw [hXX] at c0 hst
        obtain ⟨s2, hs2⟩ : ∃ s2, nx s' (k : Int) ⟨#[]⟩ = s2 := ⟨_, rfl⟩
        have HS2 : Hid (nx s' (k : Int) ⟨#[]⟩ = s2) := hs2
        rw [hs2] at hla HTR HLG
        clear hX hXX hwl d' kp fp hs2
        go_wp2_with fail
        refine hla.mono ?_
        rintro e w3 ⟨rfl, hW3⟩
        have HW3 : Hid (Wrote N w p s2 b m x w3) := HTR.out w3 hW3
        clear hla hW3
        by_cases hz : s2.left = 0
        · have hb : decide (s2.left ≠ 0) = false := by simp [hz]
          have HE : Hid (R = (s2, false)) := by
            show _ = _
            rw [← HC.out, wl_off (by rw [HS2.out]; exact hz), HS2.out]
          rw [hb]
          clear hz hb
          go_wp2_with fail
          go_ret
          rw [HE.out]
          exact ⟨rfl, HW3.out⟩
        · have hb : decide (s2.left ≠ 0) = true := by simp [hz]
          have HE : Hid (wl (wps (l.drop (k + 1)) (k + 1)) s2 = R) := by
            show _ = _
            rw [← HC.out, wl_on (by rw [HS2.out]; exact hz), HS2.out]
          rw [hb]
          clear hb
          go_wp2_with fail
          go_roundw
          case rel => exact ⟨k + 1, s2, by omega, by omega, by go_num, HW3.out, hz, HE.out, by have := HLG.out; omega⟩
          case measure => simp [intOf]; omega
    · have i2 : decide ((k : Int) < (n : Int)) = false := by simp; omega
      have HE : Hid (R = (s', true)) := by
        show _ = _
        rw [← HWL.out, List.drop_eq_nil_of_le (by rw [HLN.out]; omega), wps, wl]
      clear hwl d' kp
      go_wp2_with fail
      go_ret
      rw [HE.out]
      exact ⟨rfl, HW.out⟩
end Go.Proofs.Ytohgflimdoebiaa.Dk
