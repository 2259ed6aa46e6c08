/- Contract: the document's Scan. -/
import Derived.Test.YtohgflimdoebiaaFrX
namespace Go.Proofs.Ytohgflimdoebiaa
open Go.RowKit Go.Maps
set_option linter.unusedVariables false
set_option maxRecDepth 4000
set_option linter.unusedSimpArgs false

/- What has come, and what is still to come. -/
structure Mids (l : List ByteArray) (k a : Nat) (ps : List ByteArray) : Prop where
  k1 : k ≤ 65535
  len : ps.length = k
  p1 : ps ++ (sc (65535 - k) (l.drop a) (k + 1)).1 = (sc 65535 l 1).1
  p2 : a + (sc (65535 - k) (l.drop a) (k + 1)).2 = (sc 65535 l 1).2
theorem Mids.start (l : List ByteArray) : Mids l 0 0 [] := ⟨by omega, rfl, by simp, by simp⟩
theorem Mids.step {l : List ByteArray} {k a : Nat} {ps : List ByteArray} (h : Mids l k a ps) (hk : k < 65535) {s : ByteArray} (hs : sd (l.drop a) ((k + 1 : Nat) : Int) = some s) : Mids l (k + 1) (a + np s.size) (ps ++ [s]) := by
  have h1 := h.p1
  have h2 := h.p2
  rw [show 65535 - k = (65535 - (k + 1)) + 1 by omega, sc_some hs, List.drop_drop] at h1 h2
  exact ⟨by omega, by simp [h.len], by rw [List.append_assoc]; exact h1, by rw [← h2]; simp only [Nat.add_assoc]⟩
theorem Mids.stop {l : List ByteArray} {k a : Nat} {ps : List ByteArray} (h : Mids l k a ps) (hs : sd (l.drop a) ((k + 1 : Nat) : Int) = none) : ps = (sc 65535 l 1).1 ∧ a = (sc 65535 l 1).2 := by
  have h1 := h.p1
  have h2 := h.p2
  rw [sc_none hs] at h1 h2
  exact ⟨by simpa using h1, by simpa using h2⟩
theorem Mids.full {l : List ByteArray} {a : Nat} {ps : List ByteArray} (h : Mids l 65535 a ps) : ps = (sc 65535 l 1).1 ∧ a = (sc 65535 l 1).2 := by
  have h1 := h.p1
  have h2 := h.p2
  rw [Nat.sub_self, sc] at h1 h2
  exact ⟨by simpa using h1, by simpa using h2⟩
theorem Mids.at' {l : List ByteArray} {k a : Nat} {ps : List ByteArray} (h : Mids l k a ps) : a ≤ l.length := by
  have := h.p2
  have := (sc_len 65535 l 1).2.1
  omega
def ScanP (l : List ByteArray) (w w' : World) (e : Ending) : Prop := ∃ v, e = .returned (.tuple #[v, .int .i64 ((sc 65535 l 1).2 : Nat)]) ∧ RwS w' w.heap.size v (sc 65535 l 1).1
theorem scanP_of {l : List ByteArray} {w w' : World} {v : Value} {k a : Nat} {ps : List ByteArray} (hk : ps.length = k) (h : ps = (sc 65535 l 1).1 ∧ a = (sc 65535 l 1).2) (hr : w'.ownsRow w.heap.size 9 1 v k (cellsS ps)) : ScanP l w w' (.returned (.tuple #[v, .int .i64 (a : Int)])) := by
  subst hk
  obtain ⟨rfl, rfl⟩ := h
  exact ⟨v, rfl, hr⟩
set_option maxHeartbeats 2000000 in
theorem rScan_any (a : Option Addr) (cap : Nat) (l : List ByteArray) (w : World) (hl : l.length ≤ 8796093022208) (hrd : RdS w a l) :
    Calls Try.prog 8 #[.slice a l.length cap] w fun e w' => ScanP l w w' e ∧ Below w.heap.size w w' := by
  obtain ⟨i0, hi, hz0, hz1, hz2⟩ := info_parts infoS
  have HRD : Hid (RdS w a l) := hrd
  have HDUE : Hid (∀ (k : Nat) (q : Int) (W : World), RdS W a l → Calls Try.prog 30 #[.slice a l.length cap, .int .i64 (k : Int), .int .i64 q] W fun e w' => DueP l k q e ∧ Below W.heap.size W w') := fun k q W h => due_any a cap l k q W hl h
  obtain ⟨n, hn⟩ : ∃ n, l.length = n := ⟨_, rfl⟩
  have HLN : Hid (l.length = n) := hn
  rw [hn] at hl HDUE ⊢
  clear hn hrd
  go_enter Try.func8, Try.ntmps8
  go_wp2_with fail
  go_loopw [4, 5, 6] (fun v x i wr => ∃ (k p : Nat) (ps : List ByteArray), Mids l k p ps ∧ x = .int .i64 (p : Int) ∧ i = .int .i64 ((k + 1 : Nat) : Int) ∧ wr.ownsRow w.heap.size 9 1 v k (cellsS ps) ∧ Below w.heap.size w wr) (fun _ _ i _ => 65536 - (intOf i).toNat)
  case atStart => exact ⟨0, 0, [], Mids.start l, rfl, rfl, World.ownsRow_nil _ _ _ _, Below.refl _ _⟩
  case round =>
    obtain ⟨k, p, ps, hM, rfl, rfl, hrow, hb⟩ := hrel
    have HM : Hid (Mids l k p ps) := hM
    have HROW : Hid (wr.ownsRow w.heap.size 9 1 u4 k (cellsS ps)) := hrow
    have HB : Hid (Below w.heap.size w wr) := hb
    have hk1 := hM.k1
    have hpn : p ≤ n := by rw [← HLN.out]; exact hM.at'
    clear hrow hM
    by_cases hk : k < 65535
    · have j1 : decide (((k + 1 : Nat) : Int) ≤ 65535) = true := by simp; omega
      have hd := HDUE.out p ((k + 1 : Nat) : Int) wr (HRD.out.later hb)
      have j2 : IntKind.i64.wrap (((k + 1 : Nat) : Int) + 1) = ((k + 1 + 1 : Nat) : Int) := by rw [Bt.wrap_fit _ (by omega) (by omega)]; omega
      clear hb
      obtain ⟨K, hK⟩ : ∃ K, ((k + 1 : Nat) : Int) = K := ⟨_, rfl⟩
      have HK : Hid (((k + 1 : Nat) : Int) = K) := hK
      rw [hK] at j1 j2 hd ⊢
      clear hK
      go_wp2_with fail
      refine hd.mono ?_
      rintro e w3 ⟨hP, hb3⟩
      unfold DueP at hP
      subst hP
      have HROW3 : Hid (w3.ownsRow w.heap.size 9 1 u4 k (cellsS ps)) := row_later HROW.out hb3
      have HB3 : Hid (Below w.heap.size w w3) := Below.then HB.out hb3
      have hs3 : w.heap.size ≤ w3.heap.size := HB3.out.size
      clear hb3 hd
      cases hsd : sd (l.drop p) K with
      | none =>
        have HE : Hid (ps = (sc 65535 l 1).1 ∧ p = (sc 65535 l 1).2) := HM.out.stop (by rw [HK.out]; exact hsd)
        rw [sdS_none hsd, sdN_none hsd]
        clear hsd
        go_wp2_with fail
        go_ret2
        exact ⟨scanP_of HM.out.len HE.out HROW3.out, HB3.out⟩
      | some s =>
        have HM' : Hid (Mids l (k + 1) (p + np s.size) (ps ++ [s])) := HM.out.step hk (by rw [HK.out]; exact hsd)
        have hpos := (sd_std hsd).pos
        have hat := HM'.out.at'
        rw [HLN.out] at hat
        rw [sdS_some hsd, sdN_some hsd]
        obtain ⟨m, hm⟩ : ∃ m, np s.size = m := ⟨_, rfl⟩
        rw [hm] at HM' hpos hat ⊢
        have m0 : ((m : Int) == 0) = false := by simp; omega
        have m1 : IntKind.i64.wrap ((p : Int) + (m : Int)) = ((p + m : Nat) : Int) := by rw [← Int.natCast_add]; exact Bt.wrap_fit _ (by omega) (by omega)
        clear hsd hm
        go_wp2_with (at_builtin; refine wpList_append_lies _ rfl _ _ _ rfl w.heap.size 9 i0 _ 1 16 Try.underlying22 hi hz0 hz1 hz2 rfl (by omega) _ k (cellsS ps) rfl (HROW3.out.alloc _) ⟨w3.heap.size, 0, none⟩ 1 1 [.string s] rfl rfl (cell_one_at _ _ _ _ rfl) (by simp [Value.oneCell']) (by omega) (by unfold maxLen; omega) (by omega) (by simp; omega) (w3.heap.size + 1) (by simp) ?_; intro g4 cap4 w4 hown4 hgrow4 hat4 hlt4; have HG4 : Hid _ := hgrow4; have HO4 : Hid (w4.ownsRow w.heap.size 9 1 (.slice (some ⟨g4, 0, none⟩) (k + 1) cap4) (k + 1) (cellsS ps ++ [.string s])) := hown4; clear hown4 hgrow4 hat4 hlt4)
        go_roundw
        case rel =>
          refine ⟨k + 1, p + m, ps ++ [s], HM'.out, rfl, rfl, ?_, ?_⟩
          · rw [cellsS_append]; exact HO4.out
          · exact (Below.more HB3.out _).grown HG4.out (by simp; omega) (fun j hj => (HROW3.out.lt j hj).1)
        case measure => simp [intOf, ← HK.out]; omega
    · have j1 : decide (((k + 1 : Nat) : Int) ≤ 65535) = false := by simp; omega
      obtain rfl : k = 65535 := by omega
      clear hb
      go_wp2_with fail
      go_ret2
      exact ⟨scanP_of HM.out.len HM.out.full HROW.out, HB.out⟩
end Go.Proofs.Ytohgflimdoebiaa
