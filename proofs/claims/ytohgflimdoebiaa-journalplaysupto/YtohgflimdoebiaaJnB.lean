/- Contract: Open. -/
import Derived.Test.YtohgflimdoebiaaJnA
namespace Go.Proofs.Ytohgflimdoebiaa.Dk
open Go.RowKit Go.Maps
set_option linter.unusedVariables false
set_option maxRecDepth 4000
set_option linter.unusedSimpArgs false

def Jn (w : World) (j p c a : Nat) (d : Bool) : Prop := w.heap[j]? = some (.cells #[.pointer (some ⟨p, 0, none⟩), .int .i64 (c : Int), .int .i64 (a : Int), .bool d] 82)
theorem RwS.txs {w : World} {N : Nat} {a : Option Addr} {n cap : Nat} {l : List ByteArray} (h : RwS w N (.slice a n cap) l) : Txs w.heap.size w a cap l := by
  have h' := h
  rcases h.2 with ⟨h0, h1⟩ | ⟨g, cap', cur, h0, hb, hgg, hle, rest⟩
  · cases h0
    exact .inl ⟨rfl, rfl, List.length_eq_zero_iff.1 h1⟩
  · cases h0
    refine .inr ⟨g, 0, rfl, (Array.getElem?_eq_some_iff.1 hgg).1, hle, fun i hi => RwS.rd h' i hi⟩
def OpenP (N : Nat) (w : World) (p : Nat) (s : St) (b m : Nat) (x : Value) (e : Ending) (w' : World) : Prop :=
  Wrote N w p (opS s) b m x w' ∧ ((opB s = false ∧ e = .returned (.tuple #[.pointer none, .slice none 0 0, .int .i64 11])) ∨
    (opB s = true ∧ ∃ j v, e = .returned (.tuple #[.pointer (some ⟨j, 0, none⟩), v, .int .i64 0]) ∧ w.heap.size ≤ j ∧ Jn w' j p (scP s).length (scE s) false ∧ RwS w' w.heap.size v (scP s)))
set_option maxHeartbeats 2000000 in
theorem open_any (N : Nat) (w : World) (p : Nat) (s : St) (b m : Nat) (x : Value) (h : Dk N w p s b m x) (hlog : s.log.length + 2048 ≤ 5864062014805) (hN : N ≤ w.heap.size) :
    Calls Try.prog 25 #[.pointer (some ⟨p, 0, none⟩)] w fun e w' => OpenP N w p s b m x e w' := by
  have hon := on_any N w p s b m x h
  have HD : Hid (Dk N w p s b m x) := h
  by_cases h0 : s.left = 0
  · have hb : decide (s.left ≠ 0) = false := by simp [h0]
    rw [hb] at hon
    have HO : Hid (OpenP N w p s b m x (.returned (.tuple #[.pointer none, .slice none 0 0, .int .i64 11])) w) := by
      refine ⟨?_, .inl ⟨by unfold opB; rw [if_pos h0], rfl⟩⟩
      unfold opS
      rw [if_pos h0]
      exact h.same
    clear h h0 hb
    go_enter Try.func25, Try.ntmps25
    go_wp2_with fail
    refine hon.mono ?_
    rintro e w1 ⟨rfl, rfl⟩
    go_wp2_with fail
    refine bodyPost_ret (v := .tuple #[.pointer none, .slice none 0 0, .int .i64 11]) (by simp [results, Try.results25, go_sem]) rfl ?_
    exact HO.out
  · have hb : decide (s.left ≠ 0) = true := by simp [h0]
    rw [hb] at hon
    have him := image_any N w p s b m x h (by omega)
    have hIH := h.inHeap
    have HS : Hid (opS s = (wl (opw s) s).1 ∧ opB s = (wl (opw s) s).2) := by
      show _ ∧ _
      unfold opS opB
      rw [if_neg h0, if_neg h0]
      exact ⟨rfl, rfl⟩
    have hTop : (im s.bl).length ≤ 2048 := by rw [im_length]; exact top_le _
    have HIH : Hid (∀ k, Fd p b m x k → k < w.heap.size ∧ N ≤ k) := hIH
    obtain ⟨L, hL⟩ : ∃ L, im s.bl = L := ⟨_, rfl⟩
    have HSC : Hid (scP s = (sc 65535 L 1).1 ∧ scE s = (sc 65535 L 1).2) := by
      show _ ∧ _
      unfold scP scE
      rw [hL]
      exact ⟨rfl, rfl⟩
    have HOW : Hid (opw s = wps (L.drop (sc 65535 L 1).2) (sc 65535 L 1).2) := by
      show _ = _
      unfold opw scE
      rw [hL]
    have hscl := (sc_len 65535 L 1).2.1
    rw [hL] at him hTop
    clear h hL hb hIH
    go_enter Try.func25, Try.ntmps25
    go_wp2_with fail
    refine hon.mono ?_
    rintro e w0 ⟨rfl, rfl⟩
    go_wp2_with fail
    refine him.mono ?_
    rintro e w1 ⟨v1, rfl, hr1, hb1⟩
    obtain ⟨a1, cap1, e1⟩ := row_spell hr1
    subst e1
    have HR1 : Hid (RwS w1 w0.heap.size (.slice a1 L.length cap1) L) := hr1
    have HB1 : Hid (Below w0.heap.size w0 w1) := hb1
    have HD1 : Hid (Dk N w1 p s b m x) := HD.out.later hb1
    have hsc := scan_any a1 cap1 L w1 (by omega) hr1.txs
    have hwi := fun W (hW : Below w1.heap.size w1 W) => wipe_any N W p s b m x (HD1.out.later hW) a1 cap1 L (sc 65535 L 1).2 (RdS.later (RwS.rd hr1) hW) (fun g o ea hF => by have := (row_far hr1 g o ea).1; have := (HIH.out g hF).1; omega) h0 hTop hscl hlog (Nat.le_trans hN (Nat.le_trans hb1.size hW.size))
    obtain ⟨n, hn⟩ : ∃ n, L.length = n := ⟨_, rfl⟩
    rw [hn] at hsc hwi ⊢
    clear hr1 hb1 him hn
    go_wp2_with fail
    refine hsc.mono ?_
    rintro e w2 ⟨⟨v2, rfl, hr2⟩, hb2⟩
    obtain ⟨a2, cap2, e2⟩ := row_spell hr2
    subst e2
    have HR2 : Hid (RwS w2 w1.heap.size (.slice a2 (sc 65535 L 1).1.length cap2) (sc 65535 L 1).1) := hr2
    have HB2 : Hid (Below w0.heap.size w0 w2) := HB1.out.trans (hb2.mono HB1.out.size)
    have hwi2 := hwi w2 hb2
    obtain ⟨R, hR⟩ : ∃ R, wl (wps (L.drop (sc 65535 L 1).2) (sc 65535 L 1).2) s = R := ⟨_, rfl⟩
    have HRR : Hid (wl (opw s) s = R) := by show _ = _; rw [HOW.out]; exact hR
    rw [hR] at hwi2
    obtain ⟨E, hE⟩ : ∃ E, (sc 65535 L 1).2 = E := ⟨_, rfl⟩
    obtain ⟨P, hP⟩ : ∃ P, (sc 65535 L 1).1 = P := ⟨_, rfl⟩
    have HSC2 : Hid (scP s = P ∧ scE s = E) := by show _ ∧ _; rw [HSC.out.1, HSC.out.2]; exact ⟨hP, hE⟩
    rw [hE] at hwi2 ⊢
    rw [hP] at HR2 ⊢
    have hs1 := HB1.out.size
    clear hwi hsc hr2 hb2 hR hE hP
    obtain ⟨c, hc⟩ : ∃ c, P.length = c := ⟨_, rfl⟩
    have HC : Hid (P.length = c) := hc
    rw [hc] at HR2 ⊢
    clear hc
    go_wp2_with fail
    refine hwi2.mono ?_
    rintro e w3 ⟨rfl, hW3⟩
    have HW3 : Hid (Wrote N w0 p R.1 b m x w3) := by
      obtain ⟨x3, d3, k3, f3⟩ := hW3
      exact ⟨x3, d3, (Kept.ofBelow (F := Fd p b m x) HB2.out).trans k3 (fun i _ h => h), fun k hk => (f3 k hk).elim .inl (fun h => .inr (Nat.le_trans HB2.out.size h))⟩
    have HP3 : Hid (RwS w3 w0.heap.size (.slice a2 c cap2) P) := by
      obtain ⟨x3, d3, k3, f3⟩ := hW3
      have hr : w3.ownsRow w1.heap.size 9 1 (.slice a2 c cap2) P.length (cellsS P) := k3.row HR2.out (fun k hv hF => by
        have := (HR2.out.lt k hv).1
        have := (HIH.out k hF).1
        omega)
      exact ⟨hr.1, hr.2.elim .inl fun ⟨g, cap, cur, z1, z2, rest⟩ => .inr ⟨g, cap, cur, z1, Nat.le_trans hs1 z2, rest⟩⟩
    have hs3 := HW3.out.size
    clear hwi2 hW3
    obtain ⟨s3, B3⟩ := R
    dsimp only at HW3 ⊢
    cases B3 with
    | false =>
      go_wp2_with fail
      refine bodyPost_ret (v := .tuple #[.pointer none, .slice none 0 0, .int .i64 11]) (by simp [results, Try.results25, go_sem]) rfl ?_
      refine ⟨?_, .inl ⟨by rw [HS.out.2, HRR.out], rfl⟩⟩
      rw [HS.out.1, HRR.out]
      exact HW3.out
    | true =>
      go_wp2_with fail
      refine bodyPost_ret (v := .tuple #[.pointer (some ⟨w3.heap.size, 0, none⟩), .slice a2 c cap2, .int .i64 0]) (by simp [results, Try.results25, go_sem]) rfl ?_
      refine ⟨?_, .inr ⟨by rw [HS.out.2, HRR.out], _, _, rfl, hs3, ?_, ?_⟩⟩
      · rw [HS.out.1, HRR.out]
        exact HW3.out.later (below1 _ _)
      · unfold Jn
        rw [HSC2.out.1, HSC2.out.2, HC.out]
        exact World.alloc_heap_new _ _
      · rw [HSC2.out.1]
        exact row_later HP3.out (below1 _ _)
end Go.Proofs.Ytohgflimdoebiaa.Dk
