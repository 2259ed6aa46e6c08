/- Contract: the document's Open. -/
import Derived.Test.YtohgflimdoebiaaJnB
import Derived.Test.YtohgflimdoebiaaDrJ
import Derived.Test.YtohgflimdoebiaaFrI
namespace Go.Proofs.Ytohgflimdoebiaa.Dk
open Go.RowKit Go.Maps
set_option linter.unusedVariables false
set_option maxRecDepth 4000
set_option linter.unusedSimpArgs false

theorem RWrote.next {N : Nat} {w w1 w2 : World} {q : Nat} {s2 : St} {f y x x1 : Value} (k1 : Kept (Fr q f y x) w w1) (f1 : ∀ k, Fr q f y x1 k → Fr q f y x k ∨ w.heap.size ≤ k) (h : RWrote N w1 q s2 f y x1 w2) : RWrote N w q s2 f y x w2 := by
  obtain ⟨x2, d2, k2, f2⟩ := h
  refine ⟨x2, d2, k1.trans k2 (fun i hi hF => (f1 i hF).elim id (fun h => absurd h (by omega))), fun j hj => ?_⟩
  rcases f2 j hj with h | h
  · exact f1 j h
  · exact .inr (Nat.le_trans k1.size h)
theorem RWrote.later {N : Nat} {w w1 w2 : World} {q : Nat} {s : St} {f y x : Value} (h : RWrote N w q s f y x w1) (hb : Below w1.heap.size w1 w2) : RWrote N w q s f y x w2 := by
  obtain ⟨x1, d1, k1, f1⟩ := h
  exact ⟨x1, d1.later hb, k1.trans (Kept.ofBelow (F := fun _ => False) hb) (fun _ _ h => h.elim), f1⟩
theorem RWrote.first {N : Nat} {w w1 w2 : World} {q : Nat} {s : St} {f y x : Value} (hb : Below w.heap.size w w1) (h : RWrote N w1 q s f y x w2) : RWrote N w q s f y x w2 := by
  obtain ⟨x3, d3, k3, f3⟩ := h
  exact ⟨x3, d3, (Kept.ofBelow (F := Fr q f y x) hb).trans k3 (fun i _ h => h), fun k hk => (f3 k hk).elim .inl (fun h => .inr (Nat.le_trans hb.size h))⟩
theorem RWrote.size {N : Nat} {w w1 : World} {q : Nat} {s : St} {f y x : Value} (h : RWrote N w q s f y x w1) : w.heap.size ≤ w1.heap.size := by
  obtain ⟨x1, d1, k1, f1⟩ := h
  exact k1.size
def Jr (w : World) (j q c a : Nat) (d : Bool) : Prop := w.heap[j]? = some (.cells #[.pointer (some ⟨q, 0, none⟩), .int .i64 (c : Int), .int .i64 (a : Int), .bool d] 48)
def ROpenP (N : Nat) (w : World) (q : Nat) (s : St) (f y x : Value) (e : Ending) (w' : World) : Prop :=
  RWrote N w q (opS s) f y x w' ∧ ((opB s = false ∧ e = .returned (.tuple #[.pointer none, .slice none 0 0, .int .i64 11])) ∨
    (opB s = true ∧ ∃ j v, e = .returned (.tuple #[.pointer (some ⟨j, 0, none⟩), v, .int .i64 0]) ∧ w.heap.size ≤ j ∧ Jr w' j q (scP s).length (scE s) false ∧ RwS w' w.heap.size v (scP s)))
theorem we_off {x : Int} {t : ByteArray} {left : Int} (h : left = 0) : we left x t = 11 := by unfold we; rw [if_pos h]
theorem nx_off {s : St} {x : Int} {t : ByteArray} (h : s.left = 0) : nx s x t = s := by unfold nx; rw [we_off h, if_neg (by decide)]
set_option maxHeartbeats 4000000 in
theorem rOpen_any (N : Nat) (w : World) (p : Nat) (s : St) (f y x : Value) (h : Rk N w p s f y x) (hlog : s.log.length + 2048 ≤ 5864062014805) (hN : N ≤ w.heap.size) :
    Calls Try.prog 33 #[.pointer (some ⟨p, 0, none⟩)] w fun e w' => ROpenP N w p s f y x e w' := by
  have hon := rOn_any N w p s f y x h
  have HD : Hid (Rk N w p s f y x) := h
  by_cases h0 : s.left = 0
  · have hb : decide (s.left ≠ 0) = false := by simp [h0]
    rw [hb] at hon
    have HO : Hid (ROpenP N w p s f y x (.returned (.tuple #[.pointer none, .slice none 0 0, .int .i64 11])) w) := by
      refine ⟨?_, .inl ⟨by unfold opB; rw [if_pos h0], rfl⟩⟩
      unfold opS
      rw [if_pos h0]
      exact h.same
    clear h h0 hb
    go_enter Try.func33, Try.ntmps33
    go_wp2_with fail
    refine hon.mono ?_
    rintro e w1 ⟨rfl, rfl⟩
    go_wp2_with fail
    refine bodyPost_ret (v := .tuple #[.pointer none, .slice none 0 0, .int .i64 11]) (by simp [results, Try.results33, go_sem]) rfl ?_
    exact HO.out
  · have hb : decide (s.left ≠ 0) = true := by simp [h0]
    rw [hb] at hon
    have him := rImage_any N w p s f y x h
    have HIH : Hid (∀ k, Fr p f y x k → k < w.heap.size ∧ N ≤ k) := h.inHeap
    have HS : Hid (opS s = (wl (opw s) s).1 ∧ opB s = (wl (opw s) s).2) := by
      show _ ∧ _
      unfold opS opB
      rw [if_neg h0, if_neg h0]
      exact ⟨rfl, rfl⟩
    have hTop : (im s.bl).length ≤ 2048 := by rw [im_length]; exact top_le _
    obtain ⟨L, hL⟩ : ∃ L, im s.bl = L := ⟨_, rfl⟩
    have HSC : Hid (scP s = (sc 65535 L 1).1 ∧ scE s = (sc 65535 L 1).2) := by
      show _ ∧ _
      unfold scP scE
      rw [hL]
      exact ⟨rfl, rfl⟩
    have HOW : Hid (opw s = wps (L.drop (sc 65535 L 1).2) (sc 65535 L 1).2) := by
      show _ = _
      unfold opw scE
      rw [hL]
    have hscl := (sc_len 65535 L 1).2.1
    rw [hL] at him hTop
    clear h hL hb
    go_enter Try.func33, Try.ntmps33
    go_wp2_with fail
    refine hon.mono ?_
    rintro e w0 ⟨rfl, rfl⟩
    go_wp2_with fail
    refine him.mono ?_
    rintro e w1 ⟨v1, rfl, hr1, hb1⟩
    obtain ⟨a1, cap1, e1⟩ := row_spell hr1
    subst e1
    have HR1 : Hid (RwS w1 w0.heap.size (.slice a1 L.length cap1) L) := hr1
    have HB1 : Hid (Below w0.heap.size w0 w1) := hb1
    have HD1 : Hid (Rk N w1 p s f y x) := HD.out.later hb1
    have hsc := rScan_any a1 cap1 L w1 (by omega) (RwS.rd hr1)
    have HFAR : Hid (∀ g o, a1 = some ⟨g, o, none⟩ → ¬ Fr p f y x g) := fun g o ea hF => by have := (row_far hr1 g o ea).1; have := (HIH.out g hF).1; omega
    have HRD1 : Hid (RdS w1 a1 L) := RwS.rd hr1
    obtain ⟨n, hn⟩ : ∃ n, L.length = n := ⟨_, rfl⟩
    have HLN : Hid (L.length = n) := hn
    rw [hn] at hsc hTop hscl ⊢
    clear hr1 hb1 him hn
    go_wp2_with fail
    refine hsc.mono ?_
    rintro e w2 ⟨⟨v2, rfl, hr2⟩, hb2⟩
    have hr2' : RwS w2 w1.heap.size v2 (sc 65535 L 1).1 := hr2
    obtain ⟨a2, cap2, e2⟩ := row_spell hr2'
    subst e2
    have HR2 : Hid (RwS w2 w1.heap.size (.slice a2 (sc 65535 L 1).1.length cap2) (sc 65535 L 1).1) := hr2'
    have HB2 : Hid (Below w0.heap.size w0 w2) := HB1.out.trans (hb2.mono HB1.out.size)
    have HD2 : Hid (Rk N w2 p s f y x) := HD1.out.later hb2
    have HRD2 : Hid (RdS w2 a1 L) := RdS.later HRD1.out hb2
    obtain ⟨R, hR⟩ : ∃ R, wl (wps (L.drop (sc 65535 L 1).2) (sc 65535 L 1).2) s = R := ⟨_, rfl⟩
    have HRR : Hid (wl (opw s) s = R) := by show _ = _; rw [HOW.out]; exact hR
    obtain ⟨E, hE⟩ : ∃ E, (sc 65535 L 1).2 = E := ⟨_, rfl⟩
    obtain ⟨P, hP⟩ : ∃ P, (sc 65535 L 1).1 = P := ⟨_, rfl⟩
    have HSC2 : Hid (scP s = P ∧ scE s = E) := by show _ ∧ _; rw [HSC.out.1, HSC.out.2]; exact ⟨hP, hE⟩
    rw [hE] at hR hscl ⊢
    rw [hP] at HR2 ⊢
    have HR : Hid (wl (wps (L.drop E) E) s = R) := hR
    have hs1 := HB1.out.size
    have hs2 := HB2.out.size
    clear hsc hr2 hr2' hb2 hR hE hP
    obtain ⟨c, hc⟩ : ∃ c, P.length = c := ⟨_, rfl⟩
    have HC : Hid (P.length = c) := hc
    rw [hc] at HR2 ⊢
    clear hc
    go_wp2_with fail
    go_loopw [8] (fun i wr => ∃ (k : Nat) (s' : St), E ≤ k ∧ k ≤ n ∧ i = .int .i64 (k : Int) ∧ RWrote N w2 p s' f y x wr ∧ ((s'.left ≠ 0 ∧ wl (wps (L.drop k) k) s' = R) ∨ (s'.left = 0 ∧ R = (s', false))) ∧ s'.log.length ≤ s.log.length + k) (fun i _ => n - (intOf i).toNat)
    case atStart => exact ⟨E, s, Nat.le_refl _, hscl, rfl, HD2.out.same, .inl ⟨h0, HR.out⟩, by omega⟩
    case round =>
      obtain ⟨k, s', hk1, hk2, rfl, hW, hcase, hlg⟩ := hrel
      have HW : Hid (RWrote N w2 p s' f y x wr) := hW
      have HCASE : Hid ((s'.left ≠ 0 ∧ wl (wps (L.drop k) k) s' = R) ∨ (s'.left = 0 ∧ R = (s', false))) := hcase
      obtain ⟨x', d', kp, fp⟩ := hW
      have hsz := kp.size
      by_cases hkn : k < n
      · obtain ⟨g, o, ea, cX⟩ := (HRD2.out.kept kp HFAR.out) k (by rw [HLN.out]; exact hkn)
        subst ea
        have HWC : Hid (wps (L.drop k) k = if (L.getD k ⟨#[]⟩).size = 0 then wps (L.drop (k + 1)) (k + 1) else ((k : Int), ⟨#[]⟩) :: wps (L.drop (k + 1)) (k + 1)) := wps_cons (by rw [HLN.out]; exact hkn)
        have j1 : (0 : Int) ≤ (k : Int) := by omega
        have j2 : (k : Int) < (n : Int) := by omega
        by_cases hX : (L.getD k ⟨#[]⟩).size = 0
        · have hst := str_empty hX
          have HN' : Hid ((s'.left ≠ 0 ∧ wl (wps (L.drop (k + 1)) (k + 1)) s' = R) ∨ (s'.left = 0 ∧ R = (s', false))) := by
            rcases HCASE.out with ⟨c1, c2⟩ | c1
            · exact .inl ⟨c1, by rw [← c2, HWC.out, if_pos hX]⟩
            · exact .inr c1
          obtain ⟨X, hXX⟩ : ∃ X, L.getD k ⟨#[]⟩ = X := ⟨_, rfl⟩
          rw [hXX] at cX hst
          clear hX hXX hcase d' kp fp
          go_wp2_with fail
          go_roundw
          case rel => exact ⟨k + 1, s', by omega, by omega, by go_num, HW.out, HN'.out, by omega⟩
          case measure => simp [intOf]; omega
        · have hst := nob_no hX
          have hwr := rWrite_any N wr p s' f y x' d' (k : Int) ⟨#[]⟩ (by decide) (by omega) (by omega)
          have hgp : Gp ((k : Int), ⟨#[]⟩) := ⟨by show (0 : Int) ≤ (k : Int); omega, by show (k : Int) < 2048; omega, by show (⟨#[]⟩ : ByteArray).size ≤ 32; decide⟩
          have HLG : Hid ((nx s' (k : Int) ⟨#[]⟩).log.length ≤ s'.log.length + 1) := nx_log _ _ _
          have HTR : Hid (∀ w3, RWrote N wr p (nx s' (k : Int) ⟨#[]⟩) f y x' w3 → RWrote N w2 p (nx s' (k : Int) ⟨#[]⟩) f y x w3) := fun w3 h3 => RWrote.next kp fp h3
          rcases hcase with ⟨c1, c2⟩ | ⟨c1, c2⟩
          · have hwe := we_good c1 hgp
            rw [hwe] at hwr
            have HC2 : Hid (wl (((k : Int), ⟨#[]⟩) :: wps (L.drop (k + 1)) (k + 1)) s' = R) := by
              show _ = _
              rw [← c2, HWC.out, if_neg hX]
            obtain ⟨X, hXX⟩ : ∃ X, L.getD k ⟨#[]⟩ = X := ⟨_, rfl⟩
            rw [hXX] at cX hst
            have HNX : Hid (((nx s' (k : Int) ⟨#[]⟩).left ≠ 0 ∧ wl (wps (L.drop (k + 1)) (k + 1)) (nx s' (k : Int) ⟨#[]⟩) = R) ∨ ((nx s' (k : Int) ⟨#[]⟩).left = 0 ∧ R = (nx s' (k : Int) ⟨#[]⟩, false))) := by
              by_cases hz : (nx s' (k : Int) ⟨#[]⟩).left = 0
              · exact .inr ⟨hz, by rw [← HC2.out, wl_off hz]⟩
              · exact .inl ⟨hz, by rw [← HC2.out, wl_on hz]⟩
            obtain ⟨s2, hs2'⟩ : ∃ s2, nx s' (k : Int) ⟨#[]⟩ = s2 := ⟨_, rfl⟩
            rw [hs2'] at hwr HLG HTR HNX
            clear hX hXX d' kp fp hs2' c1 c2 hwe hgp
            go_wp2_with fail
            refine hwr.mono ?_
            rintro e w3 ⟨rfl, hW3⟩
            have HW3 : Hid (RWrote N w2 p s2 f y x w3) := HTR.out w3 hW3
            clear hwr hW3
            go_wp2_with fail
            go_roundw
            case rel => exact ⟨k + 1, s2, by omega, by omega, by go_num, HW3.out, HNX.out, by have := HLG.out; omega⟩
            case measure => simp [intOf]; omega
          · rw [we_off c1, nx_off c1] at hwr
            rw [nx_off c1] at HTR
            have HE : Hid (R = (s', false)) := c2
            obtain ⟨X, hXX⟩ : ∃ X, L.getD k ⟨#[]⟩ = X := ⟨_, rfl⟩
            rw [hXX] at cX hst
            clear hX hXX d' kp fp c1 c2 hgp
            go_wp2_with fail
            refine hwr.mono ?_
            rintro e w3 ⟨rfl, hW3⟩
            have HW3 : Hid (RWrote N w2 p s' f y x w3) := HTR.out w3 hW3
            clear hwr hW3
            go_wp2_with fail
            refine bodyPost_ret (v := .tuple #[.pointer none, .slice none 0 0, .int .i64 11]) (by simp [results, Try.results33, go_sem]) rfl ?_
            refine ⟨?_, .inl ⟨by rw [HS.out.2, HRR.out, HE.out], rfl⟩⟩
            rw [HS.out.1, HRR.out, HE.out]
            exact RWrote.first HB2.out HW3.out
      · have i2 : decide ((k : Int) < (n : Int)) = false := by simp; omega
        have hon2 := rOn_any N wr p s' f y x' d'
        have HP3 : Hid (RwS wr w0.heap.size (.slice a2 c cap2) P) := by
          have hr : wr.ownsRow w1.heap.size 9 1 (.slice a2 c cap2) P.length (cellsS P) := kp.row HR2.out (fun k hv hF => by
            have := (HR2.out.lt k hv).1
            have := (HIH.out k hF).1
            omega)
          exact ⟨hr.1, hr.2.elim .inl fun ⟨g, cap, cur, z1, z2, rest⟩ => .inr ⟨g, cap, cur, z1, Nat.le_trans hs1 z2, rest⟩⟩
        rcases hcase with ⟨c1, c2⟩ | ⟨c1, c2⟩
        · have HE : Hid (R = (s', true)) := by
            show _ = _
            rw [← c2, List.drop_eq_nil_of_le (by rw [HLN.out]; omega), wps, wl]
          rw [show decide (s'.left ≠ 0) = true by simp [c1]] at hon2
          clear d' kp fp c1 c2
          go_wp2_with fail
          refine hon2.mono ?_
          rintro e w3 ⟨rfl, rfl⟩
          go_wp2_with fail
          refine bodyPost_ret (v := .tuple #[.pointer (some ⟨w3.heap.size, 0, none⟩), .slice a2 c cap2, .int .i64 0]) (by simp [results, Try.results33, go_sem]) rfl ?_
          refine ⟨?_, .inr ⟨by rw [HS.out.2, HRR.out, HE.out], _, _, rfl, by omega, ?_, ?_⟩⟩
          · rw [HS.out.1, HRR.out, HE.out]
            exact (RWrote.first HB2.out HW.out).later (below1 _ _)
          · unfold Jr
            rw [HSC2.out.1, HSC2.out.2, HC.out]
            exact World.alloc_heap_new _ _
          · rw [HSC2.out.1]
            exact row_later HP3.out (below1 _ _)
        · have HE : Hid (R = (s', false)) := c2
          rw [show decide (s'.left ≠ 0) = false by simp [c1]] at hon2
          clear d' kp fp c1 c2
          go_wp2_with fail
          refine hon2.mono ?_
          rintro e w3 ⟨rfl, rfl⟩
          go_wp2_with fail
          refine bodyPost_ret (v := .tuple #[.pointer none, .slice none 0 0, .int .i64 11]) (by simp [results, Try.results33, go_sem]) rfl ?_
          refine ⟨?_, .inl ⟨by rw [HS.out.2, HRR.out, HE.out], rfl⟩⟩
          rw [HS.out.1, HRR.out, HE.out]
          exact RWrote.first HB2.out HW.out
end Go.Proofs.Ytohgflimdoebiaa.Dk
