/- Contracts: Trim, the document's Image; Same, SameWrites. -/
import Derived.Test.YtohgflimdoebiaaDrB
namespace Go.Proofs.Ytohgflimdoebiaa.Dk
open Go.RowKit Go.Maps
set_option linter.unusedVariables false
set_option linter.unusedSimpArgs false

set_option maxHeartbeats 2000000 in
set_option maxRecDepth 100000 in
theorem trim_any (g cap : Nat) (B : Bl) (w : World) (hcap : 2048 ≤ cap) (hr : RdS w (some ⟨g, 0, none⟩) (tx B 2048)) :
    Calls Try.prog 40 #[.slice (some ⟨g, 0, none⟩) 2048 cap] w fun e w' => ∃ v', e = .returned v' ∧ RwS w' w.heap.size v' (im B) ∧ Below w.heap.size w w' := by
  obtain ⟨i0, hi, hz0, hz1, hz2⟩ := info_parts infoS
  have HR : Hid (RdS w (some ⟨g, 0, none⟩) (tx B 2048)) := hr
  obtain ⟨z, hz⟩ : ∃ z, 2048 = z := ⟨_, rfl⟩
  have HZ : Hid (2048 = z) := hz
  have hz9 : z < 3000 := by omega
  rw [hz] at hcap ⊢
  clear hr hz
  go_enter Try.func40, Try.ntmps40
  go_wp2_with fail
  go_loopw [3, 8] (fun nv i wr => ∃ j : Nat, j ≤ z ∧ i = .int .i64 (j : Int) ∧ nv = .int .i64 ((topn B j : Nat) : Int) ∧ wr = w) (fun _ i _ => z - (intOf i).toNat)
  case atStart => exact ⟨0, by omega, rfl, rfl, rfl⟩
  case round =>
    obtain ⟨j, hj, rfl, rfl, rfl⟩ := hrel
    by_cases hjz : j < z
    · obtain ⟨b', o', e', x0⟩ := HR.out j (by rw [tx_length, HZ.out]; exact hjz)
      obtain ⟨rfl, rfl⟩ : g = b' ∧ 0 = o' := by simpa using e'
      rw [tx_getD _ _ _ (by rw [HZ.out]; exact hjz), Nat.zero_add] at x0
      have htl := topn_le B j
      have htn : topn B (j + 1) = if (B (j : Int)).size = 0 then topn B j else j + 1 := rfl
      obtain ⟨t, et⟩ : ∃ t, B (j : Int) = t := ⟨_, rfl⟩
      rw [et] at x0 htn
      have HTN : Hid (topn B (j + 1) = if t.size = 0 then topn B j else j + 1) := htn
      obtain ⟨T, eT⟩ : ∃ T, topn B j = T := ⟨_, rfl⟩
      rw [eT] at HTN htl ⊢
      have j1 : (0 : Int) ≤ (j : Int) := by omega
      have j2 : (j : Int) < (z : Int) := by omega
      clear htn et e' eT
      by_cases h0 : t.size = 0
      · have et := nob_of h0
        subst et
        go_wp2
        go_roundw
        case rel => exact ⟨j + 1, by omega, by go_num, by rw [HTN.out, if_pos h0], trivial⟩
        case measure => simp [intOf]; omega
      · have hb1 : t.toList.isEmpty = false := nob_no h0
        go_wp2
        go_roundw
        case rel => exact ⟨j + 1, by omega, by go_num, by rw [HTN.out, if_neg h0]; go_num, trivial⟩
        case measure => simp [intOf]; omega
    · have hjk' : decide ((j : Int) < (z : Int)) = false := by simp; omega
      have ej : j = 2048 := by have := HZ.out; omega
      have hT : topn B j = top B := by rw [ej]; rfl
      have hTl := top_le B
      obtain ⟨T, eT⟩ : ∃ T, top B = T := ⟨_, rfl⟩
      rw [eT] at hT hTl
      rw [hT]
      have HT : Hid (top B = T) := eT
      have HRT : Hid (RdS wr (some ⟨g, 0, none⟩) (im B)) := by
        have := HR.out.take T
        rw [tx_take _ _ _ hTl, ← eT] at this
        exact this
      have hcl : (cellsS (im B)).length = T * 1 := by rw [cellsS_length, im_length, eT]; omega
      have HCL : Hid ((cellsS (im B)).length = T * 1) := hcl
      have HNW : Hid _ := (HRT.out.later (below1 wr (.cells #[] 9))).news
      have HE0 : Hid _ := row_empty wr 9 1
      have HBB : Hid _ := below1 wr (.cells #[] 9)
      have t1 : (0 : Int) ≤ (T : Int) := by omega
      have t2 : (T : Int) ≤ (cap : Int) := by have := HZ.out; omega
      clear hT ej hcl eT
      by_cases h0 : T = 0
      · have H0 : Hid (T = 0) := h0
        clear h0
        go_wp2_with (at_builtin; refine wpList_append_fits _ rfl _ _ _ rfl wr.heap.size 9 i0 1 Try.underlying22 hi hz1 wr.heap.size 0 0 [] rfl HE0.out ⟨g, 0, none⟩ T cap (cellsS (im B)) rfl HCL.out HNW.out (cellsS_one _) (by have := H0.out; omega) ?_; intro w2 hown2 hgrow2; rw [Nat.zero_add, List.nil_append] at hown2; have HO2 : Hid _ := hown2; have HG2 : Hid _ := hgrow2; clear hown2 hgrow2)
        go_ret
        refine ⟨_, rfl, ?_, HBB.out.grown HG2.out HBB.out.size (fun j hj => by cases hj; exact Nat.le_refl _)⟩
        unfold RwS; rw [im_length, HT.out]; exact HO2.out
      · have h0' : 0 < T := by omega
        go_wp2_with (at_builtin; refine wpList_append_lies _ rfl _ _ _ rfl wr.heap.size 9 i0 _ 1 16 Try.underlying22 hi hz0 hz1 hz2 rfl (by omega) _ 0 [] rfl HE0.out ⟨g, 0, none⟩ T cap (cellsS (im B)) rfl HCL.out HNW.out (cellsS_one _) h0' (by unfold maxLen; omega) (by omega) (by simp) (wr.heap.size + 1) (by simp) ?_; intro g2 cap2 w2 hown2 hgrow2 hat2 hlt2; rw [Nat.zero_add, List.nil_append] at hown2; have HO2 : Hid _ := hown2; have HG2 : Hid _ := hgrow2; clear hown2 hgrow2 hat2 hlt2)
        go_ret
        refine ⟨_, rfl, ?_, HBB.out.grown HG2.out HBB.out.size (fun j hj => by cases hj; exact Nat.le_refl _)⟩
        unfold RwS; rw [im_length, HT.out]; exact HO2.out
set_option maxRecDepth 100000 in
theorem rImage_any (N : Nat) (w : World) (q : Nat) (s : St) (f y x : Value) (h : Rk N w q s f y x) : Calls Try.prog 24 #[.pointer (some ⟨q, 0, none⟩)] w fun e w' => ∃ v', e = .returned v' ∧ RwS w' w.heap.size v' (im s.bl) ∧ Below w.heap.size w w' := by
  have c1 := h.c1
  obtain ⟨g, cap, rfl⟩ := h.ys
  have hcap : 2048 ≤ cap := by
    rcases h.blo.2 with ⟨hv, _⟩ | ⟨g', cap', cur, hv, _, _, h1, _⟩
    · cases hv
    · cases hv; simpa using h1
  have ht := trim_any g cap s.bl w hcap h.blo.rd
  obtain ⟨z, hz⟩ : ∃ z, 2048 = z := ⟨_, rfl⟩
  rw [hz] at c1 ht
  clear h hz hcap
  go_enter Try.func24, Try.ntmps24
  go_wp2_with fail
  refine ht.mono ?_
  rintro e w' ⟨v', rfl, hr, hb⟩
  go_wp2
  go_ret
  exact ⟨_, rfl, hr, hb⟩
theorem toList_beq (t : ByteArray) : (t.toList == t.toList) = true := by simp
set_option maxHeartbeats 2000000 in
theorem same_any (a a' : Option Addr) (c c' : Nat) (l : List ByteArray) (w : World) (hl : l.length ≤ 8796093022208) (h1 : RdS w a l) (h2 : RdS w a' l) :
    Calls Try.prog 10 #[.slice a l.length c, .slice a' l.length c'] w fun e w' => e = .returned (.bool true) ∧ Below w.heap.size w w' := by
  have H1 : Hid (RdS w a l) := h1
  have H2 : Hid (RdS w a' l) := h2
  obtain ⟨n, hn⟩ : ∃ n, l.length = n := ⟨_, rfl⟩
  have HN : Hid (l.length = n) := hn
  rw [hn] at hl ⊢
  clear h1 h2 hn
  go_enter Try.func10, Try.ntmps10
  go_wp2_with fail
  go_loopw [13] (fun i wr => ∃ k : Nat, k ≤ n ∧ i = .int .i64 (k : Int) ∧ Below w.heap.size w wr) (fun i _ => n - (intOf i).toNat)
  case atStart => exact ⟨0, by omega, rfl, Below.refl _ _⟩
  case round =>
    obtain ⟨k, hk, rfl, hb⟩ := hrel
    have HB : Hid (Below w.heap.size w wr) := hb
    by_cases hkn : k < n
    · obtain ⟨b, o, e1, x0⟩ := H1.out k (by rw [HN.out]; exact hkn)
      obtain ⟨b', o', e2, y0⟩ := H2.out k (by rw [HN.out]; exact hkn)
      have x1 := cell_later hb (Nat.le_refl _) x0
      have y1 := cell_later hb (Nat.le_refl _) y0
      obtain ⟨t, et⟩ : ∃ t, l.getD k ⟨#[]⟩ = t := ⟨_, rfl⟩
      rw [et] at x1 y1
      subst e1 e2
      have j1 : (0 : Int) ≤ (k : Int) := by omega
      have j2 : (k : Int) < (n : Int) := by omega
      clear et x0 y0 hb
      go_wp2_with fail
      go_region_held3 (fun w' => w'.cell? ⟨b, o + k, none⟩ = some (.string t) ∧ w'.cell? ⟨b', o' + k, none⟩ = some (.string t)) (go_keep) (fail)
      go_wp2
      go_roundw
      case rel => exact ⟨k + 1, by omega, by go_num, HB.out.drew⟩
      case measure => simp [intOf]; omega
    · have hjk' : decide ((k : Int) < (n : Int)) = false := by simp; omega
      clear hb
      go_wp2
      go_ret
      exact ⟨rfl, HB.out⟩
set_option maxHeartbeats 2000000 in
theorem sameW_any (a a' : Option Addr) (c c' : Nat) (l : List (Int × ByteArray)) (w : World) (hl : l.length ≤ 8796093022208) (h1 : RdW w a l) (h2 : RdW w a' l) :
    Calls Try.prog 21 #[.slice a l.length c, .slice a' l.length c'] w fun e w' => e = .returned (.bool true) ∧ Below w.heap.size w w' := by
  have H1 : Hid (RdW w a l) := h1
  have H2 : Hid (RdW w a' l) := h2
  obtain ⟨n, hn⟩ : ∃ n, l.length = n := ⟨_, rfl⟩
  have HN : Hid (l.length = n) := hn
  rw [hn] at hl ⊢
  clear h1 h2 hn
  go_enter Try.func21, Try.ntmps21
  go_wp2_with fail
  go_loopw [13] (fun i wr => ∃ k : Nat, k ≤ n ∧ i = .int .i64 (k : Int) ∧ Below w.heap.size w wr) (fun i _ => n - (intOf i).toNat)
  case atStart => exact ⟨0, by omega, rfl, Below.refl _ _⟩
  case round =>
    obtain ⟨k, hk, rfl, hb⟩ := hrel
    have HB : Hid (Below w.heap.size w wr) := hb
    by_cases hkn : k < n
    · obtain ⟨b, o, e1, x0, u0⟩ := H1.out k (by rw [HN.out]; exact hkn)
      obtain ⟨b', o', e2, y0, v0⟩ := H2.out k (by rw [HN.out]; exact hkn)
      have x1 := cell_later hb (Nat.le_refl _) x0
      have y1 := cell_later hb (Nat.le_refl _) y0
      have xx1 := cell_later hb (Nat.le_refl _) u0
      have yy1 := cell_later hb (Nat.le_refl _) v0
      obtain ⟨i, t, et⟩ : ∃ i t, l.getD k (0, ⟨#[]⟩) = (i, t) := ⟨_, _, rfl⟩
      rw [et] at x1 y1 xx1 yy1
      subst e1 e2
      have j1 : (0 : Int) ≤ (k : Int) := by omega
      have j2 : (k : Int) < (n : Int) := by omega
      clear et x0 y0 u0 v0 hb
      go_wp2_with fail
      go_region_held3 (fun w' => w'.cell? ⟨b, o + k * 2, none⟩ = some (.int .i64 i) ∧ w'.cell? ⟨b, o + k * 2 + 1, none⟩ = some (.string t) ∧ w'.cell? ⟨b', o' + k * 2, none⟩ = some (.int .i64 i) ∧ w'.cell? ⟨b', o' + k * 2 + 1, none⟩ = some (.string t)) (go_keep) (fail)
      go_wp2
      go_roundw
      case rel => exact ⟨k + 1, by omega, by go_num, HB.out.drew⟩
      case measure => simp [intOf]; omega
    · have hjk' : decide ((k : Int) < (n : Int)) = false := by simp; omega
      clear hb
      go_wp2
      go_ret
      exact ⟨rfl, HB.out⟩
end Go.Proofs.Ytohgflimdoebiaa.Dk
