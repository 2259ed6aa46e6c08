/- KeyLeast at nil. -/
import Derived.Test.YtpofjkjcbflloabKwNone
import Derived.Laws.AppendOwnNone
namespace Go.Proofs.Ytpofjkjcbflloab
open Go.Maps Go.RowKit Go.Sort Go.Lib
set_option linter.unusedVariables false

set_option maxHeartbeats 4000000 in
set_option maxRecDepth 100000 in
theorem lea_nil (c n : Nat) (ks l : List (Int × Int)) (hn : ks.length = n) (hls : lst ks = l) (h0 : n = 0) (hc0 : c = 0) (w : World) (hl : n * 16 ≤ 140737488351232) (hrd : RdAt w (none) ks) :
    Calls Try.prog 3 #[.slice (none) n c] w fun e w' => e = .returned (.bool true) ∧ Below w.heap.size w w' := by
  obtain ⟨i0, hi, hz0, hz1, hz2⟩ := info_parts infoKey
  have HN : Hid (ks.length = n) := hn
  have H0 : Hid (n = 0) := h0
  have HC0 : Hid (c = 0) := hc0
  clear h0 hc0
  have HRD : Hid (RdAt w (none) ks) := hrd
  have HLS : Hid (lst ks = l) := hls
  clear hn hrd hls
  go_enter Try.func3, Try.ntmps3
  go_wp2_with fail
  refine (lives_any _).mono ?_
  rintro e w1 ⟨rfl, hb1⟩
  have HB1 : Hid (Below w.heap.size w w1) := hb1
  have HR1 : Hid (RdAt w1 (none) ks) := HRD.out.later hb1
  clear hb1
  have hE : (w1.alloc (.cells #[] 25)).ownsRow w1.heap.size 25 2 (.slice (some ⟨w1.heap.size, 0, none⟩) 0 0) 0 [] :=
    ⟨rfl, Or.inr ⟨w1.heap.size, 0, #[], rfl, Nat.le_refl _, heap_alloc_new w1 _, Nat.le_refl _, Nat.zero_le _, rfl, rfl⟩⟩
  have HKS : Hid (ks = []) := List.length_eq_zero_iff.1 (HN.out.trans H0.out)
  have HO2 : Hid ((w1.alloc (.cells #[] 25)).ownsRow w1.heap.size 25 2 (.slice (some ⟨w1.heap.size, 0, none⟩) n 0) n (cellsL ks)) := by
    rw [H0.out, HKS.out]; exact hE
  have hcl : (cellsL ks).length = n * 2 := by rw [cellsL_length, HN.out]
  have hone : ∀ u ∈ cellsL ks, u.oneCell' = true := by
    intro u hu
    simp [cellsL] at hu
    obtain ⟨x, y, _, rfl | rfl⟩ := hu <;> rfl
  go_wp2_with (first
    | (at_builtin; refine wpList_append_own_none rfl _ _ _ rfl w1.heap.size 25 i0 2 Try.underlying22 hi (.slice (some ⟨w1.heap.size, 0, none⟩) n 0) n (cellsL ks) (by show Value.slice _ 0 0 = _; rw [H0.out]) HO2.out (by show Value.slice none n c = _; rw [H0.out, HC0.out]) ?_; have HB2 : Hid (Below w.heap.size w (w1.alloc (.cells #[] 25))) := Below.more HB1.out _; have hs2 : w1.heap.size + 1 ≤ (w1.alloc (.cells #[] 25)).heap.size := (by simp); clear hE; generalize w1.alloc (.cells #[] 25) = w2 at HO2 HB2 hs2 ⊢)
    | (at_builtin; refine wpList_append_lies _ rfl _ _ _ rfl w1.heap.size 25 i0 _ 2 16 Try.underlying22 hi hz0 hz1 hz2 rfl (by omega) _ n (cellsL ks) rfl (HO2.out.alloc _) ⟨w2.heap.size, 0, none⟩ 1 1 [.int .i64 (-7), .int .i64 0] rfl rfl (cell_two_at _ _ _ _ _ rfl) (by simp [Value.oneCell']) (by omega) (by unfold maxLen; omega) (by omega) (by simp at hs2 ⊢; omega) (w2.heap.size + 1) (by simp) ?_; intro g3 cap3 w3 hown3 hgrow3 hat3 hlt3; have hcp3 := (row_cap hown3).2.1; have hcm3 := (row_cap hown3).2.2.1; have HO3 : Hid (w3.ownsRow w1.heap.size 25 2 (.slice (some ⟨g3, 0, none⟩) (n + 1) cap3) (n + 1) (cellsL ks ++ [.int .i64 (-7), .int .i64 0])) := hown3; have HG3 : Hid ((w2.alloc (.cells #[.int .i64 (-7), .int .i64 0] 25)).grownBy w3 (some w1.heap.size)) := hgrow3; clear hown3 hgrow3 hat3 hlt3)
    | fail)
  unfold maxLen at hcm3
  have HB3 : Hid (Below w.heap.size w w3) := by
    have z1 := HB1.out.size
    have b2 := HB2.out
    have g2b := (row_cap HO2.out).1
    exact (Below.more b2 _).grown HG3.out (by have := b2.size; simp; omega) (fun j hj => by cases hj; omega)
  have HGV : Hid (RdAt w3 (some ⟨g3, 0, none⟩) (ks ++ [(-7, 0)])) := by
    have h := HO3.out
    have e : cellsL ks ++ [.int .i64 (-7), .int .i64 0] = cellsL (ks ++ [(-7, 0)]) := by rw [cellsL_append]; rfl
    have e2 : (ks ++ [((-7 : Int), (0 : Int))]).length = n + 1 := by simp [HN.out]
    rw [e, ← e2] at h
    exact rd_of_row h
  have HRG : Hid (RdAt w3 (some ⟨g3, 0, none⟩) ks) := by
    have := HGV.out.take ks.length
    rwa [List.take_left' rfl] at this
  have HRL : Hid (RdAt w3 (none) ks) := HRD.out.later HB3.out
  have k1 : (0 : Int) ≤ (n : Int) := by omega
  have k2 : (n : Int) ≤ (cap3 : Int) := by omega
  clear hcl hone
  have hm : (lst ks).length ≤ 65535 := lst_len ks
  generalize hmm : (lst ks).length = m at hm
  have HM : Hid ((lst ks).length = m) := hmm
  clear hmm
  go_wp2_with fail
  refine (rl_n _ c n ks w3 HN.out (by omega) HRL.out).mono ?_
  rintro e w4 ⟨a4, c4, rfl, hr4, hf4, hb4⟩
  have HF4 : Hid (∀ b' o', a4 = some ⟨b', o', none⟩ → w3.heap.size ≤ b') := hf4
  clear hf4
  rw [HM.out]
  have HB4 : Hid (Below w3.heap.size w3 w4) := hb4
  have HW4 : Hid (RdAt w4 a4 (lst ks)) := hr4
  have HG4 : Hid (RdAt w4 (some ⟨g3, 0, none⟩) ks) := HRG.out.later hb4
  clear hr4 hb4
  go_wp2_with fail
  refine (le_n _ _ n ks w4 HN.out (by omega) HG4.out).mono ?_
  rintro e w5 ⟨g5, c5, rfl, hg5, ho5, hb5⟩
  have HO5 : Hid (w5.ownsRow (w4.heap.size + 1) 25 2 (.slice (some ⟨g5, 0, none⟩) (lst ks).length c5) (lst ks).length (cellsL (lst ks))) := ho5
  rw [HM.out]
  have HB5 : Hid (Below w4.heap.size w4 w5) := hb5
  have HG5 : Hid (RdAt w5 (some ⟨g3, 0, none⟩) ks) := HG4.out.later hb5
  clear ho5 hb5
  go_wp2_with fail
  refine (le_n _ _ n ks w5 HN.out (by omega) HG5.out).mono ?_
  rintro e w6 ⟨g6, c6, rfl, hg6, ho6, hb6⟩
  have HO6 : Hid (w6.ownsRow (w5.heap.size + 1) 25 2 (.slice (some ⟨g6, 0, none⟩) (lst ks).length c6) (lst ks).length (cellsL (lst ks))) := ho6
  rw [HM.out]
  have HB6 : Hid (Below w5.heap.size w5 w6) := hb6
  clear ho6 hb6
  have H1 : Hid (RdAt w6 (some ⟨g5, 0, none⟩) (lst ks)) := (rd_of_row HO5.out).later HB6.out
  have H2 : Hid (RdAt w6 (some ⟨g6, 0, none⟩) (lst ks)) := rd_of_row HO6.out
  have H3 : Hid (RdAt w6 a4 (lst ks)) := (HW4.out.later HB5.out).later HB6.out
  have H4 : Hid (RdAt w6 (some ⟨g3, 0, none⟩) ks) := HG5.out.later HB6.out
  have H5 : Hid (RdAt w6 (none) ks) := ((HRL.out.later HB4.out).later HB5.out).later HB6.out
  go_wp2_with fail
  refine (sa_n _ _ _ _ m (lst ks) w6 HM.out (by omega) H1.out H3.out).mono ?_
  rintro e w7 ⟨rfl, hb7⟩
  have HB7 : Hid (Below w6.heap.size w6 w7) := hb7
  clear hb7
  go_wp2_with fail
  refine (sa_n _ _ _ _ m (lst ks) w7 HM.out (by omega) (H2.out.later HB7.out) (H3.out.later HB7.out)).mono ?_
  rintro e w8 ⟨rfl, hb8⟩
  have HB8 : Hid (Below w7.heap.size w7 w8) := hb8
  clear hb8
  go_wp2_with fail
  refine (sa_n _ _ _ _ n ks w8 HN.out (by omega) ((H4.out.later HB7.out).later HB8.out) ((H5.out.later HB7.out).later HB8.out)).mono ?_
  rintro e w9 ⟨rfl, hb9⟩
  have HB9 : Hid (Below w8.heap.size w8 w9) := hb9
  clear hb9
  have HGV9 : Hid (RdAt w9 (some ⟨g3, 0, none⟩) (ks ++ [(-7, 0)])) := (((((HGV.out.later HB4.out).later HB5.out).later HB6.out).later HB7.out).later HB8.out).later HB9.out
  have k3 : (n : Int) < ((n + 1 : Nat) : Int) := by omega
  obtain ⟨hc9, hd9⟩ : w9.cell? ⟨g3, n * 2, none⟩ = some (.int .i64 (-7)) ∧ w9.cell? ⟨g3, n * 2 + 1, none⟩ = some (.int .i64 0) := by
    obtain ⟨b', o', e, c0, c1⟩ := HGV9.out n (by simp [HN.out])
    obtain ⟨rfl, rfl⟩ : g3 = b' ∧ 0 = o' := by simpa using e
    have hgd : (ks ++ [((-7 : Int), (0 : Int))]).getD n (0, 0) = (-7, 0) := by rw [← HN.out]; simp
    rw [hgd] at c0 c1
    rw [Nat.zero_add] at c0 c1
    exact ⟨c0, c1⟩
  go_wp2_with fail
  have HO9 : Hid (w9.ownsRow (w4.heap.size + 1) 25 2 (.slice (some ⟨g5, 0, none⟩) m c5) m (cellsL (lst ks))) := by
    have := own_later (own_later (own_later (own_later HO5.out HB6.out) HB7.out) HB8.out) HB9.out
    rwa [HM.out] at this
  clear hc9 hd9 k3 k1 k2
  go_loopw [55] (fun i wr => ∃ k : Nat, k ≤ m ∧ i = .int .i64 (k : Int) ∧ w9.grownBy wr (some g5) ∧ ∃ xs, wr.ownsRow (w4.heap.size + 1) 25 2 (.slice (some ⟨g5, 0, none⟩) m c5) m xs) (fun i _ => m - (intOf i).toNat)
  case atStart => exact ⟨0, by omega, rfl, ⟨rfl, rfl, rfl, Nat.le_refl _, fun _ _ _ => rfl⟩, _, HO9.out⟩
  case round =>
    obtain ⟨k, hk, rfl, hg, xs, ho⟩ := hrel
    have HG : Hid (w9.grownBy wr (some g5)) := hg
    have HO : Hid (wr.ownsRow (w4.heap.size + 1) 25 2 (.slice (some ⟨g5, 0, none⟩) m c5) m xs) := ho
    clear hg ho
    by_cases hkm : k < m
    · obtain ⟨u0, q0⟩ := row_cell HO.out (k * 2) (by omega)
      obtain ⟨u1, q1⟩ := row_cell HO.out (k * 2 + 1) (by omega)
      have f0 := HO.out.frozenAt (k * 2)
      have f1 := HO.out.frozenAt (k * 2 + 1)
      have i1 : (0 : Int) ≤ (k : Int) := by omega
      have i2 : (k : Int) < (m : Int) := by omega
      go_wp2_with fail
      go_roundw
      case rel =>
        have s1 := HO.out.stored (k * 2) (.int .i64 (-1))
        have s2 := s1.1.stored (k * 2 + 1) (.int .i64 0)
        exact ⟨k + 1, by omega, by go_num, (HG.out.trans s1.2).trans s2.2, _, s2.1⟩
      case measure => simp [intOf]; omega
    · have hkn' : decide ((k : Int) < (m : Int)) = false := by simp; omega
      have hr5 := row_cap HO.out
      go_wp2_with (at_builtin; refine wpList_append_lies _ rfl _ _ _ rfl (w4.heap.size + 1) 25 i0 _ 2 16 Try.underlying22 hi hz0 hz1 hz2 rfl (by omega) _ m xs rfl (HO.out.alloc _) ⟨wr.heap.size, 0, none⟩ 1 1 [.int .i64 (-2), .int .i64 0] rfl rfl (cell_two_at _ _ _ _ _ rfl) (by simp [Value.oneCell']) (by omega) (by unfold maxLen; omega) (by omega) (by simp; omega) (wr.heap.size + 1) (by simp) ?_; intro g7 cap7 w10 hown7 hgrow7 hat7 hlt7; have HG7 : Hid ((wr.alloc (.cells #[.int .i64 (-2), .int .i64 0] 25)).grownBy w10 (some g5)) := hgrow7; clear hown7 hgrow7 hat7 hlt7)
      have HB10 : Hid (Below w4.heap.size w4 w10) := by
        have y9 := Below.then (Below.then (Below.then (Below.then HB5.out HB6.out) HB7.out) HB8.out) HB9.out
        have y10 := y9.grown HG.out (by have := y9.size; omega) (fun j hj => by cases hj; omega)
        exact (Below.more y10 _).grown HG7.out (by have := y10.size; simp; omega) (fun j hj => by cases hj; omega)
      have HT10 : Hid (RdAt w10 (some ⟨g6, 0, none⟩) (lst ks)) := by
        have z5 := (row_cap HO5.out).2.2.2.1
        have hne : ∀ b o, (some (⟨g6, 0, none⟩ : Addr)) = some ⟨b, o, none⟩ → some b ≠ some g5 := fun b o hb => by
          cases hb; intro h; cases h; omega
        have r9 := ((H2.out.later HB7.out).later HB8.out).later HB9.out
        exact ((r9.far HG.out hne).later (below1 wr _)).far HG7.out hne
      have HW10 : Hid (RdAt w10 a4 (lst ks)) := HW4.out.later HB10.out
      go_wp2_with fail
      refine (sa_n _ _ _ _ m (lst ks) w10 HM.out (by omega) HT10.out HW10.out).mono ?_
      rintro e w11 ⟨rfl, hb11⟩
      have HB11 : Hid (Below w10.heap.size w10 w11) := hb11
      clear hb11
      go_wp2_with fail
      have hr3 := row_cap HO3.out
      have HO11 : Hid (w11.ownsRow w1.heap.size 25 2 (.slice (some ⟨g3, 0, none⟩) (n + 1) cap3) (n + 1) (cellsL (ks ++ [(-7, 0)]))) := by
        have := own_later (own_later (own_later HO3.out HB4.out) HB10.out) HB11.out
        rwa [show cellsL ks ++ [.int .i64 (-7), .int .i64 0] = cellsL (ks ++ [(-7, 0)]) by rw [cellsL_append]; rfl] at this
      clear hkn' hkm hk
      go_loopw [81] (fun i wr => ∃ k : Nat, k ≤ n ∧ i = .int .i64 (k : Int) ∧ w11.grownBy wr (some g3) ∧ ∃ L : List (Int × Int), L.length = n + 1 ∧ wr.ownsRow w1.heap.size 25 2 (.slice (some ⟨g3, 0, none⟩) (n + 1) cap3) (n + 1) (cellsL L)) (fun i _ => n - (intOf i).toNat)
      case atStart => exact ⟨0, by omega, rfl, ⟨rfl, rfl, rfl, Nat.le_refl _, fun _ _ _ => rfl⟩, _, by simp [HN.out], HO11.out⟩
      case round =>
        obtain ⟨q, hq, rfl, hg, L, hL, ho⟩ := hrel
        have HLL : Hid (L.length = n + 1) := hL
        clear hL
        by_cases hqn : q < n
        · obtain ⟨u0, q0⟩ := row_cell ho (q * 2) (by omega)
          obtain ⟨u1, q1⟩ := row_cell ho (q * 2 + 1) (by omega)
          have f0 := ho.frozenAt (q * 2)
          have f1 := ho.frozenAt (q * 2 + 1)
          have i1 : (0 : Int) ≤ (q : Int) := by omega
          have i2 : (q : Int) < (n : Int) := by omega
          have HGq : Hid (w11.grownBy wr (some g3)) := hg
          have HOq : Hid (wr.ownsRow w1.heap.size 25 2 (.slice (some ⟨g3, 0, none⟩) (n + 1) cap3) (n + 1) (cellsL L)) := ho
          clear hg ho
          go_wp2_with fail
          go_roundw
          case rel =>
            have s1 := HOq.out.stored (q * 2) (.int .i64 ((q : Int) + 1))
            have s2 := s1.1.stored (q * 2 + 1) (.int .i64 ((q : Int) % 7))
            have o2 := s2.1
            rw [cellsL_set] at o2
            exact ⟨q + 1, by omega, by go_num, (HGq.out.trans s1.2).trans s2.2, _, by simp [HLL.out], o2⟩
          case measure => simp [intOf]; omega
        · have hkn' : decide ((q : Int) < (n : Int)) = false := by simp; omega
          have HGq : Hid (w11.grownBy wr (some g3)) := hg
          have HOq : Hid (wr.ownsRow w1.heap.size 25 2 (.slice (some ⟨g3, 0, none⟩) (n + 1) cap3) (n + 1) (cellsL L)) := ho
          clear hg ho
          have y4 := HB4.out.size
          have y5 := HB5.out.size
          have HTq : Hid (RdAt wr (some ⟨g6, 0, none⟩) (lst ks)) := (HT10.out.later HB11.out).far HGq.out (fun b o hb => by cases hb; intro h; cases h; omega)
          have HWq : Hid (RdAt wr a4 (lst ks)) := (HW10.out.later HB11.out).far HGq.out (fun b o hb => by have := HF4.out b o hb; intro h; cases h; omega)
          have hLn : (L.take n).length = n := by simp [HLL.out]
          have HLn : Hid ((L.take n).length = n) := hLn
          clear hLn
          have HVq : Hid (RdAt wr (some ⟨g3, 0, none⟩) (L.take n)) := by
            have h := HOq.out
            rw [← HLL.out] at h
            exact (rd_of_row h).take n
          generalize L.take n = M at HLn HVq
          go_wp2_with fail
          refine (sa_n _ _ _ _ m (lst ks) wr HM.out (by omega) HTq.out HWq.out).mono ?_
          rintro e w12 ⟨rfl, hb12⟩
          have HB12 : Hid (Below wr.heap.size wr w12) := hb12
          clear hb12
          go_wp2_with fail
          refine (le_n _ _ n M w12 HLn.out (by omega) (HVq.out.later HB12.out)).mono ?_
          rintro e w13 ⟨g8, c8, rfl, hg8, ho8, hb13⟩
          have HB13 : Hid (Below w12.heap.size w12 w13) := hb13
          have HR13 : Hid (RdAt w13 (some ⟨g8, 0, none⟩) (lst M)) := rd_of_row ho8
          clear hb13 ho8 hg8
          have hmM := lst_len M
          obtain ⟨p, hp⟩ : ∃ p, (lst M).length = p := ⟨_, rfl⟩
          have HP : Hid ((lst M).length = p) := hp
          rw [hp] at hmM ⊢
          clear hp
          go_wp2_with fail
          refine (rl_n _ _ n M w13 HLn.out (by omega) ((HVq.out.later HB12.out).later HB13.out)).mono ?_
          rintro e w14 ⟨a9, c9, rfl, hr9, hf9, hb14⟩
          rw [HP.out]
          have HB14 : Hid (Below w13.heap.size w13 w14) := hb14
          have HR9 : Hid (RdAt w14 a9 (lst M)) := hr9
          clear hb14 hr9 hf9
          go_wp2_with fail
          refine (sa_n _ _ _ _ p (lst M) w14 HP.out (by omega) (HR13.out.later HB14.out) HR9.out).mono ?_
          rintro e w15 ⟨rfl, hb15⟩
          have HB15 : Hid (Below w14.heap.size w14 w15) := hb15
          clear hb15
          go_wp2_with fail
          go_ret
          have v11 := Below.then (Below.then (Below.then HB3.out HB4.out) HB10.out) HB11.out
          have z1 := HB1.out.size
          have vr := v11.grown HGq.out (by have := v11.size; omega) (fun j hj => by cases hj; omega)
          exact ⟨rfl, Below.then (Below.then (Below.then (Below.then vr HB12.out) HB13.out) HB14.out) HB15.out⟩
end Go.Proofs.Ytpofjkjcbflloab
