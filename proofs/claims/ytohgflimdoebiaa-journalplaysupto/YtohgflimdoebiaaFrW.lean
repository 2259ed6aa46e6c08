/- Contract: the document's Whole. -/
import Derived.Test.YtohgflimdoebiaaFrI
import Derived.Test.YtohgflimdoebiaaFrJ
import Derived.BigQuiet
import Derived.Deep.QuietTactic
import Derived.WalkSmall
namespace Go.Proofs.Ytohgflimdoebiaa
open Go.RowKit Go.Maps
set_option linter.unusedVariables false
set_option linter.unusedSimpArgs false

set_option maxHeartbeats 2000000 in
set_option maxRecDepth 100000 in
theorem rWhole_nil (a : Option Addr) (cap : Nat) (w : World) : Calls Try.prog 47 #[.slice a 0 cap] w fun e w' => WP [] e ∧ Below w.heap.size w w' := by
  have HNO : Hid (¬ Wh []) := fun h => h.ne rfl
  go_enter Try.func47, Try.ntmps47
  go_wp2_with fail
  refine bodyPost_ret (v := .tuple #[.int .i64 0, .string ⟨#[]⟩, .int .i64 7]) (by simp [results, Try.results47, go_sem]) rfl ⟨.inr ⟨HNO.out, rfl⟩, ?_⟩
  exact Below.refl _ _
set_option maxHeartbeats 2000000 in
set_option maxRecDepth 100000 in
theorem rWhole_long (a : Option Addr) (cap : Nat) (l : List Pc) (h : 255 < l.length) (w : World) : Calls Try.prog 47 #[.slice a l.length cap] w fun e w' => WP l e ∧ Below w.heap.size w w' := by
  have HNO : Hid (¬ Wh l) := fun hw => by have := (hw.sizes 0 (by omega)).2.2.2.2; omega
  obtain ⟨n, hn⟩ : ∃ n, l.length = n := ⟨_, rfl⟩
  rw [hn] at h ⊢
  have h1 : ((n : Int) == 0) = false := by simp; omega
  have h2 : (255 : Int) < (n : Int) := by omega
  clear hn
  go_enter Try.func47, Try.ntmps47
  go_wp2_with fail
  refine bodyPost_ret (v := .tuple #[.int .i64 0, .string ⟨#[]⟩, .int .i64 7]) (by simp [results, Try.results47, go_sem]) rfl ⟨.inr ⟨HNO.out, rfl⟩, ?_⟩
  exact Below.refl _ _
theorem ct_arr (l : List Pc) (k : Nat) (h : k < l.length) : (⟨(ct (l.take k)).toArray⟩ : ByteArray) ++ (l.getD k pc0).d = ⟨(ct (l.take (k + 1))).toArray⟩ := by
  apply ByteArray.ext
  apply Array.ext'
  rw [ByteArray.data_append, ct_snoc l k h]
  simp
set_option maxHeartbeats 4000000 in
set_option maxRecDepth 100000 in
theorem rWhole_some (b o cap n : Nat) (l : List Pc) (hn : l.length = n) (h0 : 0 < n) (hl : n ≤ 255) (w : World) (h1 : ∀ i, i < n → PAt w b (o + i * 4) (l.getD i pc0)) : Calls Try.prog 47 #[.slice (some ⟨b, o, none⟩) n cap] w fun e w' => WP l e ∧ Below w.heap.size w w' := by
  have HN : Hid (l.length = n) := hn
  have H1 : Hid (∀ i, i < n → PAt w b (o + i * 4) (l.getD i pc0)) := h1
  obtain ⟨Q, hQ⟩ : ∃ Q, (l.getD 0 pc0).q = Q := ⟨_, rfl⟩
  have HQ : Hid ((l.getD 0 pc0).q = Q) := hQ
  have i1 : ((n : Int) == 0) = false := by simp; omega
  have i2 : decide (255 < (n : Int)) = false := by simp; omega
  have i3 : (0 : Int) < (n : Int) := by omega
  clear hn hQ h1
  go_enter Try.func47, Try.ntmps47
  go_wp2_with fail
  go_loopw [5, 21] (fun t i wr => ∃ k : Nat, k ≤ n ∧ i = .int .i64 (k : Int) ∧ t = .string ⟨(ct (l.take k)).toArray⟩ ∧ (∀ j, j < k → rtP (l.getD j pc0) = true) ∧ (ct (l.take k)).length ≤ 23 * k ∧ Below w.heap.size w wr) (fun _ i _ => n - (intOf i).toNat)
  case atStart => exact ⟨0, by omega, rfl, by simp [ct], fun j hj => absurd hj (Nat.not_lt_zero _), by simp [ct], Below.refl _ _⟩
  case round =>
    obtain ⟨k, hk, rfl, rfl, hok, hct, hb⟩ := hrel
    have HOK : Hid (∀ j, j < k → rtP (l.getD j pc0) = true) := hok
    have HB : Hid (Below w.heap.size w wr) := hb
    have HCT : Hid ((ct (l.take k)).length ≤ 23 * k) := hct
    clear hok hct
    by_cases hkn : k < n
    · obtain ⟨c0, c1, c2, c3⟩ := (H1.out k hkn).later hb
      have j1 : (0 : Int) ≤ (k : Int) := by omega
      have j2 : (k : Int) < (n : Int) := by omega
      have HS : Hid ((⟨(ct (l.take k)).toArray⟩ : ByteArray) ++ (l.getD k pc0).d = ⟨(ct (l.take (k + 1))).toArray⟩) := ct_arr l k (by rw [HN.out]; exact hkn)
      have HL : Hid (ct (l.take (k + 1)) = ct (l.take k) ++ (l.getD k pc0).d.data.toList) := ct_snoc l k (by rw [HN.out]; exact hkn)
      have HI : Hid (rtP (l.getD k pc0) = rt (l.getD k pc0).q (l.getD k pc0).p (l.getD k pc0).n (l.getD k pc0).d.size) := rfl
      obtain ⟨q, hq⟩ : ∃ q, (l.getD k pc0).q = q := ⟨_, rfl⟩
      obtain ⟨p, hp⟩ : ∃ p, (l.getD k pc0).p = p := ⟨_, rfl⟩
      obtain ⟨m, hm⟩ : ∃ m, (l.getD k pc0).n = m := ⟨_, rfl⟩
      obtain ⟨d, hd⟩ : ∃ d, (l.getD k pc0).d = d := ⟨_, rfl⟩
      rw [hq] at c0
      rw [hp] at c1
      rw [hm] at c2
      rw [hd] at c3
      rw [hq, hp, hm, hd] at HI
      rw [hd] at HS HL
      clear hq hp hm hd hb
      have hright := fun W => rRight_any q p m d W
      have HKN : Hid (k < l.length) := by unfold Hid; rw [HN.out]; exact hkn
      cases hr : rt q p m d.size with
      | false =>
        have HNO : Hid (¬ Wh l) := fun hw => by have := (hw.each k HKN.out).1; rw [HI.out, hr] at this; cases this
        simp only [hr] at hright
        clear hr
        go_wp2_with fail
        refine (hright _).mono ?_
        rintro e w2 ⟨rfl, hb2⟩
        go_wp2_with fail
        refine bodyPost_ret (v := .tuple #[.int .i64 0, .string ⟨#[]⟩, .int .i64 7]) (by simp [results, Try.results47, go_sem]) rfl ⟨.inr ⟨HNO.out, rfl⟩, ?_⟩
        exact Below.then (Below.more HB.out _) hb2
      | true =>
        have HR : Hid (rt q p m d.size = true) := hr
        simp only [hr] at hright
        have hd23 : d.size ≤ 23 := by have := ((rt_iff _ _ _ _).1 hr).2.2.2.2.2.2.2; omega
        clear hr
        have hsz : (⟨(ct (l.take k)).toArray⟩ : ByteArray).size ≤ 5865 := by
          have e : (⟨(ct (l.take k)).toArray⟩ : ByteArray).size = (ct (l.take k)).length := by simp [ByteArray.size]
          have := HCT.out
          rw [e]; omega
        obtain ⟨T, hT⟩ : ∃ T : ByteArray, ⟨(ct (l.take k)).toArray⟩ = T := ⟨_, rfl⟩
        rw [hT] at HS hsz ⊢
        have s1 : ¬ 9223372036854775807 < T.size + d.size := by omega
        clear hT
        go_wp2_with fail
        refine (hright _).mono ?_
        rintro e w2 ⟨rfl, hb2⟩
        have d3 : w2.cell? ⟨wr.heap.size, 3, none⟩ = some (.string d) := cell_later hb2 (by simp [go_sem])
        have HB2 : Hid (Below w.heap.size w w2) := Below.then (Below.more HB.out _) hb2
        clear hb2 hright c0 c1 c2 c3
        go_wp2_with fail
        go_roundw
        case rel =>
          refine ⟨k + 1, by omega, by go_num, by rw [HS.out], ?_, ?_, HB2.out⟩
          · intro j hj
            rcases Nat.lt_or_ge j k with hj' | hj'
            · exact HOK.out j hj'
            · obtain rfl : j = k := by omega
              rw [HI.out]; exact HR.out
          · rw [HL.out, List.length_append, dlen]; have := HCT.out; omega
        case measure => simp [intOf]; omega
    · have hjk' : decide ((k : Int) < (n : Int)) = false := by simp; omega
      obtain rfl : k = n := by omega
      have et : l.take k = l := List.take_of_length_le (by rw [HN.out]; exact Nat.le_refl _)
      rw [et]
      rw [et] at HCT
      have hsz : (⟨(ct l).toArray⟩ : ByteArray).size ≤ 5865 := by
        have e : (⟨(ct l).toArray⟩ : ByteArray).size = (ct l).length := by simp [ByteArray.size]
        have := HCT.out
        rw [e]; omega
      obtain ⟨p0, -, -, -⟩ := (H1.out 0 h0).later hb
      rw [HQ.out, Nat.zero_mul, Nat.add_zero] at p0
      have hgQ : gs Q = true := by
        have := HOK.out 0 h0
        unfold rtP at this
        obtain ⟨r1, r2, -⟩ := (rt_iff _ _ _ _).1 this
        rw [HQ.out] at r1 r2
        unfold gs; rw [Bool.and_eq_true]; exact ⟨decide_eq_true r1, decide_eq_true r2⟩
      have hpp := fun W => rPieces_yes Q ⟨(ct l).toArray⟩ W hgQ hsz
      have HBK : Hid (Wh l → pcs Q ⟨(ct l).toArray⟩ = l) := fun hw => by have := hw.back; rw [HQ.out] at this; exact this
      have HWP : Hid (Wh (pcs Q ⟨(ct l).toArray⟩)) := wh_pcs Q _ hgQ hsz
      obtain ⟨P, hP⟩ : ∃ P, pcs Q ⟨(ct l).toArray⟩ = P := ⟨_, rfl⟩
      simp only [hP] at hpp
      rw [hP] at HBK HWP
      obtain ⟨T, hT⟩ : ∃ T : ByteArray, ⟨(ct l).toArray⟩ = T := ⟨_, rfl⟩
      have HT : Hid ((⟨(ct l).toArray⟩ : ByteArray) = T) := hT
      simp only [hT] at hpp
      rw [hT]
      clear et hsz hgQ hP hT hb
      go_wp2_with fail
      refine (hpp _).mono ?_
      rintro e w2 ⟨v, rfl, hrow, hb2⟩
      have hrow' : w2.ownsRow wr.heap.size 93 4 v P.length (cellsP P) := hrow
      obtain ⟨a2, cap2, rfl⟩ := row_spell hrow'
      have HRD : Hid (RdP w2 a2 P) := RwP.rd hrow
      have HB2 : Hid (Below w.heap.size w w2) := Below.then HB.out hb2
      have q0 := cell_later hb2 p0
      obtain ⟨m, hm⟩ : ∃ m, P.length = m := ⟨_, rfl⟩
      have HM : Hid (P.length = m) := hm
      rw [hm]
      have hmx : m ≤ 255 := by have := (HWP.out.sizes 0 (List.length_pos_iff.2 HWP.out.ne)).2.2.2.2; omega
      clear hpp hrow hrow' hb2 p0 hm
      by_cases hmk : m = k
      · subst hmk
        have h2' : ∀ i, i < m → PAt w2 b (o + i * 4) (l.getD i pc0) := fun i hi => (H1.out i hi).later HB2.out
        have H2 : Hid (∀ i, i < m → PAt w2 b (o + i * 4) (l.getD i pc0)) := h2'
        clear h2'
        go_wp2_with fail
        go_loopw [53] (fun i wr => ∃ j : Nat, j ≤ m ∧ i = .int .i64 (j : Int) ∧ (∀ t, t < j → P.getD t pc0 = l.getD t pc0) ∧ Below w2.heap.size w2 wr) (fun i _ => m - (intOf i).toNat)
        case atStart => exact ⟨0, by omega, rfl, fun t ht => absurd ht (Nat.not_lt_zero _), Below.refl _ _⟩
        case round =>
          obtain ⟨j, hj, rfl, heq, hbx⟩ := hrel
          have HEQ : Hid (∀ t, t < j → P.getD t pc0 = l.getD t pc0) := heq
          have HBX : Hid (Below w2.heap.size w2 wr) := hbx
          clear heq
          by_cases hjm : j < m
          · obtain ⟨x0, x1, x2, x3⟩ := (H2.out j hjm).later hbx
            obtain ⟨b', o', ea, y0, y1, y2, y3⟩ := (HRD.out.later hbx) j (by rw [HM.out]; exact hjm)
            subst ea
            have j1 : (0 : Int) ≤ (j : Int) := by omega
            have j2 : (j : Int) < (m : Int) := by omega
            have HJ : Hid (j < l.length) := by unfold Hid; rw [HN.out]; exact hjm
            obtain ⟨⟨q, p, n', d⟩, hx⟩ : ∃ x, l.getD j pc0 = x := ⟨_, rfl⟩
            obtain ⟨⟨q', p', n'', d'⟩, hy⟩ : ∃ x, P.getD j pc0 = x := ⟨_, rfl⟩
            rw [hx] at x0 x1 x2 x3
            rw [hy] at y0 y1 y2 y3
            have HX : Hid (l.getD j pc0 = ⟨q, p, n', d⟩) := hx
            have HY : Hid (P.getD j pc0 = ⟨q', p', n'', d'⟩) := hy
            clear hx hy hbx
            have x0 : wr.cell? ⟨b, o + j * 4, none⟩ = some (.int .i64 q) := x0
            have x1 : wr.cell? ⟨b, o + j * 4 + 1, none⟩ = some (.int .i64 p) := x1
            have x2 : wr.cell? ⟨b, o + j * 4 + 2, none⟩ = some (.int .i64 n') := x2
            have x3 : wr.cell? ⟨b, o + j * 4 + 3, none⟩ = some (.string d) := x3
            have y0 : wr.cell? ⟨b', o' + j * 4, none⟩ = some (.int .i64 q') := y0
            have y1 : wr.cell? ⟨b', o' + j * 4 + 1, none⟩ = some (.int .i64 p') := y1
            have y2 : wr.cell? ⟨b', o' + j * 4 + 2, none⟩ = some (.int .i64 n'') := y2
            have y3 : wr.cell? ⟨b', o' + j * 4 + 3, none⟩ = some (.string d') := y3
            by_cases e1 : q' = q
            · subst e1
              by_cases e2 : p' = p
              · subst e2
                by_cases e3 : n'' = n'
                · subst e3
                  by_cases e4 : d' = d
                  · subst e4
                    go_wp2_with fail
                    go_quiet (fail)
                    go_wp2_with fail
                    go_roundw
                    case rel =>
                      refine ⟨j + 1, by omega, by go_num, ?_, below_drewN HBX.out _⟩
                      intro t ht
                      rcases Nat.lt_or_ge t j with ht' | ht'
                      · exact HEQ.out t ht'
                      · obtain rfl : t = j := by omega
                        rw [HX.out, HY.out]
                    case measure => simp [intOf]; omega
                  · have HNO : Hid (¬ Wh l) := fun hw => by have e := HBK.out hw; have h := HY.out; rw [e, HX.out] at h; injection h with _ _ _ h; exact e4 h.symm
                    have f3 := str_ne e4
                    clear e4
                    go_wp2_with fail
                    go_quiet (fail)
                    go_wp2_with fail
                    refine bodyPost_ret (v := .tuple #[.int .i64 0, .string ⟨#[]⟩, .int .i64 7]) (by simp [results, Try.results47, go_sem]) rfl ⟨.inr ⟨HNO.out, rfl⟩, ?_⟩
                    exact below_drewN (Below.then HB2.out HBX.out) _
                · have HNO : Hid (¬ Wh l) := fun hw => by have e := HBK.out hw; have h := HY.out; rw [e, HX.out] at h; injection h with _ _ h _; exact e3 h.symm
                  have f3 : (n'' == n') = false := by simp [e3]
                  clear e3
                  go_wp2_with fail
                  go_quiet (fail)
                  go_wp2_with fail
                  refine bodyPost_ret (v := .tuple #[.int .i64 0, .string ⟨#[]⟩, .int .i64 7]) (by simp [results, Try.results47, go_sem]) rfl ⟨.inr ⟨HNO.out, rfl⟩, ?_⟩
                  exact below_drewN (Below.then HB2.out HBX.out) _
              · have HNO : Hid (¬ Wh l) := fun hw => by have e := HBK.out hw; have h := HY.out; rw [e, HX.out] at h; injection h with _ h _ _; exact e2 h.symm
                have f3 : (p' == p) = false := by simp [e2]
                clear e2
                go_wp2_with fail
                go_quiet (fail)
                go_wp2_with fail
                refine bodyPost_ret (v := .tuple #[.int .i64 0, .string ⟨#[]⟩, .int .i64 7]) (by simp [results, Try.results47, go_sem]) rfl ⟨.inr ⟨HNO.out, rfl⟩, ?_⟩
                exact below_drewN (Below.then HB2.out HBX.out) _
            · have HNO : Hid (¬ Wh l) := fun hw => by have e := HBK.out hw; have h := HY.out; rw [e, HX.out] at h; injection h with h _ _ _; exact e1 h.symm
              have f3 : (q' == q) = false := by simp [e1]
              clear e1
              go_wp2_with fail
              go_quiet (fail)
              go_wp2_with fail
              refine bodyPost_ret (v := .tuple #[.int .i64 0, .string ⟨#[]⟩, .int .i64 7]) (by simp [results, Try.results47, go_sem]) rfl ⟨.inr ⟨HNO.out, rfl⟩, ?_⟩
              exact below_drewN (Below.then HB2.out HBX.out) _
          · have hjm' : decide ((j : Int) < (m : Int)) = false := by simp; omega
            have q1 := cell_later hbx q0
            have HWH : Hid (Wh l) := by
              have e : P = l := by
                apply List.ext_getElem
                · rw [HM.out, HN.out]
                · intro t ht1 ht2
                  rw [get_getD _ t ht1 pc0, get_getD _ t ht2 pc0]
                  exact HEQ.out t (by rw [HM.out] at ht1; omega)
              have := HWP.out
              rw [e] at this
              exact this
            clear hbx
            go_wp2_with fail
            refine bodyPost_ret (v := .tuple #[.int .i64 Q, .string T, .int .i64 0]) (by simp [results, Try.results47, go_sem]) rfl ⟨.inl ⟨HWH.out, by unfold wA; rw [HQ.out, HT.out]⟩, Below.then HB2.out HBX.out⟩
      · have f3 : ((m : Int) != (k : Int)) = true := by simp; omega
        have HNO : Hid (¬ Wh l) := fun hw => by have e := HBK.out hw; have := HM.out; rw [e, HN.out] at this; exact hmk this.symm
        clear hmk
        go_wp2_with fail
        refine bodyPost_ret (v := .tuple #[.int .i64 0, .string ⟨#[]⟩, .int .i64 7]) (by simp [results, Try.results47, go_sem]) rfl ⟨.inr ⟨HNO.out, rfl⟩, ?_⟩
        exact HB2.out
theorem rWhole_any (a : Option Addr) (cap : Nat) (l : List Pc) (w : World) (h : RdP w a l) : Calls Try.prog 47 #[.slice a l.length cap] w fun e w' => WP l e ∧ Below w.heap.size w w' := by
  by_cases h0 : l = []
  · subst h0; exact rWhole_nil a cap w
  · by_cases h5 : l.length ≤ 255
    · obtain ⟨b, o, rfl, k1⟩ := h.spot h0
      exact rWhole_some b o cap l.length l rfl (List.length_pos_iff.2 h0) h5 w k1
    · exact rWhole_long a cap l (by omega) w
end Go.Proofs.Ytohgflimdoebiaa
