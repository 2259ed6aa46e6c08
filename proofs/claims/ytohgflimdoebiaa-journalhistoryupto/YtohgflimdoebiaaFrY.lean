/- Contracts: the journal's front and standing. -/
import Derived.Test.YtohgflimdoebiaaFrMJ
import Derived.Test.YtohgflimdoebiaaFrJ
import Derived.Deep.AppendLies
import Derived.Laws.OwnMore
namespace Go.Proofs.Ytohgflimdoebiaa
open Go.RowKit Go.Maps
set_option linter.unusedVariables false
set_option maxRecDepth 4000
set_option linter.unusedSimpArgs false

theorem row_n {w : World} {N g cap n : Nat} {L : List Pc} (h : w.ownsRow N 93 4 (.slice (some ⟨g, 0, none⟩) n cap) n (cellsP L)) (hL : L.length = n) (h0 : 0 < n) : w.cell? ⟨g, 2, none⟩ = some (.int .i64 (L.getD 0 pc0).n) := by
  subst hL
  obtain ⟨b, o, e, h1⟩ := RwP.rd (l := L) h 0 h0
  cases e
  have := h1.c2
  simpa using this
def FrontP (l : List ByteArray) (w w' : World) (e : Ending) : Prop := ∃ v, e = .returned v ∧ ((Fro l ∧ RwP w' w.heap.size v (frp l)) ∨ (¬ Fro l ∧ v = .slice none 0 0))
set_option maxHeartbeats 2000000 in
theorem front_any (a : Option Addr) (cap : Nat) (l : List ByteArray) (w : World) (hl : l.length ≤ 8796093022208) (hrd : RdS w a l) :
    Calls Try.prog 60 #[.slice a l.length cap] w fun e w' => FrontP l w w' e ∧ Below w.heap.size w w' := by
  obtain ⟨i0, hi, hz0, hz1, hz2⟩ := info_parts infoP
  obtain ⟨n, hn⟩ : ∃ n, l.length = n := ⟨_, rfl⟩
  have HLN : Hid (l.length = n) := hn
  have HRD : Hid (RdS w a l) := hrd
  obtain ⟨F, hF⟩ : ∃ F, fn l = F := ⟨_, rfl⟩
  have HF : Hid (fn l = F) := hF
  rw [hn]
  rw [hn] at hl
  clear hn hrd hF
  go_enter Try.func60, Try.ntmps60
  go_wp2_with fail
  go_loopw [3, 10] (fun v i wr => ∃ k : Nat, k ≤ n ∧ i = .int .i64 (k : Int) ∧ wr.ownsRow w.heap.size 93 4 v k (cellsP ((l.take k).map fpc)) ∧ Below w.heap.size w wr ∧ (∀ i, i < k → Ub (l.getD i ⟨#[]⟩)) ∧ (k = 0 ∨ k < F)) (fun _ i _ => n - (intOf i).toNat)
  case atStart => exact ⟨0, by omega, rfl, World.ownsRow_nil _ _ _ _, Below.refl _ _, fun i hi => by omega, .inl rfl⟩
  case round =>
    obtain ⟨k, hk, rfl, hrow, hb, hub, hkF⟩ := hrel
    have HROW : Hid (wr.ownsRow w.heap.size 93 4 u3 k (cellsP ((l.take k).map fpc))) := hrow
    have HB : Hid (Below w.heap.size w wr) := hb
    have HUB : Hid (∀ i, i < k → Ub (l.getD i ⟨#[]⟩)) := hub
    have HKF : Hid (k = 0 ∨ k < F) := hkF
    clear hrow hub hkF
    by_cases hkn : k < n
    · obtain ⟨b, o, ea, c0⟩ := (HRD.out.later hb) k (by rw [HLN.out]; exact hkn)
      subst ea
      have j1 : (0 : Int) ≤ (k : Int) := by omega
      have j2 : (k : Int) < (n : Int) := by omega
      by_cases hu : Ub (l.getD k ⟨#[]⟩)
      · have hc : ∀ W, Calls Try.prog 70 #[.string (l.getD k ⟨#[]⟩)] W fun e w' => e = .returned (.tuple #[.agg #[.int .i64 (fpc (l.getD k ⟨#[]⟩)).q, .int .i64 (fpc (l.getD k ⟨#[]⟩)).p, .int .i64 (fpc (l.getD k ⟨#[]⟩)).n, .string (fpc (l.getD k ⟨#[]⟩)).d], .int .i64 0]) ∧ Below W.heap.size W w' := fun W => unblock_yes _ W hu
        have HS : Hid ((l.take (k + 1)).map fpc = (l.take k).map fpc ++ [fpc (l.getD k ⟨#[]⟩)]) := by
          show _ = _
          rw [take_snoc l k ⟨#[]⟩ (by rw [HLN.out]; exact hkn), List.map_append]; rfl
        have HX : Hid (cellsP [fpc (l.getD k ⟨#[]⟩)] = [.int .i64 (fpc (l.getD k ⟨#[]⟩)).q, .int .i64 (fpc (l.getD k ⟨#[]⟩)).p, .int .i64 (fpc (l.getD k ⟨#[]⟩)).n, .string (fpc (l.getD k ⟨#[]⟩)).d]) := rfl
        have HFI : Hid ((((l.take k).map fpc ++ [fpc (l.getD k ⟨#[]⟩)]).getD 0 pc0).n = (F : Int)) := by
          show _ = _
          rw [← HS.out, ← HF.out]
          unfold fn
          have h0 : 0 < l.length := by rw [HLN.out]; omega
          rw [show ((l.take (k + 1)).map fpc).getD 0 pc0 = fpc (l.getD 0 ⟨#[]⟩) by simp [List.getD_eq_getElem?_getD, List.getElem?_take, List.getElem?_eq_getElem h0]]
          rfl
        have HLL : Hid (((l.take k).map fpc ++ [fpc (l.getD k ⟨#[]⟩)]).length = k + 1) := by
          show _ = _
          rw [List.length_append, List.length_map, List.length_take, HLN.out]; simp; omega
        have HF1 : Hid (1 ≤ F ∧ (k = 0 → (fpc (l.getD k ⟨#[]⟩)).n = (F : Int))) := by
          show _ ∧ _
          have h0 : Ub (l.getD 0 ⟨#[]⟩) := by
            rcases Nat.eq_zero_or_pos k with h | h
            · rw [h] at hu; exact hu
            · exact HUB.out 0 h
          refine ⟨by rw [← HF.out]; exact (ub_n h0).1, fun e => ?_⟩
          subst e
          rw [← HF.out]; rfl
        have HU : Hid (Ub (l.getD k ⟨#[]⟩)) := hu
        have hk255 : k ≤ 255 := by
          rcases HKF.out with h | h
          · omega
          · have h0 : Ub (l.getD 0 ⟨#[]⟩) := by
              rcases Nat.eq_zero_or_pos k with h' | h'
              · rw [h'] at hu; exact hu
              · exact HUB.out 0 h'
            have h1 := (ub_n h0).2
            have h2 := HF.out
            unfold fn at h2
            omega
        obtain ⟨x, hx⟩ : ∃ x, fpc (l.getD k ⟨#[]⟩) = x := ⟨_, rfl⟩
        obtain ⟨X, hX⟩ : ∃ X, l.getD k ⟨#[]⟩ = X := ⟨_, rfl⟩
        simp only [hx] at hc
        simp only [hX] at hc c0
        rw [hx] at HS HX HFI HLL HF1
        clear hx hb hu
        obtain ⟨q1, p1, m1, d1⟩ := x
        go_wp2_with fail
        refine (hc _).mono ?_
        rintro e w3 ⟨rfl, hb3⟩
        have HROW3 : Hid (w3.ownsRow w.heap.size 93 4 u3 k (cellsP ((l.take k).map fpc))) := row_later HROW.out hb3
        have HB3 : Hid (Below w.heap.size w w3) := Below.then HB.out hb3
        have hs3 : w.heap.size ≤ w3.heap.size := HB3.out.size
        clear hb3 hc c0
        by_cases hf : k + 1 = F
        · have hf2 : ((k : Int) + 1 == (F : Int)) = true := by simp; omega
          go_wp2_with (at_builtin; refine wpList_append_lies _ rfl _ _ _ rfl w.heap.size 93 i0 _ 4 40 Try.underlying96 hi hz0 hz1 hz2 rfl (by omega) _ k _ rfl ((HROW3.out.alloc _).alloc _) ⟨w3.heap.size + 1, 0, none⟩ 1 1 [.int .i64 q1, .int .i64 p1, .int .i64 m1, .string d1] rfl rfl (cell_four_at _ _ _ _ _ _ _ (by simp)) (by simp [Value.oneCell']) (by omega) (by unfold maxLen; omega) (by omega) (by simp; omega) (w3.heap.size + 2) (by simp) ?_; intro g4 cap4 w4 hown4 hgrow4 hat4 hlt4; have HG4 : Hid _ := hgrow4; have hown5 : w4.ownsRow w.heap.size 93 4 (.slice (some ⟨g4, 0, none⟩) (k + 1) cap4) (k + 1) (cellsP ((l.take k).map fpc ++ [⟨q1, p1, m1, d1⟩])) := (by rw [cellsP_append]; exact hown4); have HO4 : Hid (w4.ownsRow w.heap.size 93 4 (.slice (some ⟨g4, 0, none⟩) (k + 1) cap4) (k + 1) (cellsP ((l.take k).map fpc ++ [⟨q1, p1, m1, d1⟩]))) := hown5; have hc4 := row_n hown5 HLL.out (by omega); rw [HFI.out] at hc4; clear hown4 hown5 hgrow4 hat4 hlt4)
          go_ret
          have e1 : Fro l := ⟨fun e => by have := HLN.out; rw [e] at this; simp at this; omega, by rw [HF.out]; omega, by rw [HF.out, HLN.out]; omega, fun i hi => by
            rw [HF.out] at hi
            by_cases e : i = k
            · subst e; exact HU.out
            · exact HUB.out i (by omega)⟩
          refine ⟨⟨_, rfl, .inl ⟨e1, ?_⟩⟩, (Below.more (Below.more HB3.out _) _).grown HG4.out (by simp; omega) (fun j hj => (HROW3.out.lt j hj).1)⟩
          have e2 : frp l = (l.take k).map fpc ++ [⟨q1, p1, m1, d1⟩] := by unfold frp; rw [HF.out, ← hf, HS.out]
          unfold RwP
          rw [e2, HLL.out]
          have h9 := HO4.out
          rw [hf] at h9 ⊢
          exact h9
        · have hf2 : ((k : Int) + 1 == (F : Int)) = false := by simp; omega
          go_wp2_with (at_builtin; refine wpList_append_lies _ rfl _ _ _ rfl w.heap.size 93 i0 _ 4 40 Try.underlying96 hi hz0 hz1 hz2 rfl (by omega) _ k _ rfl ((HROW3.out.alloc _).alloc _) ⟨w3.heap.size + 1, 0, none⟩ 1 1 [.int .i64 q1, .int .i64 p1, .int .i64 m1, .string d1] rfl rfl (cell_four_at _ _ _ _ _ _ _ (by simp)) (by simp [Value.oneCell']) (by omega) (by unfold maxLen; omega) (by omega) (by simp; omega) (w3.heap.size + 2) (by simp) ?_; intro g4 cap4 w4 hown4 hgrow4 hat4 hlt4; have HG4 : Hid _ := hgrow4; have hown5 : w4.ownsRow w.heap.size 93 4 (.slice (some ⟨g4, 0, none⟩) (k + 1) cap4) (k + 1) (cellsP ((l.take k).map fpc ++ [⟨q1, p1, m1, d1⟩])) := (by rw [cellsP_append]; exact hown4); have HO4 : Hid (w4.ownsRow w.heap.size 93 4 (.slice (some ⟨g4, 0, none⟩) (k + 1) cap4) (k + 1) (cellsP ((l.take k).map fpc ++ [⟨q1, p1, m1, d1⟩]))) := hown5; have hc4 := row_n hown5 HLL.out (by omega); rw [HFI.out] at hc4; clear hown4 hown5 hgrow4 hat4 hlt4)
          go_roundw
          case rel =>
            refine ⟨k + 1, by omega, by go_num, ?_, ?_, ?_, ?_⟩
            · rw [HS.out]; exact HO4.out
            · exact (Below.more (Below.more HB3.out _) _).grown HG4.out (by simp; omega) (fun j hj => (HROW3.out.lt j hj).1)
            · intro i hi
              by_cases e : i = k
              · subst e; exact HU.out
              · exact HUB.out i (by omega)
            · right
              have := HF1.out.1
              rcases HKF.out with h | h <;> omega
          case measure => simp [intOf]; omega
      · have hc := unblock_no (l.getD k ⟨#[]⟩)
        have HNU : Hid (¬ Ub (l.getD k ⟨#[]⟩)) := hu
        obtain ⟨X, hX⟩ : ∃ X, l.getD k ⟨#[]⟩ = X := ⟨_, rfl⟩
        rw [hX] at hc c0 hu
        clear hb
        go_wp2_with fail
        refine (hc _ hu).mono ?_
        rintro e w3 ⟨rfl, hb3⟩
        have HB3 : Hid (Below w.heap.size w w3) := Below.then HB.out hb3
        clear hb3 hc c0
        go_wp2_with fail
        go_ret
        refine ⟨⟨_, rfl, .inr ⟨fun hf => ?_, rfl⟩⟩, Below.more HB3.out _⟩
        apply HNU.out
        apply hf.each
        rw [HF.out]
        have := hf.one
        rw [HF.out] at this
        rcases HKF.out with h | h <;> omega
    · have i2 : decide ((k : Int) < (n : Int)) = false := by simp; omega
      clear hb
      go_wp2_with fail
      go_ret
      refine ⟨⟨_, rfl, .inr ⟨fun hf => ?_, rfl⟩⟩, HB.out⟩
      have h1 := hf.one
      have h2 := hf.fit
      rw [HF.out] at h1 h2
      rw [HLN.out] at h2
      have h3 : 0 < l.length := List.length_pos_iff.2 hf.ne
      rw [HLN.out] at h3
      rcases HKF.out with h | h <;> omega
theorem standing_any (a : Option Addr) (cap : Nat) (l : List ByteArray) (q : Int) (w : World) (hl : l.length ≤ 8796093022208) (hrd : RdS w a l) :
    Calls Try.prog 49 #[.slice a l.length cap, .int .i64 q] w fun e w' => e = .returned (.tuple #[.string (sdS l q), .int .i64 (sdN l q : Nat)]) ∧ Below w.heap.size w w' := by
  have hfr := front_any a cap l w hl hrd
  obtain ⟨n, hn⟩ : ∃ n, l.length = n := ⟨_, rfl⟩
  rw [hn] at hfr ⊢
  clear hn hl hrd
  go_enter Try.func49, Try.ntmps49
  go_wp2_with fail
  refine hfr.mono ?_
  rintro e w1 ⟨⟨v, rfl, hv⟩, hb1⟩
  have HB1 : Hid (Below w.heap.size w w1) := hb1
  clear hb1 hfr
  rcases hv with ⟨hf, hrow⟩ | ⟨hf, rfl⟩
  · unfold RwP at hrow
    obtain ⟨a1, cap1, rfl⟩ := row_spell hrow
    have hlen := hf.len
    have h255 : fn l ≤ 255 := (ub_n (hf.each 0 hf.one)).2
    have hwh := whole_any a1 cap1 (frp l) (by rw [hlen]; omega) w1 (RwP.rd hrow)
    have HT : Hid (Wh (frp l) → sd l ((frp l).getD 0 pc0).q = some ⟨(ct (frp l)).toArray⟩ ∧ np (⟨(ct (frp l)).toArray⟩ : ByteArray).size = (frp l).length) := fun h => ⟨sd_yes hf h rfl, by have := h.total.2; simpa [ByteArray.size] using this⟩
    obtain ⟨P, hP⟩ : ∃ P, frp l = P := ⟨_, rfl⟩
    have HNW : Hid (¬ Wh P → sd l q = none) := fun h => sd_nowh (by rw [hP]; exact h)
    have HNQ : Hid ((P.getD 0 pc0).q ≠ q → sd l q = none) := fun h => sd_noq (by rw [hP]; exact h)
    rw [hP] at hwh HT ⊢
    clear hP hlen h255 hrow hf
    obtain ⟨m, hm⟩ : ∃ m, P.length = m := ⟨_, rfl⟩
    rw [hm] at hwh HT ⊢
    clear hm
    go_wp2_with fail
    refine hwh.mono ?_
    rintro e w2 ⟨hP2, hb2⟩
    have HB2 : Hid (Below w.heap.size w w2) := Below.then HB1.out hb2
    clear hb2 hwh
    rcases hP2 with ⟨h1, rfl⟩ | ⟨h1, rfl⟩
    · obtain ⟨e1, e2⟩ := HT.out h1
      unfold wA
      by_cases hq : (P.getD 0 pc0).q = q
      · have HE : Hid (sdS l q = ⟨(ct P).toArray⟩ ∧ sdN l q = m) := by
          show _ ∧ _
          rw [hq] at e1
          exact ⟨sdS_some e1, by rw [sdN_some e1, e2]⟩
        have hq2 : ((P.getD 0 pc0).q != q) = false := by rw [hq]; simp
        obtain ⟨Q, hQ⟩ : ∃ Q, (P.getD 0 pc0).q = Q := ⟨_, rfl⟩
        obtain ⟨C, hC⟩ : ∃ C : ByteArray, ⟨(ct P).toArray⟩ = C := ⟨_, rfl⟩
        rw [hQ] at hq2 ⊢
        rw [hC] at HE ⊢
        clear hq e1 e2 hC hQ
        go_wp2_with fail
        go_ret2
        rw [HE.out.1, HE.out.2]
        exact ⟨rfl, HB2.out⟩
      · have HE : Hid (sd l q = none) := HNQ.out hq
        have hq2 : ((P.getD 0 pc0).q != q) = true := by simpa using hq
        obtain ⟨Q, hQ⟩ : ∃ Q, (P.getD 0 pc0).q = Q := ⟨_, rfl⟩
        obtain ⟨C, hC⟩ : ∃ C : ByteArray, ⟨(ct P).toArray⟩ = C := ⟨_, rfl⟩
        rw [hQ] at hq2 ⊢
        rw [hC]
        clear hq e1 e2 hC hQ
        go_wp2_with fail
        go_ret2
        rw [sdS_none HE.out, sdN_none HE.out]
        exact ⟨rfl, HB2.out⟩
    · have HE : Hid (sd l q = none) := HNW.out h1
      unfold wB
      clear h1
      go_wp2_with fail
      go_ret2
      rw [sdS_none HE.out, sdN_none HE.out]
      exact ⟨rfl, HB2.out⟩
  · have hwh := whole_any none 0 [] (by simp) w1 (RdP.nil _ _)
    have HE : Hid (sd l q = none) := sd_nofro hf
    have HN0 : Hid (¬ Wh []) := fun h => h.ne rfl
    simp only [List.length_nil] at hwh
    clear hf
    go_wp2_with fail
    refine hwh.mono ?_
    rintro e w2 ⟨hP2, hb2⟩
    have HB2 : Hid (Below w.heap.size w w2) := Below.then HB1.out hb2
    clear hb2 hwh
    rcases hP2 with ⟨h1, rfl⟩ | ⟨h1, rfl⟩
    · exact absurd h1 HN0.out
    · unfold wB
      clear h1
      go_wp2_with fail
      go_ret2
      rw [sdS_none HE.out, sdN_none HE.out]
      exact ⟨rfl, HB2.out⟩
end Go.Proofs.Ytohgflimdoebiaa
