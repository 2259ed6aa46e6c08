/- For every word and every number: Take of package seats answers what the document says, which is n times the lowest; the list is new memory: SeatsTakes, in its first form (the listed variables as the program's text lays them), and the card. -/
import Derived.Test.YtljbnhgcfmehoaaDoorCards
import Derived.Test.YtljbnhgcfmehoaaDoorTie
import Derived.Test.YtljbnhgcfmehoaaDoorStV
import Derived.Test.YtljbnhgcfmehoaaDoorStN
import Derived.WalkKit
import Derived.ProofKit
import Derived.OpenShut
import Derived.Deep.DeepHandedRow
import Derived.Deep.DeepWitnessRowRef
import Derived.SizedLaws
namespace Go.Proofs.YtljbnhgcfmehoaaDoor.seatsTakes
open Go.ChangeShapes Go.WideShapes Go.ChangeAt Go.RowKit Go.Maps Go.Shelf
set_option linter.unusedVariables false
set_option linter.unusedSimpArgs false

theorem vs_of {W : World} (hL : laidMetH Tryd.prog Rows.seatsTakesRow.laid W) : Tb W := tb_of (show laidMet Tryd.prog Rows.seatsTakesRow.laid W from hL)
set_option maxRecDepth 100000 in
set_option maxHeartbeats 4000000 in
theorem walk (a0 n : Int) (w0 : (Lit.int .u64 a0).wf = true) (w1 : (Lit.int .i64 n).wf = true) (w : World) (hT : Tb w) :
    Calls Tryd.prog 5 #[.int .u64 a0, .int .i64 n] w fun e w' => e = .returned (.bool true) ∧ Below w.heap.size w w' := by
  obtain ⟨s, rfl, hs⟩ := u64_wf w0
  obtain ⟨hn0, hn1⟩ := i64_wf w1
  clear w0 w1
  go_enter Tryd.func5, Tryd.ntmps5
  go_wp2_with fail
  refine (lives_any w hT).mono ?_
  rintro e w1 ⟨rfl, hb1⟩
  have hT1 := hT.later hb1
  go_wp2_with fail
  refine (take_any s hs n w1 hT1).mono ?_
  rintro e w2 ⟨hP, hb2⟩
  obtain ⟨vl, rfl, hl⟩ := hP.all
  clear hP
  have hx2 := hb1.trans (hb2.mono hb1.size)
  go_wp2_with fail
  refine (rTake_any s hs n hn0 hn1 w2).mono ?_
  rintro e w3 ⟨hP, hb3⟩
  obtain ⟨vm, rfl, hm⟩ := hP.all
  clear hP
  have hx3 := hx2.trans (hb3.mono hx2.size)
  have hT3 := hT.later hx3
  go_wp2_with fail
  refine (take_any s hs n w3 hT3).mono ?_
  rintro e w4 ⟨hP, hb4⟩
  obtain ⟨vk, rfl, hk⟩ := hP.all
  clear hP
  have hx4 := hx3.trans (hb4.mono hx3.size)
  have hT4 := hT.later hx4
  have hN64 := tk_len s n
  have hok := fun h => tk_ok (n := n) hs h
  obtain ⟨al, cl, rfl, rl, pl⟩ := hl.at'
  obtain ⟨am, cm, rfl, rm, pm⟩ := hm.at'
  obtain ⟨ak, ck, rfl, rk, pk⟩ := hk.at'
  obtain ⟨E, hE⟩ : ∃ E, tkE s n = E := ⟨_, rfl⟩
  rw [hE] at hok ⊢
  have HOK : Hid (E = 0 → TkOk s n) := hok
  clear hok hE
  obtain ⟨ST, hST⟩ : ∃ ST, tkS s n = ST := ⟨_, rfl⟩
  have HST : Hid (tkS s n = ST) := hST
  rw [hST]
  clear hST
  obtain ⟨T, hTT⟩ : ∃ T, tkT s n = T := ⟨_, rfl⟩
  have HTT : Hid (tkT s n = T) := hTT
  rw [hTT] at hl hm hk rl rm rk hN64 ⊢
  clear hTT
  obtain ⟨N, hN⟩ : ∃ N, T.length = N := ⟨_, rfl⟩
  have HT : Hid (T.length = N) := hN
  have HL4 : Hid (w4.ownsRow w1.heap.size 3 1 (.slice al N cl) N (nI T)) := by
    have h1 : w2.ownsRow w1.heap.size 3 1 (.slice al T.length cl) T.length (nI T) := hl
    have h2 := row_below h1 hb2.size hb3
    have h3 := row_below h2 (Nat.le_trans hb2.size hb3.size) hb4
    rw [hN] at h3
    exact h3
  have RL4 : Hid (RdI w4 al (zs T)) := (rl.later hb3).later hb4
  have RM4 : Hid (RdI w4 am (zs T)) := rm.later hb4
  have RK4 : Hid (RdI w4 ak (zs T)) := rk
  have HS4 : Hid (w1.heap.size ≤ w4.heap.size) := Nat.le_trans (Nat.le_trans hb2.size hb3.size) hb4.size
  have HS1 : Hid (w.heap.size ≤ w1.heap.size) := hb1.size
  have HNM : Hid (∀ b o, am = some ⟨b, o, none⟩ → some b ≠ (Value.slice al N cl).ownBlock) := fun b o e h => by
    cases al with
    | none => simp [Value.ownBlock] at h
    | some d =>
      simp [Value.ownBlock] at h
      have h1 := (pm b o e).1
      rcases hl.2 with ⟨h0, _⟩ | ⟨g, cap', cur, h5, h3, h4, _⟩
      · simp at h0
      · simp at h5
        have h6 := (Array.getElem?_eq_some_iff.1 h4).1
        obtain ⟨rfl, _⟩ := h5
        simp at h
        omega
  have HNK : Hid (∀ b o, ak = some ⟨b, o, none⟩ → some b ≠ (Value.slice al N cl).ownBlock) := fun b o e h => by
    cases al with
    | none => simp [Value.ownBlock] at h
    | some d =>
      simp [Value.ownBlock] at h
      have h1 := (pk b o e).1
      have h7 := hb3.size
      rcases hl.2 with ⟨h0, _⟩ | ⟨g, cap', cur, h5, h3, h4, _⟩
      · simp at h0
      · simp at h5
        have h6 := (Array.getElem?_eq_some_iff.1 h4).1
        obtain ⟨rfl, _⟩ := h5
        simp at h
        omega
  have HROW : Hid (∀ j, (Value.slice al N cl).ownBlock = some j → w.heap.size ≤ j) := fun j h => by
    cases al with
    | none => simp [Value.ownBlock] at h
    | some d =>
      simp [Value.ownBlock] at h
      have h7 := hb1.size
      rcases hl.2 with ⟨h0, _⟩ | ⟨g, cap', cur, h5, h3, h4, _⟩
      · simp at h0
      · simp at h5
        obtain ⟨rfl, _⟩ := h5
        simp at h
        omega
  have HX4 : Hid (Below w.heap.size w w4) := hx4
  have HT4 : Hid (Tb w4) := hT4
  have HB1 : Hid (Below w.heap.size w w1) := hb1
  have s1 := fun (W : World) (h : Below w4.heap.size w4 W) => same_any al am cl cm (zs T) W (by rw [zs_length]; omega) (RL4.out.later h) (RM4.out.later h)
  have s2 := fun (W : World) (h : Below w4.heap.size w4 W) => same_any ak am ck cm (zs T) W (by rw [zs_length]; omega) (RK4.out.later h) (RM4.out.later h)
  simp only [zs_length, hN] at s1 s2
  rw [hN] at hN64 ⊢
  have HN64 : Hid (N ≤ 64) := hN64
  clear hl hm hk rl rm rk pl pm pk hx2 hx3 hx4 hb1 hb2 hb3 hb4 hT1 hT3 hT4 hN
  go_wp2_with fail
  refine (s1 _ (Below.refl _ _)).mono ?_
  rintro e w5 ⟨rfl, hb5⟩
  clear s1
  go_wp2_with fail
  refine (s2 _ hb5).mono ?_
  rintro e w6 ⟨rfl, hb6⟩
  clear s2
  have HB6 : Hid (Below w4.heap.size w4 w6) := hb5.trans (hb6.mono hb5.size)
  clear hb5 hb6
  by_cases hE0 : E = 0
  · subst hE0
    have hok := HOK.out rfl
    have F1 : Hid (pf s T = ST) := by show pf s T = ST; rw [← HTT.out, hok.pf]; exact HST.out
    have F2 : Hid (∀ i ∈ T, i < 64) := by show ∀ i ∈ T, i < 64; rw [← HTT.out]; exact hok.lt
    have F3 : Hid (∀ k (h : k < T.length), hd (bl (nt (pf s (T.take k)))) = ((T[k] : Nat) : Int)) := by
      have h0 := HTT.out
      subst h0
      exact hok.low
    clear hok
    go_wp2_with fail
    go_loopw [14, 66] (fun x i wx => ∃ k : Nat, k ≤ N ∧ i = .int .i64 (k : Int) ∧ x = .int .u64 ((pf s (T.take k) : Nat) : Int) ∧ Below w6.heap.size w6 wx) (fun _ i _ => N - (intOf i).toNat)
    case atStart => exact ⟨0, by omega, rfl, rfl, Below.refl _ _⟩
    case round =>
      obtain ⟨k, hk, rfl, rfl, hbw⟩ := hrel
      have hTN := HT.out
      by_cases hkN : k < N
      · have hkT : k < T.length := by omega
        have hmem : ∀ i ∈ T.take k, i < 64 := fun i hi => F2.out i (List.mem_of_mem_take hi)
        have hq64 := pf_lt hs hmem
        have hx6 := HX4.out.trans (HB6.out.mono HX4.out.size)
        have hTr : Tb wr := (hT.later hx6).later hbw
        have hlow := lowest_any (pf s (T.take k)) hq64 wr hTr
        rw [F3.out k hkT] at hlow
        have hX64 : T[k] < 64 := F2.out _ (List.getElem_mem hkT)
        have hput := put_any (pf s (T.take k)) hq64 ((T[k] : Nat) : Int)
        rw [putR_sl hX64, ← pf_snoc, ← take_more hkT] at hput
        have hrl := (RL4.out.later HB6.out).later hbw
        obtain ⟨b, o, hal, hcell⟩ := hrl k (by simpa using hkT)
        rw [zs_getD T k hkT] at hcell
        obtain ⟨q1, hq1⟩ : ∃ q1, pf s (T.take (k + 1)) = q1 := ⟨_, rfl⟩
        rw [hq1] at hput
        have HQ : Hid (pf s (T.take (k + 1)) = q1) := hq1
        generalize T[k] = X at *
        generalize pf s (T.take k) = q at *
        have i1 : (0 : Int) ≤ (k : Int) := by omega
        have i2 : (k : Int) < (N : Int) := by omega
        have HAL : Hid (al = some ⟨b, o, none⟩) := hal
        clear hq1 hmem hrl hTN hTr hx6
        subst hal
        go_wp2_with fail
        refine hlow.mono ?_
        rintro e w7 ⟨rfl, hb7⟩
        clear hlow
        go_wp2_with fail
        refine (hput _).mono ?_
        rintro e w8 ⟨rfl, rfl⟩
        clear hput
        go_wp2_with fail
        go_roundw
        case rel => exact ⟨k + 1, by omega, by go_num, by rw [HQ.out], hbw.trans (hb7.mono hbw.size)⟩
        case measure => simp [intOf]; omega
      · have hNk : N = k := by omega
        subst hNk
        have htk : T.take N = T := by rw [← hTN, List.take_length]
        rw [htk, F1.out]
        have hkn' : decide ((N : Int) < (N : Int)) = false := by simp
        obtain ⟨w7, hw7⟩ : ∃ w7, wr = w7 := ⟨_, rfl⟩
        have hB67 := HB6.out.trans (hbw.mono HB6.out.size)
        rw [hw7] at hB67
        have HO7 : Hid (w7.ownsRow w1.heap.size 3 1 (.slice al N cl) N (nI T)) := row_below HL4.out HS4.out hB67
        have HK7 : Hid (RdI w7 ak (zs T)) := RK4.out.later hB67
        have HM7 : Hid (RdI w7 am (zs T)) := RM4.out.later hB67
        have HB7 : Hid (Below w.heap.size w w7) := HX4.out.trans (hB67.mono HX4.out.size)
        have HS7 : Hid (w1.heap.size ≤ w7.heap.size) := Nat.le_trans HS4.out hB67.size
        rw [hw7]
        clear hw7 hB67 hbw htk hTN
        go_wp2_with fail
        have hN64 := HN64.out
        go_loopw [86] (fun i wr => ∃ k : Nat, k ≤ N ∧ i = .int .i64 (k : Int) ∧ w7.grownBy wr (Value.slice al N cl).ownBlock ∧ ∃ xs, wr.ownsRow w1.heap.size 3 1 (.slice al N cl) N xs) (fun i _ => N - (intOf i).toNat)
        case atStart => exact ⟨0, by omega, rfl, grown_refl _ _, _, HO7.out⟩
        case round =>
          obtain ⟨k, hk, rfl, hg, xs, ho⟩ := hrel
          have HG : Hid (w7.grownBy wr (Value.slice al N cl).ownBlock) := hg
          have HO : Hid (wr.ownsRow w1.heap.size 3 1 (.slice al N cl) N xs) := ho
          clear hg ho
          by_cases hkm : k < N
          · obtain ⟨g, rfl, hg1, hg2⟩ := row_some HO.out (by omega)
            obtain ⟨u0, q0⟩ := row_cell HO.out k (by omega)
            have f0 := HO.out.frozenAt k
            have i1 : (0 : Int) ≤ (k : Int) := by omega
            have i2 : (k : Int) < (N : Int) := by omega
            go_wp2_with fail
            go_roundw
            case rel =>
              have s1 := HO.out.stored k (.int .i64 (-1))
              exact ⟨k + 1, by omega, by go_num, grown_trans HG.out s1.2, _, s1.1⟩
            case measure => simp [intOf]; omega
          · have hkn' : decide ((k : Int) < (N : Int)) = false := by simp; omega
            obtain ⟨i0, hi, hz0, hz1, hz2⟩ := info_parts infoInt
            go_wp2_with (at_builtin; refine wpList_append_own (w := _) rfl _ _ 32 rfl w1.heap.size 3 i0 _ 1 8 Tryd.underlying32 hi hz0 hz1 hz2 rfl (by decide) _ _ _ rfl (HO.out.alloc _) ⟨wr.heap.size, 0, none⟩ 1 1 [.int .i64 (-2)] rfl rfl (cell_one_new _ _ _) (by simp [Value.oneCell']) (by unfold maxLen; omega) (by omega) (by have := HG.out.size; have := HS7.out; simp; omega) ?_; intro v' w8 hown' hgrow _; obtain ⟨g', cap', rfl⟩ := ownsRow_succ hown')
            have HK8 : Hid (RdI w8 ak (zs T)) := by
              have h1 := HK7.out.far HG.out HNK.out
              exact (h1.later ((Below.refl _ wr).alloc (Nat.le_refl _) _)).far hgrow HNK.out
            have HM8 : Hid (RdI w8 am (zs T)) := by
              have h1 := HM7.out.far HG.out HNM.out
              exact (h1.later ((Below.refl _ wr).alloc (Nat.le_refl _) _)).far hgrow HNM.out
            have HB8 : Hid (Below w.heap.size w w8) := by
              have hs7 := HS7.out
              have hw1 := HB1.out.size
              have hrow := HROW.out
              have h1 := below_grown HB7.out HG.out (by omega) hrow
              have h2 := h1.alloc (Nat.le_trans (by omega) h1.size) (.cells #[.int .i64 (-2)] 3)
              exact below_grown h2 hgrow (by have := h1.size; simp; omega) hrow
            have hsame := same_any ak am ck cm (zs T) w8 (by rw [zs_length, HT.out]; omega) HK8.out HM8.out
            rw [zs_length, HT.out] at hsame
            clear hgrow hown'
            go_wp2_with fail
            refine hsame.mono ?_
            rintro e w9 ⟨rfl, hb9⟩
            clear hsame
            go_wp2_with fail
            go_ret
            exact ⟨rfl, HB8.out.trans (hb9.mono HB8.out.size)⟩
  · obtain ⟨w7, hw7⟩ : ∃ w7, w6 = w7 := ⟨_, rfl⟩
    have hB67 := HB6.out
    rw [hw7] at hB67
    have HO7 : Hid (w7.ownsRow w1.heap.size 3 1 (.slice al N cl) N (nI T)) := row_below HL4.out HS4.out hB67
    have HK7 : Hid (RdI w7 ak (zs T)) := RK4.out.later hB67
    have HM7 : Hid (RdI w7 am (zs T)) := RM4.out.later hB67
    have HB7 : Hid (Below w.heap.size w w7) := HX4.out.trans (hB67.mono HX4.out.size)
    have HS7 : Hid (w1.heap.size ≤ w7.heap.size) := Nat.le_trans HS4.out hB67.size
    rw [hw7]
    clear hw7 hB67
    have hE1 : (E == 0) = false := by simp [hE0]
    go_wp2_with fail
    have hN64 := HN64.out
    go_loopw [86] (fun i wr => ∃ k : Nat, k ≤ N ∧ i = .int .i64 (k : Int) ∧ w7.grownBy wr (Value.slice al N cl).ownBlock ∧ ∃ xs, wr.ownsRow w1.heap.size 3 1 (.slice al N cl) N xs) (fun i _ => N - (intOf i).toNat)
    case atStart => exact ⟨0, by omega, rfl, grown_refl _ _, _, HO7.out⟩
    case round =>
      obtain ⟨k, hk, rfl, hg, xs, ho⟩ := hrel
      have HG : Hid (w7.grownBy wr (Value.slice al N cl).ownBlock) := hg
      have HO : Hid (wr.ownsRow w1.heap.size 3 1 (.slice al N cl) N xs) := ho
      clear hg ho
      by_cases hkm : k < N
      · obtain ⟨g, rfl, hg1, hg2⟩ := row_some HO.out (by omega)
        obtain ⟨u0, q0⟩ := row_cell HO.out k (by omega)
        have f0 := HO.out.frozenAt k
        have i1 : (0 : Int) ≤ (k : Int) := by omega
        have i2 : (k : Int) < (N : Int) := by omega
        go_wp2_with fail
        go_roundw
        case rel =>
          have s1 := HO.out.stored k (.int .i64 (-1))
          exact ⟨k + 1, by omega, by go_num, grown_trans HG.out s1.2, _, s1.1⟩
        case measure => simp [intOf]; omega
      · have hkn' : decide ((k : Int) < (N : Int)) = false := by simp; omega
        obtain ⟨i0, hi, hz0, hz1, hz2⟩ := info_parts infoInt
        go_wp2_with (at_builtin; refine wpList_append_own (w := _) rfl _ _ 32 rfl w1.heap.size 3 i0 _ 1 8 Tryd.underlying32 hi hz0 hz1 hz2 rfl (by decide) _ _ _ rfl (HO.out.alloc _) ⟨wr.heap.size, 0, none⟩ 1 1 [.int .i64 (-2)] rfl rfl (cell_one_new _ _ _) (by simp [Value.oneCell']) (by unfold maxLen; omega) (by omega) (by have := HG.out.size; have := HS7.out; simp; omega) ?_; intro v' w8 hown' hgrow _; obtain ⟨g', cap', rfl⟩ := ownsRow_succ hown')
        have HK8 : Hid (RdI w8 ak (zs T)) := by
          have h1 := HK7.out.far HG.out HNK.out
          exact (h1.later ((Below.refl _ wr).alloc (Nat.le_refl _) _)).far hgrow HNK.out
        have HM8 : Hid (RdI w8 am (zs T)) := by
          have h1 := HM7.out.far HG.out HNM.out
          exact (h1.later ((Below.refl _ wr).alloc (Nat.le_refl _) _)).far hgrow HNM.out
        have HB8 : Hid (Below w.heap.size w w8) := by
          have hs7 := HS7.out
          have hw1 := HB1.out.size
          have hrow := HROW.out
          have h1 := below_grown HB7.out HG.out (by omega) hrow
          have h2 := h1.alloc (Nat.le_trans (by omega) h1.size) (.cells #[.int .i64 (-2)] 3)
          exact below_grown h2 hgrow (by have := h1.size; simp; omega) hrow
        have hsame := same_any ak am ck cm (zs T) w8 (by rw [zs_length, HT.out]; omega) HK8.out HM8.out
        rw [zs_length, HT.out] at hsame
        clear hgrow hown'
        go_wp2_with fail
        refine hsame.mono ?_
        rintro e w9 ⟨rfl, hb9⟩
        clear hsame
        go_wp2_with fail
        go_ret
        exact ⟨rfl, HB8.out.trans (hb9.mono HB8.out.size)⟩
theorem own : ownKnob Tryd.prog.godebug = none := by kernel_rfl
theorem laidOut : laidOutB Tryd.prog = true := by kernel_rfl
theorem contract (H : Type) (enc : TypeId × Value → H) (W : World) (base : Nat) (args : Array Value) (ds gs : List (DataW H)) (before : List MemPlace)
    (hval : ∀ (j : Nat) t v, Tryd.f5.params[j]? = some t → args[j]? = some v → Value.okWide Tryd.prog W .any base t v)
    (hW : DataW.Whole enc Tryd.prog Tryd.f5.params.toList Rows.seatsTakesSpec.vars false W args.toList ds gs before)
    (hsz : (DataW.weightsEach Tryd.prog (Tryd.f5.params.toList ++ Rows.seatsTakesSpec.plain.varTypes Tryd.prog) (ds ++ gs)).all (· ≤ reachBytes) = true)
    (hL : laidMetH Tryd.prog Rows.seatsTakesRow.laid W) :
    Calls Tryd.prog 5 args W fun e W' => ∃ v, e = .returned v ∧ Rows.seatsTakesSpec.post enc Tryd.prog Tryd.f5 false true false false W args v W' := by
  have hv := vs_of hL
  have hW' := hW
  obtain ⟨p, q, hA0, hV, rfl, hfz, hnd⟩ := hW
  have hA : DataW.TrodAll enc Tryd.prog W 0 (fun _ => true) true Tryd.f5.params.toList args.toList ds p := hA0
  rw [Tryd.params5] at hA hval hsz
  obtain ⟨v0, vs0, d0, ds0, p0, q0, hargs, rfl, rfl, h0, r0⟩ := trodAll_cons hA
  obtain ⟨v1, vs1, d1, ds1, p1, q1, rfl, rfl, rfl, h1, r1⟩ := trodAll_cons r0
  obtain ⟨rfl, rfl, rfl⟩ := trodAll_nil r1
  obtain rfl : args = #[v0, v1] := by cases args; simp_all
  obtain ⟨rfl, rfl⟩ := trodVars_none hV
  obtain ⟨a0, rfl, rfl, rfl, w0⟩ := open_int Tryd.underlying22 (hval 0 22 v0 rfl rfl) h0
  obtain ⟨a1, rfl, rfl, rfl, w1⟩ := open_int Tryd.underlying3 (hval 1 3 v1 rfl rfl) h1
  clear hA0
  refine (walk a0 a1 w0 w1 W hv).mono fun e W' ⟨he, bel⟩ => ?_
  subst he
  exact ⟨_, rfl, _, _, _, [], _, [], hW', trodAll_mk1 (shut_bool Tryd.underlying4 _), (trodAll_cons_mk (shut_int Tryd.underlying22 w0) (trodAll_cons_mk (shut_int Tryd.underlying3 w1) trodAll_mk0)), rfl, bel.frame _, fun h => by cases h⟩
set_option maxRecDepth 100000 in
theorem laid_met (os : Os) : laidMet Tryd.prog Rows.seatsTakesRow.laid ((laidWorld os).forCall (fun _ _ => 0) ⟨#[], #[.int .u64 0, .int .i64 0], []⟩).memory :=
  laidMet_of_run' 8 (by kernel_rfl) (by kernel_rfl)
set_option maxRecDepth 100000 in
theorem reads (os : Os) {H : Type} (enc : TypeId × Value → H) : ∃ places, DataW.whole enc Tryd.prog ((laidWorld os).forCall (fun _ _ => 0) ⟨#[], #[.int .u64 0, .int .i64 0], []⟩).memory Tryd.f5.params.toList Rows.seatsTakesSpec.vars false (#[.int .u64 0, .int .i64 0] : Array Value).toList 8 = some ([.lit (.int .u64 0), .lit (.int .i64 0)], [], places) :=
  ⟨[], by kernel_rfl⟩
set_option maxRecDepth 100000 in
theorem lifted (os : Os) (started : os.Started) (H : Type) (enc : TypeId × Value → H) (F : Stop.Interp) :
    ReturnsInHanded {} Tryd.checked os 5 .any ((OpenSpec.ofChange Rows.seatsTakesSpec).preRow enc Tryd.prog Tryd.f5 Rows.seatsTakesRow.domain false Rows.seatsTakesRow.laid) (((OpenSpec.ofChange Rows.seatsTakesSpec).at F).post enc Tryd.prog Tryd.f5 false true false false) := by
  obtain ⟨places, hx⟩ := reads os enc
  refine returnsInHanded_of_row (C := Tryd.checked) (s := (OpenSpec.ofChange Rows.seatsTakesSpec)) own started (by kernel_rfl) Tryd.func5
    (witness_row_at (enc := enc) (C := Tryd.checked) false (laidWorld os) #[.int .u64 0, .int .i64 0] rfl (by kernel_rfl) (by kernel_rfl) (by kernel_rfl)
      (OpenSpec.preRow_of_cond 8 hx (by kernel_rfl) (fun k hk => by cases hk) (by kernel_rfl) (laid_met os))) ?_
  intro W base args ds gs before hval hW hc1 hc2 hsz hL hsh _
  exact contract H enc W base args ds gs before hval hW hsz hL
theorem said : Rows.SeatsTakesSaid :=
  OpenClaim.holds_of_cond 5 Tryd.f5 rfl rfl rfl rfl rfl rfl rfl ⟨rfl, rfl, rfl, rfl, rfl⟩ rfl rfl rfl rfl rfl (by kernel_rfl) Tryd.func5 (by kernel_rfl)
    (of_decide_eq_true (by kernel_rfl)) (by unfold Func.isWrapper; first | (rw [if_pos (by decide +kernel)]; kernel_rfl) | (rw [if_neg (by decide +kernel)]; exact ⟨rfl, rfl⟩))
    (fun os started H enc _ F => by rw [OpenClaim.pre_eq_preRow]; exact lifted os started H enc F)
theorem plain (f : FuncId) (fn : Func) (hf : Tryd.pinned.checked.prog.funcNamed "coterie/coterielaw08.SeatsTakes" = some f) (hfn : Tryd.pinned.checked.prog.funcs[f]? = some fn) :
    true = Tryd.pinned.checked.prog.looks [] ∧ ∀ (j : Nat) t, fn.params[j]? = some t → Tryd.pinned.checked.prog.wantsStandIn t = false := by
  obtain rfl : f = 5 := Option.some.inj ((show Tryd.prog.funcNamed "coterie/coterielaw08.SeatsTakes" = some 5 by kernel_rfl).symm.trans hf) |>.symm
  obtain rfl : fn = Tryd.f5 := (Option.some.inj (Tryd.func5.symm.trans hfn)).symm
  refine ⟨by kernel_rfl, fun j t ht => ?_⟩
  rw [Tryd.params5] at ht
  have h3 : Tryd.prog.wantsStandIn 3 = false := by kernel_rfl
  have h22 : Tryd.prog.wantsStandIn 22 = false := by kernel_rfl
  have hm := Array.mem_of_getElem? ht
  simp at hm
  rcases hm with rfl | rfl
  · exact h22
  · exact h3
end Go.Proofs.YtljbnhgcfmehoaaDoor.seatsTakes
namespace Go.Proofs.YtljbnhgcfmehoaaDoor
theorem seatsTakes_holds : Rows.SeatsTakesCardSaid :=
  Claim7.holds_tied_plain_at .later [] _ _ _ _ seatsTakes.said (fun _ h => by cases h) (by kernel_rfl) (fun _ h => by cases h) seatsTakes_row_tie rfl ⟨rfl, rfl⟩ (by kernel_rfl) rfl seatsTakes.plain (by kernel_rfl)
#print axioms seatsTakes_holds
end Go.Proofs.YtljbnhgcfmehoaaDoor
