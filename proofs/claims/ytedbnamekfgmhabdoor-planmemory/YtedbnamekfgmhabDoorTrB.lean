/- Contracts: isKeyName, keysFit, seatsFit. -/
import Derived.Test.YtedbnamekfgmhabDoorTrA
import Derived.Deep.DeepCutAuto
import Derived.BigQuiet
namespace Go.Proofs.YtedbnamekfgmhabDoor
open Go.RowKit
open Rt (Ky zK kcs KsAt KyAt)
open Rs (En zE rcs RoAt EnAt)
set_option linter.unusedVariables false
set_option linter.unusedSimpArgs false

set_option maxRecDepth 100000 in
set_option maxHeartbeats 1000000 in
theorem isKeyName_any (f : Nat → Ky) (x : Int) (w : World) : Calls Tryd.prog 110 #[.agg (kcs f), .int .i64 x] w fun r w' => r = .returned (.bool (isn f x)) ∧ Below w.heap.size w w' := by
  have hn := KsAt.new w f
  have hB1 := Rt.alloc_ks w f
  go_enter Tryd.func110, Tryd.ntmps110
  go_upto_region 1 with (fail)
  generalize w.alloc (.cells (kcs f) 25) = w1 at *
  refine wp_region_lit ?_
  refine Rt.ldK hn rfl _ rfl rfl ?_
  obtain ⟨c, hc⟩ : ∃ c, kcs f = c := ⟨_, rfl⟩
  rw [hc]
  go_wp2_with fail
  go_loopw [8] (fun i wx => ∃ k : Nat, k ≤ 21 ∧ i = .int .i64 (k : Int) ∧ Below w1.heap.size w1 wx ∧ ∀ j, j < k → decide ((f j).bas = x) = false) (fun i _ => 21 - (intOf i).toNat)
  case atStart => exact ⟨0, by omega, rfl, Below.refl _ _, fun j hj => by omega⟩
  case round =>
    obtain ⟨k, hk, rfl, hb, hf⟩ := hrel
    have HB : Hid (Below w.heap.size w wr) := hB1.trans (hb.mono hB1.size)
    have HBW : Hid (Below w1.heap.size w1 wr) := hb
    have HF : Hid (∀ j, j < k → decide ((f j).bas = x) = false) := hf
    clear hb hf
    by_cases hk8 : k < 21
    · have k8 : (k : Int) < 21 := by omega
      have hi := Rt.idxK f k hk8
      rw [hc] at hi
      have HBE : Hid (Below wr.heap.size wr (wr.alloc (.cells #[.int .i64 (f k).bas, .int .i64 (f k).stp] 23))) := Rt.alloc_ky wr (f k)
      obtain ⟨e, he⟩ : ∃ e, f k = e := ⟨_, rfl⟩
      rw [he] at hi HBE
      have HE : Hid (f k = e) := he
      clear he hc
      by_cases hx : e.bas = x
      · have hx2 : (e.bas == x) = true := by simp [hx]
        have HX : Hid (e.bas = x) := hx
        clear hx
        go_wp2_with fail
        go_ret
        exact ⟨ret_bool (by unfold isn; rw [any_yes hk8 (by rw [HE.out, HX.out]; simp)]), HB.out.trans (HBE.out.mono HB.out.size)⟩
      · have hx2 : (e.bas == x) = false := by simp [hx]
        go_wp2_with fail
        go_roundw
        case rel =>
          refine ⟨k + 1, by omega, by go_num, HBW.out.trans (HBE.out.mono HBW.out.size), fun j hj => ?_⟩
          rcases Nat.lt_or_ge j k with h | h
          · exact HF.out j h
          · obtain rfl : j = k := by omega
            rw [HE.out]
            exact decide_eq_false hx
        case measure => simp [intOf]; omega
    · obtain rfl : k = 21 := by omega
      go_wp2_with fail
      go_ret
      exact ⟨ret_bool (by unfold isn; rw [any_no HF.out]), HB.out⟩
theorem fk1_no1 {t : Tr} {k : Nat} {e : Ky} (he : t.ks k = e) (h : t.fr ≤ e.bas) : fk1 t k = false := by unfold fk1; rw [he, decide_eq_false (by omega)]; rfl
theorem fk1_no2 {t : Tr} {k : Nat} {e : Ky} (he : t.ks k = e) (h : t.ep < e.stp) : fk1 t k = false := by unfold fk1; rw [he, decide_eq_false (p := e.stp ≤ t.ep) (by omega), Bool.and_false]
theorem fk1_yes {t : Tr} {k : Nat} {e : Ky} (he : t.ks k = e) (h1 : ¬ t.fr ≤ e.bas) (h2 : ¬ t.ep < e.stp) : fk1 t k = true := by unfold fk1; rw [he, decide_eq_true (by omega), decide_eq_true (by omega)]; rfl
set_option maxRecDepth 100000 in
set_option maxHeartbeats 1000000 in
theorem keysFit_any (t : Tr) (w : World) : Calls Tryd.prog 85 #[.agg (tcs t)] w fun r w' => r = .returned (.bool (fitK t)) ∧ Below w.heap.size w w' := by
  have hn := TrAt.new w t
  have hB1 := alloc_tr w t
  obtain ⟨c, hc⟩ : ∃ c, kcs t.ks = c := ⟨_, rfl⟩
  have HC : Hid (kcs t.ks = c) := hc
  clear hc
  go_enter Tryd.func85, Tryd.ntmps85
  go_upto_region 1 with (fail)
  generalize w.alloc (.cells (tcs t) 31) = w1 at *
  obtain ⟨B, hBB⟩ : ∃ B, w.heap.size = B := ⟨_, rfl⟩
  rw [hBB] at hn ⊢
  obtain ⟨ct, hct⟩ : ∃ ct, tcs t = ct := ⟨_, rfl⟩
  rw [hct]
  clear hct
  have HBB : Hid (w.heap.size = B) := hBB
  clear hBB
  go_wp2_with (refine rdK hn HC.out _ rfl rfl rfl ?_)
  go_loopw [7] (fun i wx => ∃ k : Nat, k ≤ 21 ∧ i = .int .i64 (k : Int) ∧ Below w1.heap.size w1 wx ∧ ∀ j, j < k → fk1 t j = true) (fun i _ => 21 - (intOf i).toNat)
  case atStart => exact ⟨0, by omega, rfl, Below.refl _ _, fun j hj => by omega⟩
  case round =>
    obtain ⟨k, hk, rfl, hb, hf⟩ := hrel
    have HB : Hid (Below w.heap.size w wr) := hB1.trans (hb.mono hB1.size)
    have HBW : Hid (Below w1.heap.size w1 wr) := hb
    have HF : Hid (∀ j, j < k → fk1 t j = true) := hf
    by_cases hk8 : k < 21
    · have k8 : (k : Int) < 21 := by omega
      have hi := Rt.idxK t.ks k hk8
      simp only [HC.out] at hi
      obtain ⟨c0, c1⟩ := (hn.later hb).cells
      have d0 := fun o => cell_alloc_lt c0 o
      have d1 := fun o => cell_alloc_lt c1 o
      have HBE : Hid (Below wr.heap.size wr (wr.alloc (.cells #[.int .i64 (t.ks k).bas, .int .i64 (t.ks k).stp] 23))) := Rt.alloc_ky wr (t.ks k)
      obtain ⟨e, he⟩ : ∃ e, t.ks k = e := ⟨_, rfl⟩
      rw [he] at hi HBE
      have HE : Hid (t.ks k = e) := he
      clear he c0 c1 hb hf
      by_cases g1 : t.fr ≤ e.bas
      · go_wp2_with fail
        go_ret
        exact ⟨ret_bool (by unfold fitK; rw [all_no hk8 (fk1_no1 HE.out g1)]), HB.out.trans (HBE.out.mono HB.out.size)⟩
      · by_cases g2 : t.ep < e.stp
        · go_wp2_with fail
          go_ret
          exact ⟨ret_bool (by unfold fitK; rw [all_no hk8 (fk1_no2 HE.out g2)]), HB.out.trans (HBE.out.mono HB.out.size)⟩
        · go_wp2_with fail
          go_roundw
          case rel =>
            refine ⟨k + 1, by omega, by go_num, HBW.out.trans (HBE.out.mono HBW.out.size), fun j hj => ?_⟩
            rcases Nat.lt_or_ge j k with h | h
            · exact HF.out j h
            · obtain rfl : j = k := by omega
              exact fk1_yes HE.out (by omega) (by omega)
          case measure => simp [intOf]; omega
    · obtain rfl : k = 21 := by omega
      clear hb hf
      go_wp2_with fail
      go_ret
      exact ⟨ret_bool (by unfold fitK; rw [all_yes HF.out]), HB.out⟩
theorem fs1_no1 {t : Tr} {k : Nat} {e : En} (he : t.ro k = e) (h : t.fr ≤ e.bas) : fs1 t k = false := by unfold fs1; rw [he, decide_eq_false (by omega)]; rfl
theorem fs1_no2 {t : Tr} {k : Nat} {e : En} (he : t.ro k = e) (h : t.ep < e.snc) : fs1 t k = false := by unfold fs1; rw [he, decide_eq_false (p := e.snc ≤ t.ep) (by omega), Bool.false_and, Bool.and_false]
theorem fs1_no3 {t : Tr} {k : Nat} {e : En} (he : t.ro k = e) (h : isn t.ks e.bas = true) : fs1 t k = false := by unfold fs1; rw [he, h, Bool.not_true, Bool.and_false, Bool.and_false]
theorem fs1_yes {t : Tr} {k : Nat} {e : En} (he : t.ro k = e) (h1 : ¬ t.fr ≤ e.bas) (h2 : ¬ t.ep < e.snc) (h3 : isn t.ks e.bas = false) : fs1 t k = true := by unfold fs1; rw [he, h3, decide_eq_true (by omega), decide_eq_true (by omega)]; rfl
set_option maxRecDepth 100000 in
set_option maxHeartbeats 1000000 in
theorem seatsFit_any (t : Tr) (w : World) : Calls Tryd.prog 86 #[.agg (tcs t)] w fun r w' => r = .returned (.bool (fitS t)) ∧ Below w.heap.size w w' := by
  have hn := TrAt.new w t
  have hB1 := alloc_tr w t
  have hnm := fun x => isKeyName_any t.ks x
  obtain ⟨c, hc⟩ : ∃ c, rcs t.ro = c := ⟨_, rfl⟩
  have HC : Hid (rcs t.ro = c) := hc
  clear hc
  obtain ⟨ck, hck⟩ : ∃ c, kcs t.ks = c := ⟨_, rfl⟩
  simp only [hck] at hnm
  have HK : Hid (kcs t.ks = ck) := hck
  clear hck
  go_enter Tryd.func86, Tryd.ntmps86
  go_upto_region 1 with (fail)
  generalize w.alloc (.cells (tcs t) 31) = w1 at *
  obtain ⟨B, hBB⟩ : ∃ B, w.heap.size = B := ⟨_, rfl⟩
  rw [hBB] at hn ⊢
  obtain ⟨ct, hct⟩ : ∃ ct, tcs t = ct := ⟨_, rfl⟩
  rw [hct]
  clear hct
  have HBB : Hid (w.heap.size = B) := hBB
  clear hBB
  go_wp2_with (refine rdR hn HC.out _ rfl rfl rfl ?_)
  go_loopw [7] (fun i wx => ∃ k : Nat, k ≤ 64 ∧ i = .int .i64 (k : Int) ∧ Below w1.heap.size w1 wx ∧ ∀ j, j < k → fs1 t j = true) (fun i _ => 64 - (intOf i).toNat)
  case atStart => exact ⟨0, by omega, rfl, Below.refl _ _, fun j hj => by omega⟩
  case round =>
    obtain ⟨k, hk, rfl, hb, hf⟩ := hrel
    have HB : Hid (Below w.heap.size w wr) := hB1.trans (hb.mono hB1.size)
    have HBW : Hid (Below w1.heap.size w1 wr) := hb
    have HF : Hid (∀ j, j < k → fs1 t j = true) := hf
    by_cases hk8 : k < 64
    · have k8 : (k : Int) < 64 := by omega
      have hi := Rs.idx25 t.ro k hk8
      simp only [HC.out] at hi
      have hT := hn.later hb
      obtain ⟨c0, c1⟩ := hT.cells
      have d0 := fun o => cell_alloc_lt c0 o
      have d1 := fun o => cell_alloc_lt c1 o
      have hBE := Rs.alloc_en wr (t.ro k)
      obtain ⟨e, he⟩ : ∃ e, t.ro k = e := ⟨_, rfl⟩
      rw [he] at hi hBE
      have hTE := hT.later hBE
      have HBE : Hid (Below wr.heap.size wr (wr.alloc (.cells #[.int .i64 e.who, .int .i64 e.bas, .int .i64 e.snc] 27))) := hBE
      have HE : Hid (t.ro k = e) := he
      clear he c0 c1 hb hf hT hBE
      by_cases g1 : t.fr ≤ e.bas
      · clear hTE
        go_wp2_with fail
        go_ret
        exact ⟨ret_bool (by unfold fitS; rw [all_no hk8 (fs1_no1 HE.out g1)]), HB.out.trans (HBE.out.mono HB.out.size)⟩
      · by_cases g2 : t.ep < e.snc
        · clear hTE
          go_wp2_with fail
          go_ret
          exact ⟨ret_bool (by unfold fitS; rw [all_no hk8 (fs1_no2 HE.out g2)]), HB.out.trans (HBE.out.mono HB.out.size)⟩
        · go_wp2_with (refine rdK hTE HK.out _ rfl rfl rfl ?_)
          refine (hnm e.bas _).mono ?_
          rintro r w3 ⟨rfl, hb3⟩
          have HB4 : Hid (Below wr.heap.size wr w3) := HBE.out.trans (hb3.mono HBE.out.size)
          clear hTE hb3 d0 d1 hi
          cases h3 : isn t.ks e.bas with
          | true =>
            go_wp2_with fail
            go_ret
            exact ⟨ret_bool (by unfold fitS; rw [all_no hk8 (fs1_no3 HE.out h3)]), HB.out.trans (HB4.out.mono HB.out.size)⟩
          | false =>
            go_wp2_with fail
            go_roundw
            case rel =>
              refine ⟨k + 1, by omega, by go_num, HBW.out.trans (HB4.out.mono HBW.out.size), fun j hj => ?_⟩
              rcases Nat.lt_or_ge j k with h | h
              · exact HF.out j h
              · obtain rfl : j = k := by omega
                exact fs1_yes HE.out (by omega) (by omega) h3
            case measure => simp [intOf]; omega
    · obtain rfl : k = 64 := by omega
      clear hb hf
      go_wp2_with fail
      go_ret
      exact ⟨ret_bool (by unfold fitS; rw [all_yes HF.out]), HB.out⟩
end Go.Proofs.YtedbnamekfgmhabDoor
