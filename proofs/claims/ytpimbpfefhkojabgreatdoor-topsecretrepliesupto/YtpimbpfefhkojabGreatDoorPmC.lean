/- Contract: the top's kept, where what follows is excused. -/
import Derived.Test.YtpimbpfefhkojabGreatDoorPlJ5
import Derived.Test.YtpimbpfefhkojabGreatDoorPlD
namespace Go.Proofs.YtpimbpfefhkojabGreatDoor
open Go.RowKit Go.Maps
open Rt (Ky zK KyAt)
open Rs (En zE rcs tkn fnd RdS)
set_option linter.unusedVariables false
set_option linter.unusedSimpArgs false

set_option maxRecDepth 100000 in
set_option maxHeartbeats 2000000 in
theorem kept_any (a : Option Addr) (c : Nat) (ts : List Tr) (a' : Option Addr) (c' : Nat) (met : List (Int × Int)) (bm nm : Nat) (H : Int → Option Int) (w : World) (hl : ts.length ≤ 4096) (hl' : met.length ≤ 4194304) (hr : RdR w a ts) (hm : Mh w bm nm H) (hs : RdS w a' met)
    (hwi : ∀ e v, e < ts.length → v < 21 → Wi ((ts.getD e (tz 0)).ks v).bas) (hgood : ∀ e v : Nat, e < ts.length → v < 21 → le1 H ((ts.getD e (tz 0)).ks v).bas ((ts.getD e (tz 0)).ks v).stp = true → excB ts met (e : Int) (v : Int) = true) :
    Calls Tryz.prog 10 #[.slice a ts.length c, .map (some bm), .slice a' met.length c'] w fun r w' => r = .returned (.bool true) ∧ Below w.heap.size w w' := by
  have HF : Hid (∀ (kb kt : Int) (W : World), Wi kb → Below w.heap.size w W → Calls Tryz.prog 21 #[.map (some bm), .agg #[.int .i64 kb, .int .i64 kt] ] W fun e w' => e = .returned (.bool (le1 H kb kt)) ∧ Below W.heap.size W w') := fun kb kt W hw hW => followT_any W bm nm H (hm.later hW) kb kt hw
  have HX : Hid (∀ (e v : Nat) (W : World), e < ts.length → v < 21 → Below w.heap.size w W → Calls Tryz.prog 22 #[.slice a ts.length c, .slice a' met.length c', .int .i64 (e : Int), .int .i64 (v : Int)] W fun r w' => r = .returned (.bool (excB ts met (e : Int) (v : Int))) ∧ Below W.heap.size W w') := fun e v W he hv hW => rExc_any a c ts a' c' met e v W hl hl' he hv (hr.later hW) (hs.later hW)
  have HWI : Hid (∀ e v, e < ts.length → v < 21 → Wi ((ts.getD e (tz 0)).ks v).bas) := hwi
  have HG : Hid (∀ e v : Nat, e < ts.length → v < 21 → le1 H ((ts.getD e (tz 0)).ks v).bas ((ts.getD e (tz 0)).ks v).stp = true → excB ts met (e : Int) (v : Int) = true) := hgood
  clear hm hs hwi hgood
  go_enter Tryz.func10, Tryz.ntmps10
  go_wp2_with fail
  go_loopw [12] (fun i wx => ∃ k : Nat, k ≤ ts.length ∧ i = .int .i64 (k : Int) ∧ Below w.heap.size w wx) (fun i _ => ts.length - (intOf i).toNat)
  case atStart => exact ⟨0, by omega, rfl, Below.refl _ _⟩
  case round =>
    obtain ⟨k, hk, rfl, hbx⟩ := hrel
    have HB : Hid (Below w.heap.size w wr) := hbx
    clear hbx
    by_cases hkN : k < ts.length
    · have i1 : (0 : Int) ≤ (k : Int) := by omega
      have i2 : (k : Int) < (ts.length : Int) := by omega
      obtain ⟨t, ht⟩ : ∃ t, ts.getD k (tz 0) = t := ⟨_, rfl⟩
      obtain ⟨g, eg, hld, -⟩ := (hr.later HB.out).tree hkN ht
      have HWK : Hid (∀ v, v < 21 → Wi (t.ks v).bas) := fun v hv => by have h := HWI.out k v hkN hv; rw [ht] at h; exact h
      have HGK : Hid (∀ v : Nat, v < 21 → le1 H (t.ks v).bas (t.ks v).stp = true → excB ts met (k : Int) (v : Int) = true) := fun v hv h => HG.out k v hkN hv (by rw [ht]; exact h)
      have HXK : Hid (∀ (v : Nat) (W : World), v < 21 → Below w.heap.size w W → Calls Tryz.prog 22 #[.slice a ts.length c, .slice a' met.length c', .int .i64 (k : Int), .int .i64 (v : Int)] W fun r w' => r = .returned (.bool (excB ts met (k : Int) (v : Int))) ∧ Below W.heap.size W w') := fun v W hv hW => HX.out k v W hkN hv hW
      clear ht
      subst eg
      obtain ⟨ct, hct⟩ : ∃ c, tcs t = c := ⟨_, rfl⟩
      have HCT : Hid (tcs t = ct) := hct
      rw [hct] at hld
      obtain ⟨NT, hNT⟩ : ∃ x, ts.length = x := ⟨_, rfl⟩
      have HNT : Hid (ts.length = NT ∧ k < NT) := ⟨hNT, by omega⟩
      rw [hNT] at HXK i2 ⊢
      have hz := TrAt.zero wr
      clear hct hNT
      go_upto_region 4 with (first | (refine rd_guard rfl (ld_exec hld rfl rfl) ?_) | (refine stTc hz HCT.out rfl _ _ rfl rfl rfl ?_))
      rw [alloc_trz, World.setRow_alloc_new]
      have HT5 : Hid (TrAt (wr.alloc (.cells ct 47)) wr.heap.size t) := by rw [← HCT.out]; exact TrAt.new _ _
      have HB5 : Hid (Below w.heap.size w (wr.alloc (.cells ct 47))) := HB.out.trans ((below_alloc _ _).mono HB.out.size)
      clear hz hld HB
      generalize wr.alloc (.cells ct 47) = w5 at *
      generalize wr.heap.size = C at *
      go_wp2_with fail
      go_loopw [9] (fun i wx => ∃ v : Nat, v ≤ 21 ∧ i = .int .i64 (v : Int) ∧ Below w.heap.size w wx ∧ TrAt wx C t) (fun i _ => 21 - (intOf i).toNat)
      case atStart => exact ⟨0, by omega, rfl, HB5.out, HT5.out⟩
      case round =>
        obtain ⟨v, hv, rfl, hbx, htx⟩ := hrel
        have HB6 : Hid (Below w.heap.size w wr) := hbx
        have HT6 : Hid (TrAt wr C t) := htx
        clear hbx htx HB5 HT5
        by_cases hvN : v < 21
        · have j1 : (0 : Int) ≤ (v : Int) := by omega
          have j2 : (v : Int) < 21 := by omega
          have hfo := fun W (hW : Below w.heap.size w W) => HF.out (t.ks v).bas (t.ks v).stp W (HWK.out v hvN) hW
          have hgk := HGK.out v hvN
          have HCE : Hid (∀ W, Below w.heap.size w W → TrAt W C t → W.cell? ⟨C, 2 + v * 2, none⟩ = some (.int .i64 (t.ks v).bas) ∧ W.cell? ⟨C, 2 + v * 2 + 1, none⟩ = some (.int .i64 (t.ks v).stp)) := fun W _ h => h.key v hvN
          have hex := HXK.out v
          obtain ⟨fl, hfl⟩ : ∃ b, le1 H (t.ks v).bas (t.ks v).stp = b := ⟨_, rfl⟩
          rw [hfl] at hfo hgk
          obtain ⟨kb, hkb⟩ : ∃ b, (t.ks v).bas = b := ⟨_, rfl⟩
          obtain ⟨kt, hkt⟩ : ∃ b, (t.ks v).stp = b := ⟨_, rfl⟩
          rw [hkb, hkt] at hfo HCE
          clear hfl hkb hkt
          cases fl with
          | false =>
            clear hgk hex
            obtain ⟨x0, x1⟩ := HCE.out _ HB6.out HT6.out
            have hS0 := hfo _ HB6.out
            go_wp2_with fail
            refine hS0.mono ?_
            rintro r w7 ⟨rfl, hHeld2⟩
            clear x0 x1
            have HB7 : Hid (Below w.heap.size w w7) := HB6.out.trans (hHeld2.mono HB6.out.size)
            have HT7 : Hid (TrAt w7 C t) := HT6.out.later hHeld2
            clear hHeld2 hS0 hfo HB6 HT6
            go_wp2_with fail
            go_roundw
            case rel => exact ⟨v + 1, by omega, by go_num, HB7.out, HT7.out⟩
            case measure => simp [intOf]; omega
          | true =>
            have hgo := hgk rfl
            have hex2 := fun W hW => hex W hvN hW
            simp only [hgo] at hex2
            clear hgk hex hgo
            obtain ⟨x0, x1⟩ := HCE.out _ HB6.out HT6.out
            have hS0 := hfo _ HB6.out
            go_wp2_with fail
            refine hS0.mono ?_
            rintro r w7 ⟨rfl, hHeld2⟩
            clear x0 x1
            have hex3 := hex2 _ (HB6.out.trans (hHeld2.mono HB6.out.size))
            go_wp2_with fail
            refine hex3.mono ?_
            rintro r w8 ⟨rfl, hb8⟩
            have hHeld3 := hHeld2.trans (hb8.mono hHeld2.size)
            clear hHeld2 hb8 hex3
            have HB7 : Hid (Below w.heap.size w w8) := HB6.out.trans (hHeld3.mono HB6.out.size)
            have HT7 : Hid (TrAt w8 C t) := HT6.out.later hHeld3
            clear hHeld3 hS0 hfo hex2 HB6 HT6
            go_wp2_with fail
            go_roundw
            case rel => exact ⟨v + 1, by omega, by go_num, HB7.out, HT7.out⟩
            case measure => simp [intOf]; omega
        · obtain rfl : v = 21 := by omega
          go_wp2_with fail
          go_roundw
          case rel => exact ⟨k + 1, by omega, by go_num, HB6.out⟩
          case measure => simp [intOf]; omega
    · obtain rfl : k = ts.length := by omega
      have hdk : decide ((ts.length : Int) < (ts.length : Int)) = false := by simp
      go_wp2_with fail
      go_ret
      exact ⟨rfl, HB.out⟩
end Go.Proofs.YtpimbpfefhkojabGreatDoor
