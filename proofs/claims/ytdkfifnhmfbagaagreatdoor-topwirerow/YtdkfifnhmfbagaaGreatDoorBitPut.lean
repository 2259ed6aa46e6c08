/- Contract: Put of a writer. -/
import Derived.Test.YtdkfifnhmfbagaaGreatDoorBtJ1
import Derived.Deep.RegionWith
import Derived.Deep.DrawnRows
namespace Go.Proofs.YtdkfifnhmfbagaaGreatDoor.Bt
open Go.RowKit Go.Maps
set_option linter.unusedVariables false
attribute [local go_sem ↓] Go.wp_at_zero Go.wp_at_succ
set_option maxHeartbeats 2000000 in
set_option maxRecDepth 100000 in
theorem put_yes (B g v n : Nat) (l : List Bool) (x : Value) (w : World) (h1 : 1 ≤ n) (h2 : n ≤ 64) (hv : v < 2 ^ n) (hB : B ≤ w.heap.size) (hw : Wr B w g l x) (hl : l.length + n ≤ 1099511627776) :
  Calls Tryz.prog 36 #[.pointer (some ⟨g, 0, none⟩), .int .u64 (v : Int), .int .i64 (n : Int)] w fun e w' => e = .returned (.int .i64 0) ∧ ∃ x', Wr B w' g (l ++ bo v n) x' ∧ Kept (Fw g x) w w' ∧ (x'.ownBlock = x.ownBlock ∨ ∀ k, x'.ownBlock = some k → w.heap.size ≤ k) := by
 obtain ⟨i0, hi, hz0, hz1, hz2⟩ := info_parts info8
 have hv64 : v < 18446744073709551616 := Nat.lt_of_lt_of_le hv (by have := Nat.pow_le_pow_right (n := 2) (by decide) h2; simpa using this)
 have hr : (gw (n : Int) && decide (v < 2 ^ (n : Int).toNat)) = true := by simp [gw, hv]; omega
 go_enter Tryz.func36, Tryz.ntmps36
 go_wp2_with fail
 refine (right_any v n _ hv64).mono ?_
 rintro e w' ⟨rfl, rfl⟩
 rw [hr]
 clear hr
 go_wp2_with fail
 go_loopw [2] (fun i wr => ∃ k : Nat, k ≤ n ∧ i = .int .i64 (k : Int) ∧ ∃ x', Wr B wr g (l ++ bo (v / 2 ^ k) (n - k)) x' ∧ Kept (Fw g x) w' wr ∧ (x'.ownBlock = x.ownBlock ∨ ∀ k, x'.ownBlock = some k → w'.heap.size ≤ k)) (fun i _ => (intOf i).toNat)
 case atStart => exact ⟨n, Nat.le_refl _, rfl, x, by simpa [bo] using hw, Kept.refl _ _, .inl rfl⟩
 case round =>
  obtain ⟨k, hk, rfl, x1, hw1, hkp, hown⟩ := hrel
  have HKP : Hid (Kept (Fw g x) w' wr) := hkp
  have HOWN : Hid (x1.ownBlock = x.ownBlock ∨ ∀ k, x1.ownBlock = some k → w'.heap.size ≤ k) := hown
  clear hkp hown
  by_cases hk0 : k = 0
  ·subst hk0
   have hz : decide (((0 : Nat) : Int) > 0) = false := rfl
   go_wp2
   go_ret
   exact ⟨rfl, x1, by simpa using hw1, HKP.out, HOWN.out⟩
  ·obtain ⟨L, hL⟩ : ∃ L, l ++ bo (v / 2 ^ k) (n - k) = L := ⟨_, rfl⟩
   have HL : Hid (l ++ bo (v / 2 ^ k) (n - k) = L) := hL
   have hLl : L.length = l.length + (n - k) := by rw [← hL]; simp
   rw [hL] at hw1
   clear hL
   obtain ⟨a1, cap0, rfl⟩ := hw1.spell
   obtain ⟨c, hc⟩ : ∃ c, L.length = c := ⟨_, rfl⟩
   have hc0 := hw1.c0
   have hc1 := hw1.c1
   have HW1 : Hid (Wr B wr g L (.slice a1 (pk L).length cap0)) := hw1
   clear hw1
   have hpl := pk_length L
   obtain ⟨m, hm⟩ : ∃ m, (pk L).length = m := ⟨_, rfl⟩
   rw [hm] at hc1 hpl HW1 HOWN
   rw [hc] at hc0 hpl hLl
   obtain ⟨p, hp⟩ : ∃ p, c / 8 = p := ⟨_, rfl⟩
   have hplace := fun w0 h => place_any g c w0 (by omega) h
   rw [hp] at hplace
   obtain ⟨rm, hrm⟩ : ∃ rm, 8 - c % 8 = rm := ⟨_, rfl⟩
   have hroom := fun w0 h => room_any g c w0 (by omega) h
   rw [hrm] at hroom
   have hrm8 : 1 ≤ rm ∧ rm ≤ 8 := by omega
   obtain ⟨q, hq⟩ : ∃ q, min k rm = q := ⟨_, rfl⟩
   have hqk : 1 ≤ q ∧ q ≤ k ∧ q ≤ rm := by omega
   have hlow := fun w0 => lowest_any q (by omega) w0
   have hadd := fun w0 h f => add_any g c q w0 (by omega) h f
   have hmin : (if (rm : Int) < (k : Int) then (rm : Int) else (k : Int)) = (q : Int) := by split <;> omega
   have hmin2 : (if rm < k then (rm : Int) else (k : Int)) = (q : Int) := by split <;> omega
   obtain ⟨j, hj⟩ : ∃ j, k - q = j := ⟨_, rfl⟩
   obtain ⟨t, ht⟩ : ∃ t, v / 2 ^ j % 2 ^ q = t := ⟨_, rfl⟩
   have hand : bits .and .u64 ((v : Int) / 2 ^ j) ((2 ^ q - 1 : Nat) : Int) = (t : Int) := by
    have := and64 (v / 2 ^ j) q (Nat.lt_of_le_of_lt (Nat.div_le_self _ _) hv64) (by omega)
    rw [ht] at this
    rw [← this]; simp
   obtain ⟨d, hd⟩ : ∃ d, rm - q = d := ⟨_, rfl⟩
   have hwd := wrap64_nat d (by omega)
   have ht256 : t * 2 ^ d < 2 ^ rm := by
    have h := Nat.mod_lt (v / 2 ^ j) (Nat.two_pow_pos q)
    rw [ht] at h
    have e : 2 ^ rm = 2 ^ q * 2 ^ d := by rw [← Nat.pow_add, show q + d = rm by omega]
    rw [e]
    exact Nat.mul_lt_mul_of_pos_right h (Nat.two_pow_pos d)
   obtain ⟨z, hz⟩ : ∃ z, t * 2 ^ d = z := ⟨_, rfl⟩
   rw [hz] at ht256
   have hz256 : z < 256 := Nat.lt_of_lt_of_le ht256 (by have := Nat.pow_le_pow_right (n := 2) (by decide) hrm8.2; simpa using this)
   have hshl := shl_wrap t d z hz (by omega)
   have hz3 : (z : Int) % 256 = (z : Int) := by omega
   have HZ : Hid (z < 2 ^ rm ∧ t * 2 ^ d = z) := ⟨ht256, hz⟩
   clear ht256 hz
   have hsub2 : (rm : Int) - (q : Int) = (d : Int) := by omega
   have hsub : (k : Int) - (q : Int) = (j : Int) := by omega
   have HC : Hid (L.length = c ∧ c = l.length + (n - k) ∧ (pk L).length = m ∧ m = (c + 7) / 8 ∧ c / 8 = p ∧ 8 - c % 8 = rm ∧ min k rm = q ∧ k - q = j ∧ v / 2 ^ j % 2 ^ q = t ∧ rm - q = d) := ⟨hc, hLl, hm, hpl, hp, hrm, hq, hj, ht, hd⟩
   have hj64 : j ≤ 63 := by omega
   have kpos : (0 : Int) < (k : Int) := by omega
   have hpb : p < 1099511627776 := by omega
   have HB : Hid (B ≤ wr.heap.size) := by have := HKP.out.size; unfold Hid; omega
   by_cases hr0 : c % 8 = 0
   ·have hpm : p = m := by omega
    subst hpm
    clear hc hLl hm hpl hp hrm hq hj ht hd
    go_wp2_with fail
    go_region_held3 (fun w' => w'.cell? ⟨g, 0, none⟩ = some (.int .i64 (c : Int)) ∧ w'.cell? ⟨g, 1, none⟩ = some (.slice a1 p cap0)) (go_keep) ((go_at_call 91; refine (hplace _ ?_).mono ?_; (simp [*]); rintro e w' ⟨rfl, rfl⟩))
    have HRW : Hid (wr.drew.ownsRow B 5 1 (.slice a1 p cap0) p (u8s (pk L))) := by
     have := HW1.out.row
     rw [HC.out.2.2.1] at this
     exact this
    go_wp2_with (at_builtin; refine wpList_append_lies _ rfl _ _ _ rfl B 5 i0 _ 1 1 Tryz.underlying101 hi hz0 hz1 hz2 rfl (by omega) _ p (u8s (pk L)) rfl (HRW.out.alloc _) ⟨wr.heap.size, 0, none⟩ 1 1 [.int .u8 0] rfl rfl (cell_one_at _ _ _ _ rfl) (by simp [Value.oneCell']) (by omega) (by unfold maxLen; omega) (by omega) (by have := HB.out; simp; omega) (wr.heap.size + 1) (by simp) ?_; intro r cap1 w2 hown2 hgrow2 hat2 hlt2; obtain ⟨hd1, hf1⟩ := (HW1.out.drew.alloc _).far hgrow2; have HG2 : Hid ((wr.drew.alloc (.cells #[.int .u8 0] 5)).grownBy w2 (Value.slice a1 p cap0).ownBlock) := hgrow2; have HO2 : Hid (w2.ownsRow B 5 1 (.slice (some ⟨r, 0, none⟩) (p + 1) cap1) (p + 1) (u8s (pk L) ++ [.int .u8 0])) := hown2; have HA2 : Hid ((Value.slice a1 p cap0).ownBlock = some r ∨ r = wr.heap.size + 1) := hat2; clear hown2 hgrow2 hat2 hlt2)
    have HM : Hid (Wm B (w2.setCell ⟨g, 1, none⟩ (.slice (some ⟨r, 0, none⟩) (p + 1) cap1)) g L r p cap1) := (HW1.out.drew.alloc _).grown (by rw [HC.out.1]; exact HC.out.2.2.2.2.1) (by rw [HC.out.1]; exact hr0) HO2.out HG2.out
    have HK2 : Hid (Kept (Fw g x) w' (w2.setCell ⟨g, 1, none⟩ (.slice (some ⟨r, 0, none⟩) (p + 1) cap1))) := by
     refine Kept.setCell ((HKP.out.drew.alloc _).grown HG2.out ?_) (fun _ => .inl rfl) _
     intro j hj hlt
     rcases HOWN.out with e | e
     ·exact .inr (e ▸ hj)
     ·have := e j hj; omega
    have HO3 : Hid ((Value.slice (some ⟨r, 0, none⟩) (p + 1) cap1).ownBlock = x.ownBlock ∨ ∀ j, (Value.slice (some ⟨r, 0, none⟩) (p + 1) cap1).ownBlock = some j → w'.heap.size ≤ j) := by
     rcases HA2.out with e | e
     ·rcases HOWN.out with e' | e'
      ·exact .inl (e.symm.trans e')
      ·exact .inr fun j hj => by cases hj; exact e' r e
     ·exact .inr fun j hj => by cases hj; show w'.heap.size ≤ r; have := HKP.out.size; omega
    obtain ⟨W2, hW2⟩ : ∃ W2, w2.setCell ⟨g, 1, none⟩ (.slice (some ⟨r, 0, none⟩) (p + 1) cap1) = W2 := ⟨_, rfl⟩
    rw [hW2] at HM HK2 ⊢
    clear hW2 HG2 HA2 HO2 hd1 hf1 HOWN HKP HW1 HRW hc0 hc1
    have hm0 := HM.out.c0
    have hm1 := HM.out.c1
    rw [HC.out.1] at hm0
    refine (hroom W2 hm0).mono ?_
    rintro e w3 ⟨rfl, rfl⟩
    go_wp2_with fail
    go_region_held3 (fun w' => w'.cell? ⟨g, 0, none⟩ = some (.int .i64 (c : Int))) (go_keep) ((go_at_call 93; refine (hlow _).mono ?_; rintro e w' ⟨rfl, rfl⟩))
    go_wp2_with fail
    have hmp := HM.out.cp
    have hfp := HM.out.fp
    have hgr : g ≠ r := by have := HM.out.ge; have := HM.out.lt; omega
    have hrg : r ≠ g := fun e => hgr e.symm
    obtain ⟨y, hy⟩ : ∃ y, by8 (L.drop (8 * p)) = y := ⟨_, rfl⟩
    have HY : Hid (by8 (L.drop (8 * p)) = y) := hy
    rw [hy] at hmp
    have hor : bits .or .u8 (y : Int) (z : Int) = ((y + z : Nat) : Int) := by
     refine or8 rm y z ?_ HZ.out.1 (by rw [← hy]; exact by8_lt _) hz256
     rw [← hy, by8_short _ (by have := HC.out; simp; omega)]
     have : 8 - (L.drop (8 * p)).length = rm := by have := HC.out; simp; omega
     rw [this]
     exact Nat.mul_mod_left _ _
    obtain ⟨yz, hyz⟩ : ∃ yz, y + z = yz := ⟨_, rfl⟩
    rw [hyz] at hor
    have HYZ : Hid (y + z = yz) := hyz
    clear hy hyz
    have p1 : (0 : Int) ≤ (p : Int) := by omega
    have p2 : (p : Int) < (p : Int) + 1 := by omega
    have hq0 : (w3.setCell ⟨r, p, none⟩ (.int .u8 (yz : Int))).drew.drew.cell? ⟨g, 0, none⟩ = some (.int .i64 (c : Int)) := ((Kept.refl (fun k => k = r) w3).setCell (p := ⟨r, p, none⟩) (fun _ => rfl) _).cell hm0 hgr
    have hq1 : (w3.setCell ⟨r, p, none⟩ (.int .u8 (yz : Int))).drew.drew.frozen? ⟨g, 0, none⟩ = false := (World.frozen?_of_block (Below.heap_setCell w3 ⟨r, p, none⟩ _ g hgr)).trans (HM.out.fr 0)
    have HQ0 : Hid _ := hq0
    have HQ1 : Hid _ := hq1
    have HFIN : Hid _ := HM.out.fin2 HL.out hk hqk.1 hqk.2.1 hqk.2.2 HC.out.1 HC.out.2.2.2.2.2.1 HC.out.2.2.2.2.2.2.2.1 HC.out.2.2.2.2.2.2.2.2.1 HC.out.2.2.2.2.2.2.2.2.2 HZ.out.2 HY.out HYZ.out
    have HKF : Hid (Kept (Fw g x) w' ((w3.setCell ⟨r, p, none⟩ (.int .u8 (yz : Int))).setCell ⟨g, 0, none⟩ (.int .i64 ((c : Int) + (q : Int))))) := by
     refine (HK2.out.setCell (fun hlt => ?_) _).setCell (fun _ => .inl rfl) _
     rcases HO3.out with e | e
     ·exact .inr e.symm
     ·have := e r rfl; have hlt' : r < w'.heap.size := hlt; omega
    clear hq0 hq1
    go_region_with (first | (go_at_call 92; refine (hroom _ ?_).mono ?_; (simp [*]); rintro e w' ⟨rfl, rfl⟩) | (go_at_call 91; refine (hplace _ ?_).mono ?_; (simp [*]); rintro e w' ⟨rfl, rfl⟩))
    all_goals go_wp2_with fail
    all_goals refine (hadd _ HQ0.out HQ1.out).mono ?_
    all_goals rintro e w4 ⟨rfl, rfl⟩
    all_goals go_wp2_with fail
    all_goals go_roundw
    all_goals first
     | (case rel => exact ⟨j, by have := HC.out; omega, rfl, _, HFIN.out.drew.drew, HKF.out.drew.drew, HO3.out⟩)
     | (case measure => simp [intOf]; have := HC.out; omega)
   ·have hpm : m = p + 1 := by omega
    subst hpm
    have hne : decide ((p : Int) = ((p + 1 : Nat) : Int)) = false := by simp; omega
    have hne2 : ((p : Int) == ((p + 1 : Nat) : Int)) = false := by simp; omega
    obtain ⟨r, cap1, e, hwm⟩ := HW1.out.part (by rw [hc]; exact hr0)
    obtain ⟨e1, -, e2⟩ : a1 = some ⟨r, 0, none⟩ ∧ p + 1 = L.length / 8 + 1 ∧ cap0 = cap1 := by simpa using e
    have e3 := e2.symm
    subst e1 e3
    rw [hc, hp] at hwm
    have HM0 : Hid (Wm B wr g L r p cap1) := hwm
    clear hc hLl hm hpl hp hrm hq hj ht hd e hwm e2
    go_wp2_with fail
    go_region_held3 (fun w' => w'.cell? ⟨g, 0, none⟩ = some (.int .i64 (c : Int)) ∧ w'.cell? ⟨g, 1, none⟩ = some (.slice (some ⟨r, 0, none⟩) (p + 1) cap1)) (go_keep) ((go_at_call 91; refine (hplace _ ?_).mono ?_; (simp [*]); rintro e w' ⟨rfl, rfl⟩))
    go_wp2_with fail
    have HM : Hid (Wm B wr.drew g L r p cap1) := HM0.out.drew
    have HK2 : Hid (Kept (Fw g x) w' wr.drew) := HKP.out.drew
    have HO3 : Hid ((Value.slice (some ⟨r, 0, none⟩) (p + 1) cap1).ownBlock = x.ownBlock ∨ ∀ j, (Value.slice (some ⟨r, 0, none⟩) (p + 1) cap1).ownBlock = some j → w'.heap.size ≤ j) := HOWN.out
    obtain ⟨W2, hW2⟩ : ∃ W2, wr.drew = W2 := ⟨_, rfl⟩
    rw [hW2] at HM HK2 ⊢
    clear hW2 HM0 HOWN HKP HW1 hc0 hc1
    have hm0 := HM.out.c0
    have hm1 := HM.out.c1
    rw [HC.out.1] at hm0
    refine (hroom W2 hm0).mono ?_
    rintro e w3 ⟨rfl, rfl⟩
    go_wp2_with fail
    go_region_held3 (fun w' => w'.cell? ⟨g, 0, none⟩ = some (.int .i64 (c : Int))) (go_keep) ((go_at_call 93; refine (hlow _).mono ?_; rintro e w' ⟨rfl, rfl⟩))
    go_wp2_with fail
    have hmp := HM.out.cp
    have hfp := HM.out.fp
    have hgr : g ≠ r := by have := HM.out.ge; have := HM.out.lt; omega
    have hrg : r ≠ g := fun e => hgr e.symm
    obtain ⟨y, hy⟩ : ∃ y, by8 (L.drop (8 * p)) = y := ⟨_, rfl⟩
    have HY : Hid (by8 (L.drop (8 * p)) = y) := hy
    rw [hy] at hmp
    have hor : bits .or .u8 (y : Int) (z : Int) = ((y + z : Nat) : Int) := by
     refine or8 rm y z ?_ HZ.out.1 (by rw [← hy]; exact by8_lt _) hz256
     rw [← hy, by8_short _ (by have := HC.out; simp; omega)]
     have : 8 - (L.drop (8 * p)).length = rm := by have := HC.out; simp; omega
     rw [this]
     exact Nat.mul_mod_left _ _
    obtain ⟨yz, hyz⟩ : ∃ yz, y + z = yz := ⟨_, rfl⟩
    rw [hyz] at hor
    have HYZ : Hid (y + z = yz) := hyz
    clear hy hyz
    have p1 : (0 : Int) ≤ (p : Int) := by omega
    have p2 : (p : Int) < (p : Int) + 1 := by omega
    have hq0 : (w3.setCell ⟨r, p, none⟩ (.int .u8 (yz : Int))).drew.drew.cell? ⟨g, 0, none⟩ = some (.int .i64 (c : Int)) := ((Kept.refl (fun k => k = r) w3).setCell (p := ⟨r, p, none⟩) (fun _ => rfl) _).cell hm0 hgr
    have hq1 : (w3.setCell ⟨r, p, none⟩ (.int .u8 (yz : Int))).drew.drew.frozen? ⟨g, 0, none⟩ = false := (World.frozen?_of_block (Below.heap_setCell w3 ⟨r, p, none⟩ _ g hgr)).trans (HM.out.fr 0)
    have HQ0 : Hid _ := hq0
    have HQ1 : Hid _ := hq1
    have HFIN : Hid _ := HM.out.fin2 HL.out hk hqk.1 hqk.2.1 hqk.2.2 HC.out.1 HC.out.2.2.2.2.2.1 HC.out.2.2.2.2.2.2.2.1 HC.out.2.2.2.2.2.2.2.2.1 HC.out.2.2.2.2.2.2.2.2.2 HZ.out.2 HY.out HYZ.out
    have HKF : Hid (Kept (Fw g x) w' ((w3.setCell ⟨r, p, none⟩ (.int .u8 (yz : Int))).setCell ⟨g, 0, none⟩ (.int .i64 ((c : Int) + (q : Int))))) := by
     refine (HK2.out.setCell (fun hlt => ?_) _).setCell (fun _ => .inl rfl) _
     rcases HO3.out with e | e
     ·exact .inr e.symm
     ·have := e r rfl; have hlt' : r < w'.heap.size := hlt; omega
    clear hq0 hq1
    go_region_with (first | (go_at_call 92; refine (hroom _ ?_).mono ?_; (simp [*]); rintro e w' ⟨rfl, rfl⟩) | (go_at_call 91; refine (hplace _ ?_).mono ?_; (simp [*]); rintro e w' ⟨rfl, rfl⟩))
    all_goals go_wp2_with fail
    all_goals refine (hadd _ HQ0.out HQ1.out).mono ?_
    all_goals rintro e w4 ⟨rfl, rfl⟩
    all_goals go_wp2_with fail
    all_goals go_roundw
    all_goals first
     | (case rel => exact ⟨j, by have := HC.out; omega, rfl, _, HFIN.out.drew.drew, HKF.out.drew.drew, HO3.out⟩)
     | (case measure => simp [intOf]; have := HC.out; omega)
end Go.Proofs.YtdkfifnhmfbagaaGreatDoor.Bt
