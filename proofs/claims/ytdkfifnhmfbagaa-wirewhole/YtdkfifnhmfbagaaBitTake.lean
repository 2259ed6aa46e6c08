/- Contract: Take, Left, Done of a reader. -/
import Derived.Test.YtdkfifnhmfbagaaBitK
import Derived.Deep.RegionWith
import Derived.Deep.DrawnRows
namespace Go.Proofs.Ytdkfifnhmfbagaa.Bt
open Go.RowKit Go.Maps
set_option linter.unusedVariables false
attribute [local go_sem ↓] Go.wp_at_zero Go.wp_at_succ

theorem wrap_fit (x : Int) (h1 : -9223372036854775808 ≤ x) (h2 : x ≤ 9223372036854775807) : IntKind.i64.wrap x = x := by simp [IntKind.wrap, IntKind.bits, IntKind.signed]; omega
/- The bytes of a text, as numbers. -/
def bys (s : ByteArray) : List Nat := s.data.toList.map fun b => b.toNat
theorem bys_length (s : ByteArray) : (bys s).length = s.size := by simp [bys]
/- A reader in memory: at place c of the text s. -/
structure Rr (w : World) (g : Nat) (c : Nat) (s : ByteArray) : Prop where
  blk : w.heap[g]? = some (.cells #[.int .i64 (c : Int), .string s] 96)
  le : c ≤ 8 * s.size
theorem Rr.c0 {w : World} {g c : Nat} {s : ByteArray} (h : Rr w g c s) : w.cell? ⟨g, 0, none⟩ = some (.int .i64 (c : Int)) := by simp [World.cell?, h.blk]
theorem Rr.c1 {w : World} {g c : Nat} {s : ByteArray} (h : Rr w g c s) : w.cell? ⟨g, 1, none⟩ = some (.string s) := by simp [World.cell?, h.blk]
theorem Rr.fr {w : World} {g c : Nat} {s : ByteArray} (h : Rr w g c s) (j : Nat) : w.frozen? ⟨g, j, none⟩ = false := by simp [World.frozen?, h.blk]
theorem Rr.drew {w : World} {g c : Nat} {s : ByteArray} (h : Rr w g c s) : Rr w.drew g c s := ⟨h.blk, h.le⟩
theorem Rr.kept {w w' : World} {g c : Nat} {s : ByteArray} (h : Rr w g c s) {F : Nat → Prop} (hk : Kept F w w') (hF : ¬ F g) : Rr w' g c s :=
  ⟨(hk.block g (Array.getElem?_eq_some_iff.1 h.blk).1 hF).trans h.blk, h.le⟩
theorem Rr.new (w : World) (s : ByteArray) : Rr (w.alloc (.cells #[.int .i64 0, .string s] 96)) w.heap.size 0 s := ⟨heap_alloc_new w _, Nat.zero_le _⟩
theorem Rr.step {w : World} {g c : Nat} {s : ByteArray} (h : Rr w g c s) (q : Nat) (hq : c + q ≤ 8 * s.size) : Rr (w.setCell ⟨g, 0, none⟩ (.int .i64 ((c : Int) + (q : Int)))) g (c + q) s := by
  refine ⟨?_, hq⟩
  rw [blk_set h.blk]
  simp
theorem or64 (q V2 t : Nat) (h0 : V2 % 2 ^ q = 0) (ht : t < 2 ^ q) (h1 : V2 < 18446744073709551616) (h2 : t < 18446744073709551616) : bits .or .u64 (V2 : Int) (t : Int) = ((V2 + t : Nat) : Int) := by
  rw [u64_or_nat V2 t h1 h2, nat_join q V2 t h0 ht]
theorem bys_get (s : ByteArray) (p : Nat) (h : p < s.size) : (bys s)[p]'(by rw [bys_length]; exact h) = (s[p]'h).toNat := by
  simp [bys]; rfl
/- A round of Take. -/
theorem take_round (s : ByteArray) (c n k q a p d : Nat) (ha : c + (n - k) = a) (hp : a / 8 = p) (hq : q ≤ 8 - a % 8) (hd : 8 - a % 8 - q = d) (hqk : q ≤ k) (hk : k ≤ n) (hn : c + n ≤ 8 * s.size) (hps : p < s.size) :
    bv (((tb (bys s)).drop c).take (n - (k - q))) = bv (((tb (bys s)).drop c).take (n - k)) * 2 ^ q + (s[p]'hps).toNat / 2 ^ d % 2 ^ q := by
  have e : ((tb (bys s)).drop c).take (n - (k - q)) = ((tb (bys s)).drop c).take (n - k) ++ ((tb (bys s)).drop a).take q := by
    rw [show n - (k - q) = (n - k) + q by omega, List.take_add, List.drop_drop, ha]
  have hl : (((tb (bys s)).drop a).take q).length = q := by simp [bys_length]; omega
  rw [e, bv_append, hl]
  have := tb_part (bys s) a q hq (by rw [bys_length, hp]; exact hps)
  rw [this, hd]
  subst hp
  rw [bys_get s (a / 8) hps]
theorem left_any (g c : Nat) (s : ByteArray) (w : World) (h : Rr w g c s) (hs : s.size < 1125899906842624) : Calls Try.prog 83 #[.pointer (some ⟨g, 0, none⟩)] w fun e w' => e = .returned (.int .i64 ((8 * s.size - c : Nat) : Int)) ∧ w' = w.drew := by
  have h0 := h.c0
  have h1 := h.c1
  have hle := h.le
  obtain ⟨m, hm⟩ : ∃ m, s.size = m := ⟨_, rfl⟩
  rw [hm] at hle hs
  rw [hm]
  go_enter Try.func83, Try.ntmps83
  go_wp2_with fail
  go_region_held3 (fun w' => w'.cell? ⟨g, 0, none⟩ = some (.int .i64 (c : Int)) ∧ w'.cell? ⟨g, 1, none⟩ = some (.string s)) (go_keep) (fail)
  go_wp2
  go_ret
  exact ⟨ret_int (by rw [wrap_fit ((m : Int) * 8) (by omega) (by omega), wrap_fit _ (by omega) (by omega)]; omega), rfl⟩
/- What a row of bits has left: is it done? -/
def dn (l : List Bool) (c : Nat) : Bool := decide (l.length - c < 8) && decide (bv (l.drop c) = 0)
theorem take_no (g c : Nat) (s : ByteArray) (n : Int) (w : World) (h : Rr w g c s) (hs : s.size < 1125899906842624) (hn : ¬ (Gw n ∧ n ≤ ((8 * s.size - c : Nat) : Int))) :
    Calls Try.prog 74 #[.pointer (some ⟨g, 0, none⟩), .int .i64 n] w fun e w' => e = .returned (.tuple #[.int .u64 0, .int .i64 6]) ∧ (w' = w ∨ w' = w.drew) := by
  by_cases hg : Gw n
  · have hgw := gw_yes hg
    have hl := left_any g c s w h hs
    obtain ⟨m, hm⟩ : ∃ m, 8 * s.size - c = m := ⟨_, rfl⟩
    rw [hm] at hn hl
    have hlt : (m : Int) < n := by
      rcases Int.lt_or_le (m : Int) n with h | h
      · exact h
      · exact absurd ⟨hg, h⟩ hn
    clear hn hm
    go_enter Try.func74, Try.ntmps74
    go_wp2_with fail
    refine (goodWidth_any n _).mono ?_
    rintro e w1 ⟨rfl, rfl⟩
    rw [hgw]
    go_wp2_with fail
    refine hl.mono ?_
    rintro e w2 ⟨rfl, rfl⟩
    go_wp2
    go_ret2
    exact ⟨rfl, .inr rfl⟩
  · have hgw := gw_no hg
    clear hn
    go_enter Try.func74, Try.ntmps74
    go_wp2_with fail
    refine (goodWidth_any n _).mono ?_
    rintro e w1 ⟨rfl, rfl⟩
    rw [hgw]
    go_wp2
    go_ret2
    exact ⟨rfl, .inl rfl⟩
set_option maxHeartbeats 2000000 in
set_option maxRecDepth 100000 in
theorem take_yes (g c n : Nat) (s : ByteArray) (w : World) (h : Rr w g c s) (hs : s.size < 1125899906842624) (h1 : 1 ≤ n) (h2 : n ≤ 64) (hn : c + n ≤ 8 * s.size) :
    Calls Try.prog 74 #[.pointer (some ⟨g, 0, none⟩), .int .i64 (n : Int)] w fun e w' => e = .returned (.tuple #[.int .u64 ((bv (((tb (bys s)).drop c).take n) : Nat) : Int), .int .i64 0]) ∧ Rr w' g (c + n) s ∧ Kept (fun k => k = g) w w' := by
  have hgw : gw (n : Int) = true := by simp [gw]; omega
  have hl := left_any g c s w h hs
  obtain ⟨m, hm⟩ : ∃ m, 8 * s.size - c = m := ⟨_, rfl⟩
  rw [hm] at hl
  have hle : decide ((m : Int) < (n : Int)) = false := by simp; omega
  have hle2 : decide (m < n) = false := by simp; omega
  have hle3 : ¬ m < n := by omega
  obtain ⟨T, hT⟩ : ∃ T, tb (bys s) = T := ⟨_, rfl⟩
  rw [hT]
  have HT : Hid (tb (bys s) = T) := hT
  have HN : Hid (c + n ≤ 8 * s.size) := hn
  have HR : Hid (Rr w g c s) := h
  clear hm hT hn h
  go_enter Try.func74, Try.ntmps74
  go_wp2_with fail
  refine (goodWidth_any n _).mono ?_
  rintro e w1 ⟨rfl, rfl⟩
  rw [hgw]
  go_wp2_with fail
  refine hl.mono ?_
  rintro e w2 ⟨rfl, rfl⟩
  go_wp2_with fail
  go_loopw [1, 6] (fun i x wr => ∃ k : Nat, k ≤ n ∧ i = .int .i64 (k : Int) ∧ x = .int .u64 ((bv ((T.drop c).take (n - k)) : Nat) : Int) ∧ Rr wr g (c + (n - k)) s ∧ Kept (fun k => k = g) w1 wr) (fun i _ _ => (intOf i).toNat)
  case atStart => exact ⟨n, Nat.le_refl _, rfl, by simp [bv], by simpa using HR.out.drew, (Kept.refl _ _).drew⟩
  case round =>
    obtain ⟨k, hk, rfl, rfl, hr, hkp⟩ := hrel
    have HKP : Hid (Kept (fun k => k = g) w1 wr) := hkp
    clear hkp
    by_cases hk0 : k = 0
    · subst hk0
      have hz : decide (((0 : Nat) : Int) > 0) = false := rfl
      go_wp2
      go_ret2
      exact ⟨by simp, by simpa using hr, HKP.out⟩
    · obtain ⟨a, ha⟩ : ∃ a, c + (n - k) = a := ⟨_, rfl⟩
      obtain ⟨V, hV⟩ : ∃ V, bv ((T.drop c).take (n - k)) = V := ⟨_, rfl⟩
      rw [ha] at hr
      rw [hV]
      have hc0 := hr.c0
      have hc1 := hr.c1
      have hsz := HN.out
      obtain ⟨p, hp⟩ : ∃ p, a / 8 = p := ⟨_, rfl⟩
      have hplace := fun w0 h => place_any g a w0 (by omega) h
      rw [hp] at hplace
      obtain ⟨rm, hrm⟩ : ∃ rm, 8 - a % 8 = rm := ⟨_, rfl⟩
      have hroom := fun w0 h => room_any g a w0 (by omega) h
      rw [hrm] at hroom
      have hrm8 : 1 ≤ rm ∧ rm ≤ 8 := by omega
      obtain ⟨q, hq⟩ : ∃ q, min k rm = q := ⟨_, rfl⟩
      have hqk : 1 ≤ q ∧ q ≤ k ∧ q ≤ rm := by omega
      have hlow := fun w0 => lowest_any q (by omega) w0
      have hadd := fun w0 h f => add_any g a q w0 (by omega) h f
      have hmin : (if (rm : Int) < (k : Int) then (rm : Int) else (k : Int)) = (q : Int) := by split <;> omega
      have hmin2 : (if rm < k then (rm : Int) else (k : Int)) = (q : Int) := by split <;> omega
      obtain ⟨j, hj⟩ : ∃ j, k - q = j := ⟨_, rfl⟩
      obtain ⟨d, hd⟩ : ∃ d, rm - q = d := ⟨_, rfl⟩
      have hwd := wrap64_nat d (by omega)
      have hsub : (k : Int) - (q : Int) = (j : Int) := by omega
      have hsub2 : (rm : Int) - (q : Int) = (d : Int) := by omega
      have kpos : (0 : Int) < (k : Int) := by omega
      have hpb : p < 1125899906842624 := by omega
      have hps : p < s.size := by omega
      have p1 : (0 : Int) ≤ (p : Int) := by omega
      have p2 : (p : Int) < (s.size : Int) := by omega
      have HC : Hid (c + (n - k) = a ∧ bv ((T.drop c).take (n - k)) = V ∧ a / 8 = p ∧ 8 - a % 8 = rm ∧ min k rm = q ∧ k - q = j ∧ rm - q = d) := ⟨ha, hV, hp, hrm, hq, hj, hd⟩
      have HRr : Hid (Rr wr g a s) := hr
      obtain ⟨y, hy⟩ : ∃ y, (s[p]'hps).toNat = y := ⟨_, rfl⟩
      have hy256 : y < 256 := by rw [← hy]; exact UInt8.toNat_lt _
      have hwy : IntKind.u64.wrap ((s[p]'hps).toNat : Int) = (y : Int) := by rw [hy, IntKind.wrap_u64]; omega
      obtain ⟨t, ht⟩ : ∃ t, y / 2 ^ d % 2 ^ q = t := ⟨_, rfl⟩
      have htq : t < 2 ^ q := by rw [← ht]; exact Nat.mod_lt _ (Nat.two_pow_pos _)
      have hand : bits .and .u64 ((y : Int) / 2 ^ d) ((2 ^ q - 1 : Nat) : Int) = (t : Int) := by
        have := and64 (y / 2 ^ d) q (Nat.lt_of_le_of_lt (Nat.div_le_self _ _) (by omega)) (by omega)
        rw [ht] at this
        rw [← this]; simp
      obtain ⟨V2, hV2⟩ : ∃ V2, V * 2 ^ q = V2 := ⟨_, rfl⟩
      have hV64 : V2 < 18446744073709551616 := by
        have h := bv_lt ((T.drop c).take (n - k))
        rw [hV] at h
        have h' : V < 2 ^ (n - k) := Nat.lt_of_lt_of_le h (Nat.pow_le_pow_right (by decide) (by simp; omega))
        have h3 : V * 2 ^ q < 2 ^ (n - k) * 2 ^ q := Nat.mul_lt_mul_of_pos_right h' (Nat.two_pow_pos q)
        rw [← Nat.pow_add] at h3
        have h4 : 2 ^ (n - k + q) ≤ 2 ^ 64 := Nat.pow_le_pow_right (by decide) (by omega)
        omega
      have hshl := shl_wrap V q V2 hV2 hV64
      have ht64 : t < 18446744073709551616 := by
        have h4 : 2 ^ q ≤ 2 ^ 8 := Nat.pow_le_pow_right (by decide) (by omega)
        omega
      have hor := or64 q V2 t (by rw [← hV2]; exact Nat.mul_mod_left _ _) htq hV64 ht64
      have HV : Hid (bv ((T.drop c).take (n - j)) = V2 + t) := by
        have := take_round s c n k q a p d ha hp (by omega) (by omega) hqk.2.1 hk HN.out hps
        rw [HT.out, hj, hV, hy, ht, hV2] at this
        exact this
      obtain ⟨V3, hV3⟩ : ∃ V3, V2 + t = V3 := ⟨_, rfl⟩
      rw [hV3] at hor HV
      clear ha hV hp hrm hq hj hd hr hsz hy ht hV2 hV3 htq
      have HQ0 : Hid (wr.drew.cell? ⟨g, 0, none⟩ = some (.int .i64 (a : Int))) := hc0
      have HQ1 : Hid (wr.drew.frozen? ⟨g, 0, none⟩ = false) := HRr.out.drew.fr 0
      go_wp2_with fail
      refine (hroom _ hc0).mono ?_
      rintro e w3 ⟨rfl, rfl⟩
      go_wp2_with fail
      go_region_held3 (fun w' => w'.cell? ⟨g, 0, none⟩ = some (.int .i64 (a : Int)) ∧ w'.cell? ⟨g, 1, none⟩ = some (.string s)) (go_keep) (first | (go_at_call 68; refine (hroom _ ?_).mono ?_; (simp [*]); rintro e w' ⟨rfl, rfl⟩) | (go_at_call 67; refine (hplace _ ?_).mono ?_; (simp [*]); rintro e w' ⟨rfl, rfl⟩) | (go_at_call 69; refine (hlow _).mono ?_; rintro e w' ⟨rfl, rfl⟩))
      all_goals go_wp2_with fail
      all_goals refine (hadd _ HQ0.out HQ1.out).mono ?_
      all_goals rintro e w4 ⟨rfl, rfl⟩
      all_goals go_wp2_with fail
      all_goals go_roundw
      all_goals first
        | (case rel => exact ⟨j, by have := HC.out; omega, rfl, by rw [HV.out], by have e : c + (n - j) = a + q := (by have := HC.out; omega); rw [e]; exact (HRr.out.step q (by have := HC.out; have := HN.out; omega)).drew, (HKP.out.setCell (p := ⟨g, 0, none⟩) (fun _ => rfl) _).drew⟩)
        | (case measure => simp [intOf]; have := HC.out; omega)
end Go.Proofs.Ytdkfifnhmfbagaa.Bt
