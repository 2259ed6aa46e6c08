/- Contracts: the library's formatBits and FormatUint in base 16; Hex. -/
import Derived.Test.YtljbnhgcfmehoaaDoorStH
namespace Go.Proofs.YtljbnhgcfmehoaaDoor
open Go.RowKit Go.Maps Go.Shelf
set_option linter.unusedVariables false
set_option linter.unusedSimpArgs false

def uN (l : List Nat) : List Value := l.map fun n : Nat => Value.int .u8 (n : Int)
/- The last k of 65 cells are these. -/
structure Tail (c : Array Value) (k : Nat) (l : List Nat) : Prop where
  size : c.size = 65
  le : k ≤ 65
  len : l.length = k
  drop : c.toList.drop (65 - k) = uN l
theorem Tail.start : Tail (Array.replicate 65 (.int .u8 0)) 0 [] := ⟨by simp, by omega, rfl, by simp [uN]⟩
theorem drop_set {l : List Value} {i : Nat} (h : i < l.length) (v : Value) : (l.set i v).drop i = v :: l.drop (i + 1) := by
  rw [List.drop_eq_getElem_cons (by simpa using h)]
  simp [List.drop_set]
theorem Tail.more {c : Array Value} {k : Nat} {l : List Nat} (h : Tail c k l) (hk : k < 65) (d : Nat) : Tail (c.setIfInBounds (65 - (k + 1)) (.int .u8 (d : Int))) (k + 1) (d :: l) := by
  refine ⟨by simp [h.size], by omega, by simp [h.len], ?_⟩
  have h1 : c.toList.length = 65 := by simp [h.size]
  rw [Array.toList_setIfInBounds, drop_set (by omega), show 65 - (k + 1) + 1 = 65 - k by omega, h.drop]
  rfl
theorem Tail.cell {c : Array Value} {k : Nat} {l : List Nat} (h : Tail c k l) (j : Nat) (hj : j < l.length) : c[65 - k + j]? = some (.int .u8 ((l[j] : Nat) : Int)) := by
  have h1 : (c.toList.drop (65 - k))[j]? = (uN l)[j]? := by rw [h.drop]
  rw [List.getElem?_drop, Array.getElem?_toList] at h1
  rw [h1]
  simp [uN, hj]
theorem conv_tail {c : Array Value} {k : Nat} {l : List Nat} (h : Tail c k l) (hlt : ∀ x ∈ l, x < 256) (w : World) (cap o : Nat) (ho : 65 - k = o) : (convert 62 9 (.slice (some ⟨w.heap.size, o, none⟩) k cap)).run Tryd.prog (w.alloc (.cells c 92)) = .ok (.string (tx l)) (w.alloc (.cells c 92)) := by
  have hc := run_convert_bytes_back (P := Tryd.prog) (w.alloc (.cells c 92)) 62 9 5 ⟨w.heap.size, o, none⟩ cap (l.map UInt8.ofNat) Tryd.underlying62 Tryd.underlying5 Tryd.underlying9 (fun j hj => by
      simp at hj
      have e : ((⟨w.heap.size, o, none⟩ : Addr).add j) = ⟨w.heap.size, o + j, none⟩ := by unfold Addr.add; split <;> simp_all
      rw [e, cell_of_row _ _ (o + j) c 92 (0, 0) (heap_alloc_last w _), ← ho, h.cell j hj]
      have hlt := hlt l[j] (List.getElem_mem hj)
      simp [UInt8.toNat_ofNat']; omega)
  rw [List.length_map, h.len] at hc
  exact hc
theorem and15 (z d : Nat) (hz : z < 18446744073709551616) (hd : z % 16 = d) : bits .and .u64 (z : Int) 15 = (d : Int) := by
  have := u64_and_nat z 15 hz (by decide)
  rw [nat_mask4, hd] at this
  exact this
/- What comes out: the number's digits, none of them too many. -/
def FbP (s : Nat) (t : ByteArray) : Prop := ∃ L, 1 ≤ L ∧ L ≤ 16 ∧ s < 16 ^ L ∧ t = tx (hk s L)
set_option maxRecDepth 100000 in
set_option maxHeartbeats 1000000 in
theorem fb_any (s : Nat) (hs : s < 18446744073709551616) (w : World) (hT : Tb w) :
    Calls Tryd.prog 57 #[.slice none 0 0, .int .u64 (s : Int), .int .i64 16, .bool false, .bool false] w fun e w' => (∃ t, e = .returned (.tuple #[.slice none 0 0, .string t]) ∧ FbP s t) ∧ Below w.heap.size w w' := by
  have hz := zero92.1
  go_enter Tryd.func57, Tryd.ntmps57
  go_wp2_with fail
  refine (pow2_any _).mono ?_
  rintro e w1 ⟨rfl, rfl⟩
  go_wp2_with fail
  refine (tzu_any _ (hT.later ((Below.refl _ w).alloc (Nat.le_refl _) _))).mono ?_
  rintro e w1 ⟨rfl, rfl⟩
  clear hz
  go_wp2_with fail
  go_loopw [1, 13] (fun u i wx => ∃ (k : Nat) (c : Array Value), k ≤ 15 ∧ u = .int .u64 ((s / 16 ^ k : Nat) : Int) ∧ i = .int .i64 (65 - (k : Int)) ∧ wx = w.alloc (.cells c 92) ∧ Tail c k (hk s k)) (fun _ i _ => (intOf i).toNat)
  case atStart => exact ⟨0, _, by omega, by simp, rfl, rfl, Tail.start⟩
  case round =>
    obtain ⟨k, c, hk15, rfl, rfl, rfl, hTl⟩ := hrel
    obtain ⟨z, hz⟩ : ∃ z, s / 16 ^ k = z := ⟨_, rfl⟩
    have hz64 : z < 18446744073709551616 := by rw [← hz]; exact Nat.lt_of_le_of_lt (Nat.div_le_self _ _) hs
    obtain ⟨d, hd⟩ : ∃ d, z % 16 = d := ⟨_, rfl⟩
    have d16 : d < 16 := by omega
    have hhk : hk s (k + 1) = dg d :: hk s k := by show dg (s / 16 ^ k % 16) :: hk s k = _; rw [hz, hd]
    obtain ⟨j, hj⟩ : ∃ j : Nat, 65 - (k + 1) = j := ⟨_, rfl⟩
    have hji : IntKind.i64.wrap (65 - (k : Int) - 1) = (j : Int) := by rw [i64_fit _ (by omega) (by omega)]; omega
    have hj65 : (j : Int) < 65 := by omega
    have hcell : ∃ v0, c[j]? = some v0 := ⟨_, Array.getElem?_eq_getElem (by rw [hTl.size]; omega)⟩
    obtain ⟨v0, hcell⟩ := hcell
    have hmore := hTl.more (by omega) (dg d)
    rw [hj, ← hhk] at hmore
    have hdg := dgs d d16
    rw [hz]
    by_cases hz16 : 16 ≤ z
    · have hzi : (16 : Int) ≤ (z : Int) := by omega
      have hk14 : k + 1 ≤ 15 := by
        rcases Nat.lt_or_ge k 15 with h | h
        · omega
        · exfalso
          obtain rfl : k = 15 := by omega
          have : s / 16 ^ 15 < 16 := by rw [Nat.div_lt_iff_lt_mul (by decide)]; simpa using hs
          omega
      have hand := and15 z d hz64 hd
      have HY : Hid (s / 16 ^ (k + 1) = z / 16) := by show s / 16 ^ (k + 1) = z / 16; rw [Nat.pow_succ, ← Nat.div_div_eq_div_mul, hz]
      have HM : Hid (Tail (c.setIfInBounds j (.int .u8 ((dg d : Nat) : Int))) (k + 1) (hk s (k + 1))) := hmore
      have HDG : Hid (_ = _) := hdg
      have HJ : Hid (65 - (k + 1) = j) := hj
      clear hz hd hhk hj hTl hmore hdg
      go_wp2_with fail
      go_roundw
      case rel =>
        have hj := HJ.out
        exact ⟨k + 1, _, hk14, by rw [HY.out]; go_num, by go_num, by rw [dgs d d16], HM.out⟩
      case measure => have hj := HJ.out; simp [intOf]; omega
    · have hzi : ¬ (16 : Int) ≤ (z : Int) := by omega
      obtain rfl : z = d := by omega
      have HP : Hid (FbP s (tx (hk s (k + 1)))) := ⟨k + 1, by omega, by omega, by
        have h1 : s / 16 ^ k < 16 := by rw [hz]; exact d16
        rw [Nat.div_lt_iff_lt_mul (Nat.pow_pos (by omega))] at h1
        rw [Nat.pow_succ, Nat.mul_comm]
        exact h1, rfl⟩
      have hcv := fun cap => conv_tail hmore (hk_lt s (k + 1)) w cap j hj
      have HJ : Hid (65 - (k + 1) = j) := hj
      have hsl1 : 65 - j = k + 1 := by omega
      have hB : Below w.heap.size w (w.alloc (.cells (c.setIfInBounds j (.int .u8 ((dg z : Nat) : Int))) 92)) := (Below.refl _ w).alloc (Nat.le_refl _) _
      clear hz hd hhk hj hTl hmore
      go_upto_region 30 with (fail)
      generalize c.setIfInBounds j (.int .u8 ((dg z : Nat) : Int)) = c2 at *
      clear hji hcell
      have hjle : (j : Int) ≤ 65 := by omega
      go_wp2_with fail
      go_ret2
      exact ⟨⟨_, rfl, HP.out⟩, hB⟩
set_option maxHeartbeats 400000 in
theorem ifu_any (s : Nat) (hs : s < 18446744073709551616) (w : World) (hT : Tb w) :
    Calls Tryd.prog 45 #[.int .u64 (s : Int), .int .i64 16] w fun e w' => (∃ t, e = .returned (.string t) ∧ FbP s t) ∧ Below w.heap.size w w' := by
  go_enter Tryd.func45, Tryd.ntmps45
  go_wp2_with fail
  refine (fb_any s hs _ hT).mono ?_
  rintro e w1 ⟨⟨t, rfl, ht⟩, hb⟩
  go_wp2_with fail
  go_ret
  exact ⟨⟨t, rfl, ht⟩, hb⟩
set_option maxHeartbeats 400000 in
theorem fu_any (s : Nat) (hs : s < 18446744073709551616) (w : World) (hT : Tb w) :
    Calls Tryd.prog 40 #[.int .u64 (s : Int), .int .i64 16] w fun e w' => (∃ t, e = .returned (.string t) ∧ FbP s t) ∧ Below w.heap.size w w' := by
  go_enter Tryd.func40, Tryd.ntmps40
  go_wp2_with fail
  refine (ifu_any s hs _ hT).mono ?_
  rintro e w1 ⟨⟨t, rfl, ht⟩, hb⟩
  go_wp2_with fail
  go_ret
  exact ⟨⟨t, rfl, ht⟩, hb⟩
theorem rep_nought (c : Nat) : (⟨(Lib.repeatL (⟨#[48]⟩ : ByteArray).data.toList c).toArray⟩ : ByteArray) = tx (List.replicate c 48) := by
  have h : ∀ c, Lib.repeatL (⟨#[48]⟩ : ByteArray).data.toList c = (List.replicate c 48).map UInt8.ofNat := by
    intro c
    induction c with
    | zero => rfl
    | succ c ih => rw [List.replicate_succ, List.map_cons, ← ih]; rfl
  unfold tx
  rw [h]
theorem rep_any (c : Nat) (hc : c ≤ 16) (w : World) : Calls Tryd.prog 41 #[.string ⟨#[48]⟩, .int .i64 (c : Int)] w fun e w' => e = .returned (.string (tx (List.replicate c 48))) ∧ Below w.heap.size w w' := by
  have := Any.strings_Repeat Tryd.lays105 Tryd.Builder_Extra_105 ⟨#[48]⟩ c w (by omega) (by show 1 * c ≤ _; omega)
  rw [rep_nought] at this
  exact this
set_option maxHeartbeats 400000 in
theorem hex_any (s : Nat) (hs : s < 18446744073709551616) (w : World) (hT : Tb w) :
    Calls Tryd.prog 28 #[.int .u64 (s : Int)] w fun e w' => e = .returned (.string (hx s)) ∧ Below w.heap.size w w' := by
  go_enter Tryd.func28, Tryd.ntmps28
  go_wp2_with fail
  refine (fu_any s hs _ hT).mono ?_
  rintro e w1 ⟨⟨t, rfl, L, h1, h2, h3, rfl⟩, hb⟩
  have hsz : (tx (hk s L)).size = L := by rw [tx_size, hk_length]
  have HX : Hid (hx s = tx (List.replicate (16 - L) 48) ++ tx (hk s L)) := by
    show hx s = _
    unfold hx
    rw [tx_append, ← hk_more s L h3, show L + (16 - L) = 16 by omega]
  have hrep := rep_any (16 - L) (by omega) w1
  have hci : IntKind.i64.wrap (16 - (L : Int)) = ((16 - L : Nat) : Int) := by rw [i64_fit _ (by omega) (by omega)]; omega
  have hrs : (tx (List.replicate (16 - L) 48)).size = 16 - L := by rw [tx_size, List.length_replicate]
  generalize tx (hk s L) = T at *
  generalize tx (List.replicate (16 - L) 48) = R at *
  have hcm : ¬ 9223372036854775807 < R.size + T.size := by omega
  obtain ⟨C, hC⟩ : ∃ C, 16 - L = C := ⟨_, rfl⟩
  rw [hC] at hci hrep hrs
  have HC : Hid (16 - L = C) := hC
  clear hC
  have hci2 : (16 : Int) - (L : Int) = (C : Int) := by have := HC.out; omega
  go_wp2_with fail
  refine hrep.mono ?_
  rintro e w2 ⟨rfl, hb2⟩
  clear hrep hci hci2
  go_wp2_with fail
  go_ret
  exact ⟨ret_str HX.out.symm, hb.trans (hb2.mono hb.size)⟩
end Go.Proofs.YtljbnhgcfmehoaaDoor
