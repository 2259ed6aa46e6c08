/- Contracts: the library's ParseUint in base 16; Parse, the program's and the document's. -/
import Derived.Test.YtljbnhgcfmehoaaDoorStL
import Derived.Test.YtljbnhgcfmehoaaDoorShelf3
import Derived.Lib.Walk
import Derived.Lib.ConvBytes
import Derived.Lib.AtoiAllMem
import Derived.Lib.Hide
import Derived.Laws.Strings3
import Derived.Laws.Closers25
import Derived.Laws.Closers25b
import Derived.WalkKit
import Derived.BigCall
import Derived.BigGuard
namespace Go.Proofs.YtljbnhgcfmehoaaDoor
open Go.RowKit Go.Maps Go.Shelf
set_option linter.unusedVariables false
set_option linter.unusedSimpArgs false

theorem hk_get (n : Nat) : ∀ (m k : Nat), k < m → (hk n m)[k]? = some (dg (n / 16 ^ (m - 1 - k) % 16))
  | 0, k, h => by omega
  | m + 1, 0, h => rfl
  | m + 1, k + 1, h => by
    rw [hk, List.getElem?_cons_succ, hk_get n m k (by omega), show m + 1 - 1 - (k + 1) = m - 1 - k by omega]
theorem hx_size (u : Nat) : (hx u).size = 16 := by unfold hx; rw [tx_size, hk_length]
theorem hx_byte {t : ByteArray} {u : Nat} (h : t = hx u) {k : Nat} (hk16 : k < 16) {c : UInt8} (hc : t.data.toList[k]? = some c) : c.toNat = dg (u / 16 ^ (15 - k) % 16) := by
  subst h
  have h1 := hk_get u 16 k hk16
  have h2 : (hx u).data.toList[k]? = ((hk u 16).map UInt8.ofNat)[k]? := by simp [hx, tx]
  rw [h2, List.getElem?_map, h1] at hc
  have := dg_lt (u / 16 ^ (15 - k) % 16) (by omega)
  simp at hc
  rw [← hc, UInt8.toNat_ofNat']
  omega
theorem digit_facts : ∀ d : Fin 16, (48 ≤ dg d.1 ∧ dg d.1 ≤ 57 → d.1 = dg d.1 - 48) ∧ (¬ (48 ≤ dg d.1 ∧ dg d.1 ≤ 57) → 97 ≤ (dg d.1 ||| 32) ∧ (dg d.1 ||| 32) ≤ 102 ∧ d.1 = (dg d.1 ||| 32) - 87) := by decide
theorem digit_of {c d : Nat} (hd : d < 16) (h : c = dg d) : (48 ≤ c ∧ c ≤ 57 → d = c - 48) ∧ (¬ (48 ≤ c ∧ c ≤ 57) → 97 ≤ (c ||| 32) ∧ (c ||| 32) ≤ 102 ∧ d = (c ||| 32) - 87) := by
  subst h
  exact digit_facts ⟨d, hd⟩
/- What has been read of a set's digits. -/
def Seen (t : ByteArray) (k acc : Nat) : Prop := ∀ u, u < 18446744073709551616 → t = hx u → acc = u / 16 ^ (16 - k)
theorem Seen.start (t : ByteArray) : Seen t 0 0 := fun u hu _ => (Nat.div_eq_of_lt hu).symm
theorem Seen.end' {t : ByteArray} {acc : Nat} (h : Seen t t.size acc) : ∀ u, u < 18446744073709551616 → t = hx u → acc = u := fun u hu e => by
  have h1 := h u hu e
  rw [e, hx_size] at h1
  simpa using h1
theorem Seen.step {t : ByteArray} {k acc d : Nat} {c : UInt8} (h : Seen t k acc) (hc : t.data.toList[k]? = some c) (hd : ∀ e, e < 16 → c.toNat = dg e → d = e) : Seen t (k + 1) (acc * 16 + d) := fun u hu e => by
  have hk : k < 16 := by
    have h1 := hx_size u
    rw [← e] at h1
    rcases Nat.lt_or_ge k t.data.toList.length with h2 | h2
    · have h3 : t.data.toList.length = t.size := by show t.data.toList.length = t.data.size; exact Array.length_toList
      omega
    · rw [List.getElem?_eq_none h2] at hc; cases hc
  have h1 := h u hu e
  have h2 := hx_byte e hk hc
  have h3 := hd _ (by omega) h2
  have h4 : u / 16 ^ (16 - k) = u / 16 ^ (15 - k) / 16 := by rw [show 16 - k = (15 - k) + 1 by omega, Nat.pow_succ, Nat.div_div_eq_div_mul]
  rw [show 16 - (k + 1) = 15 - k by omega, h1, h4, h3]
  omega
theorem Seen.small {t : ByteArray} {k acc : Nat} (h : Seen t k acc) (hk : k < t.size) (hacc : 1152921504606846976 ≤ acc) : ∀ u, u < 18446744073709551616 → t ≠ hx u := fun u hu e => by
  have h1 := h u hu e
  have hs := hx_size u
  rw [← e] at hs
  have h2 : u / 16 ^ (16 - k) < 16 ^ k := by
    rw [Nat.div_lt_iff_lt_mul (Nat.pow_pos (by omega)), ← Nat.pow_add, show k + (16 - k) = 16 by omega]
    exact hu
  have h3 : 16 ^ k ≤ 16 ^ 15 := Nat.pow_le_pow_right (by omega) (by omega)
  omega
theorem no_digit {t : ByteArray} {k : Nat} {c : UInt8} (hk : k < t.size) (hc : t.data.toList[k]? = some c) (hd : ∀ e, e < 16 → c.toNat ≠ dg e) : ∀ u, u < 18446744073709551616 → t ≠ hx u := fun u hu e => by
  have hs := hx_size u
  rw [← e] at hs
  exact hd _ (by omega) (hx_byte e (by omega) hc)
/- The library's inner answer. -/
def IpP (t : ByteArray) (e : Ending) : Prop :=
  (∃ x : Nat, x < 18446744073709551616 ∧ e = .returned (.tuple #[.int .u64 (x : Int), .nilIface]) ∧ ∀ u, u < 18446744073709551616 → t = hx u → x = u) ∨
  (∃ x k : Int, (k = 1 ∨ k = 2) ∧ e = .returned (.tuple #[.int .u64 x, .iface 83 (.int .i64 k)]) ∧ ∀ u, u < 18446744073709551616 → t ≠ hx u)
theorem low_any (c l : Nat) (hc : c < 256) (hl : (c ||| 32) = l) (w : World) : Calls Tryd.prog 63 #[.int .u8 (c : Int)] w fun e w' => e = .returned (.int .u8 (l : Int)) ∧ w' = w := by
  have h := Any.internal_strconv_lower Tryd.lays321 (c : Int) w
  have h2 : bits .or .u8 (c : Int) 32 = (l : Int) := by
    have := u8_or_nat c 32 hc (by decide)
    rw [hl] at this
    exact this
  rw [h2] at h
  exact h
set_option maxHeartbeats 8000000 in
set_option maxRecDepth 100000 in
theorem ipu_any (t : ByteArray) (hmax : t.size ≤ 140737488351232) (w : World) :
    Calls Tryd.prog 52 #[.string t, .int .i64 16, .int .i64 64] w fun e w' => IpP t e ∧ Below w.heap.size w w' := by
  by_cases hne : t.size = 0
  · have hte : t = ⟨#[]⟩ := by
      obtain ⟨d⟩ := t
      have : d = #[] := Array.eq_empty_of_size_eq_zero hne
      rw [this]
    have HNO : Hid (∀ u, u < 18446744073709551616 → t ≠ hx u) := fun u _ e => by
      have := hx_size u
      rw [← e, hne] at this
      omega
    have hemp : t.toList.isEmpty = true := by
      rw [← decide_eq_emptyBytes]
      exact decide_eq_true hte
    clear hte
    go_enter Tryd.func52, Tryd.ntmps52
    go_wp2_with fail
    go_ret2
    exact ⟨.inr ⟨_, 2, .inr rfl, rfl, HNO.out⟩, Below.refl _ _⟩
  · have hemp : t.toList.isEmpty = false := by
      rw [← decide_eq_emptyBytes]
      exact decide_eq_false (fun h => hne (by rw [h]; rfl))
    have hcv := Lib.run_convert_string_bytes (P := Tryd.prog) w 9 62 5 t (u := .string) Tryd.underlying9 Tryd.underlying62 Tryd.underlying5
    have hB : ∀ j, j < t.size → (Lib.bytesWorld w 5 t).cell? ⟨w.heap.size, j, none⟩ = some (.int .u8 (t.data.toList.getD j 0).toNat) := fun j hj => Lib.bytesWorld_cell w 5 t j hj
    have hBel : Below w.heap.size w (Lib.bytesWorld w 5 t) := Lib.bytesWorld_below w 5 t
    obtain ⟨W1, hW1⟩ : ∃ W1, W1 = Lib.bytesWorld w 5 t := ⟨_, rfl⟩
    rw [← hW1] at hcv hB hBel
    clear hW1
    obtain ⟨n, hn⟩ : ∃ n, t.size = n := ⟨_, rfl⟩
    have hmv : IntKind.u64.wrap (IntKind.u64.wrap 18446744073709551616 - 1) = 18446744073709551615 := by
      rw [IntKind.wrap_u64, IntKind.wrap_u64]
      decide
    go_enter Tryd.func52, Tryd.ntmps52
    go_wp2_with fail
    go_loop [12, 13, 101] (fun vu vn vi => ∃ (k acc : Nat) (a : Int), vu = .bool false ∧ vn = .int .u64 a ∧ vi = .int .i64 k ∧ k ≤ n ∧ Hid (a = (acc : Int) ∧ acc < 18446744073709551616 ∧ Seen t k acc)) (fun _ _ vi => n - (intOf vi).toNat)
    case atStart => exact ⟨0, 0, 0, rfl, rfl, rfl, by omega, rfl, by omega, Seen.start t⟩
    case round =>
      obtain ⟨k, acc, a, rfl, rfl, rfl, hk, hh⟩ := hrel
      obtain ⟨ha, hacc, hseen⟩ := hh.out
      clear hh
      have a0 : 0 ≤ a := by omega
      have a1 : a < 18446744073709551616 := by omega
      by_cases hkn : k < n
      · have hc := hB k (by omega)
        have hlen : t.data.toList.length = t.size := by show t.data.toList.length = t.data.size; exact Array.length_toList
        have hget : t.data.toList[k]? = some (t.data.toList.getD k 0) := by rw [List.getD_eq_getElem?_getD, List.getElem?_eq_getElem (by omega)]; rfl
        generalize t.data.toList.getD k 0 = c at hc hget
        have hc256 : c.toNat < 256 := c.toNat_lt
        have HNX : Hid (∀ d, (∀ e, e < 16 → c.toNat = dg e → d = e) → Seen t (k + 1) (acc * 16 + d)) := fun d hd => hseen.step hget hd
        have HBIG : Hid (1152921504606846976 ≤ acc → ∀ u, u < 18446744073709551616 → t ≠ hx u) := hseen.small (by omega)
        have HBAD : Hid ((∀ e, e < 16 → c.toNat ≠ dg e) → ∀ u, u < 18446744073709551616 → t ≠ hx u) := no_digit (by omega) hget
        have HDG : Hid (∀ e, e < 16 → c.toNat = dg e → (48 ≤ c.toNat ∧ c.toNat ≤ 57 → e = c.toNat - 48) ∧ (¬ (48 ≤ c.toNat ∧ c.toNat ≤ 57) → 97 ≤ (c.toNat ||| 32) ∧ (c.toNat ||| 32) ≤ 102 ∧ e = (c.toNat ||| 32) - 87)) := fun e he h => digit_of he h
        obtain ⟨l, hl⟩ : ∃ l, (c.toNat ||| 32) = l := ⟨_, rfl⟩
        have hlow := low_any c.toNat l hc256 hl
        rw [hl] at HDG
        have hl256 : l < 256 := by rw [← hl]; exact Nat.or_lt_two_pow (n := 8) hc256 (by decide)
        generalize c.toNat = C at *
        have HL : Hid ((C ||| 32) = l) := hl
        clear hB hget hseen hl hlen c
        by_cases hdig : 48 ≤ C ∧ C ≤ 57
        · obtain ⟨hd0, hd1⟩ := hdig
          by_cases hcut : 1152921504606846976 ≤ acc
          · have icut : 1152921504606846976 ≤ a := by omega
            have HNO : Hid _ := HBIG.out hcut
            clear hcut hacc ha hlow hcv
            go_wp2_with fail
            go_ret2
            exact ⟨.inr ⟨_, 1, .inl rfl, rfl, HNO.out⟩, hBel⟩
          · have HN : Hid (a * 16 + ((C : Int) - 48) = ((acc * 16 + (C - 48) : Nat) : Int) ∧ acc * 16 + (C - 48) < 18446744073709551616 ∧ Seen t (k + 1) (acc * 16 + (C - 48))) := ⟨by omega, by omega, HNX.out _ (fun e he h => ((HDG.out e he h).1 ⟨hd0, hd1⟩).symm)⟩
            have icut : a < 1152921504606846976 := by omega
            have iov : a * 16 + ((C : Int) - 48) < 18446744073709551616 := by omega
            clear hcut hacc ha hlow hcv
            go_wp2_with fail
            refine ⟨⟨k + 1, acc * 16 + (C - 48), a * 16 + ((C : Int) - 48), rfl, (by first | rfl | (congr 1; omega)), (by first | rfl | (congr 1; omega)), by omega, HN⟩, by simp [intOf]; omega⟩
        · have HNO1 : Hid (¬ (97 ≤ l ∧ l ≤ 102) → ∀ u, u < 18446744073709551616 → t ≠ hx u) := fun h => HBAD.out (fun e he hce => h ⟨((HDG.out e he hce).2 hdig).1, ((HDG.out e he hce).2 hdig).2.1⟩)
          have HD2 : Hid (∀ e, e < 16 → C = dg e → l - 87 = e) := fun e he hce => (((HDG.out e he hce).2 hdig).2.2).symm
          by_cases h95 : C = 95
          · subst h95
            obtain rfl : l = 127 := by have h := HL.out; rw [show (95 ||| 32 : Nat) = 127 by decide] at h; omega
            have HNO : Hid _ := HNO1.out (by omega)
            clear ha hacc hcv hdig
            go_wp2_with (go_at_call 63; refine (hlow _).mono ?_; rintro e w' ⟨rfl, rfl⟩)
            go_ret2
            exact ⟨.inr ⟨_, 2, .inr rfl, rfl, HNO.out⟩, hBel⟩
          · have h95b : ((C : Int) == 95) = false := by simp; omega
            by_cases h48 : C < 48
            · have h48b : ¬ (48 : Int) ≤ (C : Int) := by omega
              have hl97 : l < 97 := by
                have h1 := HL.out
                have : C ||| 32 < 2 ^ 6 := Nat.or_lt_two_pow (by omega) (by decide)
                omega
              have hl97b : ¬ (97 : Int) ≤ (l : Int) := by omega
              have HNO : Hid _ := HNO1.out (by omega)
              clear ha hacc hcv hdig h95 h48 hl97
              go_wp2_with (go_at_call 63; refine (hlow _).mono ?_; rintro e w' ⟨rfl, rfl⟩)
              go_ret2
              exact ⟨.inr ⟨_, 2, .inr rfl, rfl, HNO.out⟩, hBel⟩
            · have h48b : (48 : Int) ≤ (C : Int) := by omega
              have h57b : ¬ (C : Int) ≤ 57 := by omega
              by_cases hl97 : l < 97
              · have hl97b : ¬ (97 : Int) ≤ (l : Int) := by omega
                have HNO : Hid _ := HNO1.out (by omega)
                clear ha hacc hcv hdig h95 h48 hl97
                go_wp2_with (go_at_call 63; refine (hlow _).mono ?_; rintro e w' ⟨rfl, rfl⟩)
                go_ret2
                exact ⟨.inr ⟨_, 2, .inr rfl, rfl, HNO.out⟩, hBel⟩
              · have hl97b : (97 : Int) ≤ (l : Int) := by omega
                by_cases hl122 : 122 < l
                · have hl122b : ¬ (l : Int) ≤ 122 := by omega
                  have HNO : Hid _ := HNO1.out (by omega)
                  clear ha hacc hcv hdig h95 h48 hl97 hl122
                  go_wp2_with (go_at_call 63; refine (hlow _).mono ?_; rintro e w' ⟨rfl, rfl⟩)
                  go_ret2
                  exact ⟨.inr ⟨_, 2, .inr rfl, rfl, HNO.out⟩, hBel⟩
                · have hl122b : (l : Int) ≤ 122 := by omega
                  obtain ⟨D, hD⟩ : ∃ D : Int, (l : Int) - 87 = D := ⟨_, rfl⟩
                  have hw1 : IntKind.u8.wrap ((l : Int) - 97) = (l : Int) - 97 := by rw [IntKind.wrap_u8']; omega
                  have hw2 : IntKind.u8.wrap ((l : Int) - 97 + 10) = D := by rw [IntKind.wrap_u8']; omega
                  have hw3 : (l : Int) - 97 + 10 = D := by omega
                  by_cases hl102 : 102 < l
                  · have hD16 : (16 : Int) ≤ D := by omega
                    have HNO : Hid _ := HNO1.out (by omega)
                    clear ha hacc hcv hdig h95 h48 hl97 hl122 hl102 hD
                    go_wp2_with (go_at_call 63; refine (hlow _).mono ?_; rintro e w' ⟨rfl, rfl⟩)
                    go_ret2
                    exact ⟨.inr ⟨_, 2, .inr rfl, rfl, HNO.out⟩, hBel⟩
                  · have hD16 : ¬ (16 : Int) ≤ D := by omega
                    have hD0 : 0 ≤ D := by omega
                    by_cases hcut : 1152921504606846976 ≤ acc
                    · have icut : 1152921504606846976 ≤ a := by omega
                      have HNO : Hid _ := HBIG.out hcut
                      clear ha hacc hcv hdig h95 h48 hl97 hl122 hl102 hD hcut
                      go_wp2_with (go_at_call 63; refine (hlow _).mono ?_; rintro e w' ⟨rfl, rfl⟩)
                      go_ret2
                      exact ⟨.inr ⟨_, 1, .inl rfl, rfl, HNO.out⟩, hBel⟩
                    · have HN : Hid (a * 16 + D = ((acc * 16 + (l - 87) : Nat) : Int) ∧ acc * 16 + (l - 87) < 18446744073709551616 ∧ Seen t (k + 1) (acc * 16 + (l - 87))) := ⟨by omega, by omega, HNX.out _ HD2.out⟩
                      have icut : a < 1152921504606846976 := by omega
                      have iov : a * 16 + D < 18446744073709551616 := by omega
                      clear ha hacc hcv hdig h95 h48 hl97 hl122 hl102 hD hcut
                      go_wp2_with (go_at_call 63; refine (hlow _).mono ?_; rintro e w' ⟨rfl, rfl⟩)
                      refine ⟨⟨k + 1, acc * 16 + (l - 87), a * 16 + D, rfl, (by first | rfl | (congr 1; omega)), (by first | rfl | (congr 1; omega)), by omega, HN⟩, by simp [intOf]; omega⟩
      · have hkk : n = k := by omega
        subst hkk
        have HE : Hid (∀ u, u < 18446744073709551616 → t = hx u → acc = u) := by
          rw [← hn] at hseen
          exact hseen.end'
        have HACC : Hid (acc < 18446744073709551616) := hacc
        subst ha
        clear hB hcv hseen hacc a0 a1
        go_wp2_with fail
        go_ret2
        exact ⟨.inl ⟨acc, HACC.out, rfl, HE.out⟩, hBel⟩
end Go.Proofs.YtljbnhgcfmehoaaDoor
