/- Contracts: Bytes of a writer, Done of a reader. -/
import Derived.Test.YtdkfifnhmfbagaaBitTake
import Derived.BigQuiet
import Derived.Laws.IdiomStrings
namespace Go.Proofs.Ytdkfifnhmfbagaa.Bt
open Go.RowKit Go.Maps
set_option linter.unusedVariables false
attribute [local go_sem ↓] Go.wp_at_zero Go.wp_at_succ

/- A text of these bytes. -/
def tx (l : List Nat) : ByteArray := ⟨(l.map UInt8.ofNat).toArray⟩
theorem tx_size (l : List Nat) : (tx l).size = l.length := by simp [tx, ByteArray.size]
theorem bys_tx (l : List Nat) (h : ∀ x ∈ l, x < 256) : bys (tx l) = l := by
  simp only [bys, tx, List.map_map]
  conv => rhs; rw [← List.map_id l]
  apply List.map_congr_left
  intro x hx
  have := h x hx
  simp [UInt8.toNat_ofNat']; omega
theorem tx_bys (s : ByteArray) : tx (bys s) = s := by
  cases s with
  | mk d => simp [bys, tx, List.map_map, Function.comp_def]
theorem bytes_any (B g : Nat) (l : List Bool) (x : Value) (w : World) (h : Wr B w g l x) : Calls Try.prog 18 #[.pointer (some ⟨g, 0, none⟩)] w fun e w' => e = .returned (.string (tx (pk l))) ∧ w' = w := by
  have h1 := h.c1
  rcases h.row.2 with ⟨h0, hn⟩ | ⟨r, cap, cur, hv, _⟩
  · subst h0
    have hp : pk l = [] := List.length_eq_zero_iff.1 hn
    rw [hp]
    have hc : (convert 48 9 (.slice none 0 0)).run Try.prog w = .ok (.string (tx [])) w := by
      rw [run_convert_bytes_string w 48 9 5 none 0 0 Try.underlying48 Try.underlying5 Try.underlying9 ]
      rfl
    go_enter Try.func18, Try.ntmps18
    go_wp2
    go_ret
    exact ⟨rfl, rfl⟩
  · subst hv
    have hr := h.row
    have hc := run_convert_bytes_back (P := Try.prog) w 48 9 5 ⟨r, 0, none⟩ cap ((pk l).map UInt8.ofNat) Try.underlying48 Try.underlying5 Try.underlying9 (fun j hj => by
      simp at hj
      have e : ((⟨r, 0, none⟩ : Addr).add j) = ⟨r, j, none⟩ := by unfold Addr.add; split <;> simp_all
      rw [e, hr.cellAt j (by omega)]
      have hlt := pk_lt l (pk l)[j] (List.getElem_mem hj)
      simp [u8s, hj, UInt8.toNat_ofNat']; omega)
    rw [List.length_map] at hc
    have HC : Hid _ := hc
    clear hc
    generalize hm : (pk l).length = m at h1 HC
    have hc := HC.out
    clear HC hm hr
    go_enter Try.func18, Try.ntmps18
    go_wp2
    go_ret
    exact ⟨rfl, rfl⟩
theorem done_any (g c : Nat) (s : ByteArray) (w : World) (h : Rr w g c s) (hs : s.size < 1125899906842624) :
    Calls Try.prog 55 #[.pointer (some ⟨g, 0, none⟩)] w fun e w' => e = .returned (.bool (dn (tb (bys s)) c)) ∧ Below w.heap.size w w' := by
  have hl := left_any g c s w h hs
  have hle := h.le
  have hlen : (tb (bys s)).length = 8 * s.size := by rw [tb_length, bys_length]
  obtain ⟨m, hm⟩ : ∃ m, 8 * s.size - c = m := ⟨_, rfl⟩
  rw [hm] at hl
  by_cases h0 : m = 0
  · have hd : dn (tb (bys s)) c = true := by
      have : (tb (bys s)).drop c = [] := List.drop_eq_nil_of_le (by omega)
      simp only [dn, this, hlen]; simp [bv]; omega
    rw [hd]
    subst h0
    clear hm hle hlen hd
    go_enter Try.func55, Try.ntmps55
    go_wp2_with fail
    refine hl.mono ?_
    rintro e w2 ⟨rfl, rfl⟩
    go_wp2
    go_ret
    exact ⟨rfl, (Below.refl _ _).drew⟩
  · by_cases h8 : m < 8
    · obtain ⟨p, hp⟩ : ∃ p, c / 8 = p := ⟨_, rfl⟩
      have hps : p < s.size := by omega
      obtain ⟨y, hy⟩ : ∃ y, (s[p]'hps).toNat = y := ⟨_, rfl⟩
      have hy256 : y < 256 := by rw [← hy]; exact UInt8.toNat_lt _
      have hwy : IntKind.u64.wrap ((s[p]'hps).toNat : Int) = (y : Int) := by rw [hy, IntKind.wrap_u64]; omega
      obtain ⟨t, ht⟩ : ∃ t, y % 2 ^ m = t := ⟨_, rfl⟩
      have hand : bits .and .u64 (y : Int) ((2 ^ m - 1 : Nat) : Int) = (t : Int) := by rw [← ht]; exact and64 y m (by omega) (by omega)
      have hd : dn (tb (bys s)) c = decide ((t : Int) = 0) := by
        have e : bv ((tb (bys s)).drop c) = t := by
          have h1 : (tb (bys s)).drop c = ((tb (bys s)).drop c).take m := (List.take_of_length_le (by simp [bys_length]; omega)).symm
          rw [h1, tb_part (bys s) c m (by omega) (by rw [bys_length]; omega)]
          subst hp
          rw [bys_get s (c / 8) hps, hy, show 8 - c % 8 - m = 0 by omega, Nat.pow_zero, Nat.div_one, ht]
        unfold dn
        rw [e, hlen, hm]
        simp [h8]
      rw [hd]
      have hplace := fun w0 h => place_any g c w0 (by omega) h
      rw [hp] at hplace
      have hlow := fun w0 => lowest_any m (by omega) w0
      have hc0 : w.drew.cell? ⟨g, 0, none⟩ = some (.int .i64 (c : Int)) := h.c0
      have hc1 : w.drew.cell? ⟨g, 1, none⟩ = some (.string s) := h.c1
      have p1 : (0 : Int) ≤ (p : Int) := by omega
      have p2 : (p : Int) < (s.size : Int) := by omega
      have m1 : decide ((m : Int) = 0) = false := by simp; omega
      have m2 : ((m : Int) == 0) = false := by simp; omega
      have m3 : (m : Int) < 8 := by omega
      clear hm hle hlen hd hp hy ht
      go_enter Try.func55, Try.ntmps55
      go_wp2_with fail
      refine hl.mono ?_
      rintro e w2 ⟨rfl, rfl⟩
      go_wp2_with fail
      go_region_held3 (fun w' => w'.cell? ⟨g, 0, none⟩ = some (.int .i64 (c : Int)) ∧ w'.cell? ⟨g, 1, none⟩ = some (.string s)) (go_keep) (first | (go_at_call 67; refine (hplace _ ?_).mono ?_; (simp [*]); rintro e w' ⟨rfl, rfl⟩) | (go_at_call 69; refine (hlow _).mono ?_; rintro e w' ⟨rfl, rfl⟩))
      all_goals go_wp2_with fail
      all_goals go_ret
      all_goals exact ⟨ret_bool (by first | rfl | simp), (Below.refl _ _).drew.drew⟩
    · have hd : dn (tb (bys s)) c = false := by
        unfold dn
        rw [hlen, hm]
        simp [h8]
      rw [hd]
      have m1 : decide ((m : Int) = 0) = false := by simp; omega
      have m2 : ((m : Int) == 0) = false := by simp; omega
      have m3 : decide ((m : Int) < 8) = false := by simp; omega
      clear hm hle hlen hd
      go_enter Try.func55, Try.ntmps55
      go_wp2_with fail
      refine hl.mono ?_
      rintro e w2 ⟨rfl, rfl⟩
      go_wp2_with fail
      go_quiet (fail)
      go_wp2_with fail
      go_ret
      exact ⟨rfl, ⟨rfl, rfl, rfl, Nat.le_refl _, fun _ _ => rfl⟩⟩
end Go.Proofs.Ytdkfifnhmfbagaa.Bt
