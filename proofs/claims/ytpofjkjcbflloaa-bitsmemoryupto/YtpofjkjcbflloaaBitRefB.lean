/- Contracts of the document's answers: Bytes, Bits. -/
import Derived.Test.YtpofjkjcbflloaaBitRefA
namespace Go.Proofs.Ytpofjkjcbflloaa
open Go.RowKit Go.Maps
set_option linter.unusedVariables false

theorem conv_row {w : World} {B : Nat} {v : Value} {l : List Nat} {n : Nat} (hn : l.length = n) (h : w.ownsRow B 5 1 v n (u8s l)) (hlt : ∀ x ∈ l, x < 256) : (convert 38 9 v).run Try.prog w = .ok (.string (tx l)) w := by
  subst hn
  rcases h.2 with ⟨h0, hn⟩ | ⟨r, cap, cur, hv, _⟩
  · subst h0
    have hp : l = [] := List.length_eq_zero_iff.1 hn
    subst hp
    rw [run_convert_bytes_string w 38 9 5 none 0 0 Try.underlying38 Try.underlying5 Try.underlying9 ]
    rfl
  · subst hv
    have hc := run_convert_bytes_back (P := Try.prog) w 38 9 5 ⟨r, 0, none⟩ cap (l.map UInt8.ofNat) Try.underlying38 Try.underlying5 Try.underlying9 (fun j hj => by
      simp at hj
      have e : ((⟨r, 0, none⟩ : Addr).add j) = ⟨r, j, none⟩ := by unfold Addr.add; split <;> simp_all
      rw [e, h.cellAt j (by omega)]
      have hlt := hlt l[j] (List.getElem_mem hj)
      simp [u8s, hj, UInt8.toNat_ofNat']; omega)
    rw [List.length_map] at hc
    exact hc
/- The first k bits of a row, noughts behind it, as a number. -/
def pv (t : List Bool) (k : Nat) : Nat := bv (t.take k) * 2 ^ (k - min k t.length)
theorem pv_zero (t : List Bool) : pv t 0 = 0 := by simp [pv, bv]
theorem pv_eight (t : List Bool) : pv t 8 = by8 t := rfl
theorem pv_in (t : List Bool) (k : Nat) (h : k < t.length) : pv t (k + 1) = 2 * pv t k + (t[k]).toNat := by
  unfold pv
  rw [List.take_succ_eq_append_getElem h, bv_append, Nat.min_eq_left (by omega), Nat.min_eq_left (by omega)]
  simp [bv]; omega
theorem pv_out (t : List Bool) (k : Nat) (h : t.length ≤ k) : pv t (k + 1) = 2 * pv t k := by
  unfold pv
  rw [List.take_of_length_le (by omega), List.take_of_length_le h, Nat.min_eq_right (by omega), Nat.min_eq_right h, show k + 1 - t.length = (k - t.length) + 1 by omega, Nat.pow_succ]
  rw [← Nat.mul_assoc, Nat.mul_comm]
theorem pv_lt (t : List Bool) (k : Nat) : pv t k < 2 ^ k := by
  unfold pv
  have h := bv_lt (t.take k)
  rw [List.length_take] at h
  have e : 2 ^ k = 2 ^ (min k t.length) * 2 ^ (k - min k t.length) := by rw [← Nat.pow_add, show min k t.length + (k - min k t.length) = k by omega]
  rw [e]
  exact Nat.mul_lt_mul_of_pos_right h (Nat.two_pow_pos _)
theorem pv_256 (t : List Bool) (k : Nat) (h : k ≤ 7) : pv t k < 128 := Nat.lt_of_lt_of_le (pv_lt t k) (by have := Nat.pow_le_pow_right (n := 2) (by decide) h; simpa using this)
set_option maxHeartbeats 2000000 in
set_option maxRecDepth 100000 in
theorem rBytes_some (r cap n : Nat) (l : List Bool) (w : World) (hn : l.length = n) (hl : n ≤ 1099511627776) (hc : ∀ j, j < n → w.cell? ⟨r, j, none⟩ = some (.int .u8 ((l.getD j false).toNat : Int))) :
    Calls Try.prog 21 #[.slice (some ⟨r, 0, none⟩) n cap] w fun e w' => e = .returned (.string (tx (pk l))) ∧ Below w.heap.size w w' := by
  obtain ⟨i0, hi, hz0, hz1, hz2⟩ := info_parts info8
  have HN : Hid (l.length = n) := hn
  clear hn
  go_enter Try.func21, Try.ntmps21
  go_wp2_with fail
  go_loopw [3, 4] (fun v i wr => ∃ t : Nat, t ≤ (n + 7) / 8 ∧ i = .int .i64 ((8 * t : Nat) : Int) ∧ wr.ownsRow w.heap.size 5 1 v t (u8s (pkn l t)) ∧ Below w.heap.size w wr) (fun _ i _ => n + 8 - (intOf i).toNat)
  case atStart => exact ⟨0, by omega, rfl, World.ownsRow_nil _ _ _ _, Below.refl _ _⟩
  case round =>
    obtain ⟨t, ht, rfl, hrow, hb⟩ := hrel
    have HROW : Hid (wr.ownsRow w.heap.size 5 1 u3 t (u8s (pkn l t))) := hrow
    have HB : Hid (Below w.heap.size w wr) := hb
    clear hrow
    obtain ⟨i, hi8⟩ : ∃ i, 8 * t = i := ⟨_, rfl⟩
    have HI : Hid (8 * t = i) := hi8
    rw [hi8]
    by_cases hin : i < n
    · have i2 : (i : Int) < (n : Int) := by omega
      have hcw : ∀ j, j < n → wr.cell? ⟨r, j, none⟩ = some (.int .u8 ((l.getD j false).toNat : Int)) := fun j hj => cell_later hb (hc j hj)
      have HCW : Hid _ := hcw
      have ht2 : t ≤ 137438953473 := by omega
      clear hb hcw hc hi8
      obtain ⟨T, hT⟩ : ∃ T, l.drop i = T := ⟨_, rfl⟩
      have hTl : T.length = n - i := by rw [← hT, List.length_drop, HN.out]
      have HT : Hid (l.drop i = T ∧ T.length = n - i) := ⟨hT, hTl⟩
      clear hT hTl
      go_wp2_with fail
      go_loopw [5, 6] (fun y kk wr' => ∃ k : Nat, k ≤ 8 ∧ kk = .int .i64 (k : Int) ∧ y = .int .u8 ((pv T k : Nat) : Int) ∧ wr' = wr) (fun _ kk _ => 8 - (intOf kk).toNat)
      case atStart => exact ⟨0, by omega, rfl, by rw [pv_zero]; rfl, rfl⟩
      case round =>
        obtain ⟨k, hk, rfl, rfl, rfl⟩ := hrel
        by_cases hk8 : k < 8
        · have k8 : (k : Int) < 8 := by omega
          have hp := pv_256 T k (by omega)
          obtain ⟨y, hy⟩ : ∃ y, pv T k = y := ⟨_, rfl⟩
          have HY : Hid (pv T k = y) := hy
          rw [hy] at hp ⊢
          clear hy
          have hw2 : (y : Int) * 2 % 256 = ((2 * y : Nat) : Int) := by omega
          have hw3 : IntKind.u8.wrap ((y : Int) * 2) = ((2 * y : Nat) : Int) := by simp [IntKind.wrap, IntKind.bits, IntKind.signed]; omega
          have hni : (n : Int) - (i : Int) = ((n - i : Nat) : Int) := by omega
          by_cases hkl : k < n - i
          · have l1 : (k : Int) < ((n - i : Nat) : Int) := by omega
            obtain ⟨sx, hsx⟩ : ∃ sx, i + k = sx := ⟨_, rfl⟩
            have hik : IntKind.i64.wrap ((i : Int) + (k : Int)) = (sx : Int) := by
              have : (i : Int) + (k : Int) = (sx : Int) := by omega
              rw [this]; exact wrap64_nat sx (by omega)
            have hik2 : (0 : Int) ≤ (sx : Int) := by omega
            have hik3 : (sx : Int) < (n : Int) := by omega
            have hcell := HCW.out sx (by omega)
            have hbit : l.getD sx false = T.getD k false := by rw [← HT.out.1, ← hsx]; simp
            have HS : Hid (pv T (k + 1) = 2 * y + (T.getD k false).toNat) := by
              have hkT : k < T.length := by rw [HT.out.2]; exact hkl
              have := pv_in T k hkT
              rw [HY.out] at this
              unfold Hid
              rw [this]; simp [hkT]
            rw [hbit] at hcell
            obtain ⟨e, he⟩ : ∃ e : Nat, (T.getD k false).toNat = e := ⟨_, rfl⟩
            have he1 : e ≤ 1 := by rw [← he]; cases T.getD k false <;> simp
            rw [he] at hcell HS
            have hw4 : IntKind.u8.wrap (((2 * y : Nat) : Int) + (e : Int)) = ((2 * y + e : Nat) : Int) := by simp [IntKind.wrap, IntKind.bits, IntKind.signed]; omega
            clear hbit he hsx
            go_wp2_with fail
            go_roundw
            case rel => exact ⟨k + 1, by omega, by go_num, by rw [HS.out]; simp, by first | rfl | trivial⟩
            case measure => simp [intOf]; omega
          · have l1 : decide ((k : Int) < ((n - i : Nat) : Int)) = false := by simp; omega
            have l2 : decide (k < n - i) = false := by simp; omega
            have HS : Hid (pv T (k + 1) = 2 * y) := by
              have := pv_out T k (by rw [HT.out.2]; omega)
              rw [HY.out] at this
              exact this
            go_wp2_with fail
            go_roundw
            case rel => exact ⟨k + 1, by omega, by go_num, by rw [HS.out]; simp, by first | rfl | trivial⟩
            case measure => simp [intOf]; omega
        · obtain rfl : k = 8 := by omega
          have HP : Hid (pv T 8 = by8 (l.drop (8 * t))) := by unfold Hid; rw [pv_eight, HI.out, HT.out.1]
          obtain ⟨y, hy⟩ : ∃ y, pv T 8 = y := ⟨_, rfl⟩
          rw [hy] at HP ⊢
          clear hy
          have hsz := HB.out.size
          go_wp2_with (at_builtin; refine wpList_append_lies _ rfl _ _ _ rfl w.heap.size 5 i0 _ 1 1 Try.underlying38 hi hz0 hz1 hz2 rfl (by omega) _ t _ rfl (HROW.out.alloc _) ⟨wr.heap.size, 0, none⟩ 1 1 [.int .u8 (y : Int)] rfl rfl (cell_one_at _ _ _ _ rfl) (by simp [Value.oneCell']) (by omega) (by unfold maxLen; omega) (by omega) (by simp; omega) (wr.heap.size + 1) (by simp) ?_; intro g3 cap3 w3 hown3 hgrow3 hat3 hlt3; have HG3 : Hid ((wr.alloc (.cells #[.int .u8 (y : Int)] 5)).grownBy w3 u3.ownBlock) := hgrow3; have HO3 : Hid (w3.ownsRow w.heap.size 5 1 (.slice (some ⟨g3, 0, none⟩) (t + 1) cap3) (t + 1) (u8s (pkn l t) ++ [.int .u8 (y : Int)])) := hown3; clear hown3 hgrow3 hat3 hlt3)
          go_roundw
          case rel =>
            refine ⟨t + 1, by have := HI.out; omega, by have := HI.out; rw [← this]; go_num, ?_, Below.grown (Below.more HB.out _) HG3.out (by simp; omega) (fun k hk => (HROW.out.lt k hk).1)⟩
            rw [pkn_succ, u8s_append, ← HP.out]
            exact HO3.out
          case measure => simp [intOf]; omega
    · have i2 : decide ((i : Int) < (n : Int)) = false := by simp; omega
      have e : pkn l t = pk l := by unfold pk; rw [HN.out]; congr 1; omega
      have hcv := conv_row (by simp) HROW.out (by rw [e]; exact pk_lt l)
      rw [e] at hcv
      clear hb hi8 e
      go_wp2_with fail
      go_ret
      exact ⟨rfl, HB.out⟩
set_option maxRecDepth 100000 in
theorem rBytes_nil (w : World) : Calls Try.prog 21 #[.slice none 0 0] w fun e w' => e = .returned (.string (tx (pk []))) ∧ Below w.heap.size w w' := by
  have hcv := conv_row (w := w) (B := 0) (v := .slice none 0 0) (l := []) (n := 0) rfl (World.ownsRow_nil _ _ _ _) (by simp)
  go_enter Try.func21, Try.ntmps21
  go_wp2_with fail
  refine wp_loop_rounds 1 ?_
  rw [rounds_succ]
  go_wp2_with fail
  go_ret
  exact ⟨rfl, Below.refl _ _⟩
theorem rBytes_any (B n : Nat) (l : List Bool) (x : Value) (w : World) (hn : l.length = n) (hl : n ≤ 1099511627776) (h : w.ownsRow B 5 1 x n (b01 l)) :
    Calls Try.prog 21 #[x] w fun e w' => e = .returned (.string (tx (pk l))) ∧ Below w.heap.size w w' := by
  rcases h.2 with ⟨h0, h1⟩ | ⟨r, cap, cur, hv, _⟩
  · subst h0
    have : l = [] := List.length_eq_zero_iff.1 (hn.trans h1)
    subst this
    exact rBytes_nil w
  · subst hv
    refine rBytes_some r cap n l w hn hl (fun j hj => ?_)
    rw [h.cellAt j (by omega)]
    simp [b01, hn, hj]
end Go.Proofs.Ytpofjkjcbflloaa
