/- Contracts of the document's answers: Right, Add, Bytes. -/
import Derived.Test.YtpofjkjcbflloaaBitSpec
namespace Go.Proofs.Ytpofjkjcbflloaa
open Go.RowKit Go.Maps
set_option linter.unusedVariables false

def b01 (l : List Bool) : List Value := l.map fun b : Bool => Value.int .u8 (b.toNat : Int)
@[simp] theorem b01_length (l : List Bool) : (b01 l).length = l.length := by simp [b01]
theorem b01_append (a b : List Bool) : b01 (a ++ b) = b01 a ++ b01 b := by simp [b01]
theorem dec_toNat (x : Nat) : ((decide (x % 2 = 1)).toNat : Int) = (x : Int) % 2 := by
  have : x % 2 = 0 ∨ x % 2 = 1 := by omega
  rcases this with h | h <;> simp [h] <;> omega
set_option maxHeartbeats 1000000 in
theorem rRight_yes (v q : Nat) (w : World) (hv : v < 18446744073709551616) (h1 : 1 ≤ q) (h2 : q ≤ 64) : Calls Try.prog 17 #[.agg #[.int .u64 (v : Int), .int .i64 (q : Int)]] w fun e w' => e = .returned (.bool (decide (v < 2 ^ q))) ∧ Below w.heap.size w w' := by
  have d1 : decide ((q : Int) < 1) = false := by simp; omega
  have d2 : decide ((64 : Int) < (q : Int)) = false := by simp; omega
  go_enter Try.func17, Try.ntmps17
  go_wp2_with fail
  go_loopw [3, 4] (fun x i wr => ∃ k : Nat, k ≤ q ∧ i = .int .i64 (k : Int) ∧ x = .int .u64 ((v / 2 ^ k : Nat) : Int) ∧ wr = w.alloc (.cells #[.int .u64 (v : Int), .int .i64 (q : Int)] 35)) (fun _ i _ => q - (intOf i).toNat)
  case atStart => exact ⟨0, by omega, rfl, by simp, rfl⟩
  case round =>
    obtain ⟨k, hk, rfl, rfl, rfl⟩ := hrel
    by_cases hkn : k < q
    · obtain ⟨y, hy⟩ : ∃ y, v / 2 ^ k = y := ⟨_, rfl⟩
      have HY : Hid (v / 2 ^ k = y) := hy
      rw [hy]
      clear hy
      have i2 : (k : Int) < (q : Int) := by omega
      have hwq : IntKind.u64.wrap ((y : Int) / 2) = (y : Int) / 2 := by
        have : y ≤ v := by rw [← HY.out]; exact Nat.div_le_self _ _
        rw [IntKind.wrap_u64]; omega
      go_wp2_with fail
      go_roundw
      case rel => exact ⟨k + 1, by omega, by go_num, by rw [Nat.pow_succ, ← Nat.div_div_eq_div_mul, HY.out]; simp, by first | rfl | trivial⟩
      case measure => simp [intOf]; omega
    · have hkn' : decide ((k : Int) < (q : Int)) = false := by simp; omega
      obtain rfl : k = q := by omega
      go_wp2_with fail
      go_ret
      exact ⟨ret_bool (div_zero_iff v k), below1 _ _⟩
theorem rRight_no (v : Nat) (d : Int) (w : World) (h : ¬ Gw d) : Calls Try.prog 17 #[.agg #[.int .u64 (v : Int), .int .i64 d]] w fun e w' => e = .returned (.bool false) ∧ Below w.heap.size w w' := by
  by_cases h1 : 1 ≤ d
  · have h2 : 64 < d := by unfold Gw at h; omega
    clear h
    go_enter Try.func17, Try.ntmps17
    go_wp2_with fail
    go_ret
    exact ⟨rfl, below1 _ _⟩
  · clear h
    go_enter Try.func17, Try.ntmps17
    go_wp2_with fail
    go_ret
    exact ⟨rfl, below1 _ _⟩
theorem rRight_any (v : Nat) (d : Int) (w : World) (hv : v < 18446744073709551616) : Calls Try.prog 17 #[.agg #[.int .u64 (v : Int), .int .i64 d]] w fun e w' => e = .returned (.bool (okF (v, d))) ∧ Below w.heap.size w w' := by
  by_cases h : Gw d
  · obtain ⟨q, rfl⟩ : ∃ q : Nat, d = (q : Int) := ⟨d.toNat, by have := h.1; omega⟩
    have e : okF (v, (q : Int)) = decide (v < 2 ^ q) := by simp [okF, gw_yes h]
    rw [e]
    have h1 := h.1
    have h2 := h.2
    exact rRight_yes v q w hv (by omega) (by omega)
  · have e : okF (v, d) = false := by simp [okF, gw_no h]
    rw [e]
    exact rRight_no v d w h
set_option maxHeartbeats 2000000 in
set_option maxRecDepth 100000 in
theorem rAdd_any (B v q n : Nat) (l : List Bool) (x : Value) (w : World) (h1 : 1 ≤ q) (h2 : q ≤ 64) (hn : l.length = n) (hB : B ≤ w.heap.size) (hr : w.ownsRow B 5 1 x n (b01 l)) (hl : n ≤ 1099511627776) (hv : v < 18446744073709551616) :
    Calls Try.prog 18 #[x, .agg #[.int .u64 (v : Int), .int .i64 (q : Int)]] w fun e w' => ∃ x', e = .returned x' ∧ w'.ownsRow B 5 1 x' (n + q) (b01 (l ++ bo v q)) ∧ Kept (fun k => x.ownBlock = some k) w w' ∧ (x'.ownBlock = x.ownBlock ∨ ∀ k, x'.ownBlock = some k → w.heap.size ≤ k) := by
  obtain ⟨i0, hi, hz0, hz1, hz2⟩ := info_parts info8
  have HN : Hid (l.length = n) := hn
  have HR : Hid (w.ownsRow B 5 1 x n (b01 l)) := hr
  clear hn hr
  go_enter Try.func18, Try.ntmps18
  go_wp2_with fail
  go_loopw [0, 5] (fun x1 i wr => ∃ j : Nat, j ≤ q ∧ i = .int .i64 ((j : Int) - 1) ∧ wr.ownsRow B 5 1 x1 (n + (q - j)) (b01 (l ++ bo (v / 2 ^ j) (q - j))) ∧ Kept (fun k => x.ownBlock = some k) w wr ∧ (x1.ownBlock = x.ownBlock ∨ ∀ k, x1.ownBlock = some k → w.heap.size + 1 ≤ k) ∧ wr.cell? ⟨w.heap.size, 0, none⟩ = some (.int .u64 (v : Int)) ∧ wr.cell? ⟨w.heap.size, 1, none⟩ = some (.int .i64 (q : Int)) ∧ w.heap.size + 1 ≤ wr.heap.size) (fun _ i _ => (intOf i + 1).toNat)
  case atStart => exact ⟨q, Nat.le_refl _, by first | rfl | go_num, by simpa [bo] using HR.out.alloc _, (Kept.refl _ _).alloc _, .inl rfl, by simp [go_sem], by simp [go_sem], by simp⟩
  case round =>
    obtain ⟨j, hj, rfl, hrow, hkp, ho, c0, c1, hsz⟩ := hrel
    have HROW : Hid (wr.ownsRow B 5 1 u0 (n + (q - j)) (b01 (l ++ bo (v / 2 ^ j) (q - j)))) := hrow
    have HKP : Hid (Kept (fun k => x.ownBlock = some k) w wr) := hkp
    have HO : Hid (u0.ownBlock = x.ownBlock ∨ ∀ k, u0.ownBlock = some k → w.heap.size + 1 ≤ k) := ho
    clear hrow hkp ho
    by_cases hz : j = 0
    · subst hz
      rw [show ((0 : Nat) : Int) - 1 = -1 from rfl]
      go_wp2_with fail
      go_ret
      refine ⟨u0, rfl, by simpa using HROW.out, HKP.out, ?_⟩
      rcases HO.out with e | e
      · exact .inl e
      · exact .inr fun k hk => Nat.le_of_succ_le (e k hk)
    · obtain ⟨i, rfl⟩ : ∃ i, j = i + 1 := ⟨j - 1, by omega⟩
      rw [show ((i + 1 : Nat) : Int) - 1 = (i : Int) by omega]
      have hi0 : (0 : Int) ≤ (i : Int) := by omega
      go_wp2_with fail
      go_loopw [6, 7] (fun y kk wr' => ∃ t : Nat, t ≤ i ∧ kk = .int .i64 (t : Int) ∧ y = .int .u64 ((v / 2 ^ t : Nat) : Int) ∧ wr' = wr) (fun _ kk _ => i - (intOf kk).toNat)
      case atStart => exact ⟨0, by omega, rfl, by simp, rfl⟩
      case round =>
        obtain ⟨t, ht, rfl, rfl, rfl⟩ := hrel
        by_cases hti : t < i
        · obtain ⟨y, hy⟩ : ∃ y, v / 2 ^ t = y := ⟨_, rfl⟩
          have HY : Hid (v / 2 ^ t = y) := hy
          rw [hy]
          clear hy
          have i2 : (t : Int) < (i : Int) := by omega
          have hwq : IntKind.u64.wrap ((y : Int) / 2) = (y : Int) / 2 := by
            have : y ≤ v := by rw [← HY.out]; exact Nat.div_le_self _ _
            rw [IntKind.wrap_u64]; omega
          go_wp2_with fail
          go_roundw
          case rel => exact ⟨t + 1, by omega, by go_num, by rw [Nat.pow_succ, ← Nat.div_div_eq_div_mul, HY.out]; simp, by first | rfl | trivial⟩
          case measure => simp [intOf]; omega
        · have hti' : decide ((t : Int) < (i : Int)) = false := by simp; omega
          obtain rfl : t = i := by omega
          obtain ⟨y, hy⟩ : ∃ y, v / 2 ^ t = y := ⟨_, rfl⟩
          have HY : Hid (v / 2 ^ t = y) := hy
          rw [hy]
          clear hy
          obtain ⟨e, he⟩ : ∃ e : Nat, y % 2 = e := ⟨_, rfl⟩
          have HE : Hid (y % 2 = e) := he
          have he2 : (y : Int) % 2 = (e : Int) := by omega
          have he3 : (e : Int) % 256 = (e : Int) := by omega
          clear he
          have hHB : B ≤ wr.heap.size := by have := HKP.out.size; omega
          have hln : n + (q - (t + 1)) ≤ 1099511627840 := by omega
          go_wp2_with (at_builtin; refine wpList_append_lies _ rfl _ _ _ rfl B 5 i0 _ 1 1 Try.underlying38 hi hz0 hz1 hz2 rfl (by omega) _ (n + (q - (t + 1))) _ rfl (HROW.out.alloc _) ⟨wr.heap.size, 0, none⟩ 1 1 [.int .u8 (e : Int)] rfl rfl (cell_one_at _ _ _ _ rfl) (by simp [Value.oneCell']) (by omega) (by unfold maxLen; omega) (by omega) (by simp; omega) (wr.heap.size + 1) (by simp) ?_; intro g3 cap3 w3 hown3 hgrow3 hat3 hlt3; have HG3 : Hid ((wr.alloc (.cells #[.int .u8 (e : Int)] 5)).grownBy w3 u0.ownBlock) := hgrow3; have HO3 : Hid (w3.ownsRow B 5 1 (.slice (some ⟨g3, 0, none⟩) (n + (q - (t + 1)) + 1) cap3) (n + (q - (t + 1)) + 1) (b01 (l ++ bo (v / 2 ^ (t + 1)) (q - (t + 1))) ++ [.int .u8 (e : Int)])) := hown3; have HA3 : Hid (u0.ownBlock = some g3 ∨ g3 = wr.heap.size + 1) := hat3; clear hown3 hgrow3 hat3 hlt3)
          go_roundw
          case rel =>
            have hnb : ∀ k, u0.ownBlock = some k → k ≠ w.heap.size := fun k hk e => by
              rcases HO.out with h | h
              · have := (HR.out.lt k (h ▸ hk)).2; omega
              · have := h k hk; omega
            have k3 : Kept (fun k => u0.ownBlock = some k) wr w3 := ((Kept.refl _ wr).alloc _).grown HG3.out (fun j hj _ => hj)
            refine ⟨t, by omega, by go_num, ?_, ?_, ?_, k3.cell c0 (fun e => hnb _ e rfl), k3.cell c1 (fun e => hnb _ e rfl), Nat.le_trans hsz k3.size⟩
            · have e1 : b01 (l ++ bo (v / 2 ^ t) (q - t)) = b01 (l ++ bo (v / 2 ^ (t + 1)) (q - (t + 1))) ++ [.int .u8 (e : Int)] := by
                rw [show q - t = (q - (t + 1)) + 1 by omega, bo_one, HY.out, Nat.pow_succ, ← Nat.div_div_eq_div_mul, HY.out, ← List.append_assoc, b01_append]
                congr 1
                simp only [b01, List.map_cons, List.map_nil]
                rw [dec_toNat, he2]
              rw [e1, show n + (q - t) = n + (q - (t + 1)) + 1 by omega]
              exact HO3.out
            · refine HKP.out.trans k3 (fun k hk hu => ?_)
              rcases HO.out with h | h
              · exact h ▸ hu
              · have := h k hu; omega
            · rcases HA3.out with h | h
              · rcases HO.out with h' | h'
                · exact .inl (by rw [← h', h]; rfl)
                · exact .inr fun k hk => by cases hk; exact h' g3 h
              · exact .inr fun k hk => by cases hk; show w.heap.size + 1 ≤ g3; omega
          case measure => simp [intOf]
end Go.Proofs.Ytpofjkjcbflloaa
