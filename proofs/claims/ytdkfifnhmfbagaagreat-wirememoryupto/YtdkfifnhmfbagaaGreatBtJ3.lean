/- BitRefA, BitRefB, BitRefC, BitRefD, BitUnpack, BitRefE, joined. -/
import Derived.Test.YtdkfifnhmfbagaaGreatBtJ1
import Derived.BigQuiet
/- Contracts of the document's answers: Right, Add, Bytes. -/
namespace Go.Proofs.YtdkfifnhmfbagaaGreat.Bt
open Go.RowKit Go.Maps
set_option linter.unusedVariables false

def b01 (l : List Bool) : List Value := l.map fun b : Bool => Value.int .u8 (b.toNat : Int)
@[simp] theorem b01_length (l : List Bool) : (b01 l).length = l.length := by simp [b01]
theorem b01_append (a b : List Bool) : b01 (a ++ b) = b01 a ++ b01 b := by simp [b01]
theorem dec_toNat (x : Nat) : ((decide (x % 2 = 1)).toNat : Int) = (x : Int) % 2 := by
  have : x % 2 = 0 ∨ x % 2 = 1 := by omega
  rcases this with h | h <;> simp [h] <;> omega
set_option maxHeartbeats 1000000 in
theorem rRight_yes (v q : Nat) (w : World) (hv : v < 18446744073709551616) (h1 : 1 ≤ q) (h2 : q ≤ 64) : Calls Tryz.prog 72 #[.agg #[.int .u64 (v : Int), .int .i64 (q : Int)]] w fun e w' => e = .returned (.bool (decide (v < 2 ^ q))) ∧ Below w.heap.size w w' := by
  have d1 : decide ((q : Int) < 1) = false := by simp; omega
  have d2 : decide ((64 : Int) < (q : Int)) = false := by simp; omega
  go_enter Tryz.func72, Tryz.ntmps72
  go_wp2_with fail
  go_loopw [3, 4] (fun x i wr => ∃ k : Nat, k ≤ q ∧ i = .int .i64 (k : Int) ∧ x = .int .u64 ((v / 2 ^ k : Nat) : Int) ∧ wr = w.alloc (.cells #[.int .u64 (v : Int), .int .i64 (q : Int)] 115)) (fun _ i _ => q - (intOf i).toNat)
  case atStart => exact ⟨0, by omega, rfl, by simp, rfl⟩
  case round =>
    obtain ⟨k, hk, rfl, rfl, rfl⟩ := hrel
    by_cases hkn : k < q
    · obtain ⟨y, hy⟩ : ∃ y, v / 2 ^ k = y := ⟨_, rfl⟩
      have HY : Hid (v / 2 ^ k = y) := hy
      rw [hy]
      clear hy
      have i2 : (k : Int) < (q : Int) := by omega
      have hwq : IntKind.u64.wrap ((y : Int) / 2) = (y : Int) / 2 := by
        have : y ≤ v := by rw [← HY.out]; exact Nat.div_le_self _ _
        rw [IntKind.wrap_u64]; omega
      go_wp2_with fail
      go_roundw
      case rel => exact ⟨k + 1, by omega, by go_num, by rw [Nat.pow_succ, ← Nat.div_div_eq_div_mul, HY.out]; simp, by first | rfl | trivial⟩
      case measure => simp [intOf]; omega
    · have hkn' : decide ((k : Int) < (q : Int)) = false := by simp; omega
      obtain rfl : k = q := by omega
      go_wp2_with fail
      go_ret
      exact ⟨ret_bool (div_zero_iff v k), below1 _ _⟩
theorem rRight_no (v : Nat) (d : Int) (w : World) (h : ¬ Gw d) : Calls Tryz.prog 72 #[.agg #[.int .u64 (v : Int), .int .i64 d]] w fun e w' => e = .returned (.bool false) ∧ Below w.heap.size w w' := by
  by_cases h1 : 1 ≤ d
  · have h2 : 64 < d := by unfold Gw at h; omega
    clear h
    go_enter Tryz.func72, Tryz.ntmps72
    go_wp2_with fail
    go_ret
    exact ⟨rfl, below1 _ _⟩
  · clear h
    go_enter Tryz.func72, Tryz.ntmps72
    go_wp2_with fail
    go_ret
    exact ⟨rfl, below1 _ _⟩
theorem rRight_any (v : Nat) (d : Int) (w : World) (hv : v < 18446744073709551616) : Calls Tryz.prog 72 #[.agg #[.int .u64 (v : Int), .int .i64 d]] w fun e w' => e = .returned (.bool (okF (v, d))) ∧ Below w.heap.size w w' := by
  by_cases h : Gw d
  · obtain ⟨q, rfl⟩ : ∃ q : Nat, d = (q : Int) := ⟨d.toNat, by have := h.1; omega⟩
    have e : okF (v, (q : Int)) = decide (v < 2 ^ q) := by simp [okF, gw_yes h]
    rw [e]
    have h1 := h.1
    have h2 := h.2
    exact rRight_yes v q w hv (by omega) (by omega)
  · have e : okF (v, d) = false := by simp [okF, gw_no h]
    rw [e]
    exact rRight_no v d w h
set_option maxHeartbeats 2000000 in
set_option maxRecDepth 100000 in
theorem rAdd_any (B v q n : Nat) (l : List Bool) (x : Value) (w : World) (h1 : 1 ≤ q) (h2 : q ≤ 64) (hn : l.length = n) (hB : B ≤ w.heap.size) (hr : w.ownsRow B 5 1 x n (b01 l)) (hl : n ≤ 1099511627776) (hv : v < 18446744073709551616) :
    Calls Tryz.prog 73 #[x, .agg #[.int .u64 (v : Int), .int .i64 (q : Int)]] w fun e w' => ∃ x', e = .returned x' ∧ w'.ownsRow B 5 1 x' (n + q) (b01 (l ++ bo v q)) ∧ Kept (fun k => x.ownBlock = some k) w w' ∧ (x'.ownBlock = x.ownBlock ∨ ∀ k, x'.ownBlock = some k → w.heap.size ≤ k) := by
  obtain ⟨i0, hi, hz0, hz1, hz2⟩ := info_parts info8
  have HN : Hid (l.length = n) := hn
  have HR : Hid (w.ownsRow B 5 1 x n (b01 l)) := hr
  clear hn hr
  go_enter Tryz.func73, Tryz.ntmps73
  go_wp2_with fail
  go_loopw [0, 5] (fun x1 i wr => ∃ j : Nat, j ≤ q ∧ i = .int .i64 ((j : Int) - 1) ∧ wr.ownsRow B 5 1 x1 (n + (q - j)) (b01 (l ++ bo (v / 2 ^ j) (q - j))) ∧ Kept (fun k => x.ownBlock = some k) w wr ∧ (x1.ownBlock = x.ownBlock ∨ ∀ k, x1.ownBlock = some k → w.heap.size + 1 ≤ k) ∧ wr.cell? ⟨w.heap.size, 0, none⟩ = some (.int .u64 (v : Int)) ∧ wr.cell? ⟨w.heap.size, 1, none⟩ = some (.int .i64 (q : Int)) ∧ w.heap.size + 1 ≤ wr.heap.size) (fun _ i _ => (intOf i + 1).toNat)
  case atStart => exact ⟨q, Nat.le_refl _, by first | rfl | go_num, by simpa [bo] using HR.out.alloc _, (Kept.refl _ _).alloc _, .inl rfl, by simp [go_sem], by simp [go_sem], by simp⟩
  case round =>
    obtain ⟨j, hj, rfl, hrow, hkp, ho, c0, c1, hsz⟩ := hrel
    have HROW : Hid (wr.ownsRow B 5 1 u0 (n + (q - j)) (b01 (l ++ bo (v / 2 ^ j) (q - j)))) := hrow
    have HKP : Hid (Kept (fun k => x.ownBlock = some k) w wr) := hkp
    have HO : Hid (u0.ownBlock = x.ownBlock ∨ ∀ k, u0.ownBlock = some k → w.heap.size + 1 ≤ k) := ho
    clear hrow hkp ho
    by_cases hz : j = 0
    · subst hz
      rw [show ((0 : Nat) : Int) - 1 = -1 from rfl]
      go_wp2_with fail
      go_ret
      refine ⟨u0, rfl, by simpa using HROW.out, HKP.out, ?_⟩
      rcases HO.out with e | e
      · exact .inl e
      · exact .inr fun k hk => Nat.le_of_succ_le (e k hk)
    · obtain ⟨i, rfl⟩ : ∃ i, j = i + 1 := ⟨j - 1, by omega⟩
      rw [show ((i + 1 : Nat) : Int) - 1 = (i : Int) by omega]
      have hi0 : (0 : Int) ≤ (i : Int) := by omega
      go_wp2_with fail
      go_loopw [6, 7] (fun y kk wr' => ∃ t : Nat, t ≤ i ∧ kk = .int .i64 (t : Int) ∧ y = .int .u64 ((v / 2 ^ t : Nat) : Int) ∧ wr' = wr) (fun _ kk _ => i - (intOf kk).toNat)
      case atStart => exact ⟨0, by omega, rfl, by simp, rfl⟩
      case round =>
        obtain ⟨t, ht, rfl, rfl, rfl⟩ := hrel
        by_cases hti : t < i
        · obtain ⟨y, hy⟩ : ∃ y, v / 2 ^ t = y := ⟨_, rfl⟩
          have HY : Hid (v / 2 ^ t = y) := hy
          rw [hy]
          clear hy
          have i2 : (t : Int) < (i : Int) := by omega
          have hwq : IntKind.u64.wrap ((y : Int) / 2) = (y : Int) / 2 := by
            have : y ≤ v := by rw [← HY.out]; exact Nat.div_le_self _ _
            rw [IntKind.wrap_u64]; omega
          go_wp2_with fail
          go_roundw
          case rel => exact ⟨t + 1, by omega, by go_num, by rw [Nat.pow_succ, ← Nat.div_div_eq_div_mul, HY.out]; simp, by first | rfl | trivial⟩
          case measure => simp [intOf]; omega
        · have hti' : decide ((t : Int) < (i : Int)) = false := by simp; omega
          obtain rfl : t = i := by omega
          obtain ⟨y, hy⟩ : ∃ y, v / 2 ^ t = y := ⟨_, rfl⟩
          have HY : Hid (v / 2 ^ t = y) := hy
          rw [hy]
          clear hy
          obtain ⟨e, he⟩ : ∃ e : Nat, y % 2 = e := ⟨_, rfl⟩
          have HE : Hid (y % 2 = e) := he
          have he2 : (y : Int) % 2 = (e : Int) := by omega
          have he3 : (e : Int) % 256 = (e : Int) := by omega
          clear he
          have hHB : B ≤ wr.heap.size := by have := HKP.out.size; omega
          have hln : n + (q - (t + 1)) ≤ 1099511627840 := by omega
          go_wp2_with (at_builtin; refine wpList_append_lies _ rfl _ _ _ rfl B 5 i0 _ 1 1 Tryz.underlying101 hi hz0 hz1 hz2 rfl (by omega) _ (n + (q - (t + 1))) _ rfl (HROW.out.alloc _) ⟨wr.heap.size, 0, none⟩ 1 1 [.int .u8 (e : Int)] rfl rfl (cell_one_at _ _ _ _ rfl) (by simp [Value.oneCell']) (by omega) (by unfold maxLen; omega) (by omega) (by simp; omega) (wr.heap.size + 1) (by simp) ?_; intro g3 cap3 w3 hown3 hgrow3 hat3 hlt3; have HG3 : Hid ((wr.alloc (.cells #[.int .u8 (e : Int)] 5)).grownBy w3 u0.ownBlock) := hgrow3; have HO3 : Hid (w3.ownsRow B 5 1 (.slice (some ⟨g3, 0, none⟩) (n + (q - (t + 1)) + 1) cap3) (n + (q - (t + 1)) + 1) (b01 (l ++ bo (v / 2 ^ (t + 1)) (q - (t + 1))) ++ [.int .u8 (e : Int)])) := hown3; have HA3 : Hid (u0.ownBlock = some g3 ∨ g3 = wr.heap.size + 1) := hat3; clear hown3 hgrow3 hat3 hlt3)
          go_roundw
          case rel =>
            have hnb : ∀ k, u0.ownBlock = some k → k ≠ w.heap.size := fun k hk e => by
              rcases HO.out with h | h
              · have := (HR.out.lt k (h ▸ hk)).2; omega
              · have := h k hk; omega
            have k3 : Kept (fun k => u0.ownBlock = some k) wr w3 := ((Kept.refl _ wr).alloc _).grown HG3.out (fun j hj _ => hj)
            refine ⟨t, by omega, by go_num, ?_, ?_, ?_, k3.cell c0 (fun e => hnb _ e rfl), k3.cell c1 (fun e => hnb _ e rfl), Nat.le_trans hsz k3.size⟩
            · have e1 : b01 (l ++ bo (v / 2 ^ t) (q - t)) = b01 (l ++ bo (v / 2 ^ (t + 1)) (q - (t + 1))) ++ [.int .u8 (e : Int)] := by
                rw [show q - t = (q - (t + 1)) + 1 by omega, bo_one, HY.out, Nat.pow_succ, ← Nat.div_div_eq_div_mul, HY.out, ← List.append_assoc, b01_append]
                congr 1
                simp only [b01, List.map_cons, List.map_nil]
                rw [dec_toNat, he2]
              rw [e1, show n + (q - t) = n + (q - (t + 1)) + 1 by omega]
              exact HO3.out
            · refine HKP.out.trans k3 (fun k hk hu => ?_)
              rcases HO.out with h | h
              · exact h ▸ hu
              · have := h k hu; omega
            · rcases HA3.out with h | h
              · rcases HO.out with h' | h'
                · exact .inl (by rw [← h', h]; rfl)
                · exact .inr fun k hk => by cases hk; exact h' g3 h
              · exact .inr fun k hk => by cases hk; show w.heap.size + 1 ≤ g3; omega
          case measure => simp [intOf]
end Go.Proofs.YtdkfifnhmfbagaaGreat.Bt
/- Contracts of the document's answers: Bytes, Bits. -/
namespace Go.Proofs.YtdkfifnhmfbagaaGreat.Bt
open Go.RowKit Go.Maps
set_option linter.unusedVariables false

theorem conv_row {w : World} {B : Nat} {v : Value} {l : List Nat} {n : Nat} (hn : l.length = n) (h : w.ownsRow B 5 1 v n (u8s l)) (hlt : ∀ x ∈ l, x < 256) : (convert 101 9 v).run Tryz.prog w = .ok (.string (tx l)) w := by
  subst hn
  rcases h.2 with ⟨h0, hn⟩ | ⟨r, cap, cur, hv, _⟩
  · subst h0
    have hp : l = [] := List.length_eq_zero_iff.1 hn
    subst hp
    rw [run_convert_bytes_string w 101 9 5 none 0 0 Tryz.underlying101 Tryz.underlying5 Tryz.underlying9 ]
    rfl
  · subst hv
    have hc := run_convert_bytes_back (P := Tryz.prog) w 101 9 5 ⟨r, 0, none⟩ cap (l.map UInt8.ofNat) Tryz.underlying101 Tryz.underlying5 Tryz.underlying9 (fun j hj => by
      simp at hj
      have e : ((⟨r, 0, none⟩ : Addr).add j) = ⟨r, j, none⟩ := by unfold Addr.add; split <;> simp_all
      rw [e, h.cellAt j (by omega)]
      have hlt := hlt l[j] (List.getElem_mem hj)
      simp [u8s, hj, UInt8.toNat_ofNat']; omega)
    rw [List.length_map] at hc
    exact hc
/- The first k bits of a row, noughts behind it, as a number. -/
def pv (t : List Bool) (k : Nat) : Nat := bv (t.take k) * 2 ^ (k - min k t.length)
theorem pv_zero (t : List Bool) : pv t 0 = 0 := by simp [pv, bv]
theorem pv_eight (t : List Bool) : pv t 8 = by8 t := rfl
theorem pv_in (t : List Bool) (k : Nat) (h : k < t.length) : pv t (k + 1) = 2 * pv t k + (t[k]).toNat := by
  unfold pv
  rw [List.take_succ_eq_append_getElem h, bv_append, Nat.min_eq_left (by omega), Nat.min_eq_left (by omega)]
  simp [bv]; omega
theorem pv_out (t : List Bool) (k : Nat) (h : t.length ≤ k) : pv t (k + 1) = 2 * pv t k := by
  unfold pv
  rw [List.take_of_length_le (by omega), List.take_of_length_le h, Nat.min_eq_right (by omega), Nat.min_eq_right h, show k + 1 - t.length = (k - t.length) + 1 by omega, Nat.pow_succ]
  rw [← Nat.mul_assoc, Nat.mul_comm]
theorem pv_lt (t : List Bool) (k : Nat) : pv t k < 2 ^ k := by
  unfold pv
  have h := bv_lt (t.take k)
  rw [List.length_take] at h
  have e : 2 ^ k = 2 ^ (min k t.length) * 2 ^ (k - min k t.length) := by rw [← Nat.pow_add, show min k t.length + (k - min k t.length) = k by omega]
  rw [e]
  exact Nat.mul_lt_mul_of_pos_right h (Nat.two_pow_pos _)
theorem pv_256 (t : List Bool) (k : Nat) (h : k ≤ 7) : pv t k < 128 := Nat.lt_of_lt_of_le (pv_lt t k) (by have := Nat.pow_le_pow_right (n := 2) (by decide) h; simpa using this)
set_option maxHeartbeats 2000000 in
set_option maxRecDepth 100000 in
theorem rBytes_some (r cap n : Nat) (l : List Bool) (w : World) (hn : l.length = n) (hl : n ≤ 1099511627776) (hc : ∀ j, j < n → w.cell? ⟨r, j, none⟩ = some (.int .u8 ((l.getD j false).toNat : Int))) :
    Calls Tryz.prog 74 #[.slice (some ⟨r, 0, none⟩) n cap] w fun e w' => e = .returned (.string (tx (pk l))) ∧ Below w.heap.size w w' := by
  obtain ⟨i0, hi, hz0, hz1, hz2⟩ := info_parts info8
  have HN : Hid (l.length = n) := hn
  clear hn
  go_enter Tryz.func74, Tryz.ntmps74
  go_wp2_with fail
  go_loopw [3, 4] (fun v i wr => ∃ t : Nat, t ≤ (n + 7) / 8 ∧ i = .int .i64 ((8 * t : Nat) : Int) ∧ wr.ownsRow w.heap.size 5 1 v t (u8s (pkn l t)) ∧ Below w.heap.size w wr) (fun _ i _ => n + 8 - (intOf i).toNat)
  case atStart => exact ⟨0, by omega, rfl, World.ownsRow_nil _ _ _ _, Below.refl _ _⟩
  case round =>
    obtain ⟨t, ht, rfl, hrow, hb⟩ := hrel
    have HROW : Hid (wr.ownsRow w.heap.size 5 1 u3 t (u8s (pkn l t))) := hrow
    have HB : Hid (Below w.heap.size w wr) := hb
    clear hrow
    obtain ⟨i, hi8⟩ : ∃ i, 8 * t = i := ⟨_, rfl⟩
    have HI : Hid (8 * t = i) := hi8
    rw [hi8]
    by_cases hin : i < n
    · have i2 : (i : Int) < (n : Int) := by omega
      have hcw : ∀ j, j < n → wr.cell? ⟨r, j, none⟩ = some (.int .u8 ((l.getD j false).toNat : Int)) := fun j hj => cell_later hb (hc j hj)
      have HCW : Hid _ := hcw
      have ht2 : t ≤ 137438953473 := by omega
      clear hb hcw hc hi8
      obtain ⟨T, hT⟩ : ∃ T, l.drop i = T := ⟨_, rfl⟩
      have hTl : T.length = n - i := by rw [← hT, List.length_drop, HN.out]
      have HT : Hid (l.drop i = T ∧ T.length = n - i) := ⟨hT, hTl⟩
      clear hT hTl
      go_wp2_with fail
      go_loopw [5, 6] (fun y kk wr' => ∃ k : Nat, k ≤ 8 ∧ kk = .int .i64 (k : Int) ∧ y = .int .u8 ((pv T k : Nat) : Int) ∧ wr' = wr) (fun _ kk _ => 8 - (intOf kk).toNat)
      case atStart => exact ⟨0, by omega, rfl, by rw [pv_zero]; rfl, rfl⟩
      case round =>
        obtain ⟨k, hk, rfl, rfl, rfl⟩ := hrel
        by_cases hk8 : k < 8
        · have k8 : (k : Int) < 8 := by omega
          have hp := pv_256 T k (by omega)
          obtain ⟨y, hy⟩ : ∃ y, pv T k = y := ⟨_, rfl⟩
          have HY : Hid (pv T k = y) := hy
          rw [hy] at hp ⊢
          clear hy
          have hw2 : (y : Int) * 2 % 256 = ((2 * y : Nat) : Int) := by omega
          have hw3 : IntKind.u8.wrap ((y : Int) * 2) = ((2 * y : Nat) : Int) := by simp [IntKind.wrap, IntKind.bits, IntKind.signed]; omega
          have hni : (n : Int) - (i : Int) = ((n - i : Nat) : Int) := by omega
          by_cases hkl : k < n - i
          · have l1 : (k : Int) < ((n - i : Nat) : Int) := by omega
            obtain ⟨sx, hsx⟩ : ∃ sx, i + k = sx := ⟨_, rfl⟩
            have hik : IntKind.i64.wrap ((i : Int) + (k : Int)) = (sx : Int) := by
              have : (i : Int) + (k : Int) = (sx : Int) := by omega
              rw [this]; exact wrap64_nat sx (by omega)
            have hik2 : (0 : Int) ≤ (sx : Int) := by omega
            have hik3 : (sx : Int) < (n : Int) := by omega
            have hcell := HCW.out sx (by omega)
            have hbit : l.getD sx false = T.getD k false := by rw [← HT.out.1, ← hsx]; simp
            have HS : Hid (pv T (k + 1) = 2 * y + (T.getD k false).toNat) := by
              have hkT : k < T.length := by rw [HT.out.2]; exact hkl
              have := pv_in T k hkT
              rw [HY.out] at this
              unfold Hid
              rw [this]; simp [hkT]
            rw [hbit] at hcell
            obtain ⟨e, he⟩ : ∃ e : Nat, (T.getD k false).toNat = e := ⟨_, rfl⟩
            have he1 : e ≤ 1 := by rw [← he]; cases T.getD k false <;> simp
            rw [he] at hcell HS
            have hw4 : IntKind.u8.wrap (((2 * y : Nat) : Int) + (e : Int)) = ((2 * y + e : Nat) : Int) := by simp [IntKind.wrap, IntKind.bits, IntKind.signed]; omega
            clear hbit he hsx
            go_wp2_with fail
            go_roundw
            case rel => exact ⟨k + 1, by omega, by go_num, by rw [HS.out]; simp, by first | rfl | trivial⟩
            case measure => simp [intOf]; omega
          · have l1 : decide ((k : Int) < ((n - i : Nat) : Int)) = false := by simp; omega
            have l2 : decide (k < n - i) = false := by simp; omega
            have HS : Hid (pv T (k + 1) = 2 * y) := by
              have := pv_out T k (by rw [HT.out.2]; omega)
              rw [HY.out] at this
              exact this
            go_wp2_with fail
            go_roundw
            case rel => exact ⟨k + 1, by omega, by go_num, by rw [HS.out]; simp, by first | rfl | trivial⟩
            case measure => simp [intOf]; omega
        · obtain rfl : k = 8 := by omega
          have HP : Hid (pv T 8 = by8 (l.drop (8 * t))) := by unfold Hid; rw [pv_eight, HI.out, HT.out.1]
          obtain ⟨y, hy⟩ : ∃ y, pv T 8 = y := ⟨_, rfl⟩
          rw [hy] at HP ⊢
          clear hy
          have hsz := HB.out.size
          go_wp2_with (at_builtin; refine wpList_append_lies _ rfl _ _ _ rfl w.heap.size 5 i0 _ 1 1 Tryz.underlying101 hi hz0 hz1 hz2 rfl (by omega) _ t _ rfl (HROW.out.alloc _) ⟨wr.heap.size, 0, none⟩ 1 1 [.int .u8 (y : Int)] rfl rfl (cell_one_at _ _ _ _ rfl) (by simp [Value.oneCell']) (by omega) (by unfold maxLen; omega) (by omega) (by simp; omega) (wr.heap.size + 1) (by simp) ?_; intro g3 cap3 w3 hown3 hgrow3 hat3 hlt3; have HG3 : Hid ((wr.alloc (.cells #[.int .u8 (y : Int)] 5)).grownBy w3 u3.ownBlock) := hgrow3; have HO3 : Hid (w3.ownsRow w.heap.size 5 1 (.slice (some ⟨g3, 0, none⟩) (t + 1) cap3) (t + 1) (u8s (pkn l t) ++ [.int .u8 (y : Int)])) := hown3; clear hown3 hgrow3 hat3 hlt3)
          go_roundw
          case rel =>
            refine ⟨t + 1, by have := HI.out; omega, by have := HI.out; rw [← this]; go_num, ?_, Below.grown (Below.more HB.out _) HG3.out (by simp; omega) (fun k hk => (HROW.out.lt k hk).1)⟩
            rw [pkn_succ, u8s_append, ← HP.out]
            exact HO3.out
          case measure => simp [intOf]; omega
    · have i2 : decide ((i : Int) < (n : Int)) = false := by simp; omega
      have e : pkn l t = pk l := by unfold pk; rw [HN.out]; congr 1; omega
      have hcv := conv_row (by simp) HROW.out (by rw [e]; exact pk_lt l)
      rw [e] at hcv
      clear hb hi8 e
      go_wp2_with fail
      go_ret
      exact ⟨rfl, HB.out⟩
set_option maxRecDepth 100000 in
theorem rBytes_nil (w : World) : Calls Tryz.prog 74 #[.slice none 0 0] w fun e w' => e = .returned (.string (tx (pk []))) ∧ Below w.heap.size w w' := by
  have hcv := conv_row (w := w) (B := 0) (v := .slice none 0 0) (l := []) (n := 0) rfl (World.ownsRow_nil _ _ _ _) (by simp)
  go_enter Tryz.func74, Tryz.ntmps74
  go_wp2_with fail
  refine wp_loop_rounds 1 ?_
  rw [rounds_succ]
  go_wp2_with fail
  go_ret
  exact ⟨rfl, Below.refl _ _⟩
theorem rBytes_any (B n : Nat) (l : List Bool) (x : Value) (w : World) (hn : l.length = n) (hl : n ≤ 1099511627776) (h : w.ownsRow B 5 1 x n (b01 l)) :
    Calls Tryz.prog 74 #[x] w fun e w' => e = .returned (.string (tx (pk l))) ∧ Below w.heap.size w w' := by
  rcases h.2 with ⟨h0, h1⟩ | ⟨r, cap, cur, hv, _⟩
  · subst h0
    have : l = [] := List.length_eq_zero_iff.1 (hn.trans h1)
    subst this
    exact rBytes_nil w
  · subst hv
    refine rBytes_some r cap n l w hn hl (fun j hj => ?_)
    rw [h.cellAt j (by omega)]
    simp [b01, hn, hj]
end Go.Proofs.YtdkfifnhmfbagaaGreat.Bt
/- Contracts of the document's answers: Bits, and a reader. -/
namespace Go.Proofs.YtdkfifnhmfbagaaGreat.Bt
open Go.RowKit Go.Maps
set_option linter.unusedVariables false

def arr (y j : Nat) : Array Value := ((List.range 8).map fun i => Value.int .u8 (if i < j then 0 else ((decide (y / 2 ^ (7 - i) % 2 = 1)).toNat : Int))).toArray
theorem b01_one (l : List Bool) : ∀ u ∈ b01 l, u.oneCell' = true := by
  intro u hu
  simp only [b01, List.mem_map] at hu
  obtain ⟨_, _, rfl⟩ := hu
  rfl
theorem arr_end (y : Nat) : arr y 0 = (b01 (bo y 8)).toArray := rfl
theorem arr_start (y : Nat) : arr y 8 = #[.int .u8 0, .int .u8 0, .int .u8 0, .int .u8 0, .int .u8 0, .int .u8 0, .int .u8 0, .int .u8 0] := rfl
theorem arr_set (y j : Nat) (h : j ≤ 7) : (arr y (j + 1)).setIfInBounds j (.int .u8 ((decide (y / 2 ^ (7 - j) % 2 = 1)).toNat : Int)) = arr y j := by
  have : j = 0 ∨ j = 1 ∨ j = 2 ∨ j = 3 ∨ j = 4 ∨ j = 5 ∨ j = 6 ∨ j = 7 := by omega
  rcases this with rfl | rfl | rfl | rfl | rfl | rfl | rfl | rfl <;> rfl
theorem arr_get (y j : Nat) (h : j ≤ 7) : (arr y (j + 1))[j]? = some (.int .u8 0) := by
  have : j = 0 ∨ j = 1 ∨ j = 2 ∨ j = 3 ∨ j = 4 ∨ j = 5 ∨ j = 6 ∨ j = 7 := by omega
  rcases this with rfl | rfl | rfl | rfl | rfl | rfl | rfl | rfl <;> rfl
set_option maxHeartbeats 2000000 in
set_option maxRecDepth 100000 in
theorem rBits_any (s : ByteArray) (w : World) (hs : s.size ≤ 16777216) :
    Calls Tryz.prog 82 #[.string s] w fun e w' => ∃ v, e = .returned v ∧ w'.ownsRow w.heap.size 5 1 v (8 * s.size) (b01 (tb (bys s))) ∧ Below w.heap.size w w' := by
  obtain ⟨i0, hi, hz0, hz1, hz2⟩ := info_parts info8
  go_enter Tryz.func82, Tryz.ntmps82
  go_wp2_with fail
  go_loopw [3, 4] (fun v i wr => ∃ t : Nat, t ≤ s.size ∧ i = .int .i64 (t : Int) ∧ wr.ownsRow w.heap.size 5 1 v (8 * t) (b01 (tb ((bys s).take t))) ∧ Below w.heap.size w wr) (fun _ i _ => s.size - (intOf i).toNat)
  case atStart => exact ⟨0, by omega, rfl, World.ownsRow_nil _ _ _ _, Below.refl _ _⟩
  case round =>
    obtain ⟨t, ht, rfl, hrow, hb⟩ := hrel
    obtain ⟨W0, rfl⟩ : ∃ W0, W0 = wr := ⟨_, rfl⟩
    have HROW : Hid (W0.ownsRow w.heap.size 5 1 u3 (8 * t) (b01 (tb ((bys s).take t)))) := hrow
    have HB : Hid (Below w.heap.size w W0) := hb
    clear hrow hb
    by_cases hts : t < s.size
    · have i2 : (t : Int) < (s.size : Int) := by omega
      have i1 : (0 : Int) ≤ (t : Int) := by omega
      obtain ⟨y, hy⟩ : ∃ y, (s[t]'hts).toNat = y := ⟨_, rfl⟩
      have hy256 : y < 256 := by rw [← hy]; exact UInt8.toNat_lt _
      have HY : Hid ((bys s).take (t + 1) = (bys s).take t ++ [y]) := by
        have hlt : t < (bys s).length := by rw [bys_length]; exact hts
        have := take_snoc (bys s) t 0 hlt
        unfold Hid
        rw [this, ← hy, ← bys_get s t hts]
        simp [hlt]
      go_wp2_with fail
      clear hy
      go_loopw [5, 7] (fun x kk wr' => ∃ j : Nat, j ≤ 8 ∧ kk = .int .i64 ((j : Int) - 1) ∧ x = .int .u8 ((y / 2 ^ (8 - j) : Nat) : Int) ∧ wr'.heap[W0.heap.size]? = some (.cells (arr y j) 147) ∧ Below W0.heap.size W0 wr' ∧ wr'.heap.size = W0.heap.size + 1) (fun _ kk _ => (intOf kk + 1).toNat)
      case atStart => exact ⟨8, by omega, rfl, by simp, by rw [arr_start]; exact heap_alloc_new W0 _, below1 _ _, by simp⟩
      case round =>
        obtain ⟨j, hj, rfl, rfl, hblk, hbl, hsz⟩ := hrel
        have HBLK : Hid (wr.heap[W0.heap.size]? = some (.cells (arr y j) 147)) := hblk
        have HBL : Hid (Below W0.heap.size W0 wr) := hbl
        have HSZ : Hid (wr.heap.size = W0.heap.size + 1) := hsz
        clear hblk hbl hsz
        by_cases hj0 : j = 0
        · subst hj0
          rw [show ((0 : Nat) : Int) - 1 = -1 from rfl]
          have HR2 : Hid (wr.ownsRow w.heap.size 5 1 u3 (8 * t) (b01 (tb ((bys s).take t)))) := (Kept.ofBelow (F := fun _ => False) HBL.out).row HROW.out (fun _ _ h => h)
          have hnw := World.news_of_block HBLK.out
          rw [arr_end, List.toList_toArray] at hnw
          have HNW : Hid _ := hnw
          have hs1 := HSZ.out
          have hs2 := HB.out.size
          have HS1 : Hid (w.heap.size ≤ wr.heap.size) := by unfold Hid; omega
          clear hnw hs1 hs2
          go_wp2_with (at_builtin; refine wpList_append_lies _ rfl _ _ _ rfl w.heap.size 5 i0 _ 1 1 Tryz.underlying101 hi hz0 hz1 hz2 rfl (by omega) _ (8 * t) _ rfl HR2.out ⟨W0.heap.size, 0, none⟩ 8 8 (b01 (bo y 8)) rfl (by simp) HNW.out (b01_one _) (by omega) (by unfold maxLen; omega) (by omega) HS1.out wr.heap.size rfl ?_; intro g3 cap3 w3 hown3 hgrow3 hat3 hlt3; have HG3 : Hid (wr.grownBy w3 u3.ownBlock) := hgrow3; have HO3 : Hid (w3.ownsRow w.heap.size 5 1 (.slice (some ⟨g3, 0, none⟩) (8 * t + 8) cap3) (8 * t + 8) (b01 (tb ((bys s).take t)) ++ b01 (bo y 8))) := hown3; clear hown3 hgrow3 hat3 hlt3)
          go_roundw
          case rel =>
            refine ⟨t + 1, by omega, by go_num, ?_, Below.grown (Below.then HB.out HBL.out) HG3.out HS1.out (fun k hk => (HROW.out.lt k hk).1)⟩
            rw [HY.out, tb_append, b01_append, show 8 * (t + 1) = 8 * t + 8 by omega, show tb [y] = bo y 8 by simp [tb]]
            exact HO3.out
          case measure => simp [intOf]; omega
        · obtain ⟨i, rfl⟩ : ∃ i, j = i + 1 := ⟨j - 1, by omega⟩
          rw [show ((i + 1 : Nat) : Int) - 1 = (i : Int) by omega]
          have hi0 : (0 : Int) ≤ (i : Int) := by omega
          have hi8 : (i : Int) < 8 := by omega
          obtain ⟨z, hz⟩ : ∃ z, y / 2 ^ (8 - (i + 1)) = z := ⟨_, rfl⟩
          have hz256 : z < 256 := by rw [← hz]; exact Nat.lt_of_le_of_lt (Nat.div_le_self _ _) hy256
          have HZ : Hid (y / 2 ^ (7 - i) = z) := by unfold Hid; rw [← hz]; congr 2; omega
          rw [hz]
          clear hz
          obtain ⟨e, he⟩ : ∃ e : Nat, z % 2 = e := ⟨_, rfl⟩
          have he2 : (z : Int) % 2 = (e : Int) := by omega
          have HE : Hid (((decide (y / 2 ^ (7 - i) % 2 = 1)).toNat : Int) = (e : Int)) := by unfold Hid; rw [dec_toNat, HZ.out, he2]
          have hcell : wr.cell? ⟨W0.heap.size, i, none⟩ = some (.int .u8 0) := by
            have := arr_get y i (by omega)
            simp [World.cell?, HBLK.out, this]
          have hfr : wr.frozen? ⟨W0.heap.size, i, none⟩ = false := by simp [World.frozen?, HBLK.out]
          clear he
          go_wp2_with fail
          go_roundw
          case rel =>
            refine ⟨i, by omega, by go_num, ?_, ?_, HBL.out.setCell (by simp) _, by simpa [World.setCell] using HSZ.out⟩
            · have : y / 2 ^ (8 - i) = z / 2 := by rw [show 8 - i = (7 - i) + 1 by omega, Nat.pow_succ, ← Nat.div_div_eq_div_mul, HZ.out]
              rw [this]; simp
            · rw [blk_set HBLK.out, ← HE.out, arr_set y i (by omega)]
          case measure => simp [intOf]
    · have i2 : decide ((t : Int) < (s.size : Int)) = false := by simp; omega
      obtain rfl : t = s.size := by omega
      rw [List.take_of_length_le (by rw [bys_length]; exact Nat.le_refl _)] at HROW
      go_wp2_with fail
      go_ret
      exact ⟨u3, rfl, HROW.out, HB.out⟩
end Go.Proofs.YtdkfifnhmfbagaaGreat.Bt
/- Contracts of the document's answers: a reader. -/
namespace Go.Proofs.YtdkfifnhmfbagaaGreat.Bt
open Go.RowKit Go.Maps
set_option linter.unusedVariables false

structure Rm (B : Nat) (w : World) (g c : Nat) (T : List Bool) (v : Value) : Prop where
  blk : w.heap[g]? = some (.cells #[v, .int .i64 (c : Int)] 128)
  row : w.ownsRow B 5 1 v T.length (b01 T)
  far : ∀ k, v.ownBlock = some k → k ≠ g
  le : c ≤ T.length
theorem Rm.c0 {B : Nat} {w : World} {g c : Nat} {T : List Bool} {v : Value} (h : Rm B w g c T v) : w.cell? ⟨g, 0, none⟩ = some v := by simp [World.cell?, h.blk]
theorem Rm.c1 {B : Nat} {w : World} {g c : Nat} {T : List Bool} {v : Value} (h : Rm B w g c T v) : w.cell? ⟨g, 1, none⟩ = some (.int .i64 (c : Int)) := by simp [World.cell?, h.blk]
theorem Rm.fr {B : Nat} {w : World} {g c : Nat} {T : List Bool} {v : Value} (h : Rm B w g c T v) (j : Nat) : w.frozen? ⟨g, j, none⟩ = false := by simp [World.frozen?, h.blk]
theorem Rm.drew {B : Nat} {w : World} {g c : Nat} {T : List Bool} {v : Value} (h : Rm B w g c T v) : Rm B w.drew g c T v := ⟨h.blk, h.row, h.far, h.le⟩
theorem Rm.drewN {B : Nat} {w : World} {g c : Nat} {T : List Bool} {v : Value} (h : Rm B w g c T v) (n : Nat) : Rm B (w.drewN n) g c T v := ⟨h.blk, h.row, h.far, h.le⟩
theorem Rm.kept {B : Nat} {w w' : World} {g c : Nat} {T : List Bool} {v : Value} (h : Rm B w g c T v) {F : Nat → Prop} (hk : Kept F w w') (h1 : ¬ F g) (h2 : ∀ k, v.ownBlock = some k → ¬ F k) : Rm B w' g c T v :=
  ⟨(hk.block g (Array.getElem?_eq_some_iff.1 h.blk).1 h1).trans h.blk, hk.row h.row h2, h.far, h.le⟩
theorem Rm.step {B : Nat} {w : World} {g c : Nat} {T : List Bool} {v : Value} (h : Rm B w g c T v) (hc : c + 1 ≤ T.length) : Rm B (w.setCell ⟨g, 1, none⟩ (.int .i64 ((c : Int) + 1))) g (c + 1) T v := by
  refine ⟨by rw [blk_set h.blk]; simp, ?_, h.far, hc⟩
  exact ((Kept.refl (fun k => k = g) w).setCell (p := ⟨g, 1, none⟩) (fun _ => rfl) _).row h.row (fun k hk e => h.far k hk e)
theorem Rm.spell {B : Nat} {w : World} {g c : Nat} {T : List Bool} {v : Value} (h : Rm B w g c T v) : ∃ a cap, v = .slice a T.length cap := by
  rcases h.row.2 with ⟨h0, h1⟩ | ⟨r, cap, cur, hv, _⟩
  · exact ⟨none, 0, by rw [h0, h1]⟩
  · exact ⟨_, cap, hv⟩
theorem Rm.spot {B : Nat} {w : World} {g c : Nat} {T : List Bool} {v : Value} (h : Rm B w g c T v) (h0 : 0 < T.length) : ∃ r cap, v = .slice (some ⟨r, 0, none⟩) T.length cap ∧ ∀ j, j < T.length → w.cell? ⟨r, j, none⟩ = some (.int .u8 ((T.getD j false).toNat : Int)) := by
  rcases h.row.2 with ⟨_, h1⟩ | ⟨r, cap, cur, hv, _⟩
  · omega
  · subst hv
    refine ⟨r, cap, rfl, fun j hj => ?_⟩
    rw [h.row.cellAt j (by omega)]
    simp [b01, hj]
theorem rRead_any (s : ByteArray) (w : World) (hs : s.size ≤ 16777216) :
    Calls Tryz.prog 43 #[.string s] w fun e w' => ∃ g v, e = .returned (.pointer (some ⟨g, 0, none⟩)) ∧ Rm w.heap.size w' g 0 (tb (bys s)) v ∧ w.heap.size ≤ g ∧ Below w.heap.size w w' := by
  go_enter Tryz.func43, Tryz.ntmps43
  go_wp2_with fail
  refine (rBits_any s w hs).mono ?_
  rintro e w1 ⟨v, rfl, hrow, hb⟩
  have HROW : Hid (w1.ownsRow w.heap.size 5 1 v (8 * s.size) (b01 (tb (bys s)))) := hrow
  have HB : Hid (Below w.heap.size w w1) := hb
  obtain ⟨a, cap, rfl⟩ : ∃ a cap, v = .slice a (8 * s.size) cap := by
    rcases hrow.2 with ⟨h0, h1⟩ | ⟨r, cap, cur, hv, _⟩
    · exact ⟨none, 0, by rw [h0, h1]⟩
    · exact ⟨_, cap, hv⟩
  clear hrow hb
  go_wp2_with fail
  go_ret
  have e : (tb (bys s)).length = 8 * s.size := by rw [tb_length, bys_length]
  refine ⟨w1.heap.size, _, rfl, ⟨heap_alloc_new w1 _, by rw [e]; exact HROW.out.alloc _, fun k hk => by have := (HROW.out.lt k hk).2; omega, Nat.zero_le _⟩, HB.out.size, Below.more HB.out _⟩
theorem bv_snoc (l : List Bool) (k : Nat) (hk : k < l.length) : bv (l.take (k + 1)) = 2 * bv (l.take k) + (l.getD k false).toNat := by
  rw [take_snoc l k false hk, bv_append]; simp [bv]; omega
set_option maxHeartbeats 1000000 in
theorem rTake_no (B g c : Nat) (T : List Bool) (v : Value) (n : Int) (w : World) (h : Rm B w g c T v) (hT : T.length < 4611686018427387904) (hn : ¬ (Gw n ∧ n ≤ ((T.length - c : Nat) : Int))) :
    Calls Tryz.prog 106 #[.pointer (some ⟨g, 0, none⟩), .int .i64 n] w fun e w' => e = .returned (.tuple #[.int .u64 0, .int .i64 6]) ∧ ∃ m, w' = w.drewN m := by
  by_cases h1 : 1 ≤ n
  · by_cases h2 : n ≤ 64
    · obtain ⟨a, cap, rfl⟩ := h.spell
      have c0 := h.c0
      have c1 := h.c1
      have hle := h.le
      obtain ⟨m, hm⟩ : ∃ m, T.length = m := ⟨_, rfl⟩
      rw [hm] at c0 hle hT hn
      obtain ⟨q, hq⟩ : ∃ q, m - c = q := ⟨_, rfl⟩
      rw [hq] at hn
      have hlt : (q : Int) < n := by
        rcases Int.lt_or_le (q : Int) n with h | h
        · exact h
        · exact absurd ⟨⟨h1, h2⟩, h⟩ hn
      have hsub : (m : Int) - (c : Int) = (q : Int) := by omega
      have hsub2 := wrap64_nat q (by omega)
      have d1 : decide (n < 1) = false := by simp; omega
      have d2 : decide ((64 : Int) < n) = false := by simp; omega
      have d3 : decide ((q : Int) < n) = true := by simp; omega
      clear hn hm hq h
      go_enter Tryz.func106, Tryz.ntmps106
      go_wp2_with fail
      go_region_held3 (fun w' => w'.cell? ⟨g, 0, none⟩ = some (.slice a m cap) ∧ w'.cell? ⟨g, 1, none⟩ = some (.int .i64 (c : Int))) (go_keep) (fail)
      go_wp2_with fail
      go_ret2
      exact ⟨rfl, 1, rfl⟩
    · have d1 : decide (n < 1) = false := by simp; omega
      have d2 : decide ((64 : Int) < n) = true := by simp; omega
      clear hn h
      go_enter Tryz.func106, Tryz.ntmps106
      go_wp2_with fail
      go_quiet (fail)
      go_wp2_with fail
      go_ret2
      exact ⟨rfl, _, rfl⟩
  · have d1 : decide (n < 1) = true := by simp; omega
    clear hn h
    go_enter Tryz.func106, Tryz.ntmps106
    go_wp2_with fail
    go_quiet (fail)
    go_wp2_with fail
    go_ret2
    exact ⟨rfl, _, rfl⟩
set_option maxHeartbeats 2000000 in
set_option maxRecDepth 100000 in
theorem rTake_yes (B g c n : Nat) (T : List Bool) (v : Value) (w : World) (h : Rm B w g c T v) (hT : T.length < 4611686018427387904) (h1 : 1 ≤ n) (h2 : n ≤ 64) (hn : c + n ≤ T.length) :
    Calls Tryz.prog 106 #[.pointer (some ⟨g, 0, none⟩), .int .i64 (n : Int)] w fun e w' => e = .returned (.tuple #[.int .u64 ((bv ((T.drop c).take n) : Nat) : Int), .int .i64 0]) ∧ Rm B w' g (c + n) T v ∧ Kept (fun k => k = g) w w' := by
  obtain ⟨r, cap, rfl, -⟩ := h.spot (by omega)
  have c0 := h.c0
  have c1 := h.c1
  obtain ⟨m, hm⟩ : ∃ m, T.length = m := ⟨_, rfl⟩
  rw [hm] at c0 h hT hn
  rw [hm]
  obtain ⟨q, hq⟩ : ∃ q, m - c = q := ⟨_, rfl⟩
  have hsub : (m : Int) - (c : Int) = (q : Int) := by omega
  have hsub2 := wrap64_nat q (by omega)
  have d1 : decide ((n : Int) < 1) = false := by simp; omega
  have d2 : decide ((64 : Int) < (n : Int)) = false := by simp; omega
  have d3 : decide ((q : Int) < (n : Int)) = false := by simp; omega
  have d4 : decide (q < n) = false := by simp; omega
  have d5 : ¬ q < n := by omega
  have HM : Hid (T.length = m) := hm
  have HN : Hid (c + n ≤ m) := hn
  have HR : Hid (Rm B w g c T (.slice (some ⟨r, 0, none⟩) m cap)) := h
  clear hm hq h hn
  go_enter Tryz.func106, Tryz.ntmps106
  go_wp2_with fail
  go_region_held3 (fun w' => w'.cell? ⟨g, 0, none⟩ = some (.slice (some ⟨r, 0, none⟩) m cap) ∧ w'.cell? ⟨g, 1, none⟩ = some (.int .i64 (c : Int))) (go_keep) (fail)
  go_wp2_with fail
  go_loopw [6, 7] (fun x i wr => ∃ k : Nat, k ≤ n ∧ i = .int .i64 (k : Int) ∧ x = .int .u64 ((bv ((T.drop c).take k) : Nat) : Int) ∧ Rm B wr g (c + k) T (.slice (some ⟨r, 0, none⟩) m cap) ∧ Kept (fun k => k = g) w wr) (fun _ i _ => n - (intOf i).toNat)
  case atStart => exact ⟨0, by omega, rfl, by simp [bv], HR.out.drew, (Kept.refl _ _).drew⟩
  case round =>
    obtain ⟨k, hk, rfl, rfl, hr, hkp⟩ := hrel
    have HR1 : Hid (Rm B wr g (c + k) T (.slice (some ⟨r, 0, none⟩) m cap)) := hr
    have HKP : Hid (Kept (fun k => k = g) w wr) := hkp
    clear hr hkp c0 c1
    by_cases hkn : k < n
    · have i2 : (k : Int) < (n : Int) := by omega
      obtain ⟨p, hp⟩ : ∃ p, c + k = p := ⟨_, rfl⟩
      rw [hp] at HR1
      have c0 := HR1.out.c0
      have c1 := HR1.out.c1
      have hlt : p < m := by have := HN.out; omega
      have c2 : wr.cell? ⟨r, p, none⟩ = some (.int .u8 ((T.getD p false).toNat : Int)) := by
        have hrow := HR1.out.row
        rw [HM.out] at hrow
        rw [hrow.cellAt p (by omega)]
        simp [b01, HM.out, hlt]
      have HF : Hid (∀ j, wr.frozen? ⟨g, j, none⟩ = false) := fun j => HR1.out.fr j
      have hfz : wr.drew.frozen? ⟨g, 1, none⟩ = false := HR1.out.fr 1
      have HS : Hid (bv ((T.drop c).take (k + 1)) = 2 * bv ((T.drop c).take k) + (T.getD p false).toNat) := by
        have := bv_snoc (T.drop c) k (by rw [List.length_drop, HM.out]; omega)
        unfold Hid
        rw [this, ← hp]; simp
      have hlt64 : bv ((T.drop c).take k) < 9223372036854775808 := by
        have := bv_lt ((T.drop c).take k)
        refine Nat.lt_of_lt_of_le this ?_
        have h3 : ((T.drop c).take k).length ≤ 63 := by rw [List.length_take]; omega
        have := Nat.pow_le_pow_right (n := 2) (by decide) h3
        simpa using this
      obtain ⟨V, hV⟩ : ∃ V, bv ((T.drop c).take k) = V := ⟨_, rfl⟩
      obtain ⟨e, he⟩ : ∃ e : Nat, (T.getD p false).toNat = e := ⟨_, rfl⟩
      have he1 : e ≤ 1 := by rw [← he]; cases T.getD p false <;> simp
      rw [hV] at hlt64 HS ⊢
      rw [he] at c2 HS
      have p1 : (0 : Int) ≤ (p : Int) := by omega
      have p2 : (p : Int) < (m : Int) := by omega
      have hw1 : IntKind.u64.wrap (2 * (V : Int)) = ((2 * V : Nat) : Int) := by rw [IntKind.wrap_u64]; omega
      have hw2 : IntKind.u64.wrap (((2 * V : Nat) : Int) + (e : Int)) = ((2 * V + e : Nat) : Int) := by rw [IntKind.wrap_u64]; omega
      have hw3 : IntKind.u64.wrap (2 * (V : Int) + (e : Int)) = ((2 * V + e : Nat) : Int) := by rw [IntKind.wrap_u64]; omega
      have hw4 : IntKind.u64.wrap (e : Int) = (e : Int) := by rw [IntKind.wrap_u64]; omega
      have HP : Hid (c + k = p) := hp
      clear hV he hp
      go_wp2_with fail
      go_region_held3 (fun w' => w'.cell? ⟨g, 0, none⟩ = some (.slice (some ⟨r, 0, none⟩) m cap) ∧ w'.cell? ⟨g, 1, none⟩ = some (.int .i64 (p : Int)) ∧ w'.cell? ⟨r, p, none⟩ = some (.int .u8 (e : Int))) (go_keep) (fail)
      go_wp2_with fail
      go_roundw
      case rel =>
        refine ⟨k + 1, by omega, by go_num, by rw [HS.out]; simp, ?_, (HKP.out.setCell (p := ⟨g, 1, none⟩) (fun _ => rfl) _).drew⟩
        rw [show c + (k + 1) = p + 1 by have := HP.out; omega]
        exact (HR1.out.step (by rw [HM.out]; omega)).drew
      case measure => simp [intOf]; omega
    · have i2 : decide ((k : Int) < (n : Int)) = false := by simp; omega
      obtain rfl : k = n := by omega
      go_wp2_with fail
      go_ret2
      exact ⟨rfl, HR1.out, HKP.out⟩
end Go.Proofs.YtdkfifnhmfbagaaGreat.Bt
/- Contract: Unpack. -/
namespace Go.Proofs.YtdkfifnhmfbagaaGreat.Bt
open Go.RowKit Go.Maps
set_option linter.unusedVariables false

theorem Kept.toBelow {F : Nat → Prop} {w0 w w' : World} (h : Below w0.heap.size w0 w) (hk : Kept F w w') (hF : ∀ k, F k → w0.heap.size ≤ k) : Below w0.heap.size w0 w' := h.trans (hk.below h.size hF)
theorem tk_lt {T : List Bool} {ws : List Int} {c : Nat} {vs : List Nat} (h : tk T ws = some (c, vs)) : c ≤ T.length ∧ vs.length = ws.length := by
  have := tk_le T ws 0 [] c vs (Nat.zero_le _) h
  simpa using this
end Go.Proofs.YtdkfifnhmfbagaaGreat.Bt
/- Contracts of the document's answers: Pack, Unpack. -/
namespace Go.Proofs.YtdkfifnhmfbagaaGreat.Bt
open Go.RowKit Go.Maps
set_option linter.unusedVariables false

theorem row_later {w w' : World} {B e k n : Nat} {v : Value} {xs : List Value} (h : w.ownsRow B e k v n xs) (hb : Below w.heap.size w w') : w'.ownsRow B e k v n xs := (Kept.ofBelow (F := fun _ => False) hb).row h (fun _ _ h => h)
set_option maxHeartbeats 2000000 in
set_option maxRecDepth 100000 in
theorem rPack_some (b o c n : Nat) (fs : List (Nat × Int)) (hn : fs.length = n) (w : World) (hl : n ≤ 16777216)
    (h1 : ∀ i, i < n → w.cell? ⟨b, o + i * 2, none⟩ = some (.int .u64 ((fs.getD i (0, 0)).1 : Int)) ∧ w.cell? ⟨b, o + i * 2 + 1, none⟩ = some (.int .i64 (fs.getD i (0, 0)).2) ∧ (fs.getD i (0, 0)).1 < 18446744073709551616) :
    Calls Tryz.prog 39 #[.slice (some ⟨b, o, none⟩) n c] w fun e w' => e = .returned (.tuple #[.string (pkS fs), .int .i64 (pkE fs)]) ∧ Below w.heap.size w w' := by
  have HN : Hid (fs.length = n) := hn
  clear hn
  go_enter Tryz.func39, Tryz.ntmps39
  go_wp2_with fail
  go_loopw [4, 9] (fun v i wr => ∃ k : Nat, k ≤ n ∧ i = .int .i64 (k : Int) ∧ (∀ f ∈ fs.take k, okF f = true) ∧ Below w.heap.size w wr ∧ wr.ownsRow w.heap.size 5 1 v (bitsF (fs.take k)).length (b01 (bitsF (fs.take k)))) (fun _ i _ => n - (intOf i).toNat)
  case atStart => exact ⟨0, by omega, rfl, by simp, Below.refl _ _, World.ownsRow_nil _ _ _ _⟩
  case round =>
    obtain ⟨k, hk, rfl, hok, hb, hrow⟩ := hrel
    have HB : Hid (Below w.heap.size w wr) := hb
    have HROW : Hid (wr.ownsRow w.heap.size 5 1 u4 (bitsF (fs.take k)).length (b01 (bitsF (fs.take k)))) := hrow
    have HOK : Hid (∀ f ∈ fs.take k, okF f = true) := hok
    have hlen : Hid ((bitsF (fs.take k)).length ≤ 64 * k) := by
      have := bitsF_le _ HOK.out
      rw [List.length_take] at this
      unfold Hid; omega
    clear hrow hok
    by_cases hkn : k < n
    · obtain ⟨c0, c1, hv64⟩ := h1 k hkn
      have c0 := cell_later hb c0
      have c1 := cell_later hb c1
      have i1 : (0 : Int) ≤ (k : Int) := by omega
      have i2 : (k : Int) < (n : Int) := by omega
      have HS : Hid (fs.take (k + 1) = fs.take k ++ [fs.getD k (0, 0)]) := take_snoc fs k (0, 0) (by rw [HN.out]; exact hkn)
      have HF : Hid (okF (fs.getD k (0, 0)) = false → fs.all okF = false) := all_take okF fs k (0, 0) (by rw [HN.out]; exact hkn)
      obtain ⟨v, d, evd⟩ : ∃ v d, fs.getD k (0, 0) = (v, d) := ⟨_, _, rfl⟩
      rw [evd] at c0 c1 hv64 HS HF
      clear h1 evd hb
      go_wp2_with fail
      refine (rRight_any v d _ hv64).mono ?_
      rintro e w2 ⟨rfl, hb2⟩
      have c0 : w2.cell? ⟨wr.heap.size, 0, none⟩ = some (.int .u64 (v : Int)) := cell_later hb2 (by simp [go_sem])
      have c1 : w2.cell? ⟨wr.heap.size, 1, none⟩ = some (.int .i64 d) := cell_later hb2 (by simp [go_sem])
      have HB2 : Hid (Below w.heap.size w w2) := Below.then (Below.more HB.out _) hb2
      have HR2 : Hid (w2.ownsRow w.heap.size 5 1 u4 (bitsF (fs.take k)).length (b01 (bitsF (fs.take k)))) := row_later (HROW.out.alloc _) hb2
      clear hb2
      cases hf : okF (v, d) with
      | true =>
        obtain ⟨d1, d2, d3⟩ := okF_width hf
        obtain ⟨q, rfl⟩ : ∃ q : Nat, d = (q : Int) := ⟨d.toNat, by omega⟩
        have HP := rAdd_any w.heap.size v q _ (bitsF (fs.take k)) u4 w2 (by omega) (by omega) rfl HB2.out.size HR2.out (by have := hlen.out; omega) hv64
        have HFT : Hid (okF (v, (q : Int)) = true) := hf
        clear hf d3
        go_wp2_with fail
        refine HP.mono ?_
        rintro e w3 ⟨x', rfl, hr3, hk3, _⟩
        have HR3 : Hid (w3.ownsRow w.heap.size 5 1 x' ((bitsF (fs.take k)).length + q) (b01 (bitsF (fs.take k) ++ bo v q))) := hr3
        have HB3 : Hid (Below w.heap.size w w3) := Kept.toBelow HB2.out hk3 (fun j hj => (HR2.out.lt j hj).1)
        clear hr3 hk3 HP
        go_wp2_with fail
        go_roundw
        case rel =>
          refine ⟨k + 1, by omega, by go_num, ?_, HB3.out, ?_⟩
          · rw [HS.out]
            intro f hf
            rcases List.mem_append.1 hf with hf | hf
            · exact HOK.out f hf
            · simp at hf; subst hf; exact HFT.out
          · rw [HS.out, bitsF_append]
            have e : bitsF [(v, (q : Int))] = bo v q := by simp [bitsF]
            rw [e, List.length_append, bo_length]; exact HR3.out
        case measure => simp [intOf]; omega
      | false =>
        have hall : Hid (fs.all okF = false) := HF.out hf
        clear hf
        go_wp2_with fail
        go_ret2
        exact ⟨by simp [pkS, pkE, hall.out]; rfl, HB2.out⟩
    · have hkn' : decide ((k : Int) < (n : Int)) = false := by simp; omega
      have e : fs.take k = fs := List.take_of_length_le (by rw [HN.out]; omega)
      have HE : Hid (fs.take k = fs) := e
      have hp := rBytes_any _ _ _ _ _ rfl (by have := hlen.out; omega) HROW.out
      clear e hb h1
      go_wp2_with fail
      refine hp.mono ?_
      rintro e w2 ⟨rfl, hb2⟩
      have HB2 : Hid (Below w.heap.size w w2) := Below.then HB.out hb2
      clear hb2 hp
      go_wp2_with fail
      go_ret2
      have hall : fs.all okF = true := by
        rw [List.all_eq_true]; intro f hf; exact HOK.out f (by rw [HE.out]; exact hf)
      exact ⟨by simp [pkS, pkE, hall, HE.out], HB2.out⟩
set_option maxHeartbeats 2000000 in
set_option maxRecDepth 100000 in
theorem rPack_none (a : Option Addr) (c : Nat) (w : World) :
    Calls Tryz.prog 39 #[.slice a 0 c] w fun e w' => e = .returned (.tuple #[.string (pkS []), .int .i64 (pkE [])]) ∧ Below w.heap.size w w' := by
  go_enter Tryz.func39, Tryz.ntmps39
  go_wp2_with fail
  refine wp_loop_rounds 1 ?_
  rw [rounds_succ]
  go_wp2_with fail
  refine (rBytes_nil w).mono ?_
  rintro e w2 ⟨rfl, hb2⟩
  go_wp2_with fail
  go_ret2
  exact ⟨rfl, hb2⟩
theorem rPack_any (a : Option Addr) (c n : Nat) (fs : List (Nat × Int)) (hn : fs.length = n) (w : World) (hl : n ≤ 16777216) (h : RdF w a fs) :
    Calls Tryz.prog 39 #[.slice a n c] w fun e w' => e = .returned (.tuple #[.string (pkS fs), .int .i64 (pkE fs)]) ∧ Below w.heap.size w w' := by
  subst hn
  by_cases h0 : fs = []
  · subst h0; exact rPack_none a c w
  · obtain ⟨b, o, rfl, k1⟩ := h.spot h0
    exact rPack_some b o c fs.length fs rfl w hl k1
end Go.Proofs.YtdkfifnhmfbagaaGreat.Bt
