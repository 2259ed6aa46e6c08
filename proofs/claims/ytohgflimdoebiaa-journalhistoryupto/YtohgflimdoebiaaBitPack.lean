/- Contract: Pack. -/
import Derived.Test.YtohgflimdoebiaaBitSpec
import Derived.Test.YtohgflimdoebiaaBitPut
namespace Go.Proofs.Ytohgflimdoebiaa.Bt
open Go.RowKit Go.Maps
set_option linter.unusedVariables false

set_option maxHeartbeats 2000000 in
set_option maxRecDepth 100000 in
theorem pack_some (b o c n : Nat) (fs : List (Nat × Int)) (hn : fs.length = n) (w : World) (hl : n ≤ 16777216)
    (h1 : ∀ i, i < n → w.cell? ⟨b, o + i * 2, none⟩ = some (.int .u64 ((fs.getD i (0, 0)).1 : Int)) ∧ w.cell? ⟨b, o + i * 2 + 1, none⟩ = some (.int .i64 (fs.getD i (0, 0)).2) ∧ (fs.getD i (0, 0)).1 < 18446744073709551616) :
    Calls Try.prog 63 #[.slice (some ⟨b, o, none⟩) n c] w fun e w' => e = .returned (.tuple #[.string (pkS fs), .int .i64 (pkE fs)]) ∧ Below w.heap.size w w' := by
  have HN : Hid (fs.length = n) := hn
  clear hn
  go_enter Try.func63, Try.ntmps63
  go_wp2_with fail
  refine (new_any w).mono ?_
  rintro e w1 ⟨rfl, rfl⟩
  go_wp2_with fail
  go_loopw [11] (fun i wr => ∃ k : Nat, k ≤ n ∧ i = .int .i64 (k : Int) ∧ (∀ f ∈ fs.take k, okF f = true) ∧ Below w.heap.size w wr ∧ w.heap.size + 1 ≤ wr.heap.size ∧ ∃ x, Wr (w.heap.size + 1) wr w.heap.size (bitsF (fs.take k)) x) (fun i _ => n - (intOf i).toNat)
  case atStart => exact ⟨0, by omega, rfl, by simp, below1 _ _, by simp, _, Wr.new w⟩
  case round =>
    obtain ⟨k, hk, rfl, hok, hb, hsz, x, hw⟩ := hrel
    have HB : Hid (Below w.heap.size w wr) := hb
    have HW : Hid (Wr (w.heap.size + 1) wr w.heap.size (bitsF (fs.take k)) x) := hw
    have HOK : Hid (∀ f ∈ fs.take k, okF f = true) := hok
    clear hw hok
    by_cases hkn : k < n
    · obtain ⟨c0, c1, hv64⟩ := h1 k hkn
      have c0 := cell_later hb c0
      have c1 := cell_later hb c1
      have i1 : (0 : Int) ≤ (k : Int) := by omega
      have i2 : (k : Int) < (n : Int) := by omega
      have HS : Hid (fs.take (k + 1) = fs.take k ++ [fs.getD k (0, 0)]) := take_snoc fs k (0, 0) (by rw [HN.out]; exact hkn)
      have HF : Hid (okF (fs.getD k (0, 0)) = false → fs.all okF = false) := all_take okF fs k (0, 0) (by rw [HN.out]; exact hkn)
      have hlen : Hid ((bitsF (fs.take k)).length ≤ 64 * k) := by
        have := bitsF_le _ HOK.out
        rw [List.length_take] at this
        unfold Hid; omega
      obtain ⟨v, d, evd⟩ : ∃ v d, fs.getD k (0, 0) = (v, d) := ⟨_, _, rfl⟩
      rw [evd] at c0 c1 hv64 HS HF
      clear h1 evd hb
      cases hf : okF (v, d) with
      | true =>
        obtain ⟨d1, d2, d3⟩ := okF_width hf
        obtain ⟨q, rfl⟩ : ∃ q : Nat, d = (q : Int) := ⟨d.toNat, by omega⟩
        have HP := fun o => put_yes (w.heap.size + 1) w.heap.size v q (bitsF (fs.take k)) x (wr.alloc o) (by omega) (by omega) (by simpa using d3) (by simp; omega) (HW.out.alloc o) (by have := hlen.out; omega)
        have HP' : Hid _ := HP
        have HFT : Hid (okF (v, (q : Int)) = true) := hf
        clear HP hf d3
        go_wp2_with fail
        refine (HP'.out _).mono ?_
        rintro e w2 ⟨rfl, x', hw2, hkp, _⟩
        have HW2 : Hid (Wr (w.heap.size + 1) w2 w.heap.size (bitsF (fs.take k) ++ bo v q) x') := hw2
        have HK2 : Hid (Kept (Fw w.heap.size x) (wr.alloc (.cells #[.int .u64 (v : Int), .int .i64 (q : Int)] 114)) w2) := hkp
        clear hw2 hkp HP'
        go_wp2_with fail
        go_roundw
        case rel =>
          have hb2 := (HW.out.alloc _).below HK2.out (Nat.le_refl _)
          refine ⟨k + 1, by omega, by go_num, ?_, (Below.more HB.out _).trans hb2, by have := HK2.out.size; simp at this; omega, x', ?_⟩
          · rw [HS.out]
            intro f hf
            rcases List.mem_append.1 hf with hf | hf
            · exact HOK.out f hf
            · simp at hf; subst hf; exact HFT.out
          · rw [HS.out, bitsF_append]
            have e : bitsF [(v, (q : Int))] = bo v q := by simp [bitsF]
            rw [e]; exact HW2.out
        case measure => simp [intOf]; omega
      | false =>
        have HP := fun w0 => put_no w.heap.size v d w0 hv64 hf
        have HP' : Hid _ := HP
        have hall : Hid (fs.all okF = false) := HF.out hf
        clear HP hf
        go_wp2_with fail
        refine (HP'.out _).mono ?_
        rintro e w2 ⟨rfl, rfl⟩
        go_wp2_with fail
        go_ret2
        exact ⟨by simp [pkS, pkE, hall.out]; rfl, Below.more HB.out _⟩
    · have hkn' : decide ((k : Int) < (n : Int)) = false := by simp; omega
      have e : fs.take k = fs := List.take_of_length_le (by rw [HN.out]; omega)
      have HE : Hid (fs.take k = fs) := e
      clear e hb h1
      go_wp2_with fail
      refine (bytes_any _ _ _ _ _ HW.out).mono ?_
      rintro e w2 ⟨rfl, rfl⟩
      go_wp2_with fail
      go_ret2
      have hall : fs.all okF = true := by
        rw [List.all_eq_true]; intro f hf; exact HOK.out f (by rw [HE.out]; exact hf)
      exact ⟨by simp [pkS, pkE, hall, HE.out], HB.out⟩
set_option maxHeartbeats 2000000 in
set_option maxRecDepth 100000 in
theorem pack_none (a : Option Addr) (c : Nat) (w : World) :
    Calls Try.prog 63 #[.slice a 0 c] w fun e w' => e = .returned (.tuple #[.string (pkS []), .int .i64 (pkE [])]) ∧ Below w.heap.size w w' := by
  go_enter Try.func63, Try.ntmps63
  go_wp2_with fail
  refine (new_any w).mono ?_
  rintro e w1 ⟨rfl, rfl⟩
  go_wp2_with fail
  refine wp_loop_rounds 1 ?_
  rw [rounds_succ]
  go_wp2_with fail
  refine (bytes_any _ _ _ _ _ (Wr.new w)).mono ?_
  rintro e w2 ⟨rfl, rfl⟩
  go_wp2_with fail
  go_ret2
  exact ⟨rfl, below1 _ _⟩
theorem pack_any (a : Option Addr) (c n : Nat) (fs : List (Nat × Int)) (hn : fs.length = n) (w : World) (hl : n ≤ 16777216) (h : RdF w a fs) :
    Calls Try.prog 63 #[.slice a n c] w fun e w' => e = .returned (.tuple #[.string (pkS fs), .int .i64 (pkE fs)]) ∧ Below w.heap.size w w' := by
  subst hn
  by_cases h0 : fs = []
  · subst h0; exact pack_none a c w
  · obtain ⟨b, o, rfl, k1⟩ := h.spot h0
    exact pack_some b o c fs.length fs rfl w hl k1
end Go.Proofs.Ytohgflimdoebiaa.Bt
