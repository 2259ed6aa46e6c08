/- Packed and unpacked again: on plain lists. -/
import Derived.Test.YtohgflimdoebiaaBitUnpack
namespace Go.Proofs.Ytohgflimdoebiaa.Bt
open Go.RowKit Go.Maps
set_option linter.unusedVariables false

theorem tk_bits : ∀ (fs : List (Nat × Int)) (P Z : List Bool) (v0 : List Nat), (∀ f ∈ fs, okF f = true) →
    (fs.map (·.2)).foldl (tks (P ++ (bitsF fs ++ Z))) (some (P.length, v0)) = some (P.length + (bitsF fs).length, v0 ++ fs.map (·.1))
  | [], P, Z, v0, _ => by simp [bitsF]
  | (v, d) :: fs, P, Z, v0, h => by
    obtain ⟨d1, d2, d3⟩ := okF_width (h (v, d) (by simp))
    obtain ⟨q, rfl⟩ : ∃ q : Nat, d = (q : Int) := ⟨d.toNat, by omega⟩
    have e : bitsF ((v, (q : Int)) :: fs) = bo v q ++ bitsF fs := rfl
    have d1' : (1 : Int) ≤ (q : Int) := d1
    have d2' : (q : Int) ≤ 64 := d2
    have d3' : v < 2 ^ q := d3
    simp only [List.map_cons, List.foldl_cons]
    rw [e]
    have hstep : tks (P ++ (bo v q ++ bitsF fs ++ Z)) (some (P.length, v0)) (q : Int) = some (P.length + q, v0 ++ [v]) := by
      unfold tks
      simp only []
      rw [if_pos ⟨d1', d2', by simp; omega⟩]
      have e2 : ((P ++ (bo v q ++ bitsF fs ++ Z)).drop P.length).take (q : Int).toNat = bo v q := by
        rw [List.drop_left' rfl, List.append_assoc]
        exact List.take_left' (by simp)
      rw [e2, bv_bo, Nat.mod_eq_of_lt d3']
      simp
    rw [hstep]
    have ih := tk_bits fs (P ++ bo v q) Z (v0 ++ [v]) (fun f hf => h f (by simp [hf]))
    have e3 : P ++ (bo v q ++ bitsF fs ++ Z) = P ++ bo v q ++ (bitsF fs ++ Z) := by simp
    rw [e3]
    rw [List.length_append, bo_length] at ih
    rw [ih]
    simp; omega
theorem tk_all (fs : List (Nat × Int)) (Z : List Bool) (h : ∀ f ∈ fs, okF f = true) : tk (bitsF fs ++ Z) (fs.map (·.2)) = some ((bitsF fs).length, fs.map (·.1)) := by
  have := tk_bits fs [] Z [] h
  simpa [tk] using this
theorem dn_pad (l : List Bool) (k : Nat) : dn (l ++ List.replicate k false) l.length = decide (k < 8) := by
  unfold dn
  rw [List.drop_left' rfl, (bv_zero_iff (List.replicate k false)).2 (by simp)]
  simp
theorem bits_of_pack (l : List Bool) : tb (bys (tx (pk l))) = l ++ List.replicate (8 * ((l.length + 7) / 8) - l.length) false := by
  rw [bys_tx _ (pk_lt l), tb_pk]
theorem un_pack (fs : List (Nat × Int)) (h : ∀ f ∈ fs, okF f = true) : unL (tb (bys (tx (pk (bitsF fs))))) (fs.map (·.2)) = fs.map (·.1) ∧ unE (tb (bys (tx (pk (bitsF fs))))) (fs.map (·.2)) = 0 := by
  rw [bits_of_pack]
  refine un_good (tk_all fs _ h) ?_
  rw [dn_pad]
  simp; omega
theorem bys_append (a b : ByteArray) : bys (a ++ b) = bys a ++ bys b := by
  simp [bys, ByteArray.data_append]
theorem un_more (fs : List (Nat × Int)) (h : ∀ f ∈ fs, okF f = true) : unL (tb (bys (tx (pk (bitsF fs)) ++ ⟨#[0]⟩))) (fs.map (·.2)) = [] ∧ unE (tb (bys (tx (pk (bitsF fs)) ++ ⟨#[0]⟩))) (fs.map (·.2)) = 6 := by
  have e : tb (bys (tx (pk (bitsF fs)) ++ ⟨#[0]⟩)) = bitsF fs ++ List.replicate (8 * (((bitsF fs).length + 7) / 8) - (bitsF fs).length + 8) false := by
    rw [bys_append, tb_append, bits_of_pack]
    have e0 : tb (bys ⟨#[0]⟩) = List.replicate 8 false := rfl
    rw [e0, List.append_assoc, List.replicate_append_replicate]
  rw [e]
  refine un_open (tk_all fs _ h) ?_
  rw [dn_pad]
  simp
theorem tk_back (T : List Bool) : ∀ (ws : List Int) (c0 : Nat) (v0 : List Nat) (c : Nat) (vs : List Nat), c0 ≤ T.length → ws.foldl (tks T) (some (c0, v0)) = some (c, vs) →
    ∃ vs', vs = v0 ++ vs' ∧ vs'.length = ws.length ∧ c0 ≤ c ∧ c ≤ T.length ∧ (∀ f ∈ vs'.zip ws, okF f = true ∧ f.1 < 18446744073709551616) ∧ T.take c0 ++ bitsF (vs'.zip ws) = T.take c
  | [], c0, v0, c, vs, h0, h => by
    simp at h
    obtain ⟨rfl, rfl⟩ := h
    exact ⟨[], by simp, rfl, Nat.le_refl _, h0, by simp, by simp [bitsF]⟩
  | w :: ws, c0, v0, c, vs, h0, h => by
    simp only [List.foldl_cons, tks] at h
    split at h
    · rename_i hw
      obtain ⟨q, rfl⟩ : ∃ q : Nat, w = (q : Int) := ⟨w.toNat, by omega⟩
      simp only [Int.toNat_natCast] at h
      obtain ⟨vs', e1, e2, e3, e4, e5, e6⟩ := tk_back T ws (c0 + q) _ c vs (by omega) h
      have hlen : ((T.drop c0).take q).length = q := by simp; omega
      have hlt : bv ((T.drop c0).take q) < 2 ^ q := by have := bv_lt ((T.drop c0).take q); rw [hlen] at this; exact this
      refine ⟨bv ((T.drop c0).take q) :: vs', by rw [e1]; simp, by simp [e2], by omega, e4, ?_, ?_⟩
      · intro f hf
        simp only [List.zip_cons_cons, List.mem_cons] at hf
        rcases hf with rfl | hf
        · refine ⟨by simp [okF, gw, hlt]; omega, ?_⟩
          refine Nat.lt_of_lt_of_le hlt ?_
          have := Nat.pow_le_pow_right (n := 2) (by decide) (show q ≤ 64 by omega)
          simpa using this
        · exact e5 f hf
      · have e : bitsF ((bv ((T.drop c0).take q) :: vs').zip ((q : Int) :: ws)) = bo (bv ((T.drop c0).take q)) q ++ bitsF (vs'.zip ws) := rfl
        have e7 : bo (bv ((T.drop c0).take q)) q = (T.drop c0).take q := by
          have := bo_bv ((T.drop c0).take q)
          rw [hlen] at this
          exact this
        rw [e, e7, ← List.append_assoc, ← List.take_add, e6]
    · rw [tks_none] at h; cases h
theorem un_back (s : ByteArray) (ws : List Int) (h : unE (tb (bys s)) ws = 0) : (unL (tb (bys s)) ws).length = ws.length ∧ (∀ f ∈ (unL (tb (bys s)) ws).zip ws, okF f = true ∧ f.1 < 18446744073709551616) ∧ tx (pk (bitsF ((unL (tb (bys s)) ws).zip ws))) = s := by
  cases ht : tk (tb (bys s)) ws with
  | none => rw [(un_bad ht).2] at h; simp at h
  | some p =>
    obtain ⟨c, vs⟩ := p
    cases hd : dn (tb (bys s)) c with
    | false => rw [(un_open ht hd).2] at h; simp at h
    | true =>
      rw [(un_good ht hd).1]
      obtain ⟨vs', e1, e2, _, e4, e5, e6⟩ := tk_back (tb (bys s)) ws 0 [] c vs (Nat.zero_le _) ht
      simp at e1 e6
      subst e1
      refine ⟨e2, e5, ?_⟩
      rw [e6]
      simp only [dn, Bool.and_eq_true, decide_eq_true_eq] at hd
      obtain ⟨h8, hz⟩ := hd
      have e7 : tb (bys s) = (tb (bys s)).take c ++ List.replicate ((tb (bys s)).length - c) false := by
        have := (bv_zero_iff _).1 hz
        rw [List.length_drop] at this
        rw [← this, List.take_append_drop]
      have e8 : pk (tb (bys s)) = pk ((tb (bys s)).take c) := by
        have hp := pk_pad ((tb (bys s)).take c) ((tb (bys s)).length - c) (by
          have h9 : (tb (bys s)).length = 8 * (bys s).length := tb_length _
          rw [List.length_take]; omega)
        rw [← e7] at hp
        exact hp
      rw [← e8, pk_tb _ (by intro x hx; simp [bys] at hx; obtain ⟨b, _, rfl⟩ := hx; exact UInt8.toNat_lt _), tx_bys]
end Go.Proofs.Ytohgflimdoebiaa.Bt
