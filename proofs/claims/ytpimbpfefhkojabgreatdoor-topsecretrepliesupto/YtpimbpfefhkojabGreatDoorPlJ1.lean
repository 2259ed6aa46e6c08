/- PlMath2, PlMath4, joined. -/
import Derived.Test.YtpimbpfefhkojabGreatDoorPlMath
import Derived.Test.YtpimbpfefhkojabGreatDoorTrJ
import Derived.Test.YtpimbpfefhkojabGreatDoorTrS
namespace Go.Proofs.YtpimbpfefhkojabGreatDoor
open Rt (Ky zK kcs kchk lfE lfB lfS cu cd trE trK b1 gd Gd)
open Rs (En zE rcs tkn tk fnd chk ft evs evl adm adl mvT mvE mvR FitOk on sl)
open Sh (belB lef)
set_option linter.unusedVariables false
set_option linter.unusedSimpArgs false

/- An item; the key of an inner node or of a leaf. -/
structure It where
  nd : Int
  fm : Int
  un : Ky
  ld : Ky
def kyA (t : Tr) (v : Nat) : Ky := if v < 21 then t.ks v else ⟨lfB (t.ro (v - 21)).bas (t.ro (v - 21)).snc t.ep, lfS (t.ro (v - 21)).bas (t.ro (v - 21)).snc t.ep⟩
def mkI (t : Tr) (v c : Nat) : It := ⟨v, c, kyA t c, kyA t v⟩
theorem kyA_in {t : Tr} {v : Nat} (h : v < 21) : kyA t v = t.ks v := if_pos h
theorem kyA_leaf {t : Tr} {s : Nat} : kyA t (21 + s) = ⟨lfB (t.ro s).bas (t.ro s).snc t.ep, lfS (t.ro s).bas (t.ro s).snc t.ep⟩ := by
  unfold kyA
  rw [if_neg (by omega), Nat.add_sub_cancel_left]
theorem kyA_ko {t : Tr} (h : tck t = true) {v : Nat} (hv : v < 85) (h0 : koE t v = 0) : kyA t v = koK t v := by
  rcases kn h hv h0 with ⟨h1, e⟩ | ⟨s, hs, e1, ht, e⟩
  · rw [e, kyA_in h1]
  · have := (tck_right h).leaf hs ht
    subst e1
    rw [e, kyA_leaf]
    unfold Rt.lfB Rt.lfS
    rw [if_pos this, if_pos this]
/- The items of a replaced node, up to its child k; of the replaced nodes, j of them from above. -/
def nI (t : Tr) (v k : Nat) : List It := (List.range k).flatMap fun i => if hld t.ro ((4 * v + 1 + i : Nat) : Int) then [mkI t v (4 * v + 1 + i)] else []
def dI (t : Tr) (r j : Nat) : List It := (List.range j).flatMap fun m => if r.testBit (20 - m) then nI t (20 - m) 4 else []
def jI (t : Tr) (r s k : Nat) : List It := (List.range k).flatMap fun i => if r.testBit (pn s i) then [] else [mkI t (pn s i) (21 + s)]
def jJ (t : Tr) (r : Nat) (js : List (Int × Int)) : List It := js.flatMap fun p => jI t r p.2.toNat 3
def its (t : Tr) (r : Nat) (js : List (Int × Int)) : List It := dI t r 21 ++ jJ t r js
theorem nI_zero (t : Tr) (v : Nat) : nI t v 0 = [] := rfl
theorem nI_yes {t : Tr} {v k : Nat} (h : hld t.ro ((4 * v + 1 + k : Nat) : Int) = true) : nI t v (k + 1) = nI t v k ++ [mkI t v (4 * v + 1 + k)] := by
  unfold nI
  rw [List.range_succ, List.flatMap_append, List.flatMap_singleton, h, if_pos rfl]
theorem nI_no {t : Tr} {v k : Nat} (h : hld t.ro ((4 * v + 1 + k : Nat) : Int) = false) : nI t v (k + 1) = nI t v k := by
  unfold nI
  rw [List.range_succ, List.flatMap_append, List.flatMap_singleton, h, if_neg (by simp), List.append_nil]
theorem dI_yes {t : Tr} {r j : Nat} (h : r.testBit (20 - j) = true) : dI t r (j + 1) = dI t r j ++ nI t (20 - j) 4 := by
  unfold dI
  rw [List.range_succ, List.flatMap_append, List.flatMap_singleton, h, if_pos rfl]
theorem dI_no {t : Tr} {r j : Nat} (h : r.testBit (20 - j) = false) : dI t r (j + 1) = dI t r j := by
  unfold dI
  rw [List.range_succ, List.flatMap_append, List.flatMap_singleton, h, if_neg (by simp), List.append_nil]
theorem jI_zero (t : Tr) (r s : Nat) : jI t r s 0 = [] := rfl
theorem jI_yes {t : Tr} {r s k : Nat} (h : r.testBit (pn s k) = true) : jI t r s (k + 1) = jI t r s k := by
  unfold jI
  rw [List.range_succ, List.flatMap_append, List.flatMap_singleton, h, if_pos rfl, List.append_nil]
theorem jI_no {t : Tr} {r s k : Nat} (h : r.testBit (pn s k) = false) : jI t r s (k + 1) = jI t r s k ++ [mkI t (pn s k) (21 + s)] := by
  unfold jI
  rw [List.range_succ, List.flatMap_append, List.flatMap_singleton, h, if_neg (by simp)]
theorem jJ_snoc (t : Tr) (r : Nat) (l : List (Int × Int)) (p : Int × Int) : jJ t r (l ++ [p]) = jJ t r l ++ jI t r p.2.toNat 3 := by
  unfold jJ
  rw [List.flatMap_append, List.flatMap_singleton]
theorem jJ_nil (t : Tr) (r : Nat) : jJ t r [] = [] := rfl
theorem nI_len (t : Tr) (v : Nat) : ∀ k, (nI t v k).length ≤ k
  | 0 => by simp [nI]
  | k + 1 => by
    have := nI_len t v k
    cases h : hld t.ro ((4 * v + 1 + k : Nat) : Int) with
    | true => rw [nI_yes h, List.length_append]; simp; omega
    | false => rw [nI_no h]; omega
theorem dI_len (t : Tr) (r : Nat) : ∀ j, j ≤ 21 → (dI t r j).length ≤ 4 * cd r j
  | 0, _ => by simp [dI]
  | j + 1, hj => by
    have ih := dI_len t r j (by omega)
    have hn := nI_len t (20 - j) 4
    simp only [Rt.cd]
    unfold Rt.b1
    cases h : r.testBit (20 - j) with
    | true => rw [dI_yes h, List.length_append, if_pos rfl]; omega
    | false => rw [dI_no h, if_neg (by simp)]; omega
theorem jI_len (t : Tr) (r s : Nat) : ∀ k, (jI t r s k).length ≤ k
  | 0 => by simp [jI]
  | k + 1 => by
    have := jI_len t r s k
    cases h : r.testBit (pn s k) with
    | true => rw [jI_yes h]; omega
    | false => rw [jI_no h, List.length_append]; simp; omega
theorem jJ_len (t : Tr) (r : Nat) : ∀ js : List (Int × Int), (jJ t r js).length ≤ 3 * js.length
  | [] => by simp [jJ]
  | p :: l => by
    have ih := jJ_len t r l
    have := jI_len t r p.2.toNat 3
    unfold jJ at *
    rw [List.flatMap_cons, List.length_append, List.length_cons]
    omega
/- How many nodes are replaced. -/
def cnW (p : Nat → Bool) : Nat → Nat
  | 0 => 0
  | n + 1 => cnW p n + if p n then 1 else 0
theorem cu_mkW (p : Nat → Bool) : ∀ k, k ≤ 21 → cu (mkW p 21) k = cnW p k
  | 0, _ => rfl
  | k + 1, h => by
    rw [Rt.cu, cnW, cu_mkW p k (by omega)]
    unfold Rt.b1
    rw [mkW_bit, decide_eq_true (by omega), Bool.true_and]
theorem cnW_or (p q : Nat → Bool) : ∀ n, cnW (fun v => p v || q v) n ≤ cnW p n + cnW q n
  | 0 => by simp [cnW]
  | n + 1 => by
    have := cnW_or p q n
    simp only [cnW]
    by_cases hp : p n = true <;> by_cases hq : q n = true
    · rw [if_pos (by rw [hp]; rfl), if_pos hp, if_pos hq]; omega
    · rw [if_pos (by rw [hp]; rfl), if_pos hp, if_neg hq]; omega
    · rw [if_pos (by rw [hq, Bool.or_true]), if_neg hp, if_pos hq]; omega
    · rw [if_neg (by rw [Bool.not_eq_true] at hp hq; rw [hp, hq]; simp), if_neg hp, if_neg hq]; omega
theorem cnW_none {p : Nat → Bool} : ∀ n, (∀ i, i < n → p i = false) → cnW p n = 0
  | 0, _ => rfl
  | n + 1, h => by rw [cnW, cnW_none n fun i hi => h i (by omega), h n (by omega)]; rfl
theorem cn_path : ∀ s : Fin 64, cnW (fun v => belB (v : Int) (21 + (s.val : Int))) 21 = 3 := by decide +kernel
theorem cn_seat (x : Int) : cnW (fun v => belB (v : Int) (lef x)) 21 ≤ 3 := by
  cases hs : sl x with
  | false =>
    rw [cnW_none 21 fun i hi => by rw [Sh.lef_no (Rs.sl_not hs), Sh.belB_no' (Sh.nodeB_no (by omega))]]
    omega
  | true =>
    obtain ⟨k, hk, h2⟩ := Rs.sl_nat hs
    rw [hk, Sh.lef_yes (by omega) (by omega)]
    have := cn_path ⟨k, h2⟩
    exact Nat.le_of_eq this
theorem cn_rpl : ∀ l : List (Int × Int), cnW (rpl l) 21 ≤ 3 * l.length
  | [] => by rw [cnW_none (p := rpl []) 21 fun i _ => rfl]; omega
  | p :: l => by
    have ih := cn_rpl l
    have h1 := cnW_or (fun v => belB (v : Int) (lef p.2)) (rpl l) 21
    have h2 := cn_seat p.2
    have e : (rpl (p :: l)) = fun v : Nat => belB (v : Int) (lef p.2) || rpl l v := by funext v; unfold rpl; rw [List.any_cons]
    rw [e, List.length_cons]
    omega
theorem cu_rp (l : List (Int × Int)) : cu (rp l) 21 ≤ 3 * l.length := by unfold rp; rw [cu_mkW _ _ (by omega)]; exact cn_rpl l
theorem its_len (t : Tr) (l js : List (Int × Int)) : (its t (rp l) js).length ≤ 12 * (l.length + js.length) := by
  have h1 := dI_len t (rp l) 21 (by omega)
  have h2 := jJ_len t (rp l) js
  have h3 := cu_rp l
  rw [Rt.cd_all] at h1
  unfold its
  rw [List.length_append]
  omega
/- Which items there are. -/
theorem mem_nI {t : Tr} {v k : Nat} {x : It} : x ∈ nI t v k ↔ ∃ i, i < k ∧ hld t.ro ((4 * v + 1 + i : Nat) : Int) = true ∧ x = mkI t v (4 * v + 1 + i) := by
  unfold nI
  rw [List.mem_flatMap]
  constructor
  · rintro ⟨i, hi, hx⟩
    cases h : hld t.ro ((4 * v + 1 + i : Nat) : Int) with
    | true => rw [h, if_pos rfl] at hx; exact ⟨i, List.mem_range.1 hi, h, List.mem_singleton.1 hx⟩
    | false => rw [h, if_neg (by simp)] at hx; cases hx
  · rintro ⟨i, hi, h, rfl⟩
    exact ⟨i, List.mem_range.2 hi, by rw [h, if_pos rfl]; exact List.mem_singleton.2 rfl⟩
theorem mem_dI {t : Tr} {r : Nat} {x : It} : x ∈ dI t r 21 ↔ ∃ v i, v < 21 ∧ i < 4 ∧ r.testBit v = true ∧ hld t.ro ((4 * v + 1 + i : Nat) : Int) = true ∧ x = mkI t v (4 * v + 1 + i) := by
  unfold dI
  rw [List.mem_flatMap]
  constructor
  · rintro ⟨m, hm, hx⟩
    have hm := List.mem_range.1 hm
    cases h : r.testBit (20 - m) with
    | true =>
      rw [h, if_pos rfl] at hx
      obtain ⟨i, h1, h2, h3⟩ := mem_nI.1 hx
      exact ⟨20 - m, i, by omega, h1, h, h2, h3⟩
    | false => rw [h, if_neg (by simp)] at hx; cases hx
  · rintro ⟨v, i, hv, hi, hb, hh, rfl⟩
    refine ⟨20 - v, List.mem_range.2 (by omega), ?_⟩
    rw [show 20 - (20 - v) = v by omega, hb, if_pos rfl]
    exact mem_nI.2 ⟨i, hi, hh, rfl⟩
theorem mem_jI {t : Tr} {r s : Nat} {x : It} : x ∈ jI t r s 3 ↔ ∃ i, i < 3 ∧ r.testBit (pn s i) = false ∧ x = mkI t (pn s i) (21 + s) := by
  unfold jI
  rw [List.mem_flatMap]
  constructor
  · rintro ⟨i, hi, hx⟩
    cases h : r.testBit (pn s i) with
    | false => rw [h, if_neg (by simp)] at hx; exact ⟨i, List.mem_range.1 hi, h, List.mem_singleton.1 hx⟩
    | true => rw [h, if_pos rfl] at hx; cases hx
  · rintro ⟨i, hi, h, rfl⟩
    exact ⟨i, List.mem_range.2 hi, by rw [h, if_neg (by simp)]; exact List.mem_singleton.2 rfl⟩
theorem mem_jJ {t : Tr} {r : Nat} {js : List (Int × Int)} {x : It} : x ∈ jJ t r js ↔ ∃ p ∈ js, ∃ i, i < 3 ∧ r.testBit (pn p.2.toNat i) = false ∧ x = mkI t (pn p.2.toNat i) (21 + p.2.toNat) := by
  unfold jJ
  rw [List.mem_flatMap]
  constructor
  · rintro ⟨p, hp, hx⟩
    exact ⟨p, hp, mem_jI.1 hx⟩
  · rintro ⟨p, hp, hx⟩
    exact ⟨p, hp, mem_jI.2 hx⟩
/- The joined seats. -/
theorem mem_jns {t : Tr} {L J : List Int} {p : Int × Int} : p ∈ jns t L J ↔ ∃ m, m < J.length ∧ p = (J.getD m 0, (((mvT t.ro L J).getD m 0 : Nat) : Int)) := by
  unfold jns
  rw [List.mem_iff_getElem]
  constructor
  · rintro ⟨m, hm, e⟩
    have hm' : m < J.length := by simpa using hm
    refine ⟨m, hm', ?_⟩
    rw [← Rs.adl_get (mvT t.ro L J) J J.length hm', List.getD_eq_getElem?_getD, List.getElem?_eq_getElem hm, Option.getD_some, e]
  · rintro ⟨m, hm, rfl⟩
    refine ⟨m, by simpa using hm, ?_⟩
    have := Rs.adl_get (mvT t.ro L J) J J.length hm
    rw [List.getD_eq_getElem?_getD, List.getElem?_eq_getElem (by simpa using hm), Option.getD_some] at this
    exact this
theorem Stp.joined {t : Tr} {L J : List Int} (h : Stp t L J) {m : Nat} (hm : m < J.length) : (mvT t.ro L J).getD m 0 < 64 ∧ (nx t L J).ro ((mvT t.ro L J).getD m 0) = ⟨J.getD m 0, plF t L + (m : Int), t.ep + 1⟩ ∧ tkn (evs t.ro L ((mvT t.ro L J).getD m 0)) = false := by
  have hv := Rs.mv_of h.m3
  have ht := Rs.T_free (f := t.ro) (L := L) (J := J) (m := m) (by rw [hv.ok.lenT]; omega)
  exact ⟨ht.1, Rs.adm_get hv (m := m) J.length hm (Nat.le_refl _), ht.2⟩
theorem Stp.seat {t : Tr} {L J : List Int} (h : Stp t L J) {p : Int × Int} (hp : p ∈ jns t L J) : ∃ s : Nat, s < 64 ∧ p.2 = (s : Int) ∧ tkn ((nx t L J).ro s) = true ∧ ((nx t L J).ro s).snc = t.ep + 1 ∧ plF t L ≤ ((nx t L J).ro s).bas := by
  obtain ⟨m, hm, e⟩ := mem_jns.1 hp
  obtain ⟨h1, h2, _⟩ := h.joined hm
  refine ⟨(mvT t.ro L J).getD m 0, h1, by rw [e], ?_, ?_, ?_⟩
  · rw [h2]
    have := h.rt.f0
    have := plF_ge t L
    simp [Rs.tkn]
    omega
  · rw [h2]
  · rw [h2]; dsimp only; omega
/- Nodes and paths. -/
theorem child_all : ∀ v : Fin 21, ∀ i : Fin 4, belB (v.val : Int) ((4 * v.val + 1 + i.val : Nat) : Int) = true ∧ ∀ u : Fin 85, belB ((4 * v.val + 1 + i.val : Nat) : Int) (u.val : Int) = true → belB (v.val : Int) (u.val : Int) = true := by decide +kernel
theorem path_all : ∀ s : Fin 64, ∀ i : Fin 3, belB (pn s.val i.val : Int) (21 + (s.val : Int)) = true := by decide +kernel
theorem path_bel {s i : Nat} (hs : s < 64) (hi : i < 3) : belB (pn s i : Int) (21 + (s : Int)) = true := path_all ⟨s, hs⟩ ⟨i, hi⟩
theorem on_path : ∀ v : Fin 21, ∀ s : Fin 64, belB (v.val : Int) (21 + (s.val : Int)) = true → v.val = pn s.val 0 ∨ v.val = pn s.val 1 ∨ v.val = pn s.val 2 := by decide +kernel
theorem leaf_bel : ∀ s u : Fin 64, belB (21 + (s.val : Int)) (21 + (u.val : Int)) = decide (s.val = u.val) := by decide +kernel
theorem leaf_same {s u : Nat} (hs : s < 64) (hu : u < 64) (h : belB (21 + (s : Int)) (21 + (u : Int)) = true) : s = u := by
  have := leaf_bel ⟨s, hs⟩ ⟨u, hu⟩
  rw [h] at this
  exact of_decide_eq_true this.symm
theorem leaf_self {s : Nat} (hs : s < 64) : belB (21 + (s : Int)) (21 + (s : Int)) = true := by
  rw [leaf_bel ⟨s, hs⟩ ⟨s, hs⟩]
  simp
/- The node below, on the path of a slot: the leaf, or the node ahead. -/
def bel (s i : Nat) : Nat := if i = 0 then 21 + s else pn s (i - 1)
theorem bel_all : ∀ s : Fin 64, ∀ i : Fin 3, ∃ k : Fin 4, bel s.val i.val = 4 * pn s.val i.val + 1 + k.val := by decide +kernel
theorem bel_child {s i : Nat} (hs : s < 64) (hi : i < 3) : ∃ k, k < 4 ∧ bel s i = 4 * pn s i + 1 + k := by
  obtain ⟨k, hk⟩ := bel_all ⟨s, hs⟩ ⟨i, hi⟩
  exact ⟨k.val, k.2, hk⟩
theorem bel_on {s i : Nat} (hs : s < 64) (hi : i < 3) : belB (bel s i : Int) (21 + (s : Int)) = true := by
  unfold bel
  split
  · exact leaf_self hs
  · exact path_bel hs (by omega)
theorem hld_yes {r : Nat → En} {s : Nat} {v : Int} (hs : s < 64) (ht : tkn (r s) = true) (h : belB v (21 + (s : Int)) = true) : hld r v = true := any_yes hs (by rw [ht, h]; rfl)
theorem hld_at {r : Nat → En} {v : Int} (h : hld r v = true) : ∃ s, s < 64 ∧ tkn (r s) = true ∧ belB v (21 + (s : Int)) = true := by
  unfold hld at h
  rw [List.any_eq_true] at h
  obtain ⟨s, hs, h2⟩ := h
  rw [Bool.and_eq_true] at h2
  exact ⟨s, List.mem_range.1 hs, h2.1, h2.2⟩
/- A leaf below which somebody sits is taken. -/
theorem hld_leaf {t : Tr} (h : tck t = true) {c : Nat} (hc : c < 85) (hh : hld t.ro (c : Int) = true) : koE t (c : Int) = 0 := by
  rcases Nat.lt_or_ge c 21 with h1 | h1
  · exact koE_inner h (by omega) (by omega)
  · obtain ⟨s, hs, ht, hb⟩ := hld_at hh
    obtain ⟨u, rfl⟩ : ∃ u, c = 21 + u := ⟨c - 21, by omega⟩
    have hb' : belB (21 + (u : Int)) (21 + (s : Int)) = true := by have := hb; push_cast at this; exact this
    have e := leaf_same (by omega) hs hb'
    subst e
    have := koE_leaf h (s := u) (by omega)
    rw [show ((21 + u : Nat) : Int) = 21 + (u : Int) by push_cast; rfl, this]
    exact (tck_right h).leaf hs ht
/- The items of a step: under a key of a node that is held, the key of a node above it. -/
structure Itm (t : Tr) (v c : Nat) : Prop where
  lv : v < 21
  lc : c < 85
  held : hld t.ro (c : Int) = true
  up : ∀ u : Nat, u < 85 → belB (c : Int) (u : Int) = true → belB (v : Int) (u : Int) = true
theorem leaf_up : ∀ s : Fin 64, ∀ u : Fin 85, belB (21 + (s.val : Int)) (u.val : Int) = true → (u.val : Int) = 21 + (s.val : Int) := by decide +kernel
theorem item_of {t : Tr} {L J : List Int} (h : Stp t L J) {x : It} (hx : x ∈ its (nx t L J) (plR t L) (jns t L J)) : ∃ v c, x = mkI (nx t L J) v c ∧ Itm (nx t L J) v c := by
  unfold its at hx
  rcases List.mem_append.1 hx with hx | hx
  · obtain ⟨v, i, hv, hi, _, hh, e⟩ := mem_dI.1 hx
    refine ⟨v, 4 * v + 1 + i, e, hv, by omega, hh, fun u hu hb => ?_⟩
    exact (child_all ⟨v, hv⟩ ⟨i, hi⟩).2 ⟨u, hu⟩ hb
  · obtain ⟨p, hp, i, hi, _, e⟩ := mem_jJ.1 hx
    obtain ⟨s, hs, hp2, ht, _, _⟩ := h.seat hp
    rw [hp2, Int.toNat_natCast] at e
    have e2 : ((21 + s : Nat) : Int) = 21 + (s : Int) := by push_cast; rfl
    refine ⟨pn s i, 21 + s, e, pn_lt hs i, by omega, ?_, fun u hu hb => ?_⟩
    · rw [e2]; exact hld_yes hs ht (leaf_self hs)
    · rw [e2] at hb
      rw [leaf_up ⟨s, hs⟩ ⟨u, hu⟩ hb]
      exact path_bel hs hi
/- Who sits at a slot of the new tree has an item for each replaced node of its path. -/
theorem item_child {t : Tr} {r : Nat} {js : List (Int × Int)} {s i : Nat} (hs : s < 64) (hi : i < 3) (ht : tkn (t.ro s) = true) (hb : r.testBit (pn s i) = true) : mkI t (pn s i) (bel s i) ∈ its t r js := by
  obtain ⟨k, hk, e⟩ := bel_child hs hi
  unfold its
  refine List.mem_append.2 (.inl (mem_dI.2 ⟨pn s i, k, pn_lt hs i, hk, hb, ?_, by rw [e]⟩))
  rw [← e]
  exact hld_yes hs ht (bel_on hs hi)
/- Old keys and new ones. -/
structure Kept (t u : Tr) (c : Nat) : Prop where
  was : koE t (c : Int) = 0
  bas : (koK u (c : Int)).bas = (koK t (c : Int)).bas
  stp : (koK u (c : Int)).stp = (koK t (c : Int)).stp + 1
theorem koK_in {t : Tr} (h : tck t = true) {v : Nat} (hv : v < 21) : koK t (v : Int) = t.ks v := by
  unfold koK
  rw [if_pos (koE_inner h (by omega) (by omega)), if_pos (by omega), Int.toNat_natCast]
theorem koK_leaf {t : Tr} (h : tck t = true) {s : Nat} (hs : s < 64) (ht : tkn (t.ro s) = true) : koE t ((21 + s : Nat) : Int) = 0 ∧ koK t ((21 + s : Nat) : Int) = ⟨(t.ro s).bas, t.ep - (t.ro s).snc⟩ := by
  have e2 : ((21 + s : Nat) : Int) = 21 + (s : Int) := by push_cast; rfl
  have h0 : koE t ((21 + s : Nat) : Int) = 0 := by rw [e2, koE_leaf h hs]; exact (tck_right h).leaf hs ht
  refine ⟨h0, ?_⟩
  unfold koK
  rw [if_pos h0, if_neg (by omega), e2, show (21 + (s : Int) - 21).toNat = s by omega]
/- A new tree's key is fresh, or its node's old one, advanced. -/
theorem new_key {t : Tr} {L J : List Int} (h : Stp t L J) {c : Nat} (hc : c < 85) (h0 : koE (nx t L J) (c : Int) = 0) :
    t.fr ≤ (koK (nx t L J) (c : Int)).bas ∨ Kept t (nx t L J) c ∧ (c < 21 → (plR t L).testBit c = false) ∧ (∀ s, c = 21 + s → tkn (t.ro s) = true ∧ (nx t L J).ro s = t.ro s) := by
  rcases kn h.tckn hc h0 with ⟨h1, e⟩ | ⟨s, hs, e1, ht, e⟩
  · rcases h.key h1 with ⟨_, _, ge, _⟩ | ⟨hb, e2⟩
    · rw [e]; exact .inl ge
    · refine .inr ⟨⟨koE_inner h.ok (by omega) (by omega), ?_, ?_⟩, fun _ => hb, fun s hs => by omega⟩
      · rw [e, e2, koK_in h.ok h1]
      · rw [e, e2, koK_in h.ok h1]
  · subst e1
    rcases nx_ent h s with ⟨e2, e3⟩ | ⟨m, hm, _, e2⟩
    · rcases e3 with e3 | e3
      · rw [e3] at e2
        have ht2 := ht
        rw [e2] at ht2
        obtain ⟨k1, k2⟩ := koK_leaf h.ok hs ht2
        refine .inr ⟨⟨k1, ?_, ?_⟩, fun h => by omega, fun u hu => ?_⟩
        · rw [e, e2, k2]
        · rw [e, e2, k2]
          show t.ep + 1 - _ = t.ep - _ + 1
          omega
        · obtain rfl : s = u := by omega
          exact ⟨ht2, e2⟩
      · rw [e2, e3, Rs.tkn_zE] at ht
        cases ht
    · left
      rw [e, e2]
      have := plF_ge t L
      dsimp only
      omega
theorem koK_name {t : Tr} (h : tck t = true) {j k : Nat} (hj : j < 85) (hk : k < 85) (hj0 : koE t (j : Int) = 0) (hk0 : koE t (k : Int) = 0) (he : (koK t (j : Int)).bas = (koK t (k : Int)).bas) : j = k := by
  rcases Nat.lt_trichotomy j k with c | c | c
  · exact absurd he (kn_ne h c hk hj0 hk0)
  · exact c
  · exact absurd he.symm (kn_ne h c hj hk0 hj0)
/- The left seats. -/
theorem Stp.left {t : Tr} {L J : List Int} (h : Stp t L J) {p : Int × Int} (hp : p ∈ evl t.ro L) : ∃ s : Nat, s < 64 ∧ p.2 = (s : Int) ∧ tkn (t.ro s) = true ∧ (t.ro s).who = p.1 ∧ p.1 ∈ L := by
  rw [fit_evl h.fit] at hp
  obtain ⟨x, hx, e⟩ := List.mem_map.1 hp
  obtain ⟨k, hk, he⟩ := List.mem_iff_getElem.1 hx
  have hon := (h.fit.lv k hk).2.2
  have ex : L.getD k 0 = x := by rw [List.getD_eq_getElem?_getD, List.getElem?_eq_getElem hk, Option.getD_some, he]
  rw [ex] at hon
  obtain ⟨j, h1, h2, h3⟩ := Rs.on_at hon
  obtain ⟨h4, h5⟩ := Rs.at_who h3
  subst e
  exact ⟨j, h2, h1, h4, h5, hx⟩
theorem Stp.replaced {t : Tr} {L J : List Int} (h : Stp t L J) {s : Nat} (hs : s < 64) (ht : tkn (t.ro s) = true) (hL : (t.ro s).who ∈ L) {v : Nat} (hv : v < 21) (hb : belB (v : Int) (21 + (s : Int)) = true) : (plR t L).testBit v = true := by
  unfold plR
  rw [rp_bit _ hv]
  unfold rpl
  rw [List.any_eq_true, fit_evl h.fit]
  refine ⟨((t.ro s).who, fnd t.ro (t.ro s).who), List.mem_map.2 ⟨_, hL, rfl⟩, ?_⟩
  dsimp only
  rw [h.rt.find hs ht, Sh.lef_yes (by omega) (by omega)]
  exact hb
theorem Stp.who {t : Tr} {L J : List Int} (h : Stp t L J) {v : Nat} (hv : v < 21) (hb : (plR t L).testBit v = true) : ∃ s, s < 64 ∧ tkn (t.ro s) = true ∧ (t.ro s).who ∈ L ∧ belB (v : Int) (21 + (s : Int)) = true := by
  unfold plR at hb
  rw [rp_bit _ hv] at hb
  unfold rpl at hb
  rw [List.any_eq_true] at hb
  obtain ⟨p, hp, hq⟩ := hb
  obtain ⟨s, hs, e, ht, hw, hL⟩ := h.left hp
  rw [e, Sh.lef_yes (by omega) (by omega)] at hq
  exact ⟨s, hs, ht, by rw [hw]; exact hL, hq⟩
/- Who stays keeps its entry; who is there joined or stayed. -/
theorem Stp.stays {t : Tr} {L J : List Int} (h : Stp t L J) {s : Nat} (ht : tkn (t.ro s) = true) (hL : (t.ro s).who ∉ L) : (nx t L J).ro s = t.ro s := by
  rw [← h.r3]
  exact Rs.mv_stays h.m3 ht hL
theorem Stp.stayed {t : Tr} {L J : List Int} (h : Stp t L J) {s : Nat} (hs : s < 64) (ht : tkn ((nx t L J).ro s) = true) : ((nx t L J).ro s = t.ro s ∧ (t.ro s).who ∉ L) ∨ ∃ p ∈ jns t L J, p.2 = (s : Int) := by
  rcases nx_ent h s with ⟨e2, e3⟩ | ⟨m, hm, e1, _⟩
  · rcases e3 with e3 | e3
    · rw [e3] at e2
      refine .inl ⟨e2, fun hL => ?_⟩
      have h5 := Rs.mv_leaves h.m3 hL
      rw [h.r3] at h5
      have h6 := Rs.fnd_none.1 h5 s hs
      unfold Rs.at' at h6
      rw [ht, e2] at h6
      simp at h6
    · rw [e2, e3, Rs.tkn_zE] at ht
      cases ht
  · exact .inr ⟨_, mem_jns.2 ⟨m, hm, rfl⟩, by rw [e1]⟩
open Rs (evl)

def t3 : Tr := nx stT [] [1, 2, 3]
end Go.Proofs.YtpimbpfefhkojabGreatDoor
