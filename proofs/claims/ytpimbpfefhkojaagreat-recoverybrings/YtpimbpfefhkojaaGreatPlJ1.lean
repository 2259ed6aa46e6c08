/- PlMath2, PlMath3, PlMath4, joined. -/
import Derived.Test.YtpimbpfefhkojaaGreatPlMath
import Derived.Test.YtpimbpfefhkojaaGreatTrJ
import Derived.Test.YtpimbpfefhkojaaGreatTrJ3
/- A message's items on plain data: how many, which; old keys and new ones. -/
namespace Go.Proofs.YtpimbpfefhkojaaGreat
open Rt (Ky zK kcs kchk lfE lfB lfS cu cd trE trK b1 gd Gd)
open Rs (En zE rcs tkn tk fnd chk ft evs evl adm adl mvT mvE mvR FitOk on sl)
open Sh (belB lef)
set_option linter.unusedVariables false
set_option linter.unusedSimpArgs false

/- An item; the key of an inner node or of a leaf. -/
structure It where
  nd : Int
  fm : Int
  un : Ky
  ld : Ky
def kyA (t : Tr) (v : Nat) : Ky := if v < 21 then t.ks v else ⟨lfB (t.ro (v - 21)).bas (t.ro (v - 21)).snc t.ep, lfS (t.ro (v - 21)).bas (t.ro (v - 21)).snc t.ep⟩
def mkI (t : Tr) (v c : Nat) : It := ⟨v, c, kyA t c, kyA t v⟩
theorem kyA_in {t : Tr} {v : Nat} (h : v < 21) : kyA t v = t.ks v := if_pos h
theorem kyA_leaf {t : Tr} {s : Nat} : kyA t (21 + s) = ⟨lfB (t.ro s).bas (t.ro s).snc t.ep, lfS (t.ro s).bas (t.ro s).snc t.ep⟩ := by
  unfold kyA
  rw [if_neg (by omega), Nat.add_sub_cancel_left]
theorem kyA_ko {t : Tr} (h : tck t = true) {v : Nat} (hv : v < 85) (h0 : koE t v = 0) : kyA t v = koK t v := by
  rcases kn h hv h0 with ⟨h1, e⟩ | ⟨s, hs, e1, ht, e⟩
  · rw [e, kyA_in h1]
  · have := (tck_right h).leaf hs ht
    subst e1
    rw [e, kyA_leaf]
    unfold Rt.lfB Rt.lfS
    rw [if_pos this, if_pos this]
/- The items of a replaced node, up to its child k; of the replaced nodes, j of them from above. -/
def nI (t : Tr) (v k : Nat) : List It := (List.range k).flatMap fun i => if hld t.ro ((4 * v + 1 + i : Nat) : Int) then [mkI t v (4 * v + 1 + i)] else []
def dI (t : Tr) (r j : Nat) : List It := (List.range j).flatMap fun m => if r.testBit (20 - m) then nI t (20 - m) 4 else []
def jI (t : Tr) (r s k : Nat) : List It := (List.range k).flatMap fun i => if r.testBit (pn s i) then [] else [mkI t (pn s i) (21 + s)]
def jJ (t : Tr) (r : Nat) (js : List (Int × Int)) : List It := js.flatMap fun p => jI t r p.2.toNat 3
def its (t : Tr) (r : Nat) (js : List (Int × Int)) : List It := dI t r 21 ++ jJ t r js
theorem nI_zero (t : Tr) (v : Nat) : nI t v 0 = [] := rfl
theorem nI_yes {t : Tr} {v k : Nat} (h : hld t.ro ((4 * v + 1 + k : Nat) : Int) = true) : nI t v (k + 1) = nI t v k ++ [mkI t v (4 * v + 1 + k)] := by
  unfold nI
  rw [List.range_succ, List.flatMap_append, List.flatMap_singleton, h, if_pos rfl]
theorem nI_no {t : Tr} {v k : Nat} (h : hld t.ro ((4 * v + 1 + k : Nat) : Int) = false) : nI t v (k + 1) = nI t v k := by
  unfold nI
  rw [List.range_succ, List.flatMap_append, List.flatMap_singleton, h, if_neg (by simp), List.append_nil]
theorem dI_zero (t : Tr) (r : Nat) : dI t r 0 = [] := rfl
theorem dI_yes {t : Tr} {r j : Nat} (h : r.testBit (20 - j) = true) : dI t r (j + 1) = dI t r j ++ nI t (20 - j) 4 := by
  unfold dI
  rw [List.range_succ, List.flatMap_append, List.flatMap_singleton, h, if_pos rfl]
theorem dI_no {t : Tr} {r j : Nat} (h : r.testBit (20 - j) = false) : dI t r (j + 1) = dI t r j := by
  unfold dI
  rw [List.range_succ, List.flatMap_append, List.flatMap_singleton, h, if_neg (by simp), List.append_nil]
theorem jI_zero (t : Tr) (r s : Nat) : jI t r s 0 = [] := rfl
theorem jI_yes {t : Tr} {r s k : Nat} (h : r.testBit (pn s k) = true) : jI t r s (k + 1) = jI t r s k := by
  unfold jI
  rw [List.range_succ, List.flatMap_append, List.flatMap_singleton, h, if_pos rfl, List.append_nil]
theorem jI_no {t : Tr} {r s k : Nat} (h : r.testBit (pn s k) = false) : jI t r s (k + 1) = jI t r s k ++ [mkI t (pn s k) (21 + s)] := by
  unfold jI
  rw [List.range_succ, List.flatMap_append, List.flatMap_singleton, h, if_neg (by simp)]
theorem jJ_snoc (t : Tr) (r : Nat) (l : List (Int × Int)) (p : Int × Int) : jJ t r (l ++ [p]) = jJ t r l ++ jI t r p.2.toNat 3 := by
  unfold jJ
  rw [List.flatMap_append, List.flatMap_singleton]
theorem jJ_nil (t : Tr) (r : Nat) : jJ t r [] = [] := rfl
theorem nI_len (t : Tr) (v : Nat) : ∀ k, (nI t v k).length ≤ k
  | 0 => by simp [nI]
  | k + 1 => by
    have := nI_len t v k
    cases h : hld t.ro ((4 * v + 1 + k : Nat) : Int) with
    | true => rw [nI_yes h, List.length_append]; simp; omega
    | false => rw [nI_no h]; omega
theorem dI_len (t : Tr) (r : Nat) : ∀ j, j ≤ 21 → (dI t r j).length ≤ 4 * cd r j
  | 0, _ => by simp [dI]
  | j + 1, hj => by
    have ih := dI_len t r j (by omega)
    have hn := nI_len t (20 - j) 4
    simp only [Rt.cd]
    unfold Rt.b1
    cases h : r.testBit (20 - j) with
    | true => rw [dI_yes h, List.length_append, if_pos rfl]; omega
    | false => rw [dI_no h, if_neg (by simp)]; omega
theorem jI_len (t : Tr) (r s : Nat) : ∀ k, (jI t r s k).length ≤ k
  | 0 => by simp [jI]
  | k + 1 => by
    have := jI_len t r s k
    cases h : r.testBit (pn s k) with
    | true => rw [jI_yes h]; omega
    | false => rw [jI_no h, List.length_append]; simp; omega
theorem jJ_len (t : Tr) (r : Nat) : ∀ js : List (Int × Int), (jJ t r js).length ≤ 3 * js.length
  | [] => by simp [jJ]
  | p :: l => by
    have ih := jJ_len t r l
    have := jI_len t r p.2.toNat 3
    unfold jJ at *
    rw [List.flatMap_cons, List.length_append, List.length_cons]
    omega
/- How many nodes are replaced. -/
def cnW (p : Nat → Bool) : Nat → Nat
  | 0 => 0
  | n + 1 => cnW p n + if p n then 1 else 0
theorem cu_mkW (p : Nat → Bool) : ∀ k, k ≤ 21 → cu (mkW p 21) k = cnW p k
  | 0, _ => rfl
  | k + 1, h => by
    rw [Rt.cu, cnW, cu_mkW p k (by omega)]
    unfold Rt.b1
    rw [mkW_bit, decide_eq_true (by omega), Bool.true_and]
theorem cnW_or (p q : Nat → Bool) : ∀ n, cnW (fun v => p v || q v) n ≤ cnW p n + cnW q n
  | 0 => by simp [cnW]
  | n + 1 => by
    have := cnW_or p q n
    simp only [cnW]
    by_cases hp : p n = true <;> by_cases hq : q n = true
    · rw [if_pos (by rw [hp]; rfl), if_pos hp, if_pos hq]; omega
    · rw [if_pos (by rw [hp]; rfl), if_pos hp, if_neg hq]; omega
    · rw [if_pos (by rw [hq, Bool.or_true]), if_neg hp, if_pos hq]; omega
    · rw [if_neg (by rw [Bool.not_eq_true] at hp hq; rw [hp, hq]; simp), if_neg hp, if_neg hq]; omega
theorem cnW_none {p : Nat → Bool} : ∀ n, (∀ i, i < n → p i = false) → cnW p n = 0
  | 0, _ => rfl
  | n + 1, h => by rw [cnW, cnW_none n fun i hi => h i (by omega), h n (by omega)]; rfl
theorem cn_path : ∀ s : Fin 64, cnW (fun v => belB (v : Int) (21 + (s.val : Int))) 21 = 3 := by decide +kernel
theorem cn_seat (x : Int) : cnW (fun v => belB (v : Int) (lef x)) 21 ≤ 3 := by
  cases hs : sl x with
  | false =>
    rw [cnW_none 21 fun i hi => by rw [Sh.lef_no (Rs.sl_not hs), Sh.belB_no' (Sh.nodeB_no (by omega))]]
    omega
  | true =>
    obtain ⟨k, hk, h2⟩ := Rs.sl_nat hs
    rw [hk, Sh.lef_yes (by omega) (by omega)]
    have := cn_path ⟨k, h2⟩
    exact Nat.le_of_eq this
theorem cn_rpl : ∀ l : List (Int × Int), cnW (rpl l) 21 ≤ 3 * l.length
  | [] => by rw [cnW_none (p := rpl []) 21 fun i _ => rfl]; omega
  | p :: l => by
    have ih := cn_rpl l
    have h1 := cnW_or (fun v => belB (v : Int) (lef p.2)) (rpl l) 21
    have h2 := cn_seat p.2
    have e : (rpl (p :: l)) = fun v : Nat => belB (v : Int) (lef p.2) || rpl l v := by funext v; unfold rpl; rw [List.any_cons]
    rw [e, List.length_cons]
    omega
theorem cu_rp (l : List (Int × Int)) : cu (rp l) 21 ≤ 3 * l.length := by unfold rp; rw [cu_mkW _ _ (by omega)]; exact cn_rpl l
theorem its_len (t : Tr) (l js : List (Int × Int)) : (its t (rp l) js).length ≤ 12 * (l.length + js.length) := by
  have h1 := dI_len t (rp l) 21 (by omega)
  have h2 := jJ_len t (rp l) js
  have h3 := cu_rp l
  rw [Rt.cd_all] at h1
  unfold its
  rw [List.length_append]
  omega
theorem its_short (t : Tr) (r : Nat) (js : List (Int × Int)) : (its t r js).length ≤ 84 + 3 * js.length := by
  have h1 := dI_len t r 21 (by omega)
  have h2 := jJ_len t r js
  have h3 := Rt.cd_le r 21
  unfold its
  rw [List.length_append]
  omega
/- Which items there are. -/
theorem mem_nI {t : Tr} {v k : Nat} {x : It} : x ∈ nI t v k ↔ ∃ i, i < k ∧ hld t.ro ((4 * v + 1 + i : Nat) : Int) = true ∧ x = mkI t v (4 * v + 1 + i) := by
  unfold nI
  rw [List.mem_flatMap]
  constructor
  · rintro ⟨i, hi, hx⟩
    cases h : hld t.ro ((4 * v + 1 + i : Nat) : Int) with
    | true => rw [h, if_pos rfl] at hx; exact ⟨i, List.mem_range.1 hi, h, List.mem_singleton.1 hx⟩
    | false => rw [h, if_neg (by simp)] at hx; cases hx
  · rintro ⟨i, hi, h, rfl⟩
    exact ⟨i, List.mem_range.2 hi, by rw [h, if_pos rfl]; exact List.mem_singleton.2 rfl⟩
theorem mem_dI {t : Tr} {r : Nat} {x : It} : x ∈ dI t r 21 ↔ ∃ v i, v < 21 ∧ i < 4 ∧ r.testBit v = true ∧ hld t.ro ((4 * v + 1 + i : Nat) : Int) = true ∧ x = mkI t v (4 * v + 1 + i) := by
  unfold dI
  rw [List.mem_flatMap]
  constructor
  · rintro ⟨m, hm, hx⟩
    have hm := List.mem_range.1 hm
    cases h : r.testBit (20 - m) with
    | true =>
      rw [h, if_pos rfl] at hx
      obtain ⟨i, h1, h2, h3⟩ := mem_nI.1 hx
      exact ⟨20 - m, i, by omega, h1, h, h2, h3⟩
    | false => rw [h, if_neg (by simp)] at hx; cases hx
  · rintro ⟨v, i, hv, hi, hb, hh, rfl⟩
    refine ⟨20 - v, List.mem_range.2 (by omega), ?_⟩
    rw [show 20 - (20 - v) = v by omega, hb, if_pos rfl]
    exact mem_nI.2 ⟨i, hi, hh, rfl⟩
theorem mem_jI {t : Tr} {r s : Nat} {x : It} : x ∈ jI t r s 3 ↔ ∃ i, i < 3 ∧ r.testBit (pn s i) = false ∧ x = mkI t (pn s i) (21 + s) := by
  unfold jI
  rw [List.mem_flatMap]
  constructor
  · rintro ⟨i, hi, hx⟩
    cases h : r.testBit (pn s i) with
    | false => rw [h, if_neg (by simp)] at hx; exact ⟨i, List.mem_range.1 hi, h, List.mem_singleton.1 hx⟩
    | true => rw [h, if_pos rfl] at hx; cases hx
  · rintro ⟨i, hi, h, rfl⟩
    exact ⟨i, List.mem_range.2 hi, by rw [h, if_neg (by simp)]; exact List.mem_singleton.2 rfl⟩
theorem mem_jJ {t : Tr} {r : Nat} {js : List (Int × Int)} {x : It} : x ∈ jJ t r js ↔ ∃ p ∈ js, ∃ i, i < 3 ∧ r.testBit (pn p.2.toNat i) = false ∧ x = mkI t (pn p.2.toNat i) (21 + p.2.toNat) := by
  unfold jJ
  rw [List.mem_flatMap]
  constructor
  · rintro ⟨p, hp, hx⟩
    exact ⟨p, hp, mem_jI.1 hx⟩
  · rintro ⟨p, hp, hx⟩
    exact ⟨p, hp, mem_jI.2 hx⟩
/- The joined seats. -/
theorem mem_jns {t : Tr} {L J : List Int} {p : Int × Int} : p ∈ jns t L J ↔ ∃ m, m < J.length ∧ p = (J.getD m 0, (((mvT t.ro L J).getD m 0 : Nat) : Int)) := by
  unfold jns
  rw [List.mem_iff_getElem]
  constructor
  · rintro ⟨m, hm, e⟩
    have hm' : m < J.length := by simpa using hm
    refine ⟨m, hm', ?_⟩
    rw [← Rs.adl_get (mvT t.ro L J) J J.length hm', List.getD_eq_getElem?_getD, List.getElem?_eq_getElem hm, Option.getD_some, e]
  · rintro ⟨m, hm, rfl⟩
    refine ⟨m, by simpa using hm, ?_⟩
    have := Rs.adl_get (mvT t.ro L J) J J.length hm
    rw [List.getD_eq_getElem?_getD, List.getElem?_eq_getElem (by simpa using hm), Option.getD_some] at this
    exact this
theorem Stp.joined {t : Tr} {L J : List Int} (h : Stp t L J) {m : Nat} (hm : m < J.length) : (mvT t.ro L J).getD m 0 < 64 ∧ (nx t L J).ro ((mvT t.ro L J).getD m 0) = ⟨J.getD m 0, plF t L + (m : Int), t.ep + 1⟩ ∧ tkn (evs t.ro L ((mvT t.ro L J).getD m 0)) = false := by
  have hv := Rs.mv_of h.m3
  have ht := Rs.T_free (f := t.ro) (L := L) (J := J) (m := m) (by rw [hv.ok.lenT]; omega)
  exact ⟨ht.1, Rs.adm_get hv (m := m) J.length hm (Nat.le_refl _), ht.2⟩
theorem Stp.seat {t : Tr} {L J : List Int} (h : Stp t L J) {p : Int × Int} (hp : p ∈ jns t L J) : ∃ s : Nat, s < 64 ∧ p.2 = (s : Int) ∧ tkn ((nx t L J).ro s) = true ∧ ((nx t L J).ro s).snc = t.ep + 1 ∧ plF t L ≤ ((nx t L J).ro s).bas := by
  obtain ⟨m, hm, e⟩ := mem_jns.1 hp
  obtain ⟨h1, h2, _⟩ := h.joined hm
  refine ⟨(mvT t.ro L J).getD m 0, h1, by rw [e], ?_, ?_, ?_⟩
  · rw [h2]
    have := h.rt.f0
    have := plF_ge t L
    simp [Rs.tkn]
    omega
  · rw [h2]
  · rw [h2]; dsimp only; omega
/- Nodes and paths. -/
theorem child_all : ∀ v : Fin 21, ∀ i : Fin 4, belB (v.val : Int) ((4 * v.val + 1 + i.val : Nat) : Int) = true ∧ ∀ u : Fin 85, belB ((4 * v.val + 1 + i.val : Nat) : Int) (u.val : Int) = true → belB (v.val : Int) (u.val : Int) = true := by decide +kernel
theorem path_all : ∀ s : Fin 64, ∀ i : Fin 3, belB (pn s.val i.val : Int) (21 + (s.val : Int)) = true := by decide +kernel
theorem path_bel {s i : Nat} (hs : s < 64) (hi : i < 3) : belB (pn s i : Int) (21 + (s : Int)) = true := path_all ⟨s, hs⟩ ⟨i, hi⟩
theorem on_path : ∀ v : Fin 21, ∀ s : Fin 64, belB (v.val : Int) (21 + (s.val : Int)) = true → v.val = pn s.val 0 ∨ v.val = pn s.val 1 ∨ v.val = pn s.val 2 := by decide +kernel
theorem leaf_bel : ∀ s u : Fin 64, belB (21 + (s.val : Int)) (21 + (u.val : Int)) = decide (s.val = u.val) := by decide +kernel
theorem leaf_same {s u : Nat} (hs : s < 64) (hu : u < 64) (h : belB (21 + (s : Int)) (21 + (u : Int)) = true) : s = u := by
  have := leaf_bel ⟨s, hs⟩ ⟨u, hu⟩
  rw [h] at this
  exact of_decide_eq_true this.symm
theorem leaf_self {s : Nat} (hs : s < 64) : belB (21 + (s : Int)) (21 + (s : Int)) = true := by
  rw [leaf_bel ⟨s, hs⟩ ⟨s, hs⟩]
  simp
/- The node below, on the path of a slot: the leaf, or the node ahead. -/
def bel (s i : Nat) : Nat := if i = 0 then 21 + s else pn s (i - 1)
theorem bel_all : ∀ s : Fin 64, ∀ i : Fin 3, ∃ k : Fin 4, bel s.val i.val = 4 * pn s.val i.val + 1 + k.val := by decide +kernel
theorem bel_child {s i : Nat} (hs : s < 64) (hi : i < 3) : ∃ k, k < 4 ∧ bel s i = 4 * pn s i + 1 + k := by
  obtain ⟨k, hk⟩ := bel_all ⟨s, hs⟩ ⟨i, hi⟩
  exact ⟨k.val, k.2, hk⟩
theorem bel_on {s i : Nat} (hs : s < 64) (hi : i < 3) : belB (bel s i : Int) (21 + (s : Int)) = true := by
  unfold bel
  split
  · exact leaf_self hs
  · exact path_bel hs (by omega)
theorem hld_yes {r : Nat → En} {s : Nat} {v : Int} (hs : s < 64) (ht : tkn (r s) = true) (h : belB v (21 + (s : Int)) = true) : hld r v = true := any_yes hs (by rw [ht, h]; rfl)
theorem hld_at {r : Nat → En} {v : Int} (h : hld r v = true) : ∃ s, s < 64 ∧ tkn (r s) = true ∧ belB v (21 + (s : Int)) = true := by
  unfold hld at h
  rw [List.any_eq_true] at h
  obtain ⟨s, hs, h2⟩ := h
  rw [Bool.and_eq_true] at h2
  exact ⟨s, List.mem_range.1 hs, h2.1, h2.2⟩
/- A leaf below which somebody sits is taken. -/
theorem hld_leaf {t : Tr} (h : tck t = true) {c : Nat} (hc : c < 85) (hh : hld t.ro (c : Int) = true) : koE t (c : Int) = 0 := by
  rcases Nat.lt_or_ge c 21 with h1 | h1
  · exact koE_inner h (by omega) (by omega)
  · obtain ⟨s, hs, ht, hb⟩ := hld_at hh
    obtain ⟨u, rfl⟩ : ∃ u, c = 21 + u := ⟨c - 21, by omega⟩
    have hb' : belB (21 + (u : Int)) (21 + (s : Int)) = true := by have := hb; push_cast at this; exact this
    have e := leaf_same (by omega) hs hb'
    subst e
    have := koE_leaf h (s := u) (by omega)
    rw [show ((21 + u : Nat) : Int) = 21 + (u : Int) by push_cast; rfl, this]
    exact (tck_right h).leaf hs ht
/- The items of a step: under a key of a node that is held, the key of a node above it. -/
structure Itm (t : Tr) (v c : Nat) : Prop where
  lv : v < 21
  lc : c < 85
  held : hld t.ro (c : Int) = true
  up : ∀ u : Nat, u < 85 → belB (c : Int) (u : Int) = true → belB (v : Int) (u : Int) = true
theorem leaf_up : ∀ s : Fin 64, ∀ u : Fin 85, belB (21 + (s.val : Int)) (u.val : Int) = true → (u.val : Int) = 21 + (s.val : Int) := by decide +kernel
theorem item_of {t : Tr} {L J : List Int} (h : Stp t L J) {x : It} (hx : x ∈ its (nx t L J) (plR t L) (jns t L J)) : ∃ v c, x = mkI (nx t L J) v c ∧ Itm (nx t L J) v c := by
  unfold its at hx
  rcases List.mem_append.1 hx with hx | hx
  · obtain ⟨v, i, hv, hi, _, hh, e⟩ := mem_dI.1 hx
    refine ⟨v, 4 * v + 1 + i, e, hv, by omega, hh, fun u hu hb => ?_⟩
    exact (child_all ⟨v, hv⟩ ⟨i, hi⟩).2 ⟨u, hu⟩ hb
  · obtain ⟨p, hp, i, hi, _, e⟩ := mem_jJ.1 hx
    obtain ⟨s, hs, hp2, ht, _, _⟩ := h.seat hp
    rw [hp2, Int.toNat_natCast] at e
    have e2 : ((21 + s : Nat) : Int) = 21 + (s : Int) := by push_cast; rfl
    refine ⟨pn s i, 21 + s, e, pn_lt hs i, by omega, ?_, fun u hu hb => ?_⟩
    · rw [e2]; exact hld_yes hs ht (leaf_self hs)
    · rw [e2] at hb
      rw [leaf_up ⟨s, hs⟩ ⟨u, hu⟩ hb]
      exact path_bel hs hi
/- Who sits at a slot of the new tree has an item for each replaced node of its path. -/
theorem item_child {t : Tr} {r : Nat} {js : List (Int × Int)} {s i : Nat} (hs : s < 64) (hi : i < 3) (ht : tkn (t.ro s) = true) (hb : r.testBit (pn s i) = true) : mkI t (pn s i) (bel s i) ∈ its t r js := by
  obtain ⟨k, hk, e⟩ := bel_child hs hi
  unfold its
  refine List.mem_append.2 (.inl (mem_dI.2 ⟨pn s i, k, pn_lt hs i, hk, hb, ?_, by rw [e]⟩))
  rw [← e]
  exact hld_yes hs ht (bel_on hs hi)
theorem item_join {t : Tr} {r : Nat} {js : List (Int × Int)} {s i : Nat} {p : Int × Int} (hp : p ∈ js) (hs : p.2 = (s : Int)) (hi : i < 3) (hb : r.testBit (pn s i) = false) : mkI t (pn s i) (21 + s) ∈ its t r js := by
  unfold its
  refine List.mem_append.2 (.inr (mem_jJ.2 ⟨p, hp, i, hi, ?_, ?_⟩))
  · rw [hs, Int.toNat_natCast]; exact hb
  · rw [hs, Int.toNat_natCast]
/- Old keys and new ones. -/
structure Kept (t u : Tr) (c : Nat) : Prop where
  was : koE t (c : Int) = 0
  bas : (koK u (c : Int)).bas = (koK t (c : Int)).bas
  stp : (koK u (c : Int)).stp = (koK t (c : Int)).stp + 1
theorem koK_in {t : Tr} (h : tck t = true) {v : Nat} (hv : v < 21) : koK t (v : Int) = t.ks v := by
  unfold koK
  rw [if_pos (koE_inner h (by omega) (by omega)), if_pos (by omega), Int.toNat_natCast]
theorem koK_leaf {t : Tr} (h : tck t = true) {s : Nat} (hs : s < 64) (ht : tkn (t.ro s) = true) : koE t ((21 + s : Nat) : Int) = 0 ∧ koK t ((21 + s : Nat) : Int) = ⟨(t.ro s).bas, t.ep - (t.ro s).snc⟩ := by
  have e2 : ((21 + s : Nat) : Int) = 21 + (s : Int) := by push_cast; rfl
  have h0 : koE t ((21 + s : Nat) : Int) = 0 := by rw [e2, koE_leaf h hs]; exact (tck_right h).leaf hs ht
  refine ⟨h0, ?_⟩
  unfold koK
  rw [if_pos h0, if_neg (by omega), e2, show (21 + (s : Int) - 21).toNat = s by omega]
/- A new tree's key is fresh, or its node's old one, advanced. -/
theorem new_key {t : Tr} {L J : List Int} (h : Stp t L J) {c : Nat} (hc : c < 85) (h0 : koE (nx t L J) (c : Int) = 0) :
    t.fr ≤ (koK (nx t L J) (c : Int)).bas ∨ Kept t (nx t L J) c ∧ (c < 21 → (plR t L).testBit c = false) ∧ (∀ s, c = 21 + s → tkn (t.ro s) = true ∧ (nx t L J).ro s = t.ro s) := by
  rcases kn h.tckn hc h0 with ⟨h1, e⟩ | ⟨s, hs, e1, ht, e⟩
  · rcases h.key h1 with ⟨_, _, ge, _⟩ | ⟨hb, e2⟩
    · rw [e]; exact .inl ge
    · refine .inr ⟨⟨koE_inner h.ok (by omega) (by omega), ?_, ?_⟩, fun _ => hb, fun s hs => by omega⟩
      · rw [e, e2, koK_in h.ok h1]
      · rw [e, e2, koK_in h.ok h1]
  · subst e1
    rcases nx_ent h s with ⟨e2, e3⟩ | ⟨m, hm, _, e2⟩
    · rcases e3 with e3 | e3
      · rw [e3] at e2
        have ht2 := ht
        rw [e2] at ht2
        obtain ⟨k1, k2⟩ := koK_leaf h.ok hs ht2
        refine .inr ⟨⟨k1, ?_, ?_⟩, fun h => by omega, fun u hu => ?_⟩
        · rw [e, e2, k2]
        · rw [e, e2, k2]
          show t.ep + 1 - _ = t.ep - _ + 1
          omega
        · obtain rfl : s = u := by omega
          exact ⟨ht2, e2⟩
      · rw [e2, e3, Rs.tkn_zE] at ht
        cases ht
    · left
      rw [e, e2]
      have := plF_ge t L
      dsimp only
      omega
theorem koK_name {t : Tr} (h : tck t = true) {j k : Nat} (hj : j < 85) (hk : k < 85) (hj0 : koE t (j : Int) = 0) (hk0 : koE t (k : Int) = 0) (he : (koK t (j : Int)).bas = (koK t (k : Int)).bas) : j = k := by
  rcases Nat.lt_trichotomy j k with c | c | c
  · exact absurd he (kn_ne h c hk hj0 hk0)
  · exact c
  · exact absurd he.symm (kn_ne h c hj hk0 hj0)
/- The left seats. -/
theorem Stp.left {t : Tr} {L J : List Int} (h : Stp t L J) {p : Int × Int} (hp : p ∈ evl t.ro L) : ∃ s : Nat, s < 64 ∧ p.2 = (s : Int) ∧ tkn (t.ro s) = true ∧ (t.ro s).who = p.1 ∧ p.1 ∈ L := by
  rw [fit_evl h.fit] at hp
  obtain ⟨x, hx, e⟩ := List.mem_map.1 hp
  obtain ⟨k, hk, he⟩ := List.mem_iff_getElem.1 hx
  have hon := (h.fit.lv k hk).2.2
  have ex : L.getD k 0 = x := by rw [List.getD_eq_getElem?_getD, List.getElem?_eq_getElem hk, Option.getD_some, he]
  rw [ex] at hon
  obtain ⟨j, h1, h2, h3⟩ := Rs.on_at hon
  obtain ⟨h4, h5⟩ := Rs.at_who h3
  subst e
  exact ⟨j, h2, h1, h4, h5, hx⟩
theorem Stp.replaced {t : Tr} {L J : List Int} (h : Stp t L J) {s : Nat} (hs : s < 64) (ht : tkn (t.ro s) = true) (hL : (t.ro s).who ∈ L) {v : Nat} (hv : v < 21) (hb : belB (v : Int) (21 + (s : Int)) = true) : (plR t L).testBit v = true := by
  unfold plR
  rw [rp_bit _ hv]
  unfold rpl
  rw [List.any_eq_true, fit_evl h.fit]
  refine ⟨((t.ro s).who, fnd t.ro (t.ro s).who), List.mem_map.2 ⟨_, hL, rfl⟩, ?_⟩
  dsimp only
  rw [h.rt.find hs ht, Sh.lef_yes (by omega) (by omega)]
  exact hb
theorem Stp.who {t : Tr} {L J : List Int} (h : Stp t L J) {v : Nat} (hv : v < 21) (hb : (plR t L).testBit v = true) : ∃ s, s < 64 ∧ tkn (t.ro s) = true ∧ (t.ro s).who ∈ L ∧ belB (v : Int) (21 + (s : Int)) = true := by
  unfold plR at hb
  rw [rp_bit _ hv] at hb
  unfold rpl at hb
  rw [List.any_eq_true] at hb
  obtain ⟨p, hp, hq⟩ := hb
  obtain ⟨s, hs, e, ht, hw, hL⟩ := h.left hp
  rw [e, Sh.lef_yes (by omega) (by omega)] at hq
  exact ⟨s, hs, ht, by rw [hw]; exact hL, hq⟩
/- P12.4: no leaver's name is in the new tree. -/
theorem fwd_leaf {t : Tr} {L J : List Int} (h : Stp t L J) {s : Nat} (hs : s < 64) (ht : tkn (t.ro s) = true) (hL : (t.ro s).who ∈ L) {c : Nat} (hc : c < 85) (h0 : koE (nx t L J) (c : Int) = 0) : (koK (nx t L J) (c : Int)).bas ≠ (koK t ((21 + s : Nat) : Int)).bas := by
  intro e
  obtain ⟨k1, k2⟩ := koK_leaf h.ok hs ht
  rcases new_key h hc h0 with hf | ⟨hk, _, h2⟩
  · have := (kn_fit h.ok (k := 21 + s) (by omega) k1).2.1
    omega
  · have ec := koK_name h.ok hc (by omega) hk.was k1 (hk.bas.symm.trans e)
    obtain ⟨_, h4⟩ := h2 s ec
    have h5 := Rs.mv_leaves h.m3 hL
    rw [h.r3] at h5
    have h6 := Rs.fnd_none.1 h5 s hs
    unfold Rs.at' at h6
    rw [h4, ht] at h6
    simp at h6
theorem fwd_path {t : Tr} {L J : List Int} (h : Stp t L J) {s : Nat} (hs : s < 64) (ht : tkn (t.ro s) = true) (hL : (t.ro s).who ∈ L) {i : Nat} (hi : i < 3) {c : Nat} (hc : c < 85) (h0 : koE (nx t L J) (c : Int) = 0) : (koK (nx t L J) (c : Int)).bas ≠ (t.ks (pn s i)).bas := by
  intro e
  have hv := pn_lt hs i
  have hr := h.replaced hs ht hL hv (path_bel hs hi)
  rcases new_key h hc h0 with hf | ⟨hk, h1, h2⟩
  · have := (h.rt.fk _ hv).1
    omega
  · have k1 : koE t ((pn s i : Nat) : Int) = 0 := koE_inner h.ok (by omega) (by omega)
    have ec := koK_name h.ok hc (by omega) hk.was k1 (by rw [koK_in h.ok hv]; exact hk.bas.symm.trans e)
    rw [ec] at h1
    rw [h1 hv] at hr
    cases hr
/- P12.5: no new key gives an old one. -/
theorem bwd {t : Tr} {L J : List Int} (h : Stp t L J) {c d : Nat} (hc : c < 85) (hd : d < 85) (h0 : koE (nx t L J) (c : Int) = 0) (h1 : koE t (d : Int) = 0) (he : (koK (nx t L J) (c : Int)).bas = (koK t (d : Int)).bas) : (koK t (d : Int)).stp < (koK (nx t L J) (c : Int)).stp := by
  rcases new_key h hc h0 with hf | ⟨hk, _, _⟩
  · have := (kn_fit h.ok hd h1).2.1
    omega
  · have ec := koK_name h.ok hc hd hk.was h1 (hk.bas.symm.trans he)
    subst ec
    rw [hk.stp]
    omega
/- Who stays keeps its entry; who is there joined or stayed. -/
theorem Stp.stays {t : Tr} {L J : List Int} (h : Stp t L J) {s : Nat} (ht : tkn (t.ro s) = true) (hL : (t.ro s).who ∉ L) : (nx t L J).ro s = t.ro s := by
  rw [← h.r3]
  exact Rs.mv_stays h.m3 ht hL
theorem Stp.stayed {t : Tr} {L J : List Int} (h : Stp t L J) {s : Nat} (hs : s < 64) (ht : tkn ((nx t L J).ro s) = true) : ((nx t L J).ro s = t.ro s ∧ (t.ro s).who ∉ L) ∨ ∃ p ∈ jns t L J, p.2 = (s : Int) := by
  rcases nx_ent h s with ⟨e2, e3⟩ | ⟨m, hm, e1, _⟩
  · rcases e3 with e3 | e3
    · rw [e3] at e2
      refine .inl ⟨e2, fun hL => ?_⟩
      have h5 := Rs.mv_leaves h.m3 hL
      rw [h.r3] at h5
      have h6 := Rs.fnd_none.1 h5 s hs
      unfold Rs.at' at h6
      rw [ht, e2] at h6
      simp at h6
    · rw [e2, e3, Rs.tkn_zE] at ht
      cases ht
  · exact .inr ⟨_, mem_jns.2 ⟨m, hm, rfl⟩, by rw [e1]⟩
end Go.Proofs.YtpimbpfefhkojaaGreat
/- Rows of steps on plain data: a key's name has one node, and is advanced as long as it is there; what opened members give. -/
namespace Go.Proofs.YtpimbpfefhkojaaGreat
open Rt (Ky zK)
open Rs (En zE tkn fnd evs evl)
open Sh (belB)
set_option linter.unusedVariables false
set_option linter.unusedSimpArgs false

structure Row (T : Nat → Tr) (Ls Js : Nat → List Int) (n : Nat) : Prop where
  ok0 : tck (T 0) = true
  ep0 : (T 0).ep = 0
  stp : ∀ i, i < n → Stp (T i) (Ls i) (Js i)
  nxt : ∀ i, i < n → T (i + 1) = nx (T i) (Ls i) (Js i)
section
variable {T : Nat → Tr} {Ls Js : Nat → List Int} {n : Nat}
theorem Row.ok (h : Row T Ls Js n) : ∀ i, i ≤ n → tck (T i) = true
  | 0, _ => h.ok0
  | i + 1, hi => by rw [h.nxt i (by omega)]; exact (h.stp i (by omega)).tckn
theorem Row.ep (h : Row T Ls Js n) : ∀ i, i ≤ n → (T i).ep = (i : Int)
  | 0, _ => h.ep0
  | i + 1, hi => by
    rw [h.nxt i (by omega)]
    show (T i).ep + 1 = _
    rw [h.ep i (by omega)]
    push_cast
    rfl
theorem Row.le (h : Row T Ls Js n) : n ≤ 200 := by
  have h1 := h.ep n (Nat.le_refl _)
  have h2 := (tck_right (h.ok n (Nat.le_refl _))).e1
  omega
theorem Row.fr (h : Row T Ls Js n) (e : Nat) : ∀ d, e + d ≤ n → (T e).fr ≤ (T (e + d)).fr
  | 0, _ => Int.le_refl _
  | d + 1, hd => by
    have ih := h.fr e d (by omega)
    have h1 : (T (e + d)).fr ≤ (T (e + (d + 1))).fr := by
      rw [show e + (d + 1) = e + d + 1 by omega, h.nxt (e + d) (by omega)]
      show _ ≤ plF (T (e + d)) (Ls (e + d)) + ((Js (e + d)).length : Int)
      have := plF_ge (T (e + d)) (Ls (e + d))
      omega
    omega
/- One name: one node, advanced at each step. -/
theorem Row.one (h : Row T Ls Js n) (e : Nat) {c : Nat} (hc : c < 85) (h0 : koE (T e) (c : Int) = 0) : ∀ (d : Nat) {c' : Nat}, e + d ≤ n → c' < 85 → koE (T (e + d)) (c' : Int) = 0 → (koK (T (e + d)) (c' : Int)).bas = (koK (T e) (c : Int)).bas →
    c' = c ∧ (∀ k, k ≤ d → koE (T (e + k)) (c : Int) = 0 ∧ (koK (T (e + k)) (c : Int)).bas = (koK (T e) (c : Int)).bas) ∧ (koK (T (e + d)) (c : Int)).stp = (koK (T e) (c : Int)).stp + (d : Int)
  | 0, c', hd, hc', h1, he => by
    have e1 := koK_name (h.ok e (by omega)) hc' hc h1 h0 he
    refine ⟨e1, fun k hk => ?_, by simp⟩
    obtain rfl : k = 0 := by omega
    exact ⟨h0, rfl⟩
  | d + 1, c', hd, hc', h1, he => by
    have hs := h.stp (e + d) (by omega)
    have hn := h.nxt (e + d) (by omega)
    have e2 : e + (d + 1) = e + d + 1 := by omega
    rw [e2, hn] at h1 he
    rcases new_key hs hc' h1 with hf | ⟨hk, _, _⟩
    · exfalso
      have a1 := (kn_fit (h.ok e (by omega)) hc h0).2.1
      have a2 := h.fr e d (by omega)
      omega
    · obtain ⟨i1, i2, i3⟩ := h.one e hc h0 d (by omega) hc' hk.was (hk.bas.symm.trans he)
      subst i1
      refine ⟨rfl, fun k hkd => ?_, ?_⟩
      · rcases Nat.lt_or_ge k (d + 1) with c1 | c1
        · exact i2 k (by omega)
        · obtain rfl : k = d + 1 := by omega
          rw [e2, hn]
          exact ⟨h1, he⟩
      · rw [e2, hn, hk.stp, i3]
        push_cast
        omega
/- Of two keys of one name the later has the greater step. -/
theorem Row.later (h : Row T Ls Js n) {e e' c c' : Nat} (he : e ≤ n) (he' : e' ≤ n) (hc : c < 85) (hc' : c' < 85) (h0 : koE (T e) (c : Int) = 0) (h1 : koE (T e') (c' : Int) = 0) (hn : (koK (T e') (c' : Int)).bas = (koK (T e) (c : Int)).bas) (hs : (koK (T e) (c : Int)).stp ≤ (koK (T e') (c' : Int)).stp) : e ≤ e' := by
  rcases Nat.lt_or_ge e' e with hl | hl
  · exfalso
    obtain ⟨d, rfl⟩ : ∃ d, e = e' + d := ⟨e - e', by omega⟩
    obtain ⟨i1, _, i3⟩ := h.one e' hc' h1 d (by omega) hc h0 hn.symm
    subst i1
    omega
  · exact hl
/- Who was opened, and stayed on. -/
structure On (T : Nat → Tr) (x : Int × Int) (g e : Nat) : Prop where
  at' : x.2 = (g : Int)
  le : g ≤ e
  on : ∀ i, g ≤ i → i ≤ e → fnd (T i).ro x.1 ≠ -1
def Exc (T : Nat → Tr) (met : List (Int × Int)) (e c : Nat) : Prop := ∃ x ∈ met, ∃ g s : Nat, On T x g e ∧ s < 64 ∧ fnd (T e).ro x.1 = (s : Int) ∧ belB (c : Int) (21 + (s : Int)) = true
theorem stays_on {t : Tr} {L J : List Int} (h : Stp t L J) {x : Int} {s : Nat} (hf : fnd t.ro x = (s : Int)) (hs : s < 64) (ht : tkn (t.ro s) = true) (hw : (t.ro s).who = x) (hL : x ∉ L) : fnd (nx t L J).ro x = (s : Int) := by
  have e := h.stays ht (by rw [hw]; exact hL)
  have := h.right.find hs (by rw [e]; exact ht)
  rw [e, hw] at this
  exact this
theorem exc_step (h : Row T Ls Js n) {met : List (Int × Int)} {e c : Nat} (he : e < n) (hc : c < 85) (hx : Exc T met e c) (h0 : koE (T (e + 1)) (c : Int) = 0) (hb : (koK (T (e + 1)) (c : Int)).bas < (T e).fr) : Exc T met (e + 1) c := by
  obtain ⟨x, hxm, g, s, hon, hs, hf, hbl⟩ := hx
  have hst := h.stp e he
  have hn := h.nxt e he
  rcases fnd_at (T e).ro x.1 with hf2 | ⟨s', hs', hf', ht, hw⟩
  · rw [hf] at hf2; omega
  · obtain rfl : s = s' := by rw [hf] at hf'; omega
    have hL : x.1 ∉ Ls e := fun hL => by
      rw [hn] at h0 hb
      rcases new_key hst hc h0 with hfr | ⟨hk, h1, h2⟩
      · omega
      · rcases Nat.lt_or_ge c 21 with c1 | c1
        · have := hst.replaced hs ht (by rw [hw]; exact hL) c1 hbl
          rw [h1 c1] at this
          cases this
        · obtain ⟨u, rfl⟩ : ∃ u, c = 21 + u := ⟨c - 21, by omega⟩
          have e2 : ((21 + u : Nat) : Int) = 21 + (u : Int) := by push_cast; rfl
          rw [e2] at hbl
          have e3 := leaf_same (by omega) hs hbl
          subst e3
          obtain ⟨_, e4⟩ := h2 u rfl
          have h5 := Rs.mv_leaves hst.m3 hL
          rw [hst.r3] at h5
          have h6 := Rs.fnd_none.1 h5 u hs
          unfold Rs.at' at h6
          rw [e4, ht, hw] at h6
          simp at h6
    have hf3 : fnd (T (e + 1)).ro x.1 = (s : Int) := by rw [hn]; exact stays_on hst hf hs ht hw hL
    refine ⟨x, hxm, g, s, ⟨hon.at', by have := hon.le; omega, fun i h1 h2 => ?_⟩, hs, hf3, hbl⟩
    rcases Nat.lt_or_ge i (e + 1) with c1 | c1
    · exact hon.on i h1 (by omega)
    · obtain rfl : i = e + 1 := by omega
      rw [hf3]
      omega
theorem exc_till (h : Row T Ls Js n) {met : List (Int × Int)} {e c : Nat} (hc : c < 85) (h0 : koE (T e) (c : Int) = 0) (hx : Exc T met e c) : ∀ d, e + d ≤ n → (∀ k, k ≤ d → koE (T (e + k)) (c : Int) = 0 ∧ (koK (T (e + k)) (c : Int)).bas = (koK (T e) (c : Int)).bas) → Exc T met (e + d) c
  | 0, _, _ => hx
  | d + 1, hd, hk => by
    have ih := exc_till h hc h0 hx d (by omega) fun k hk' => hk k (by omega)
    obtain ⟨k1, k2⟩ := hk (d + 1) (Nat.le_refl _)
    have a1 := (kn_fit (h.ok e (by omega)) hc h0).2.1
    have a2 := h.fr e d (by omega)
    have e2 : e + (d + 1) = e + d + 1 := by omega
    rw [e2] at k1 k2 ⊢
    exact exc_step (e := e + d) h (by omega) hc ih k1 (by rw [k2]; omega)
/- What may be had of a name and a step. -/
def Safe (T : Nat → Tr) (n : Nat) (met : List (Int × Int)) (b s : Int) : Prop := ∀ e c : Nat, e ≤ n → c < 85 → koE (T e) (c : Int) = 0 → (koK (T e) (c : Int)).bas = b → s ≤ (koK (T e) (c : Int)).stp → Exc T met e c
theorem safe_key (h : Row T Ls Js n) {met : List (Int × Int)} {e c : Nat} (he : e ≤ n) (hc : c < 85) (h0 : koE (T e) (c : Int) = 0) (hx : Exc T met e c) : Safe T n met (koK (T e) (c : Int)).bas (koK (T e) (c : Int)).stp := fun e' c' he' hc' h1 hb hs => by
  have hl := h.later he he' hc hc' h0 h1 hb hs
  obtain ⟨d, rfl⟩ : ∃ d, e' = e + d := ⟨e' - e, by omega⟩
  obtain ⟨i1, i2, _⟩ := h.one e hc h0 d he' hc' h1 hb
  subst i1
  exact exc_till h hc h0 hx d he' i2
theorem safe_box (h : Row T Ls Js n) {met : List (Int × Int)} {e v c : Nat} (he : e ≤ n) (hi : Itm (T e) v c) {u : Int} (hu : u ≤ (kyA (T e) c).stp) (hs : Safe T n met (kyA (T e) c).bas u) : Safe T n met (kyA (T e) v).bas (kyA (T e) v).stp := by
  have ht := h.ok e he
  have h0 := hld_leaf ht hi.lc hi.held
  have h1 : koE (T e) (v : Int) = 0 := koE_inner ht (by omega) (by have := hi.lv; omega)
  rw [kyA_ko ht hi.lc h0] at hu hs
  rw [kyA_ko ht (by have := hi.lv; omega) h1]
  obtain ⟨x, hxm, g, s, hon, hs64, hf, hbl⟩ := hs e c he hi.lc h0 rfl hu
  refine safe_key h he (by have := hi.lv; omega) h1 ⟨x, hxm, g, s, hon, hs64, hf, ?_⟩
  have := hi.up (21 + s) (by omega) (by push_cast; exact hbl)
  push_cast at this
  exact this
/- The nodes that somebody at a slot has: the leaf and its path. -/
theorem exc_own {met : List (Int × Int)} {x : Int × Int} {g s : Nat} (hx : x ∈ met) (hg : x.2 = (g : Int)) (hs : s < 64) (hf : fnd (T g).ro x.1 = (s : Int)) {c : Nat} (hb : belB (c : Int) (21 + (s : Int)) = true) : Exc T met g c := by
  refine ⟨x, hx, g, s, ⟨hg, Nat.le_refl _, fun i h1 h2 => ?_⟩, hs, hf, hb⟩
  obtain rfl : i = g := by omega
  rw [hf]
  omega
/- The other way round: who stays on is given its path's keys. -/
structure Gives (T : Nat → Tr) (Ls Js : Nat → List Int) (n : Nat) (K : Int → Int → Prop) : Prop where
  mono : ∀ b s s', K b s → s ≤ s' → K b s'
  box : ∀ e, e < n → ∀ x ∈ its (nx (T e) (Ls e) (Js e)) (plR (T e) (Ls e)) (jns (T e) (Ls e) (Js e)), K x.un.bas x.un.stp → K x.ld.bas x.ld.stp
theorem gives_path (h : Row T Ls Js n) {K : Int → Int → Prop} (hk : Gives T Ls Js n K) {x : Int} {g : Nat} (hg : ∀ s : Nat, s < 64 → fnd (T g).ro x = (s : Int) → K (kyA (T g) (21 + s)).bas (kyA (T g) (21 + s)).stp ∧ ∀ i, i < 3 → K ((T g).ks (pn s i)).bas ((T g).ks (pn s i)).stp) :
    ∀ d, g + d ≤ n → (∀ i, i ≤ d → fnd (T (g + i)).ro x ≠ -1) → ∀ s : Nat, s < 64 → fnd (T (g + d)).ro x = (s : Int) → K (kyA (T (g + d)) (21 + s)).bas (kyA (T (g + d)) (21 + s)).stp ∧ ∀ i, i < 3 → K ((T (g + d)).ks (pn s i)).bas ((T (g + d)).ks (pn s i)).stp
  | 0, _, _ => hg
  | d + 1, hd, hon => fun s hs hf => by
    have hst := h.stp (g + d) (by omega)
    have hn := h.nxt (g + d) (by omega)
    have e2 : g + (d + 1) = g + d + 1 := by omega
    rw [e2, hn] at hf ⊢
    have ih := gives_path h hk hg d (by omega) fun i hi => hon i (by omega)
    rcases fnd_at (T (g + d)).ro x with hf2 | ⟨u, hu, hf2, ht, hw⟩
    · exact absurd hf2 (hon d (by omega))
    · have hL : x ∉ Ls (g + d) := fun hL => by
        have h5 := Rs.mv_leaves hst.m3 hL
        rw [hst.r3, hf] at h5
        omega
      have hf3 := stays_on hst hf2 hu ht hw hL
      obtain rfl : s = u := by rw [hf] at hf3; omega
      obtain ⟨k1, k2⟩ := ih s hs hf2
      have hent := hst.stays ht (by rw [hw]; exact hL)
      have hleaf : K (kyA (nx (T (g + d)) (Ls (g + d)) (Js (g + d))) (21 + s)).bas (kyA (nx (T (g + d)) (Ls (g + d)) (Js (g + d))) (21 + s)).stp := by
        have a1 := koK_leaf hst.ok hs ht
        have a2 := koK_leaf hst.tckn hs (by rw [hent]; exact ht)
        rw [kyA_ko hst.ok (by omega) a1.1, a1.2] at k1
        rw [kyA_ko hst.tckn (by omega) a2.1, a2.2, hent]
        refine hk.mono _ _ _ k1 ?_
        show (T (g + d)).ep - _ ≤ (T (g + d)).ep + 1 - _
        omega
      refine ⟨hleaf, ?_⟩
      have step : ∀ i, i < 3 → K (kyA (nx (T (g + d)) (Ls (g + d)) (Js (g + d))) (bel s i)).bas (kyA (nx (T (g + d)) (Ls (g + d)) (Js (g + d))) (bel s i)).stp → K ((nx (T (g + d)) (Ls (g + d)) (Js (g + d))).ks (pn s i)).bas ((nx (T (g + d)) (Ls (g + d)) (Js (g + d))).ks (pn s i)).stp := fun i hi hb => by
        rcases hst.key (pn_lt hs i) with ⟨hr, _⟩ | ⟨_, e3⟩
        · have := hk.box (g + d) (by omega) _ (item_child (js := jns (T (g + d)) (Ls (g + d)) (Js (g + d))) hs hi (by rw [hent]; exact ht) hr) hb
          rw [← kyA_in (t := nx (T (g + d)) (Ls (g + d)) (Js (g + d))) (pn_lt hs i)]
          exact this
        · rw [e3]
          exact hk.mono _ _ _ (k2 i hi) (by dsimp only; omega)
      have s0 := step 0 (by omega) hleaf
      have s1 := step 1 (by omega) (by show K (kyA _ (pn s 0)).bas (kyA _ (pn s 0)).stp; rw [kyA_in (pn_lt hs 0)]; exact s0)
      have s2 := step 2 (by omega) (by show K (kyA _ (pn s 1)).bas (kyA _ (pn s 1)).stp; rw [kyA_in (pn_lt hs 1)]; exact s1)
      intro i hi
      have : i = 0 ∨ i = 1 ∨ i = 2 := by omega
      rcases this with rfl | rfl | rfl
      · exact s0
      · exact s1
      · exact s2
theorem gives_exc (h : Row T Ls Js n) {K : Int → Int → Prop} (hk : Gives T Ls Js n K) {met : List (Int × Int)} (hm : ∀ x ∈ met, ∀ g : Nat, x.2 = (g : Int) → g ≤ n → ∀ s : Nat, s < 64 → fnd (T g).ro x.1 = (s : Int) → K (kyA (T g) (21 + s)).bas (kyA (T g) (21 + s)).stp ∧ ∀ i, i < 3 → K ((T g).ks (pn s i)).bas ((T g).ks (pn s i)).stp)
    {e v : Nat} (he : e ≤ n) (hv : v < 21) (hx : Exc T met e v) : K ((T e).ks v).bas ((T e).ks v).stp := by
  obtain ⟨x, hxm, g, s, hon, hs, hf, hbl⟩ := hx
  obtain ⟨d, rfl⟩ : ∃ d, e = g + d := ⟨e - g, by have := hon.le; omega⟩
  have := (gives_path h hk (hm x hxm g hon.at' (by omega)) d he (fun i hi => hon.on (g + i) (by omega) (by omega)) s hs hf).2
  rcases on_path ⟨v, hv⟩ ⟨s, hs⟩ hbl with e | e | e
  · have h2 := this 0 (by omega); rw [← e] at h2; exact h2
  · have h2 := this 1 (by omega); rw [← e] at h2; exact h2
  · have h2 := this 2 (by omega); rw [← e] at h2; exact h2
end
end Go.Proofs.YtpimbpfefhkojaaGreat
/- The chapter's second example on plain data. -/
namespace Go.Proofs.YtpimbpfefhkojaaGreat
open Rs (evl)
set_option linter.unusedVariables false

def t3 : Tr := nx stT [] [1, 2, 3]
theorem three_E : plE stT [] [1, 2, 3] = 0 := by decide +kernel
theorem live_E : plE t3 [1] [] = 0 := by decide +kernel
theorem live_n : (nx t3 [1] []).ep = 2 ∧ (nx t3 [1] []).fr = 28 := by decide +kernel
theorem live_i : (its (nx t3 [1] []) (plR t3 [1]) (jns t3 [1] [])).length = 4 ∧ ((its (nx t3 [1] []) (plR t3 [1]) (jns t3 [1] [])).head?.map fun x => (x.nd, x.fm, x.un.bas, x.un.stp, x.ld.bas, x.ld.stp)) = some (5, 22, 23, 1, 25, 0) := by decide +kernel
theorem live_at : ∃ r, its (nx t3 [1] []) (plR t3 [1]) (jns t3 [1] []) = ⟨5, 22, ⟨23, 1⟩, ⟨25, 0⟩⟩ :: r ∧ r.length = 3 := by
  obtain ⟨h1, h2⟩ := live_i
  cases h : its (nx t3 [1] []) (plR t3 [1]) (jns t3 [1] []) with
  | nil => rw [h] at h1; cases h1
  | cons x r =>
    rw [h] at h1 h2
    obtain ⟨nd, fm, ⟨ub, us⟩, ⟨lb, ls⟩⟩ := x
    simp at h2
    obtain ⟨rfl, rfl, rfl, rfl, rfl, rfl⟩ := h2
    exact ⟨r, rfl, by simpa using h1⟩
end Go.Proofs.YtpimbpfefhkojaaGreat
