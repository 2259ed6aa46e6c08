/- What stands on a disk: records, and behind them a frame's beginning of which the first blocks are wiped. -/
import Derived.Test.YtohgflimdoebiaaJnMath
namespace Go.Proofs.Ytohgflimdoebiaa.Dk
open Go.RowKit Go.Maps
set_option linter.unusedVariables false
set_option maxRecDepth 4000
set_option linter.unusedSimpArgs false

theorem fnI_at (l : List ByteArray) (i : Nat) : fnI l (i : Int) = l.getD i ⟨#[]⟩ := by unfold fnI; rw [if_pos (by omega)]; rfl
theorem fnI_low (l : List ByteArray) (x : Int) (h : x < 0) : fnI l x = ⟨#[]⟩ := by unfold fnI; rw [if_neg (by omega)]
theorem fnI_ext {l m : List ByteArray} (h : ∀ i, l.getD i ⟨#[]⟩ = m.getD i ⟨#[]⟩) : fnI l = fnI m := by
  funext x
  by_cases hx : x < 0
  · rw [fnI_low _ _ hx, fnI_low _ _ hx]
  · obtain ⟨i, rfl⟩ : ∃ i : Nat, x = (i : Int) := ⟨x.toNat, by omega⟩
    rw [fnI_at, fnI_at, h i]
theorem getD_app_left (l m : List ByteArray) (i : Nat) (h : i < l.length) : (l ++ m).getD i ⟨#[]⟩ = l.getD i ⟨#[]⟩ := by
  simp [List.getD_eq_getElem?_getD, List.getElem?_append, h]
theorem getD_app_right (l m : List ByteArray) (i : Nat) : (l ++ m).getD (l.length + i) ⟨#[]⟩ = m.getD i ⟨#[]⟩ := by
  rw [List.getD_eq_getElem?_getD, List.getElem?_append_right (by omega), Nat.add_sub_cancel_left, List.getD_eq_getElem?_getD]
theorem fnI_trail (l : List ByteArray) (n : Nat) : fnI (l ++ List.replicate n ⟨#[]⟩) = fnI l := by
  apply fnI_ext
  intro i
  by_cases h : i < l.length
  · exact getD_app_left _ _ i h
  · obtain ⟨k, rfl⟩ : ∃ k, i = l.length + k := ⟨i - l.length, by omega⟩
    rw [getD_app_right, getD_no l _ (by omega)]
    by_cases hk : k < n
    · simp [List.getD_eq_getElem?_getD, hk]
    · rw [getD_no _ _ (by simp; omega)]
theorem set_over (P : List ByteArray) (y z : ByteArray) (Y : List ByteArray) : setB (fnI (P ++ y :: Y)) (P.length : Int) z = fnI (P ++ z :: Y) := by
  funext x
  by_cases hx : x < 0
  · rw [fnI_low _ _ hx, setB_other _ _ (by omega), fnI_low _ _ hx]
  · obtain ⟨i, rfl⟩ : ∃ i : Nat, x = (i : Int) := ⟨x.toNat, by omega⟩
    by_cases e : i = P.length
    · subst e
      rw [setB_same, fnI_at]
      have := getD_app_right P (z :: Y) 0
      rw [Nat.add_zero] at this
      rw [this]; rfl
    · rw [setB_other _ _ (by omega), fnI_at, fnI_at]
      by_cases h : i < P.length
      · rw [getD_app_left _ _ i h, getD_app_left _ _ i h]
      · obtain ⟨k, rfl⟩ : ∃ k, i = P.length + (k + 1) := ⟨i - P.length - 1, by omega⟩
        rw [getD_app_right, getD_app_right]; rfl
theorem over : ∀ (Z P Y : List ByteArray), rp (fnI (P ++ Y)) (plc Z P.length) = fnI (P ++ Z ++ Y.drop Z.length)
  | [], P, Y => by simp [plc, rp]
  | z :: Z, P, Y => by
    have hstep : setB (fnI (P ++ Y)) (P.length : Int) z = fnI (P ++ [z] ++ Y.drop 1) := by
      cases Y with
      | nil =>
        have := set_over P ⟨#[]⟩ z []
        rw [show P ++ [(⟨#[]⟩ : ByteArray)] = P ++ List.replicate 1 ⟨#[]⟩ from rfl, fnI_trail] at this
        simpa using this
      | cons y Y =>
        rw [set_over]
        simp
    show rp (setB (fnI (P ++ Y)) (P.length : Int) z) (plc Z (P.length + 1)) = _
    rw [hstep]
    have ih := over Z (P ++ [z]) (Y.drop 1)
    rw [List.length_append, List.length_singleton] at ih
    rw [ih]
    simp [Nat.add_comm]
theorem rp_append (B : Bl) (L M : List (Int × ByteArray)) : rp B (L ++ M) = rp (rp B L) M := by simp [rp]
theorem plc_take : ∀ (l : List ByteArray) (a k : Nat), (plc l a).take k = plc (l.take k) a
  | [], a, k => by simp [plc]
  | t :: l, a, 0 => by simp [plc]
  | t :: l, a, k + 1 => by rw [plc, List.take_succ_cons, plc_take l (a + 1) k, List.take_succ_cons, plc]
theorem plc_append : ∀ (l m : List ByteArray) (a : Nat), plc (l ++ m) a = plc l a ++ plc m (a + l.length)
  | [], m, a => by simp [plc]
  | t :: l, m, a => by rw [List.cons_append, plc, plc_append l m (a + 1), plc, List.cons_append, List.length_cons, show a + 1 + l.length = a + (l.length + 1) by omega]
theorem wps_empty : ∀ (n : Nat) (X : List ByteArray) (a : Nat), wps (List.replicate n ⟨#[]⟩ ++ X) a = wps X (a + n)
  | 0, X, a => by simp
  | n + 1, X, a => by
    rw [List.replicate_succ, List.cons_append, wps, if_pos (show (⟨#[]⟩ : ByteArray).size = 0 from rfl), wps_empty n X (a + 1), show a + 1 + n = a + (n + 1) by omega]
theorem wps_all : ∀ (X : List ByteArray) (a : Nat), (∀ t ∈ X, t.size ≠ 0) → wps X a = plc (List.replicate X.length ⟨#[]⟩) a
  | [], a, _ => rfl
  | t :: X, a, h => by
    rw [wps, if_neg (h t (by simp)), wps_all X (a + 1) (fun x hx => h x (by simp [hx])), List.length_cons, List.replicate_succ, plc]
theorem im_of (l : List ByteArray) (h1 : l.length ≤ 2048) (h2 : l = [] ∨ (l.getD (l.length - 1) ⟨#[]⟩).size ≠ 0) : im (fnI l) = l := by
  have ht : top (fnI l) = l.length := by
    refine top_eq h1 ?_ ?_
    · rcases h2 with rfl | h2
      · exact .inl rfl
      · by_cases h0 : l.length = 0
        · exact .inl h0
        · right
          rw [show ((l.length : Nat) : Int) - 1 = ((l.length - 1 : Nat) : Int) by omega, fnI_at]
          exact h2
    · intro i hi _
      rw [fnI_at, getD_no _ _ hi]; rfl
  unfold im
  rw [ht]
  apply List.ext_getElem
  · simp
  · intro i h3 h4
    have e1 : (tx (fnI l) l.length)[i] = fnI l (i : Int) := by simp [tx]
    rw [e1, fnI_at, getD_yes _ _ h4]
/- The blocks behind the records: the first j of k are wiped. -/
def tl (q : Nat) (t : ByteArray) (k j : Nat) : List ByteArray := List.replicate j ⟨#[]⟩ ++ ((blks (q : Int) t).take k).drop j
structure Hs (s : St) (ps : List ByteArray) (t : ByteArray) (k j : Nat) : Prop where
  ok : s.Ok
  sz : ∀ p ∈ ps, p.size ≤ 5865
  tsz : t.size ≤ 5865
  hk : k < np t.size
  hj : j ≤ k
  fit : (recs 1 ps).length + k ≤ 2048
  bl : s.bl = fnI (recs 1 ps ++ tl (ps.length + 1) t k j)
theorem tl_length {q : Nat} {t : ByteArray} {k j : Nat} (hk : k < np t.size) (hj : j ≤ k) : (tl q t k j).length = k := by
  unfold tl
  rw [List.length_append, List.length_replicate, List.length_drop, List.length_take, blks_length]
  omega
section
variable {s : St} {ps : List ByteArray} {t : ByteArray} {k j : Nat}
theorem Hs.cnt (h : Hs s ps t k j) : ps.length ≤ (recs 1 ps).length ∧ ps.length ≤ 2048 := by
  have := recs_len ps 1 h.sz
  have := h.fit
  omega
theorem Hs.num (h : Hs s ps t k j) : gs ((ps.length + 1 : Nat) : Int) = true := num_ok (by have := h.cnt; omega)
theorem Hs.rsz (h : Hs s ps t k j) : ∀ x ∈ recs 1 ps, x.size = 32 := recs_size ps 1 (by omega) (by have := h.cnt; omega) h.sz
theorem last_size {l : List ByteArray} (h : ∀ x ∈ l, x.size = 32) : l = [] ∨ (l.getD (l.length - 1) ⟨#[]⟩).size ≠ 0 := by
  by_cases h0 : l = []
  · exact .inl h0
  · right
    have hp : 0 < l.length := List.length_pos_iff.2 h0
    rw [getD_yes _ _ (by omega), h _ (List.getElem_mem _)]
    decide
theorem tl_full (q : Nat) (t : ByteArray) (k : Nat) (hk : k < np t.size) : tl q t k k = List.replicate k ⟨#[]⟩ := by
  unfold tl
  rw [List.drop_eq_nil_of_le (by rw [List.length_take]; omega), List.append_nil]
theorem Hs.clean (h : Hs s ps t k k) : s.bl = fnI (recs 1 ps) := by rw [h.bl, tl_full _ _ _ h.hk, fnI_trail]
theorem Hs.zero (h : Hs s ps t k k) : Hs s ps ⟨#[]⟩ 0 0 := by
  refine ⟨h.ok, h.sz, by decide, by decide, Nat.le_refl _, by have := h.fit; omega, ?_⟩
  rw [h.clean]
  simp [tl]
theorem Hs.image (h : Hs s ps t k j) : im s.bl = recs 1 ps ++ (if j < k then tl (ps.length + 1) t k j else []) := by
  by_cases hjk : j < k
  · rw [if_pos hjk, h.bl]
    refine im_of _ ?_ ?_
    · rw [List.length_append, tl_length h.hk h.hj]; exact h.fit
    · right
      have hl : (recs 1 ps ++ tl (ps.length + 1) t k j).length - 1 = (recs 1 ps).length + (k - 1) := by
        rw [List.length_append, tl_length h.hk h.hj]; omega
      rw [hl, getD_app_right]
      have e1 : (tl (ps.length + 1) t k j).getD (k - 1) ⟨#[]⟩ = (blks ((ps.length + 1 : Nat) : Int) t).getD (k - 1) ⟨#[]⟩ := by
        unfold tl
        have := getD_app_right (List.replicate j ⟨#[]⟩) (((blks ((ps.length + 1 : Nat) : Int) t).take k).drop j) (k - 1 - j)
        rw [List.length_replicate, show j + (k - 1 - j) = k - 1 by omega] at this
        rw [this]
        simp only [List.getD_eq_getElem?_getD, List.getElem?_drop, List.getElem?_take]
        rw [if_pos (by omega), show j + (k - 1 - j) = k - 1 by omega]
      have hk1 : k - 1 < (blks ((ps.length + 1 : Nat) : Int) t).length := by rw [blks_length]; have := h.hk; omega
      rw [e1, getD_yes _ _ hk1, blks_size h.num h.tsz _ (List.getElem_mem _)]
      decide
  · obtain rfl : j = k := by have := h.hj; omega
    rw [if_neg hjk, h.clean, List.append_nil]
    exact im_of _ (by have := h.fit; omega) (last_size h.rsz)
theorem Hs.noh (h : Hs s ps t k j) : Noh (if j < k then tl (ps.length + 1) t k j else []) (1 + ps.length) := by
  by_cases hjk : j < k
  · rw [if_pos hjk]
    cases j with
    | zero =>
      have e : tl (ps.length + 1) t k 0 = (blks ((ps.length + 1 : Nat) : Int) t).take k := by simp [tl]
      rw [e, Nat.add_comm 1]
      exact noh_part t (ps.length + 1) k h.num h.tsz h.hk
    | succ j =>
      unfold tl
      rw [List.replicate_succ, List.cons_append]
      exact noh_empty _ _
  · rw [if_neg hjk]
    exact noh_nil _
theorem Hs.scan (h : Hs s ps t k j) : scP s = ps ∧ scE s = (recs 1 ps).length := by
  have h1 := h.cnt
  unfold scP scE
  rw [h.image, sc_recs ps 65535 1 _ (by omega) (by omega) (by omega) h.sz h.noh]
  exact ⟨rfl, rfl⟩
theorem Hs.wipes (h : Hs s ps t k j) : opw s = plc (List.replicate (k - j) ⟨#[]⟩) ((recs 1 ps).length + j) := by
  unfold opw
  rw [h.scan.2, h.image, List.drop_left' rfl]
  by_cases hjk : j < k
  · rw [if_pos hjk]
    unfold tl
    rw [wps_empty, wps_all]
    · rw [List.length_drop, List.length_take, blks_length, Nat.min_eq_left (by have := h.hk; omega)]
    · intro x hx
      rw [blks_size h.num h.tsz x (List.mem_of_mem_take (List.mem_of_mem_drop hx))]
      decide
  · rw [if_neg hjk, show k - j = 0 by omega]
    rfl
theorem Hs.wiped (h : Hs s ps t k j) (m : Nat) (hm : m ≤ k - j) : rp (fnI (recs 1 ps ++ tl (ps.length + 1) t k j)) (plc (List.replicate m ⟨#[]⟩) ((recs 1 ps).length + j)) = fnI (recs 1 ps ++ tl (ps.length + 1) t k (j + m)) := by
  have e := over (List.replicate m ⟨#[]⟩) (recs 1 ps ++ List.replicate j ⟨#[]⟩) (((blks ((ps.length + 1 : Nat) : Int) t).take k).drop j)
  rw [List.length_append, List.length_replicate, List.length_replicate, List.drop_drop] at e
  unfold tl
  rw [← List.append_assoc, e, List.append_assoc (recs 1 ps), List.replicate_append_replicate, List.append_assoc]
/- Opening. -/
theorem Hs.log_wiped (h : Hs s ps t k j) (m : Nat) (hm : m ≤ k - j) (left : Int) (h1 : -1 ≤ left) (h2 : left ≤ 9223372036854775807) : Hs ⟨s.img, s.log ++ plc (List.replicate m ⟨#[]⟩) ((recs 1 ps).length + j), left⟩ ps t k (j + m) := by
  refine ⟨⟨h.ok.i1, h.ok.i2, ?_, h1, h2⟩, h.sz, h.tsz, h.hk, by have := h.hj; omega, h.fit, ?_⟩
  · intro p hp
    rcases List.mem_append.1 hp with hp | hp
    · exact h.ok.l1 p hp
    · refine plc_good _ _ ?_ ?_ p hp
      · rw [List.length_replicate]; have := h.fit; have := h.hj; omega
      · intro x hx
        rw [List.eq_of_mem_replicate hx]
        decide
  · show rp (fnI s.img) (s.log ++ _) = _
    rw [rp_append, show rp (fnI s.img) s.log = s.bl from rfl, h.bl, h.wiped m hm]
/- What an opening leaves. -/
structure Opened (s : St) (ps : List ByteArray) (t : ByteArray) (k j : Nat) : Prop where
  found : scP s = ps
  ended : scE s = (recs 1 ps).length
  yes : opB s = true → Hs (opS s) ps t k k ∧ (opS s).left ≠ 0 ∧ (opS s).log.length = s.log.length + (k - j)
  no : opB s = false → ∃ m, m ≤ k - j ∧ Hs (opS s) ps t k (j + m) ∧ (opS s).log.length = s.log.length + m
  much : s.left = -1 ∨ 254 < s.left → opB s = true
theorem Hs.opened (h : Hs s ps t k j) : Opened s ps t k j := by
  have hg := opw_good s
  have hjk := h.hj
  have hk255 : k ≤ 254 := by have := h.hk; have := (np_spec t.size h.tsz).2.2.1; omega
  have hw := h.wipes
  have h1 := h.ok.p1
  have h2 := h.ok.p2
  have hB : opB s = if s.left = 0 then false else (wl (opw s) s).2 := rfl
  have hS : opS s = if s.left = 0 then s else (wl (opw s) s).1 := rfl
  by_cases h0 : s.left = 0
  · rw [if_pos h0] at hB hS
    refine ⟨h.scan.1, h.scan.2, fun e => (by rw [hB] at e; cases e), fun _ => ⟨0, by omega, ?_, by rw [hS]; rfl⟩, fun e => (by omega)⟩
    rw [hS]; exact h
  · rw [if_neg h0] at hB hS
    have hlen : (opw s).length = k - j := by rw [hw, plc_length, List.length_replicate]
    by_cases hf : s.left = -1
    · have e := wl_free (opw s) s hf hg
      rw [e] at hB hS
      refine ⟨h.scan.1, h.scan.2, fun _ => ⟨?_, by rw [hS]; show (-1 : Int) ≠ 0; decide, by rw [hS]; show (s.log ++ opw s).length = _; rw [List.length_append, hlen]⟩, fun e => (by rw [hB] at e; cases e), fun _ => hB⟩
      have := h.log_wiped (k - j) (Nat.le_refl _) (-1) (by decide) (by decide)
      rw [show j + (k - j) = k by omega] at this
      rw [hS, hw]; exact this
    · obtain ⟨n, hn⟩ : ∃ n : Nat, s.left = (n : Int) := ⟨s.left.toNat, by omega⟩
      have e := wl_few (opw s) s n hn (by omega) hg
      rw [hlen] at e
      by_cases hlt : k - j < n
      · rw [if_pos hlt] at e
        rw [e] at hB hS
        refine ⟨h.scan.1, h.scan.2, fun _ => ⟨?_, by rw [hS]; show ((n - (k - j) : Nat) : Int) ≠ 0; omega, by rw [hS]; show (s.log ++ opw s).length = _; rw [List.length_append, hlen]⟩, fun e => (by rw [hB] at e; cases e), fun _ => hB⟩
        have := h.log_wiped (k - j) (Nat.le_refl _) ((n - (k - j) : Nat) : Int) (by omega) (by omega)
        rw [show j + (k - j) = k by omega] at this
        rw [hS, hw]; exact this
      · rw [if_neg hlt] at e
        rw [e] at hB hS
        refine ⟨h.scan.1, h.scan.2, fun e => (by rw [hB] at e; cases e), fun _ => ⟨n, by omega, ?_, ?_⟩, fun e => (by omega)⟩
        · have := h.log_wiped n (by omega) 0 (by decide) (by decide)
          rw [hS, hw, plc_take, List.take_replicate, Nat.min_eq_left (by omega)]
          exact this
        · rw [hS]
          show (s.log ++ (opw s).take n).length = _
          rw [List.length_append, List.length_take, hlen, Nat.min_eq_left (by omega)]
end
end Go.Proofs.Ytohgflimdoebiaa.Dk
