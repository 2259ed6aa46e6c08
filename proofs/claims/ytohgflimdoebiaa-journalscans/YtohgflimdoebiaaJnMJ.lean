/- JnMath, JnT, JnT2, joined. -/
import Derived.Test.YtohgflimdoebiaaFrMJ
import Derived.Test.YtohgflimdoebiaaDkJ
/- Journals on plain data: rows of writes while the power lasts; what opening and appending do. -/
namespace Go.Proofs.Ytohgflimdoebiaa.Dk
open Go.RowKit Go.Maps
set_option linter.unusedVariables false
set_option maxRecDepth 4000
set_option linter.unusedSimpArgs false

def wl : List (Int × ByteArray) → St → St × Bool
  | [], s => (s, true)
  | p :: L, s => if (nx s p.1 p.2).left = 0 then (nx s p.1 p.2, false) else wl L (nx s p.1 p.2)
theorem wl_off {p : Int × ByteArray} {L : List (Int × ByteArray)} {s : St} (h : (nx s p.1 p.2).left = 0) : wl (p :: L) s = (nx s p.1 p.2, false) := by rw [wl, if_pos h]
theorem wl_on {p : Int × ByteArray} {L : List (Int × ByteArray)} {s : St} (h : (nx s p.1 p.2).left ≠ 0) : wl (p :: L) s = wl L (nx s p.1 p.2) := by rw [wl, if_neg h]
def wps : List ByteArray → Nat → List (Int × ByteArray)
  | [], _ => []
  | t :: l, a => if t.size = 0 then wps l (a + 1) else ((a : Int), ⟨#[]⟩) :: wps l (a + 1)
def plc : List ByteArray → Nat → List (Int × ByteArray)
  | [], _ => []
  | t :: l, a => ((a : Int), t) :: plc l (a + 1)
theorem plc_length : ∀ (l : List ByteArray) (a : Nat), (plc l a).length = l.length
  | [], a => rfl
  | t :: l, a => by rw [plc, List.length_cons, plc_length l (a + 1), List.length_cons]
theorem wps_length : ∀ (l : List ByteArray) (a : Nat), (wps l a).length ≤ l.length
  | [], a => Nat.le_refl _
  | t :: l, a => by
    have := wps_length l (a + 1)
    rw [wps]
    split <;> simp <;> omega
theorem plc_good : ∀ (l : List ByteArray) (a : Nat), a + l.length ≤ 2048 → (∀ t ∈ l, t.size ≤ 32) → ∀ p ∈ plc l a, Gp p
  | [], a, _, _, p, hp => by simp [plc] at hp
  | t :: l, a, h1, h2, p, hp => by
    rw [List.length_cons] at h1
    rw [plc] at hp
    rcases List.mem_cons.1 hp with rfl | hp
    · exact ⟨by show (0 : Int) ≤ (a : Int); omega, by show (a : Int) < 2048; omega, h2 t (by simp)⟩
    · exact plc_good l (a + 1) (by omega) (fun x hx => h2 x (by simp [hx])) p hp
theorem wps_good : ∀ (l : List ByteArray) (a : Nat), a + l.length ≤ 2048 → ∀ p ∈ wps l a, Gp p
  | [], a, _, p, hp => by simp [wps] at hp
  | t :: l, a, h1, p, hp => by
    rw [List.length_cons] at h1
    rw [wps] at hp
    split at hp
    · exact wps_good l (a + 1) (by omega) p hp
    · rcases List.mem_cons.1 hp with rfl | hp
      · exact ⟨by show (0 : Int) ≤ (a : Int); omega, by show (a : Int) < 2048; omega, by show (⟨#[]⟩ : ByteArray).size ≤ 32; decide⟩
      · exact wps_good l (a + 1) (by omega) p hp
theorem nx_log (s : St) (x : Int) (t : ByteArray) : (nx s x t).log.length ≤ s.log.length + 1 := by
  unfold nx; split <;> simp
theorem wl_log : ∀ (L : List (Int × ByteArray)) (s : St), (wl L s).1.log.length ≤ s.log.length + L.length
  | [], s => by simp [wl]
  | p :: L, s => by
    have h1 := nx_log s p.1 p.2
    have h2 := wl_log L (nx s p.1 p.2)
    rw [wl]
    split <;> simp <;> omega
theorem wl_ok : ∀ (L : List (Int × ByteArray)) (s : St), s.Ok → (wl L s).1.Ok
  | [], s, h => h
  | p :: L, s, h => by
    rw [wl]
    split
    · exact nx_ok h _ _
    · exact wl_ok L _ (nx_ok h _ _)
theorem nx_put {s : St} {x : Int} {t : ByteArray} (h0 : s.left ≠ 0) (hg : Gp (x, t)) : nx s x t = ⟨s.img, s.log ++ [(x, t)], nl s.left⟩ := by
  unfold nx; rw [if_pos (we_good h0 hg)]
theorem wl_free : ∀ (L : List (Int × ByteArray)) (s : St), s.left = -1 → (∀ p ∈ L, Gp p) → wl L s = (⟨s.img, s.log ++ L, -1⟩, true)
  | [], s, h, _ => by rw [wl, List.append_nil, ← h]
  | p :: L, s, h, hg => by
    have e := nx_put (s := s) (x := p.1) (t := p.2) (by rw [h]; decide) (hg p (by simp))
    have e1 : nl s.left = -1 := by rw [h]; rfl
    rw [e1] at e
    rw [wl_on (by rw [e]; show (-1 : Int) ≠ 0; decide), e, wl_free L _ rfl (fun q hq => hg q (by simp [hq]))]
    simp
theorem wl_few : ∀ (L : List (Int × ByteArray)) (s : St) (n : Nat), s.left = (n : Int) → 1 ≤ n → (∀ p ∈ L, Gp p) → wl L s = if L.length < n then (⟨s.img, s.log ++ L, ((n - L.length : Nat) : Int)⟩, true) else (⟨s.img, s.log ++ L.take n, 0⟩, false)
  | [], s, n, h, h1, _ => by rw [wl, if_pos (by simp; omega), List.append_nil, List.length_nil, Nat.sub_zero, ← h]
  | p :: L, s, n, h, h1, hg => by
    have e := nx_put (s := s) (x := p.1) (t := p.2) (by rw [h]; omega) (hg p (by simp))
    have e1 : nl s.left = ((n - 1 : Nat) : Int) := by rw [h]; unfold nl; rw [if_neg (by omega)]; omega
    rw [e1] at e
    by_cases h2 : n = 1
    · subst h2
      rw [wl_off (by rw [e]; rfl), e, if_neg (by simp)]
      simp
    · have ih := wl_few L ⟨s.img, s.log ++ [p], ((n - 1 : Nat) : Int)⟩ (n - 1) rfl (by omega) (fun q hq => hg q (by simp [hq]))
      rw [wl_on (by rw [e]; show ((n - 1 : Nat) : Int) ≠ 0; omega), e, ih]
      obtain ⟨m, rfl⟩ : ∃ m, n = m + 1 := ⟨n - 1, by omega⟩
      simp only [Nat.add_sub_cancel, List.length_cons, List.take_succ_cons, List.append_assoc, List.singleton_append]
      by_cases h3 : L.length < m
      · rw [if_pos h3, if_pos (by omega), show m + 1 - (L.length + 1) = m - L.length by omega]
      · rw [if_neg h3, if_neg (by omega)]
/- Opening. -/
def scE (s : St) : Nat := (sc 65535 (im s.bl) 1).2
def scP (s : St) : List ByteArray := (sc 65535 (im s.bl) 1).1
def opw (s : St) : List (Int × ByteArray) := wps ((im s.bl).drop (scE s)) (scE s)
def opS (s : St) : St := if s.left = 0 then s else (wl (opw s) s).1
def opB (s : St) : Bool := if s.left = 0 then false else (wl (opw s) s).2
theorem sc_le (s : St) : (scP s).length ≤ scE s ∧ scE s ≤ 2048 := by
  obtain ⟨h1, h2, h3⟩ := sc_len 65535 (im s.bl) 1
  have := top_le s.bl
  rw [im_length] at h2
  exact ⟨h1, by unfold scE; omega⟩
theorem opw_good (s : St) : ∀ p ∈ opw s, Gp p := by
  obtain ⟨h1, h2, h3⟩ := sc_len 65535 (im s.bl) 1
  have := top_le s.bl
  unfold opw
  refine wps_good _ _ ?_
  rw [List.length_drop]
  unfold scE
  rw [im_length] at h2 ⊢
  omega
theorem opS_log (s : St) : (opS s).log.length ≤ s.log.length + 2048 := by
  unfold opS
  split
  · omega
  · have h1 := wl_log (opw s) s
    have h2 := wps_length ((im s.bl).drop (scE s)) (scE s)
    rw [List.length_drop, im_length] at h2
    have := top_le s.bl
    unfold opw at h1 ⊢
    omega
/- Appending. -/
def apW (c a : Nat) (t : ByteArray) : List (Int × ByteArray) := plc (blks ((c + 1 : Nat) : Int) t) a
def apE (s : St) (c a : Nat) (d : Bool) (t : ByteArray) : Int := if d = true ∨ s.left = 0 then 11 else if 5865 < t.size then 9 else if 2048 < a + np t.size ∨ 65535 ≤ c then 10 else if (wl (apW c a t) s).2 = true then 0 else 11
def apS (s : St) (c a : Nat) (d : Bool) (t : ByteArray) : St := if d = true ∨ s.left = 0 then s else if 5865 < t.size then s else if 2048 < a + np t.size ∨ 65535 ≤ c then s else (wl (apW c a t) s).1
def apC (s : St) (c a : Nat) (d : Bool) (t : ByteArray) : Nat := if apE s c a d t = 0 then c + 1 else c
def apA (s : St) (c a : Nat) (d : Bool) (t : ByteArray) : Nat := if apE s c a d t = 0 then a + np t.size else a
def apD (s : St) (c a : Nat) (d : Bool) (t : ByteArray) : Bool := if apE s c a d t = 11 then true else d
theorem apW_len (c a : Nat) (t : ByteArray) : (apW c a t).length = np t.size := by unfold apW; rw [plc_length, blks_length]
theorem num_ok {c : Nat} (h : c < 65535) : gs ((c + 1 : Nat) : Int) = true := by unfold gs; rw [Bool.and_eq_true]; exact ⟨decide_eq_true (by omega), decide_eq_true (by omega)⟩
theorem apW_good {c a : Nat} {t : ByteArray} (h1 : t.size ≤ 5865) (h2 : a + np t.size ≤ 2048) (h3 : c < 65535) : ∀ p ∈ apW c a t, Gp p :=
  plc_good _ _ (by rw [blks_length]; exact h2) (fun x hx => by rw [blks_size (num_ok h3) h1 x hx]; decide)
theorem apS_log (s : St) (c a : Nat) (d : Bool) (t : ByteArray) : (apS s c a d t).log.length ≤ s.log.length + 255 := by
  unfold apS
  split
  · omega
  · split
    · omega
    · rename_i h
      split
      · omega
      · have h1 := wl_log (apW c a t) s
        rw [apW_len] at h1
        have h2 := (np_spec t.size (by omega)).2.2.1
        omega
end Go.Proofs.Ytohgflimdoebiaa.Dk
/- What stands on a disk: records, and behind them a frame's beginning of which the first blocks are wiped. -/
namespace Go.Proofs.Ytohgflimdoebiaa.Dk
open Go.RowKit Go.Maps
set_option linter.unusedVariables false
set_option maxRecDepth 4000
set_option linter.unusedSimpArgs false

theorem fnI_at (l : List ByteArray) (i : Nat) : fnI l (i : Int) = l.getD i ⟨#[]⟩ := by unfold fnI; rw [if_pos (by omega)]; rfl
theorem fnI_low (l : List ByteArray) (x : Int) (h : x < 0) : fnI l x = ⟨#[]⟩ := by unfold fnI; rw [if_neg (by omega)]
theorem fnI_ext {l m : List ByteArray} (h : ∀ i, l.getD i ⟨#[]⟩ = m.getD i ⟨#[]⟩) : fnI l = fnI m := by
  funext x
  by_cases hx : x < 0
  · rw [fnI_low _ _ hx, fnI_low _ _ hx]
  · obtain ⟨i, rfl⟩ : ∃ i : Nat, x = (i : Int) := ⟨x.toNat, by omega⟩
    rw [fnI_at, fnI_at, h i]
theorem getD_app_left (l m : List ByteArray) (i : Nat) (h : i < l.length) : (l ++ m).getD i ⟨#[]⟩ = l.getD i ⟨#[]⟩ := by
  simp [List.getD_eq_getElem?_getD, List.getElem?_append, h]
theorem getD_app_right (l m : List ByteArray) (i : Nat) : (l ++ m).getD (l.length + i) ⟨#[]⟩ = m.getD i ⟨#[]⟩ := by
  rw [List.getD_eq_getElem?_getD, List.getElem?_append_right (by omega), Nat.add_sub_cancel_left, List.getD_eq_getElem?_getD]
theorem fnI_trail (l : List ByteArray) (n : Nat) : fnI (l ++ List.replicate n ⟨#[]⟩) = fnI l := by
  apply fnI_ext
  intro i
  by_cases h : i < l.length
  · exact getD_app_left _ _ i h
  · obtain ⟨k, rfl⟩ : ∃ k, i = l.length + k := ⟨i - l.length, by omega⟩
    rw [getD_app_right, getD_no l _ (by omega)]
    by_cases hk : k < n
    · simp [List.getD_eq_getElem?_getD, hk]
    · rw [getD_no _ _ (by simp; omega)]
theorem set_over (P : List ByteArray) (y z : ByteArray) (Y : List ByteArray) : setB (fnI (P ++ y :: Y)) (P.length : Int) z = fnI (P ++ z :: Y) := by
  funext x
  by_cases hx : x < 0
  · rw [fnI_low _ _ hx, setB_other _ _ (by omega), fnI_low _ _ hx]
  · obtain ⟨i, rfl⟩ : ∃ i : Nat, x = (i : Int) := ⟨x.toNat, by omega⟩
    by_cases e : i = P.length
    · subst e
      rw [setB_same, fnI_at]
      have := getD_app_right P (z :: Y) 0
      rw [Nat.add_zero] at this
      rw [this]; rfl
    · rw [setB_other _ _ (by omega), fnI_at, fnI_at]
      by_cases h : i < P.length
      · rw [getD_app_left _ _ i h, getD_app_left _ _ i h]
      · obtain ⟨k, rfl⟩ : ∃ k, i = P.length + (k + 1) := ⟨i - P.length - 1, by omega⟩
        rw [getD_app_right, getD_app_right]; rfl
theorem over : ∀ (Z P Y : List ByteArray), rp (fnI (P ++ Y)) (plc Z P.length) = fnI (P ++ Z ++ Y.drop Z.length)
  | [], P, Y => by simp [plc, rp]
  | z :: Z, P, Y => by
    have hstep : setB (fnI (P ++ Y)) (P.length : Int) z = fnI (P ++ [z] ++ Y.drop 1) := by
      cases Y with
      | nil =>
        have := set_over P ⟨#[]⟩ z []
        rw [show P ++ [(⟨#[]⟩ : ByteArray)] = P ++ List.replicate 1 ⟨#[]⟩ from rfl, fnI_trail] at this
        simpa using this
      | cons y Y =>
        rw [set_over]
        simp
    show rp (setB (fnI (P ++ Y)) (P.length : Int) z) (plc Z (P.length + 1)) = _
    rw [hstep]
    have ih := over Z (P ++ [z]) (Y.drop 1)
    rw [List.length_append, List.length_singleton] at ih
    rw [ih]
    simp [Nat.add_comm]
theorem rp_append (B : Bl) (L M : List (Int × ByteArray)) : rp B (L ++ M) = rp (rp B L) M := by simp [rp]
theorem plc_take : ∀ (l : List ByteArray) (a k : Nat), (plc l a).take k = plc (l.take k) a
  | [], a, k => by simp [plc]
  | t :: l, a, 0 => by simp [plc]
  | t :: l, a, k + 1 => by rw [plc, List.take_succ_cons, plc_take l (a + 1) k, List.take_succ_cons, plc]
theorem plc_append : ∀ (l m : List ByteArray) (a : Nat), plc (l ++ m) a = plc l a ++ plc m (a + l.length)
  | [], m, a => by simp [plc]
  | t :: l, m, a => by rw [List.cons_append, plc, plc_append l m (a + 1), plc, List.cons_append, List.length_cons, show a + 1 + l.length = a + (l.length + 1) by omega]
theorem wps_empty : ∀ (n : Nat) (X : List ByteArray) (a : Nat), wps (List.replicate n ⟨#[]⟩ ++ X) a = wps X (a + n)
  | 0, X, a => by simp
  | n + 1, X, a => by
    rw [List.replicate_succ, List.cons_append, wps, if_pos (show (⟨#[]⟩ : ByteArray).size = 0 from rfl), wps_empty n X (a + 1), show a + 1 + n = a + (n + 1) by omega]
theorem wps_all : ∀ (X : List ByteArray) (a : Nat), (∀ t ∈ X, t.size ≠ 0) → wps X a = plc (List.replicate X.length ⟨#[]⟩) a
  | [], a, _ => rfl
  | t :: X, a, h => by
    rw [wps, if_neg (h t (by simp)), wps_all X (a + 1) (fun x hx => h x (by simp [hx])), List.length_cons, List.replicate_succ, plc]
theorem im_of (l : List ByteArray) (h1 : l.length ≤ 2048) (h2 : l = [] ∨ (l.getD (l.length - 1) ⟨#[]⟩).size ≠ 0) : im (fnI l) = l := by
  have ht : top (fnI l) = l.length := by
    refine top_eq h1 ?_ ?_
    · rcases h2 with rfl | h2
      · exact .inl rfl
      · by_cases h0 : l.length = 0
        · exact .inl h0
        · right
          rw [show ((l.length : Nat) : Int) - 1 = ((l.length - 1 : Nat) : Int) by omega, fnI_at]
          exact h2
    · intro i hi _
      rw [fnI_at, getD_no _ _ hi]; rfl
  unfold im
  rw [ht]
  apply List.ext_getElem
  · simp
  · intro i h3 h4
    have e1 : (tx (fnI l) l.length)[i] = fnI l (i : Int) := by simp [tx]
    rw [e1, fnI_at, getD_yes _ _ h4]
/- The blocks behind the records: the first j of k are wiped. -/
def tl (q : Nat) (t : ByteArray) (k j : Nat) : List ByteArray := List.replicate j ⟨#[]⟩ ++ ((blks (q : Int) t).take k).drop j
structure Hs (s : St) (ps : List ByteArray) (t : ByteArray) (k j : Nat) : Prop where
  ok : s.Ok
  sz : ∀ p ∈ ps, p.size ≤ 5865
  tsz : t.size ≤ 5865
  hk : k < np t.size
  hj : j ≤ k
  fit : (recs 1 ps).length + k ≤ 2048
  bl : s.bl = fnI (recs 1 ps ++ tl (ps.length + 1) t k j)
theorem tl_length {q : Nat} {t : ByteArray} {k j : Nat} (hk : k < np t.size) (hj : j ≤ k) : (tl q t k j).length = k := by
  unfold tl
  rw [List.length_append, List.length_replicate, List.length_drop, List.length_take, blks_length]
  omega
section
variable {s : St} {ps : List ByteArray} {t : ByteArray} {k j : Nat}
theorem Hs.cnt (h : Hs s ps t k j) : ps.length ≤ (recs 1 ps).length ∧ ps.length ≤ 2048 := by
  have := recs_len ps 1 h.sz
  have := h.fit
  omega
theorem Hs.num (h : Hs s ps t k j) : gs ((ps.length + 1 : Nat) : Int) = true := num_ok (by have := h.cnt; omega)
theorem Hs.rsz (h : Hs s ps t k j) : ∀ x ∈ recs 1 ps, x.size = 32 := recs_size ps 1 (by omega) (by have := h.cnt; omega) h.sz
theorem last_size {l : List ByteArray} (h : ∀ x ∈ l, x.size = 32) : l = [] ∨ (l.getD (l.length - 1) ⟨#[]⟩).size ≠ 0 := by
  by_cases h0 : l = []
  · exact .inl h0
  · right
    have hp : 0 < l.length := List.length_pos_iff.2 h0
    rw [getD_yes _ _ (by omega), h _ (List.getElem_mem _)]
    decide
theorem tl_full (q : Nat) (t : ByteArray) (k : Nat) (hk : k < np t.size) : tl q t k k = List.replicate k ⟨#[]⟩ := by
  unfold tl
  rw [List.drop_eq_nil_of_le (by rw [List.length_take]; omega), List.append_nil]
theorem Hs.clean (h : Hs s ps t k k) : s.bl = fnI (recs 1 ps) := by rw [h.bl, tl_full _ _ _ h.hk, fnI_trail]
theorem Hs.zero (h : Hs s ps t k k) : Hs s ps ⟨#[]⟩ 0 0 := by
  refine ⟨h.ok, h.sz, by decide, by decide, Nat.le_refl _, by have := h.fit; omega, ?_⟩
  rw [h.clean]
  simp [tl]
theorem Hs.image (h : Hs s ps t k j) : im s.bl = recs 1 ps ++ (if j < k then tl (ps.length + 1) t k j else []) := by
  by_cases hjk : j < k
  · rw [if_pos hjk, h.bl]
    refine im_of _ ?_ ?_
    · rw [List.length_append, tl_length h.hk h.hj]; exact h.fit
    · right
      have hl : (recs 1 ps ++ tl (ps.length + 1) t k j).length - 1 = (recs 1 ps).length + (k - 1) := by
        rw [List.length_append, tl_length h.hk h.hj]; omega
      rw [hl, getD_app_right]
      have e1 : (tl (ps.length + 1) t k j).getD (k - 1) ⟨#[]⟩ = (blks ((ps.length + 1 : Nat) : Int) t).getD (k - 1) ⟨#[]⟩ := by
        unfold tl
        have := getD_app_right (List.replicate j ⟨#[]⟩) (((blks ((ps.length + 1 : Nat) : Int) t).take k).drop j) (k - 1 - j)
        rw [List.length_replicate, show j + (k - 1 - j) = k - 1 by omega] at this
        rw [this]
        simp only [List.getD_eq_getElem?_getD, List.getElem?_drop, List.getElem?_take]
        rw [if_pos (by omega), show j + (k - 1 - j) = k - 1 by omega]
      have hk1 : k - 1 < (blks ((ps.length + 1 : Nat) : Int) t).length := by rw [blks_length]; have := h.hk; omega
      rw [e1, getD_yes _ _ hk1, blks_size h.num h.tsz _ (List.getElem_mem _)]
      decide
  · obtain rfl : j = k := by have := h.hj; omega
    rw [if_neg hjk, h.clean, List.append_nil]
    exact im_of _ (by have := h.fit; omega) (last_size h.rsz)
theorem Hs.noh (h : Hs s ps t k j) : Noh (if j < k then tl (ps.length + 1) t k j else []) (1 + ps.length) := by
  by_cases hjk : j < k
  · rw [if_pos hjk]
    cases j with
    | zero =>
      have e : tl (ps.length + 1) t k 0 = (blks ((ps.length + 1 : Nat) : Int) t).take k := by simp [tl]
      rw [e, Nat.add_comm 1]
      exact noh_part t (ps.length + 1) k h.num h.tsz h.hk
    | succ j =>
      unfold tl
      rw [List.replicate_succ, List.cons_append]
      exact noh_empty _ _
  · rw [if_neg hjk]
    exact noh_nil _
theorem Hs.scan (h : Hs s ps t k j) : scP s = ps ∧ scE s = (recs 1 ps).length := by
  have h1 := h.cnt
  unfold scP scE
  rw [h.image, sc_recs ps 65535 1 _ (by omega) (by omega) (by omega) h.sz h.noh]
  exact ⟨rfl, rfl⟩
theorem Hs.wipes (h : Hs s ps t k j) : opw s = plc (List.replicate (k - j) ⟨#[]⟩) ((recs 1 ps).length + j) := by
  unfold opw
  rw [h.scan.2, h.image, List.drop_left' rfl]
  by_cases hjk : j < k
  · rw [if_pos hjk]
    unfold tl
    rw [wps_empty, wps_all]
    · rw [List.length_drop, List.length_take, blks_length, Nat.min_eq_left (by have := h.hk; omega)]
    · intro x hx
      rw [blks_size h.num h.tsz x (List.mem_of_mem_take (List.mem_of_mem_drop hx))]
      decide
  · rw [if_neg hjk, show k - j = 0 by omega]
    rfl
theorem Hs.wiped (h : Hs s ps t k j) (m : Nat) (hm : m ≤ k - j) : rp (fnI (recs 1 ps ++ tl (ps.length + 1) t k j)) (plc (List.replicate m ⟨#[]⟩) ((recs 1 ps).length + j)) = fnI (recs 1 ps ++ tl (ps.length + 1) t k (j + m)) := by
  have e := over (List.replicate m ⟨#[]⟩) (recs 1 ps ++ List.replicate j ⟨#[]⟩) (((blks ((ps.length + 1 : Nat) : Int) t).take k).drop j)
  rw [List.length_append, List.length_replicate, List.length_replicate, List.drop_drop] at e
  unfold tl
  rw [← List.append_assoc, e, List.append_assoc (recs 1 ps), List.replicate_append_replicate, List.append_assoc]
/- Opening. -/
theorem Hs.log_wiped (h : Hs s ps t k j) (m : Nat) (hm : m ≤ k - j) (left : Int) (h1 : -1 ≤ left) (h2 : left ≤ 9223372036854775807) : Hs ⟨s.img, s.log ++ plc (List.replicate m ⟨#[]⟩) ((recs 1 ps).length + j), left⟩ ps t k (j + m) := by
  refine ⟨⟨h.ok.i1, h.ok.i2, ?_, h1, h2⟩, h.sz, h.tsz, h.hk, by have := h.hj; omega, h.fit, ?_⟩
  · intro p hp
    rcases List.mem_append.1 hp with hp | hp
    · exact h.ok.l1 p hp
    · refine plc_good _ _ ?_ ?_ p hp
      · rw [List.length_replicate]; have := h.fit; have := h.hj; omega
      · intro x hx
        rw [List.eq_of_mem_replicate hx]
        decide
  · show rp (fnI s.img) (s.log ++ _) = _
    rw [rp_append, show rp (fnI s.img) s.log = s.bl from rfl, h.bl, h.wiped m hm]
/- What an opening leaves. -/
structure Opened (s : St) (ps : List ByteArray) (t : ByteArray) (k j : Nat) : Prop where
  found : scP s = ps
  ended : scE s = (recs 1 ps).length
  yes : opB s = true → Hs (opS s) ps t k k ∧ (opS s).left ≠ 0 ∧ (opS s).log.length = s.log.length + (k - j)
  no : opB s = false → ∃ m, m ≤ k - j ∧ Hs (opS s) ps t k (j + m) ∧ (opS s).log.length = s.log.length + m
  much : s.left = -1 ∨ 254 < s.left → opB s = true
theorem Hs.opened (h : Hs s ps t k j) : Opened s ps t k j := by
  have hg := opw_good s
  have hjk := h.hj
  have hk255 : k ≤ 254 := by have := h.hk; have := (np_spec t.size h.tsz).2.2.1; omega
  have hw := h.wipes
  have h1 := h.ok.p1
  have h2 := h.ok.p2
  have hB : opB s = if s.left = 0 then false else (wl (opw s) s).2 := rfl
  have hS : opS s = if s.left = 0 then s else (wl (opw s) s).1 := rfl
  by_cases h0 : s.left = 0
  · rw [if_pos h0] at hB hS
    refine ⟨h.scan.1, h.scan.2, fun e => (by rw [hB] at e; cases e), fun _ => ⟨0, by omega, ?_, by rw [hS]; rfl⟩, fun e => (by omega)⟩
    rw [hS]; exact h
  · rw [if_neg h0] at hB hS
    have hlen : (opw s).length = k - j := by rw [hw, plc_length, List.length_replicate]
    by_cases hf : s.left = -1
    · have e := wl_free (opw s) s hf hg
      rw [e] at hB hS
      refine ⟨h.scan.1, h.scan.2, fun _ => ⟨?_, by rw [hS]; show (-1 : Int) ≠ 0; decide, by rw [hS]; show (s.log ++ opw s).length = _; rw [List.length_append, hlen]⟩, fun e => (by rw [hB] at e; cases e), fun _ => hB⟩
      have := h.log_wiped (k - j) (Nat.le_refl _) (-1) (by decide) (by decide)
      rw [show j + (k - j) = k by omega] at this
      rw [hS, hw]; exact this
    · obtain ⟨n, hn⟩ : ∃ n : Nat, s.left = (n : Int) := ⟨s.left.toNat, by omega⟩
      have e := wl_few (opw s) s n hn (by omega) hg
      rw [hlen] at e
      by_cases hlt : k - j < n
      · rw [if_pos hlt] at e
        rw [e] at hB hS
        refine ⟨h.scan.1, h.scan.2, fun _ => ⟨?_, by rw [hS]; show ((n - (k - j) : Nat) : Int) ≠ 0; omega, by rw [hS]; show (s.log ++ opw s).length = _; rw [List.length_append, hlen]⟩, fun e => (by rw [hB] at e; cases e), fun _ => hB⟩
        have := h.log_wiped (k - j) (Nat.le_refl _) ((n - (k - j) : Nat) : Int) (by omega) (by omega)
        rw [show j + (k - j) = k by omega] at this
        rw [hS, hw]; exact this
      · rw [if_neg hlt] at e
        rw [e] at hB hS
        refine ⟨h.scan.1, h.scan.2, fun e => (by rw [hB] at e; cases e), fun _ => ⟨n, by omega, ?_, ?_⟩, fun e => (by omega)⟩
        · have := h.log_wiped n (by omega) 0 (by decide) (by decide)
          rw [hS, hw, plc_take, List.take_replicate, Nat.min_eq_left (by omega)]
          exact this
        · rw [hS]
          show (s.log ++ (opw s).take n).length = _
          rw [List.length_append, List.length_take, hlen, Nat.min_eq_left (by omega)]
end
end Go.Proofs.Ytohgflimdoebiaa.Dk
/- What an append leaves on a disk. -/
namespace Go.Proofs.Ytohgflimdoebiaa.Dk
open Go.RowKit Go.Maps
set_option linter.unusedVariables false
set_option maxRecDepth 4000
set_option linter.unusedSimpArgs false

theorem recs_add (ps : List ByteArray) (t : ByteArray) : recs 1 (ps ++ [t]) = recs 1 ps ++ blks ((ps.length + 1 : Nat) : Int) t := by
  rw [recs_snoc, Nat.add_comm 1]
section
variable {s : St} {ps : List ByteArray} {t : ByteArray}
theorem Hs.clean0 (h : Hs s ps ⟨#[]⟩ 0 0) : s.bl = fnI (recs 1 ps) := h.clean
theorem Hs.put (h : Hs s ps ⟨#[]⟩ 0 0) (m : Nat) : rp (fnI s.img) (s.log ++ (apW ps.length (recs 1 ps).length t).take m) = fnI (recs 1 ps ++ (blks ((ps.length + 1 : Nat) : Int) t).take m) := by
  have e := over ((blks ((ps.length + 1 : Nat) : Int) t).take m) (recs 1 ps) []
  rw [List.append_nil, List.drop_nil, List.append_nil] at e
  rw [rp_append, show rp (fnI s.img) s.log = s.bl from rfl, h.clean0]
  unfold apW
  rw [plc_take]
  exact e
theorem Hs.put_ok (h : Hs s ps ⟨#[]⟩ 0 0) (ht : t.size ≤ 5865) (hf : (recs 1 ps).length + np t.size ≤ 2048) (m : Nat) (left : Int) (h1 : -1 ≤ left) (h2 : left ≤ 9223372036854775807) : St.Ok ⟨s.img, s.log ++ (apW ps.length (recs 1 ps).length t).take m, left⟩ := by
  refine ⟨h.ok.i1, h.ok.i2, ?_, h1, h2⟩
  intro p hp
  rcases List.mem_append.1 hp with hp | hp
  · exact h.ok.l1 p hp
  · exact apW_good ht hf (by have := h.cnt; omega) p (List.mem_of_mem_take hp)
theorem Hs.put_all (h : Hs s ps ⟨#[]⟩ 0 0) (ht : t.size ≤ 5865) (hf : (recs 1 ps).length + np t.size ≤ 2048) (m : Nat) (hm : np t.size ≤ m) (left : Int) (h1 : -1 ≤ left) (h2 : left ≤ 9223372036854775807) : Hs ⟨s.img, s.log ++ (apW ps.length (recs 1 ps).length t).take m, left⟩ (ps ++ [t]) ⟨#[]⟩ 0 0 := by
  refine ⟨h.put_ok ht hf m left h1 h2, ?_, by decide, by decide, Nat.le_refl _, ?_, ?_⟩
  · intro p hp
    rcases List.mem_append.1 hp with hp | hp
    · exact h.sz p hp
    · simp at hp; subst hp; exact ht
  · rw [recs_add, List.length_append, blks_length]; omega
  · show rp (fnI s.img) (s.log ++ _) = _
    rw [h.put m, recs_add, List.take_of_length_le (by rw [blks_length]; exact hm)]
    simp [tl]
theorem Hs.put_part (h : Hs s ps ⟨#[]⟩ 0 0) (ht : t.size ≤ 5865) (hf : (recs 1 ps).length + np t.size ≤ 2048) (m : Nat) (hm : m < np t.size) (left : Int) (h1 : -1 ≤ left) (h2 : left ≤ 9223372036854775807) : Hs ⟨s.img, s.log ++ (apW ps.length (recs 1 ps).length t).take m, left⟩ ps t m 0 := by
  refine ⟨h.put_ok ht hf m left h1 h2, h.sz, ht, hm, Nat.zero_le _, by omega, ?_⟩
  show rp (fnI s.img) (s.log ++ _) = _
  rw [h.put m]
  simp [tl]
structure Appd (s : St) (ps : List ByteArray) (t : ByteArray) : Prop where
  ok : apE s ps.length (recs 1 ps).length false t = 0 → t.size ≤ 5865 ∧ Hs (apS s ps.length (recs 1 ps).length false t) (ps ++ [t]) ⟨#[]⟩ 0 0 ∧ (apS s ps.length (recs 1 ps).length false t).left ≠ 0 ∧ (apS s ps.length (recs 1 ps).length false t).log.length = s.log.length + np t.size
  not : apE s ps.length (recs 1 ps).length false t ≠ 0 → apE s ps.length (recs 1 ps).length false t ≠ 11 → apS s ps.length (recs 1 ps).length false t = s ∧ s.left ≠ 0 ∧ ((apE s ps.length (recs 1 ps).length false t = 9 ∧ 5865 < t.size) ∨ (apE s ps.length (recs 1 ps).length false t = 10 ∧ t.size ≤ 5865 ∧ (2048 < (recs 1 ps).length + np t.size ∨ 65535 ≤ ps.length)))
  down : apE s ps.length (recs 1 ps).length false t = 11 → ∃ m, (apS s ps.length (recs 1 ps).length false t).log.length = s.log.length + m ∧ ((t.size ≤ 5865 ∧ m = np t.size ∧ Hs (apS s ps.length (recs 1 ps).length false t) (ps ++ [t]) ⟨#[]⟩ 0 0) ∨ (¬ (t.size ≤ 5865 ∧ m = np t.size) ∧ ∃ t' k, Hs (apS s ps.length (recs 1 ps).length false t) ps t' k 0))
  free : s.left = -1 → apE s ps.length (recs 1 ps).length false t ≠ 11 ∧ (apS s ps.length (recs 1 ps).length false t).left = -1 ∧ (apE s ps.length (recs 1 ps).length false t = 0 → apS s ps.length (recs 1 ps).length false t = ⟨s.img, s.log ++ plc (blks ((ps.length + 1 : Nat) : Int) t) (recs 1 ps).length, -1⟩)
theorem Hs.appended (h : Hs s ps ⟨#[]⟩ 0 0) (t : ByteArray) : Appd s ps t := by
  have hcnt := h.cnt
  have p1 := h.ok.p1
  have p2 := h.ok.p2
  have hE : apE s ps.length (recs 1 ps).length false t = if false = true ∨ s.left = 0 then 11 else if 5865 < t.size then 9 else if 2048 < (recs 1 ps).length + np t.size ∨ 65535 ≤ ps.length then 10 else if (wl (apW ps.length (recs 1 ps).length t) s).2 = true then 0 else 11 := rfl
  have hS : apS s ps.length (recs 1 ps).length false t = if false = true ∨ s.left = 0 then s else if 5865 < t.size then s else if 2048 < (recs 1 ps).length + np t.size ∨ 65535 ≤ ps.length then s else (wl (apW ps.length (recs 1 ps).length t) s).1 := rfl
  by_cases h0 : s.left = 0
  · rw [if_pos (.inr h0)] at hE hS
    rw [show (Appd s ps t) = Appd s ps t from rfl]
    constructor
    · rw [hE]; intro e; cases e
    · rw [hE]; intro _ e; exact absurd rfl e
    · intro _
      refine ⟨0, by rw [hS]; rfl, .inr ⟨fun e => ?_, ⟨#[]⟩, 0, by rw [hS]; exact h⟩⟩
      have := (np_spec t.size e.1).2.1
      omega
    · intro e; omega
  · have hz : ¬ (false = true ∨ s.left = 0) := by simp [h0]
    rw [if_neg hz] at hE hS
    by_cases hl : 5865 < t.size
    · rw [if_pos hl] at hE hS
      constructor
      · rw [hE]; intro e; cases e
      · rw [hE, hS]; intro _ _; exact ⟨rfl, h0, .inl ⟨rfl, hl⟩⟩
      · rw [hE]; intro e; cases e
      · intro e; rw [hE, hS]; exact ⟨by decide, e, fun e => by cases e⟩
    · rw [if_neg hl] at hE hS
      by_cases hf : 2048 < (recs 1 ps).length + np t.size ∨ 65535 ≤ ps.length
      · rw [if_pos hf] at hE hS
        constructor
        · rw [hE]; intro e; cases e
        · rw [hE, hS]; intro _ _; exact ⟨rfl, h0, .inr ⟨rfl, by omega, hf⟩⟩
        · rw [hE]; intro e; cases e
        · intro e; rw [hE, hS]; exact ⟨by decide, e, fun e => by cases e⟩
      · rw [if_neg hf] at hE hS
        have hf' : (recs 1 ps).length + np t.size ≤ 2048 := by omega
        have hg := apW_good (c := ps.length) (a := (recs 1 ps).length) (t := t) (by omega) hf' (by omega)
        have hlen := apW_len ps.length (recs 1 ps).length t
        have htk : (apW ps.length (recs 1 ps).length t).take (np t.size) = apW ps.length (recs 1 ps).length t := List.take_of_length_le (by omega)
        by_cases hfr : s.left = -1
        · have e := wl_free _ s hfr hg
          rw [e, if_pos rfl] at hE
          rw [e] at hS
          have hall := h.put_all (t := t) (by omega) hf' (np t.size) (Nat.le_refl _) (-1) (by decide) (by decide)
          rw [htk] at hall
          constructor
          · intro _; rw [hS]; exact ⟨by omega, hall, by show (-1 : Int) ≠ 0; decide, by show (s.log ++ _).length = _; rw [List.length_append, hlen]⟩
          · rw [hE]; intro e; exact absurd rfl e
          · rw [hE]; intro e; cases e
          · intro _; rw [hE, hS]; exact ⟨by decide, rfl, fun _ => rfl⟩
        · obtain ⟨n, hn⟩ : ∃ n : Nat, s.left = (n : Int) := ⟨s.left.toNat, by omega⟩
          have e := wl_few _ s n hn (by omega) hg
          rw [hlen] at e
          by_cases hlt : np t.size < n
          · rw [if_pos hlt] at e
            rw [e, if_pos rfl] at hE
            rw [e] at hS
            have hall := h.put_all (t := t) (by omega) hf' (np t.size) (Nat.le_refl _) ((n - np t.size : Nat) : Int) (by omega) (by omega)
            rw [htk] at hall
            constructor
            · intro _; rw [hS]; exact ⟨by omega, hall, by show ((n - np t.size : Nat) : Int) ≠ 0; omega, by show (s.log ++ _).length = _; rw [List.length_append, hlen]⟩
            · rw [hE]; intro e; exact absurd rfl e
            · rw [hE]; intro e; cases e
            · intro e; omega
          · rw [if_neg hlt] at e
            rw [e, if_neg (show ¬ (false = true) by decide)] at hE
            rw [e] at hS
            have hlog : (s.log ++ (apW ps.length (recs 1 ps).length t).take n).length = s.log.length + n := by
              rw [List.length_append, List.length_take, hlen, Nat.min_eq_left (by omega)]
            constructor
            · rw [hE]; intro e; cases e
            · rw [hE]; intro _ e; exact absurd rfl e
            · intro _
              rw [hS]
              refine ⟨n, hlog, ?_⟩
              by_cases hnn : n = np t.size
              · exact .inl ⟨by omega, hnn, h.put_all (by omega) hf' n (by omega) 0 (by decide) (by decide)⟩
              · exact .inr ⟨fun e => hnn e.2, t, n, h.put_part (by omega) hf' n (by omega) 0 (by decide) (by decide)⟩
            · intro e; omega
theorem Hs.again {k : Nat} (h : Hs s ps t k k) (h0 : s.left ≠ 0) : opS s = s ∧ opB s = true := by
  have hw := h.wipes
  rw [Nat.sub_self] at hw
  have e : wl (opw s) s = (s, true) := by rw [hw]; rfl
  unfold opS opB
  rw [if_neg h0, if_neg h0, e]
  exact ⟨rfl, rfl⟩
theorem Hs.new : Hs nu [] ⟨#[]⟩ 0 0 := by
  refine ⟨nu_ok, by simp, by decide, by decide, Nat.le_refl _, by simp [recs], ?_⟩
  show rp (fnI []) [] = _
  simp [rp, recs, tl]
theorem Hs.up {k j : Nat} (h : Hs s ps t k j) (n : Int) (h1 : -1 ≤ n) (h2 : n ≤ 9223372036854775807) : Hs ⟨s.img, s.log, n⟩ ps t k j := ⟨⟨h.ok.i1, h.ok.i2, h.ok.l1, h1, h2⟩, h.sz, h.tsz, h.hk, h.hj, h.fit, h.bl⟩
end
end Go.Proofs.Ytohgflimdoebiaa.Dk
