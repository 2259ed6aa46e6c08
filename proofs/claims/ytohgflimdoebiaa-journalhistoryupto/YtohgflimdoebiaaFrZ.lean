/- Journals on plain data: the frame that stands at blocks' front, the records of blocks, rows of writes, and what stands on a disk. -/
import Derived.Test.YtohgflimdoebiaaFrG
namespace Go.Proofs.Ytohgflimdoebiaa
open Go.RowKit Go.Maps
set_option linter.unusedVariables false
set_option maxRecDepth 4000
set_option linter.unusedSimpArgs false

def fpc (s : ByteArray) : Pc := ⟨rq s, ((bt s 2 : Nat) : Int), ((bt s 3 : Nat) : Int), rdd s⟩
theorem fpc_bl (q p n : Int) (d : ByteArray) (h : rt q p n d.size = true) : fpc (bl q p n d) = ⟨q, p, n, d⟩ := by
  unfold fpc
  rw [rq_bl _ _ _ _ h, rdd_bl _ _ _ _ h, (bts_bl _ _ _ _ h).1, (bts_bl _ _ _ _ h).2]
theorem bk_fpc {s : ByteArray} (h : Ub s) : bkP (fpc s) = s := h.same
def fn (l : List ByteArray) : Nat := bt (l.getD 0 ⟨#[]⟩) 3
theorem ub_n {s : ByteArray} (h : Ub s) : 1 ≤ bt s 3 ∧ bt s 3 ≤ 255 := by
  obtain ⟨h1, h2, h3, h4, h5, h6, h7, h8⟩ := (rt_iff _ _ _ _).1 h.right
  omega
structure Fro (l : List ByteArray) : Prop where
  ne : l ≠ []
  one : 1 ≤ fn l
  fit : fn l ≤ l.length
  each : ∀ i, i < fn l → Ub (l.getD i ⟨#[]⟩)
def frp (l : List ByteArray) : List Pc := (l.take (fn l)).map fpc
theorem Fro.len {l : List ByteArray} (h : Fro l) : (frp l).length = fn l := by
  unfold frp; rw [List.length_map, List.length_take, Nat.min_eq_left h.fit]
structure Std (l : List ByteArray) (q : Int) (s : ByteArray) : Prop where
  num : gs q = true
  len : s.size ≤ 5865
  eq : l.take (np s.size) = blks q s
theorem pcs_mem {q : Int} {s : ByteArray} {x : Pc} (hx : x ∈ pcs q s) : ∃ i, i < np s.size ∧ x = ⟨q, (i : Int), (np s.size : Int), dt s i⟩ := by
  simp only [pcs, List.mem_map, List.mem_range] at hx
  obtain ⟨i, hi, rfl⟩ := hx
  exact ⟨i, hi, rfl⟩
theorem Std.fit {l : List ByteArray} {q : Int} {s : ByteArray} (h : Std l q s) : np s.size ≤ l.length := by
  have := congrArg List.length h.eq
  rw [List.length_take, blks_length] at this
  omega
theorem Std.pos {l : List ByteArray} {q : Int} {s : ByteArray} (h : Std l q s) : 1 ≤ np s.size := (np_spec s.size h.len).2.1
theorem Std.at' {l : List ByteArray} {q : Int} {s : ByteArray} (h : Std l q s) (i : Nat) (hi : i < np s.size) : l.getD i ⟨#[]⟩ = bl q (i : Int) (np s.size : Int) (dt s i) := by
  rw [← blks_get q s i hi, ← h.eq]
  simp [List.getD_eq_getElem?_getD, List.getElem?_take, hi]
theorem Std.fn {l : List ByteArray} {q : Int} {s : ByteArray} (h : Std l q s) : fn l = np s.size := by
  have h1 := h.at' 0 h.pos
  have h2 := (bts_bl q ((0 : Nat) : Int) (np s.size : Int) (dt s 0) (piece_right q s h.num h.len 0 h.pos)).2
  unfold Go.Proofs.Ytohgflimdoebiaa.fn
  rw [h1]
  exact Int.ofNat.inj h2
theorem Std.fro {l : List ByteArray} {q : Int} {s : ByteArray} (h : Std l q s) : Fro l where
  ne := fun e => by have := h.fit; have := h.pos; rw [e] at *; simp at *; omega
  one := by rw [h.fn]; exact h.pos
  fit := by rw [h.fn]; exact h.fit
  each := fun i hi => by
    rw [h.fn] at hi
    rw [h.at' i hi]
    exact ub_bl _ _ _ _ (piece_right q s h.num h.len i hi)
theorem Std.frp {l : List ByteArray} {q : Int} {s : ByteArray} (h : Std l q s) : frp l = pcs q s := by
  unfold Go.Proofs.Ytohgflimdoebiaa.frp
  rw [h.fn, h.eq]
  unfold blks
  rw [List.map_map]
  conv => rhs; rw [← List.map_id (pcs q s)]
  apply List.map_congr_left
  intro x hx
  obtain ⟨i, hi, rfl⟩ := pcs_mem hx
  exact fpc_bl _ _ _ _ (piece_right q s h.num h.len i hi)
theorem Fro.std {l : List ByteArray} (h : Fro l) (hw : Wh (frp l)) : Std l ((frp l).getD 0 pc0).q ⟨(ct (frp l)).toArray⟩ := by
  have hs : (⟨(ct (frp l)).toArray⟩ : ByteArray).size = (ct (frp l)).length := by simp [ByteArray.size]
  obtain ⟨h1, h2⟩ := hw.total
  refine ⟨?_, by rw [hs]; exact h1, ?_⟩
  · exact (hw.sizes 0 (by rw [h.len]; exact h.one)).2.2.2.1
  · rw [hs, h2, h.len]
    unfold blks
    rw [hw.back]
    unfold frp
    rw [List.map_map]
    conv => lhs; rw [← List.map_id (l.take (fn l))]
    apply List.map_congr_left
    intro x hx
    obtain ⟨i, hi, rfl⟩ := List.mem_iff_getElem.1 hx
    rw [List.length_take, Nat.min_eq_left h.fit] at hi
    have := h.each i hi
    rw [List.getElem_take]
    have e : l.getD i ⟨#[]⟩ = l[i]'(by have := h.fit; omega) := by simp [List.getD_eq_getElem?_getD, List.getElem?_eq_getElem (show i < l.length by have := h.fit; omega)]
    rw [e] at this
    exact this.same.symm
def sd (l : List ByteArray) (q : Int) : Option ByteArray :=
  if gs q = true ∧ (⟨(ct (frp l)).toArray⟩ : ByteArray).size ≤ 5865 ∧ l.take (np (⟨(ct (frp l)).toArray⟩ : ByteArray).size) = blks q ⟨(ct (frp l)).toArray⟩ then some ⟨(ct (frp l)).toArray⟩ else none
theorem sd_std {l : List ByteArray} {q : Int} {s : ByteArray} (h : sd l q = some s) : Std l q s := by
  unfold sd at h
  split at h
  · rename_i hc
    cases h
    exact ⟨hc.1, hc.2.1, hc.2.2⟩
  · cases h
theorem Std.ct {l : List ByteArray} {q : Int} {s : ByteArray} (h : Std l q s) : (⟨(ct (Go.Proofs.Ytohgflimdoebiaa.frp l)).toArray⟩ : ByteArray) = s := by
  rw [h.frp, ct_pcs q s h.len]
theorem Std.sd {l : List ByteArray} {q : Int} {s : ByteArray} (h : Std l q s) : sd l q = some s := by
  unfold Go.Proofs.Ytohgflimdoebiaa.sd
  rw [h.ct, if_pos ⟨h.num, h.len, h.eq⟩]
theorem sd_no {l : List ByteArray} {q : Int} (h : ∀ s, ¬ Std l q s) : sd l q = none := by
  cases e : sd l q with
  | none => rfl
  | some s => exact absurd (sd_std e) (h s)
/- What the program's standing finds: sd. -/
theorem sd_yes {l : List ByteArray} {q : Int} (hf : Fro l) (hw : Wh (frp l)) (hq : ((frp l).getD 0 pc0).q = q) : sd l q = some ⟨(ct (frp l)).toArray⟩ := by
  have := hf.std hw
  rw [hq] at this
  exact this.sd
theorem sd_nofro {l : List ByteArray} {q : Int} (hf : ¬ Fro l) : sd l q = none := sd_no fun s h => hf h.fro
theorem Std.wh {l : List ByteArray} {q : Int} {s : ByteArray} (h : Std l q s) : Wh (Go.Proofs.Ytohgflimdoebiaa.frp l) := by rw [h.frp]; exact wh_pcs q s h.num h.len
theorem sd_nowh {l : List ByteArray} {q : Int} (hw : ¬ Wh (frp l)) : sd l q = none := sd_no fun s h => hw h.wh
theorem Std.q0 {l : List ByteArray} {q : Int} {s : ByteArray} (h : Std l q s) : ((Go.Proofs.Ytohgflimdoebiaa.frp l).getD 0 pc0).q = q := by rw [h.frp, pcs_get q s 0 h.pos]
theorem sd_noq {l : List ByteArray} {q : Int} (hq : ((frp l).getD 0 pc0).q ≠ q) : sd l q = none := sd_no fun s h => hq h.q0
def sdS (l : List ByteArray) (q : Int) : ByteArray := (sd l q).getD ⟨#[]⟩
def sdN (l : List ByteArray) (q : Int) : Nat := match sd l q with | some s => np s.size | none => 0
theorem sdN_none {l : List ByteArray} {q : Int} (h : sd l q = none) : sdN l q = 0 := by unfold sdN; rw [h]
theorem sdS_none {l : List ByteArray} {q : Int} (h : sd l q = none) : sdS l q = ⟨#[]⟩ := by unfold sdS; rw [h]; rfl
theorem sdN_some {l : List ByteArray} {q : Int} {s : ByteArray} (h : sd l q = some s) : sdN l q = np s.size := by unfold sdN; rw [h]
theorem sdS_some {l : List ByteArray} {q : Int} {s : ByteArray} (h : sd l q = some s) : sdS l q = s := by unfold sdS; rw [h]; rfl
/- The records. -/
def rcs : Nat → List ByteArray → Nat → Nat → List (Int × ByteArray)
  | 0, _, _, _ => []
  | f + 1, l, q, a => match sd l (q : Int) with
    | none => []
    | some s => (((a + np s.size : Nat) : Int), s) :: rcs f (l.drop (np s.size)) (q + 1) (a + np s.size)
def sc : Nat → List ByteArray → Nat → List ByteArray × Nat
  | 0, _, _ => ([], 0)
  | f + 1, l, q => match sd l (q : Int) with
    | none => ([], 0)
    | some s => (s :: (sc f (l.drop (np s.size)) (q + 1)).1, np s.size + (sc f (l.drop (np s.size)) (q + 1)).2)
theorem sc_none {f : Nat} {l : List ByteArray} {q : Nat} (h : sd l (q : Int) = none) : sc f l q = ([], 0) := by
  cases f with
  | zero => rfl
  | succ f => rw [sc, h]
theorem sc_some {f : Nat} {l : List ByteArray} {q : Nat} {s : ByteArray} (h : sd l (q : Int) = some s) : sc (f + 1) l q = (s :: (sc f (l.drop (np s.size)) (q + 1)).1, np s.size + (sc f (l.drop (np s.size)) (q + 1)).2) := by
  rw [sc, h]
def lastE (x : Int) (xs : List (Int × ByteArray)) : Int := xs.foldl (fun _ p => p.1) x
theorem lastE_snoc (x : Int) (xs : List (Int × ByteArray)) (p : Int × ByteArray) : lastE x (xs ++ [p]) = p.1 := by simp [lastE]
theorem rcs_sc : ∀ (f : Nat) (l : List ByteArray) (q a : Nat), (rcs f l q a).map (fun p => p.2) = (sc f l q).1 ∧ lastE (a : Int) (rcs f l q a) = ((a + (sc f l q).2 : Nat) : Int)
  | 0, l, q, a => by simp [rcs, sc, lastE]
  | f + 1, l, q, a => by
    unfold rcs sc
    cases h : sd l (q : Int) with
    | none => simp [lastE]
    | some s =>
      obtain ⟨h1, h2⟩ := rcs_sc f (l.drop (np s.size)) (q + 1) (a + np s.size)
      refine ⟨by simp [h1], ?_⟩
      show lastE ((a + np s.size : Nat) : Int) _ = _
      rw [h2]
      simp only [Nat.add_assoc]
theorem sc_len : ∀ (f : Nat) (l : List ByteArray) (q : Nat), (sc f l q).1.length ≤ (sc f l q).2 ∧ (sc f l q).2 ≤ l.length ∧ (sc f l q).1.length ≤ f
  | 0, l, q => by simp [sc]
  | f + 1, l, q => by
    unfold sc
    cases h : sd l (q : Int) with
    | none => simp
    | some s =>
      obtain ⟨h1, h2, h3⟩ := sc_len f (l.drop (np s.size)) (q + 1)
      have hf := (sd_std h).fit
      have hp := (sd_std h).pos
      rw [List.length_drop] at h2
      simp only [List.length_cons]
      omega
theorem rcs_len : ∀ (f : Nat) (l : List ByteArray) (q a : Nat), (rcs f l q a).length ≤ f := fun f l q a => by
  have := (sc_len f l q).2.2
  rw [← (rcs_sc f l q a).1, List.length_map] at this
  exact this
/- The blocks of records. -/
def recs : Nat → List ByteArray → List ByteArray
  | _, [] => []
  | q, p :: ps => blks (q : Int) p ++ recs (q + 1) ps
theorem recs_snoc : ∀ (ps : List ByteArray) (q : Nat) (p : ByteArray), recs q (ps ++ [p]) = recs q ps ++ blks ((q + ps.length : Nat) : Int) p
  | [], q, p => by simp [recs]
  | x :: ps, q, p => by
    rw [List.cons_append, recs, recs_snoc ps (q + 1) p, recs, List.append_assoc, List.length_cons, show q + 1 + ps.length = q + (ps.length + 1) by omega]
def Noh (R : List ByteArray) (q : Nat) : Prop := ∀ s, ¬ Std R (q : Int) s
theorem sc_recs : ∀ (ps : List ByteArray) (f q : Nat) (R : List ByteArray), ps.length ≤ f → 1 ≤ q → q + ps.length ≤ 65536 → (∀ p ∈ ps, p.size ≤ 5865) → Noh R (q + ps.length) → sc f (recs q ps ++ R) q = (ps, (recs q ps).length)
  | [], f, q, R, hf, h1, h2, hs, hn => by
    rw [recs, List.nil_append]
    exact sc_none (sd_no hn)
  | p :: ps, f, q, R, hf, h1, h2, hs, hn => by
    obtain ⟨f, rfl⟩ : ∃ g, f = g + 1 := ⟨f - 1, by simp at hf; omega⟩
    have hp := hs p (by simp)
    simp only [List.length_cons] at hf h2 hn
    have hstd : Std (recs q (p :: ps) ++ R) (q : Int) p := by
      refine ⟨?_, hp, ?_⟩
      · unfold gs; rw [Bool.and_eq_true]; exact ⟨decide_eq_true (by omega), decide_eq_true (by omega)⟩
      · rw [recs, List.append_assoc, List.take_left' (by simp)]
    have hd : (recs q (p :: ps) ++ R).drop (np p.size) = recs (q + 1) ps ++ R := by
      rw [recs, List.append_assoc, List.drop_left' (by simp)]
    have ih := sc_recs ps f (q + 1) R (by omega) (by omega) (by omega) (fun x hx => hs x (by simp [hx])) (by rw [show q + 1 + ps.length = q + (ps.length + 1) by omega]; exact hn)
    rw [sc_some hstd.sd, hd, ih, recs]
    simp
theorem noh_nil (q : Nat) : Noh [] q := fun s h => by have := h.fit; have := h.pos; simp at *; omega
theorem noh_empty (R : List ByteArray) (q : Nat) : Noh (⟨#[]⟩ :: R) q := fun s h => by
  have h1 := h.fro.each 0 (by have := h.fro.one; omega)
  have := h1.size
  simp [ByteArray.size] at this
theorem noh_part (t : ByteArray) (q k : Nat) (hq : gs (q : Int) = true) (ht : t.size ≤ 5865) (hk : k < np t.size) : Noh ((blks (q : Int) t).take k) q := fun s h => by
  have hfit := h.fit
  rw [List.length_take, blks_length] at hfit
  have hpos := h.pos
  have h0 := h.at' 0 h.pos
  have hk0 : 0 < k := by omega
  have e1 : ((blks (q : Int) t).take k).getD 0 ⟨#[]⟩ = bl (q : Int) ((0 : Nat) : Int) (np t.size : Int) (dt t 0) := by
    rw [← blks_get (q : Int) t 0 (by omega)]
    simp [List.getD_eq_getElem?_getD, List.getElem?_take, hk0]
  rw [e1] at h0
  have b1 := (bts_bl (q : Int) ((0 : Nat) : Int) (np t.size : Int) (dt t 0) (piece_right _ t hq ht 0 (by omega))).2
  have b2 := (bts_bl (q : Int) ((0 : Nat) : Int) (np s.size : Int) (dt s 0) (piece_right _ s h.num h.len 0 h.pos)).2
  rw [h0, b2] at b1
  omega
theorem blks_size {q : Int} {t : ByteArray} (hq : gs q = true) (ht : t.size ≤ 5865) : ∀ x ∈ blks q t, x.size = 32 := fun x hx => by
  simp only [blks, List.mem_map] at hx
  obtain ⟨y, hy, rfl⟩ := hx
  obtain ⟨i, hi, rfl⟩ := pcs_mem hy
  exact (ub_bl _ _ _ _ (piece_right q t hq ht i hi)).size
theorem recs_size : ∀ (ps : List ByteArray) (q : Nat), 1 ≤ q → q + ps.length ≤ 65536 → (∀ p ∈ ps, p.size ≤ 5865) → ∀ x ∈ recs q ps, x.size = 32
  | [], q, _, _, _, x, hx => by simp [recs] at hx
  | p :: ps, q, h1, h2, h3, x, hx => by
    simp only [List.length_cons] at h2
    rw [recs] at hx
    rcases List.mem_append.1 hx with hx | hx
    · exact blks_size (by unfold gs; rw [Bool.and_eq_true]; exact ⟨decide_eq_true (by omega), decide_eq_true (by omega)⟩) (h3 p (by simp)) x hx
    · exact recs_size ps (q + 1) (by omega) (by omega) (fun y hy => h3 y (by simp [hy])) x hx
theorem recs_len : ∀ (ps : List ByteArray) (q : Nat), (∀ p ∈ ps, p.size ≤ 5865) → ps.length ≤ (recs q ps).length
  | [], q, _ => by simp [recs]
  | p :: ps, q, h => by
    have := recs_len ps (q + 1) (fun y hy => h y (by simp [hy]))
    have := (np_spec p.size (h p (by simp))).2.1
    rw [recs, List.length_append, blks_length, List.length_cons]
    omega
end Go.Proofs.Ytohgflimdoebiaa
