/- Inner nodes' keys, and an epoch's turn, on plain data. -/
import Derived.Test.YtpkfpckljpffgaaKeyMath
import Derived.WalkKit
namespace Go.Proofs.Ytpkfpckljpffgaa.Rt
set_option linter.unusedVariables false
set_option linter.unusedSimpArgs false

/- A key. -/
structure Ky where
  bas : Int
  stp : Int
theorem Ky.ext' {a b : Ky} (h1 : a.bas = b.bas) (h2 : a.stp = b.stp) : a = b := by cases a; cases b; simp_all
def zK : Ky := ⟨0, 0⟩
def Ky.fld (e : Ky) (k : Nat) : Int := if k = 0 then e.bas else e.stp
/- The 21 keys as cells. -/
def kcs (f : Nat → Ky) : Array Value := Array.ofFn (n := 42) fun i => .int .i64 ((f (i.1 / 2)).fld (i.1 % 2))
@[simp] theorem kcs_size (f : Nat → Ky) : (kcs f).size = 42 := by simp [kcs]
theorem kcs_at (f : Nat → Ky) (j : Nat) (h : j < 42) : (kcs f)[j]? = some (.int .i64 ((f (j / 2)).fld (j % 2))) := by
  rw [Array.getElem?_eq_getElem (by simpa using h)]
  simp [kcs]
theorem kcs_get (f : Nat → Ky) (i : Nat) (h : i < 21) : (kcs f)[i * 2]? = some (.int .i64 (f i).bas) ∧ (kcs f)[i * 2 + 1]? = some (.int .i64 (f i).stp) := by
  refine ⟨?_, ?_⟩
  · rw [kcs_at f _ (by omega), show i * 2 / 2 = i by omega, show i * 2 % 2 = 0 by omega]; rfl
  · rw [kcs_at f _ (by omega), show (i * 2 + 1) / 2 = i by omega, show (i * 2 + 1) % 2 = 1 by omega]; rfl
theorem kcs_congr {f g : Nat → Ky} (h : ∀ i, i < 21 → f i = g i) : kcs f = kcs g := by
  unfold kcs
  congr 1
  funext i
  rw [h (i.1 / 2) (by have := i.2; omega)]
theorem kcs_one (f : Nat → Ky) : (kcs f).all (·.oneCell') = true := by
  rw [Array.all_eq_true]
  intro i h
  simp [kcs, Value.oneCell']
def kup (f : Nat → Ky) (k : Nat) (e : Ky) : Nat → Ky := fun i => if i = k then e else f i
theorem kup_same (f : Nat → Ky) (k : Nat) (e : Ky) : kup f k e k = e := if_pos rfl
theorem kup_ne (f : Nat → Ky) {k i : Nat} (e : Ky) (h : i ≠ k) : kup f k e i = f i := if_neg h
theorem kcs_set (f : Nat → Ky) (k : Nat) (e : Ky) (hk : k < 21) :
    ((kcs f).setIfInBounds (k * 2) (.int .i64 e.bas)).setIfInBounds (k * 2 + 1) (.int .i64 e.stp) = kcs (kup f k e) := by
  apply Array.ext
  · simp
  · intro i h1 h2
    simp at h1
    rw [Array.getElem_setIfInBounds (by simpa using h1), Array.getElem_setIfInBounds (by simpa using h1)]
    simp only [kcs, Array.getElem_ofFn]
    by_cases h : i / 2 = k
    · rw [h, kup_same]
      by_cases c1 : k * 2 + 1 = i
      · rw [if_pos c1, show i % 2 = 1 by omega]; rfl
      · rw [if_neg c1, if_pos (by omega), show i % 2 = 0 by omega]; rfl
    · rw [if_neg (by omega), if_neg (by omega), kup_ne _ _ h]
/- Names, right keys. -/
def nm1 (k : Ky) (a b : Int) : Bool := decide (a ≤ k.bas) && decide (k.bas < b)
def nmd (f : Nat → Ky) (n : Nat) (a b : Int) : Bool := (List.range n).any fun i => nm1 (f i) a b
theorem nmd_yes {f : Nat → Ky} {n i : Nat} {a b : Int} (hi : i < n) (h : nm1 (f i) a b = true) : nmd f n a b = true := by
  unfold nmd
  rw [List.any_eq_true]
  exact ⟨i, List.mem_range.2 hi, h⟩
theorem nmd_no {f : Nat → Ky} {n : Nat} {a b : Int} (h : ∀ i, i < n → nm1 (f i) a b = false) : nmd f n a b = false := by
  rw [Bool.eq_false_iff]
  intro hc
  unfold nmd at hc
  rw [List.any_eq_true] at hc
  obtain ⟨i, hi, h2⟩ := hc
  rw [h i (List.mem_range.1 hi)] at h2
  cases h2
theorem nmd_at {f : Nat → Ky} {n : Nat} {a b : Int} (h : nmd f n a b = false) {i : Nat} (hi : i < n) : nm1 (f i) a b = false := by
  rw [Bool.eq_false_iff]
  intro hc
  rw [nmd_yes hi hc] at h
  cases h
theorem nm1_same (k : Ky) (b : Int) : nm1 k b (b + 1) = decide (k.bas = b) := by
  unfold nm1
  rw [Bool.eq_iff_iff]
  simp
  omega
def kok (f : Nat → Ky) (i : Nat) : Bool := gd (f i).bas (f i).stp && (decide ((f i).bas < 32768) && !nmd f i (f i).bas ((f i).bas + 1))
def kchk (f : Nat → Ky) : Bool := (List.range 21).all (kok f)
def kchkE (f : Nat → Ky) : Int := if kchk f then 0 else 31
theorem kchk_good {f : Nat → Ky} (h : ∀ j, j < 21 → kok f j = true) : kchk f = true := by
  unfold kchk
  rw [List.all_eq_true]
  intro x hx
  exact h x (List.mem_range.1 hx)
theorem kchk_at {f : Nat → Ky} (h : kchk f = true) {k : Nat} (hk : k < 21) : kok f k = true := by
  unfold kchk at h
  rw [List.all_eq_true] at h
  exact h k (List.mem_range.2 hk)
theorem kchk_bad {f : Nat → Ky} {k : Nat} (hk : k < 21) (h : kok f k = false) : kchk f = false := by
  rw [Bool.eq_false_iff]
  intro hc
  rw [kchk_at hc hk] at h
  cases h
theorem kchkE_tt {f : Nat → Ky} (h : kchk f = true) : kchkE f = 0 := by unfold kchkE; rw [h]; rfl
theorem kchkE_ff {f : Nat → Ky} (h : kchk f = false) : kchkE f = 31 := by unfold kchkE; rw [h]; rfl
theorem gd_iff {b s : Int} : gd b s = true ↔ Gd b s := by
  constructor
  · intro h
    simp [gd] at h
    exact h
  · exact gd_yes
theorem kchk_iff {f : Nat → Ky} : kchk f = true ↔ (∀ i, i < 21 → Gd (f i).bas (f i).stp ∧ (f i).bas < 32768) ∧ ∀ i j, i < j → j < 21 → (f i).bas ≠ (f j).bas := by
  constructor
  · intro h
    refine ⟨fun i hi => ?_, fun i j hij hj hb => ?_⟩
    · have := kchk_at h hi
      unfold kok at this
      rw [Bool.and_eq_true, Bool.and_eq_true] at this
      exact ⟨gd_iff.1 this.1, by simpa using this.2.1⟩
    · have := kchk_at h hj
      unfold kok at this
      rw [Bool.and_eq_true, Bool.and_eq_true] at this
      have h2 := this.2.2
      rw [nmd_yes hij (by rw [nm1_same, hb]; simp)] at h2
      cases h2
  · rintro ⟨h1, h2⟩
    refine kchk_good fun j hj => ?_
    unfold kok
    rw [gd_yes (h1 j hj).1, decide_eq_true (h1 j hj).2, nmd_no fun i hi => ?_]
    · rfl
    · rw [nm1_same]
      exact decide_eq_false (h2 i j hi hj)
theorem kchk_ne {f : Nat → Ky} (h : kchk f = true) {i j : Nat} (hi : i < 21) (hj : j < 21) (hij : i ≠ j) : (f i).bas ≠ (f j).bas := by
  obtain ⟨_, h2⟩ := kchk_iff.1 h
  rcases Nat.lt_or_gt_of_ne hij with c | c
  · exact h2 i j c hj
  · exact fun e => h2 j i c hi e.symm
/- How many bits, from below and from above. -/
def b1 (r v : Nat) : Nat := if r.testBit v then 1 else 0
def cu (r : Nat) : Nat → Nat
  | 0 => 0
  | k + 1 => cu r k + b1 r k
def cd (r : Nat) : Nat → Nat
  | 0 => 0
  | j + 1 => cd r j + b1 r (20 - j)
theorem b1_le (r v : Nat) : b1 r v ≤ 1 := by unfold b1; split <;> omega
theorem cd_cu (r : Nat) : ∀ j, j ≤ 21 → cd r j + cu r (21 - j) = cu r 21
  | 0, _ => by simp [cd]
  | j + 1, h => by
    have ih := cd_cu r j (by omega)
    have e : 21 - j = (20 - j) + 1 := by omega
    rw [e] at ih
    have e2 : 21 - (j + 1) = 20 - j := by omega
    rw [e2]
    simp only [cd, cu] at ih ⊢
    omega
theorem cd_all (r : Nat) : cd r 21 = cu r 21 := by have := cd_cu r 21 (by omega); simpa [cu] using this
theorem cd_mono (r : Nat) : ∀ {j k : Nat}, j ≤ k → cd r j ≤ cd r k
  | j, 0, h => by rw [Nat.le_zero.1 h]; exact Nat.le_refl _
  | j, k + 1, h => by
    rcases Nat.lt_or_ge j (k + 1) with c | c
    · have := cd_mono r (j := j) (k := k) (by omega)
      simp only [cd]
      omega
    · rw [show j = k + 1 by omega]; exact Nat.le_refl _
theorem cu_le (r : Nat) : ∀ k, cu r k ≤ k
  | 0 => by simp [cu]
  | k + 1 => by have := cu_le r k; have := b1_le r k; simp only [cu]; omega
theorem cd_le (r : Nat) : ∀ k, cd r k ≤ k
  | 0 => by simp [cd]
  | k + 1 => by have := cd_le r k; have := b1_le r (20 - k); simp only [cd]; omega
theorem cd_lt {r v : Nat} (hv : v < 21) (h : r.testBit v = true) : cd r (20 - v) < cu r 21 := by
  have h1 := cd_mono r (j := 20 - v + 1) (k := 21) (by omega)
  rw [cd_all] at h1
  simp only [cd] at h1
  have e : b1 r (20 - (20 - v)) = 1 := by rw [show 20 - (20 - v) = v by omega]; unfold b1; rw [h]; rfl
  omega
theorem cu_none {r : Nat} : ∀ {k : Nat}, (∀ i, i < k → r.testBit i = false) → cu r k = 0
  | 0, _ => rfl
  | k + 1, h => by
    simp only [cu]
    rw [cu_none fun i hi => h i (by omega)]
    unfold b1
    rw [h k (by omega)]
    rfl
theorem cu_pos {r k v : Nat} (hv : v < k) (h : r.testBit v = true) : 0 < cu r k := by
  induction k with
  | zero => omega
  | succ k ih =>
    simp only [cu]
    rcases Nat.lt_or_ge v k with c | c
    · have := ih c; omega
    · have : v = k := by omega
      subst this
      unfold b1
      rw [h]
      simp
/- The turn. -/
def frk (f : Nat → Ky) (r : Nat) (n : Int) : Bool := decide (cu r 21 = 0) || (decide (1 ≤ n) && (decide (n ≤ 32768 - (cu r 21 : Int)) && !nmd f 21 n (n + (cu r 21 : Int))))
def skk (f : Nat → Ky) (r v : Nat) : Bool := !r.testBit v && decide (254 < (f v).stp)
def stuck (f : Nat → Ky) (r : Nat) : Bool := (List.range 21).any (skk f r)
def trE (f : Nat → Ky) (r : Nat) (n : Int) : Int := if kchk f then (if r < 2097152 then (if frk f r n then (if stuck f r then 4 else 0) else 3) else 2) else 31
def trK (f : Nat → Ky) (r : Nat) (n : Int) (v : Nat) : Ky := if r.testBit v then ⟨n + (cd r (20 - v) : Int), 0⟩ else ⟨(f v).bas, (f v).stp + 1⟩
def trA (f : Nat → Ky) (r : Nat) (n : Int) : Nat → Ky := if trE f r n = 0 then trK f r n else fun _ => zK
def trN (f : Nat → Ky) (r : Nat) (n : Int) : Int := if trE f r n = 0 then n + (cu r 21 : Int) else 0
/- The keys while the turn goes down: j nodes are done. -/
def trS (g f : Nat → Ky) (r : Nat) (n : Int) (j : Nat) : Nat → Ky := fun v => if 21 ≤ v + j then trK f r n v else g v
theorem trS_zero (g f : Nat → Ky) (r : Nat) (n : Int) : kcs (trS g f r n 0) = kcs g := kcs_congr fun i hi => if_neg (by omega)
theorem trS_all (g f : Nat → Ky) (r : Nat) (n : Int) : kcs (trS g f r n 21) = kcs (trK f r n) := kcs_congr fun i hi => if_pos (by omega)
theorem trS_step (g f : Nat → Ky) (r : Nat) (n : Int) {j : Nat} (hj : j < 21) : trS g f r n (j + 1) = kup (trS g f r n j) (20 - j) (trK f r n (20 - j)) := by
  funext v
  show (if 21 ≤ v + (j + 1) then trK f r n v else g v) = if v = 20 - j then trK f r n (20 - j) else (if 21 ≤ v + j then trK f r n v else g v)
  by_cases h : v = 20 - j
  · subst h
    rw [if_pos (by omega), if_pos rfl]
  · rw [if_neg h]
    by_cases c : 21 ≤ v + j
    · rw [if_pos (by omega), if_pos c]
    · rw [if_neg (by omega), if_neg c]
theorem trS_at (g f : Nat → Ky) (r : Nat) (n : Int) {j : Nat} (hj : j < 21) : trS g f r n j (20 - j) = g (20 - j) := if_neg (by omega)
theorem stuck_no {f : Nat → Ky} {r : Nat} (h : ∀ v, v < 21 → skk f r v = false) : stuck f r = false := by
  rw [Bool.eq_false_iff]
  intro hc
  unfold stuck at hc
  rw [List.any_eq_true] at hc
  obtain ⟨i, hi, h2⟩ := hc
  rw [h i (List.mem_range.1 hi)] at h2
  cases h2
theorem stuck_yes {f : Nat → Ky} {r v : Nat} (hv : v < 21) (h : skk f r v = true) : stuck f r = true := by
  unfold stuck
  rw [List.any_eq_true]
  exact ⟨v, List.mem_range.2 hv, h⟩
theorem stuck_at {f : Nat → Ky} {r : Nat} (h : stuck f r = false) {v : Nat} (hv : v < 21) (hb : r.testBit v = false) : (f v).stp ≤ 254 := by
  have : skk f r v = false := by
    rw [Bool.eq_false_iff]
    intro hc
    rw [stuck_yes hv hc] at h
    cases h
  unfold skk at this
  rw [hb] at this
  simp at this
  omega
theorem trE_wrong {f : Nat → Ky} {r : Nat} {n : Int} (h : kchk f = false) : trE f r n = 31 := by unfold trE; rw [h]; rfl
theorem trE_node {f : Nat → Ky} {r : Nat} {n : Int} (h : kchk f = true) (h2 : ¬ r < 2097152) : trE f r n = 2 := by unfold trE; rw [h, if_pos rfl, if_neg h2]
theorem trE_key {f : Nat → Ky} {r : Nat} {n : Int} (h : kchk f = true) (h2 : r < 2097152) (h3 : frk f r n = false) : trE f r n = 3 := by unfold trE; rw [h, if_pos rfl, if_pos h2, h3]; rfl
theorem trE_step {f : Nat → Ky} {r : Nat} {n : Int} (h : kchk f = true) (h2 : r < 2097152) (h3 : frk f r n = true) (h4 : stuck f r = true) : trE f r n = 4 := by unfold trE; rw [h, if_pos rfl, if_pos h2, h3, h4]; rfl
theorem trE_ok {f : Nat → Ky} {r : Nat} {n : Int} (h : kchk f = true) (h2 : r < 2097152) (h3 : frk f r n = true) (h4 : stuck f r = false) : trE f r n = 0 := by unfold trE; rw [h, if_pos rfl, if_pos h2, h3, h4]; rfl
theorem trE_cases (f : Nat → Ky) (r : Nat) (n : Int) : trE f r n = 0 ∧ kchk f = true ∧ r < 2097152 ∧ frk f r n = true ∧ stuck f r = false ∨ trE f r n = 31 ∧ kchk f = false ∨ trE f r n = 2 ∨ trE f r n = 3 ∨ trE f r n = 4 ∧ kchk f = true := by
  cases h : kchk f with
  | false => exact Or.inr (Or.inl ⟨trE_wrong h, rfl⟩)
  | true =>
    by_cases h2 : r < 2097152
    · cases h3 : frk f r n with
      | false => exact Or.inr (Or.inr (Or.inr (Or.inl (trE_key h h2 h3))))
      | true =>
        cases h4 : stuck f r with
        | true => exact Or.inr (Or.inr (Or.inr (Or.inr ⟨trE_step h h2 h3 h4, rfl⟩)))
        | false => exact Or.inl ⟨trE_ok h h2 h3 h4, rfl, h2, rfl, rfl⟩
    · exact Or.inr (Or.inr (Or.inl (trE_node h h2)))
theorem trE_good {f : Nat → Ky} {r : Nat} {n : Int} (h : trE f r n = 0) : kchk f = true ∧ r < 2097152 ∧ frk f r n = true ∧ stuck f r = false := by
  rcases trE_cases f r n with ⟨_, h⟩ | ⟨h2, _⟩ | h2 | h2 | ⟨h2, _⟩
  · exact h
  all_goals (rw [h] at h2; cases h2)
/- What a turn's keys are. -/
theorem frk_at {f : Nat → Ky} {r v : Nat} {n : Int} (h : frk f r n = true) (hv : v < 21) (hb : r.testBit v = true) : 1 ≤ n ∧ n + (cu r 21 : Int) ≤ 32768 ∧ ∀ i, i < 21 → ¬ (n ≤ (f i).bas ∧ (f i).bas < n + (cu r 21 : Int)) := by
  have hp := cu_pos hv hb
  unfold frk at h
  rw [decide_eq_false (by omega), Bool.false_or, Bool.and_eq_true, Bool.and_eq_true] at h
  obtain ⟨h1, h2, h3⟩ := h
  have h3' : nmd f 21 n (n + (cu r 21 : Int)) = false := by simpa using h3
  refine ⟨by simpa using h1, by have := of_decide_eq_true h2; omega, fun i hi hc => ?_⟩
  have := nmd_at h3' hi
  unfold nm1 at this
  rw [decide_eq_true hc.1, decide_eq_true hc.2] at this
  cases this
theorem trK_new {f : Nat → Ky} {r v : Nat} {n : Int} (hb : r.testBit v = true) : trK f r n v = ⟨n + (cd r (20 - v) : Int), 0⟩ := by unfold trK; rw [hb]; rfl
theorem trK_old {f : Nat → Ky} {r v : Nat} {n : Int} (hb : r.testBit v = false) : trK f r n v = ⟨(f v).bas, (f v).stp + 1⟩ := by unfold trK; rw [hb]; rfl
/- No new key of a replaced node has an old one's name. -/
theorem trK_fresh {f : Nat → Ky} {r : Nat} {n : Int} (h : trE f r n = 0) {v w : Nat} (hv : v < 21) (hw : w < 21) (hb : r.testBit v = true) : (trK f r n v).bas ≠ (f w).bas := by
  obtain ⟨_, _, h3, _⟩ := trE_good h
  obtain ⟨_, _, h5⟩ := frk_at h3 hv hb
  rw [trK_new hb]
  intro e
  have := cd_lt hv hb
  dsimp only at e
  exact h5 w hw ⟨by omega, by omega⟩
theorem trK_gd {f : Nat → Ky} {r : Nat} {n : Int} (h : trE f r n = 0) {v : Nat} (hv : v < 21) : Gd (trK f r n v).bas (trK f r n v).stp ∧ (trK f r n v).bas < 32768 := by
  obtain ⟨h1, h2, h3, h4⟩ := trE_good h
  obtain ⟨hg, hl⟩ := (kchk_iff.1 h1).1 v hv
  cases hb : r.testBit v with
  | true =>
    obtain ⟨g1, g2, _⟩ := frk_at h3 hv hb
    rw [trK_new hb]
    have := cd_lt hv hb
    exact ⟨⟨by dsimp only; omega, by dsimp only; omega, by dsimp only; omega, by dsimp only; omega⟩, by dsimp only; omega⟩
  | false =>
    rw [trK_old hb]
    have := stuck_at h4 hv hb
    obtain ⟨g1, g2, g3, g4⟩ := hg
    exact ⟨⟨g1, g2, by dsimp only; omega, by dsimp only; omega⟩, hl⟩
theorem trK_ne {f : Nat → Ky} {r : Nat} {n : Int} (h : trE f r n = 0) {v w : Nat} (hvw : v < w) (hw : w < 21) : (trK f r n v).bas ≠ (trK f r n w).bas := by
  obtain ⟨h1, h2, h3, h4⟩ := trE_good h
  cases hb : r.testBit v with
  | true =>
    cases hc : r.testBit w with
    | true =>
      rw [trK_new hb, trK_new hc]
      have h5 := cd_mono r (j := 20 - w + 1) (k := 20 - v) (by omega)
      simp only [cd] at h5
      have e : b1 r (20 - (20 - w)) = 1 := by rw [show 20 - (20 - w) = w by omega]; unfold b1; rw [hc]; rfl
      dsimp only
      omega
    | false =>
      have := trK_fresh h (v := v) (w := w) (by omega) hw hb
      rw [trK_old hc]
      exact this
  | false =>
    cases hc : r.testBit w with
    | true =>
      have := trK_fresh h (v := w) (w := v) hw (by omega) hc
      rw [trK_old hb]
      exact fun e => this e.symm
    | false =>
      rw [trK_old hb, trK_old hc]
      exact (kchk_iff.1 h1).2 v w hvw hw
theorem trK_right {f : Nat → Ky} {r : Nat} {n : Int} (h : trE f r n = 0) : kchk (trK f r n) = true :=
  kchk_iff.2 ⟨fun i hi => trK_gd h hi, fun i j hij hj => trK_ne h hij hj⟩
theorem trA_right {f : Nat → Ky} {r : Nat} {n : Int} (h : trE f r n = 0) : kchk (trA f r n) = true := by unfold trA; rw [if_pos h]; exact trK_right h
end Go.Proofs.Ytpkfpckljpffgaa.Rt
