/- RsMath, RsMath2, RsMath3, RsMath4, RsMath5, RsMath6, RsMath7, joined. -/
import Derived.Test.YtpimbpfefhkojabGreatDoorStJ1
import Derived.WalkKit
namespace Go.Proofs.YtpimbpfefhkojabGreatDoor.Rs
set_option linter.unusedVariables false
set_option linter.unusedSimpArgs false

/- An entry. -/
structure En where
  who : Int
  bas : Int
  snc : Int
theorem En.ext' {a b : En} (h1 : a.who = b.who) (h2 : a.bas = b.bas) (h3 : a.snc = b.snc) : a = b := by cases a; cases b; simp_all
def zE : En := ⟨0, 0, 0⟩
def En.fld (e : En) (k : Nat) : Int := if k = 0 then e.who else if k = 1 then e.bas else e.snc
def En.cs (e : En) : Array Value := #[.int .i64 e.who, .int .i64 e.bas, .int .i64 e.snc]
/- The 64 entries as cells. -/
def rcs (f : Nat → En) : Array Value := Array.ofFn (n := 192) fun i => .int .i64 ((f (i.1 / 3)).fld (i.1 % 3))
@[simp] theorem rcs_size (f : Nat → En) : (rcs f).size = 192 := by simp [rcs]
theorem rcs_at (f : Nat → En) (j : Nat) (h : j < 192) : (rcs f)[j]? = some (.int .i64 ((f (j / 3)).fld (j % 3))) := by
  rw [Array.getElem?_eq_getElem (by simpa using h)]
  simp [rcs]
theorem rcs_get (f : Nat → En) (i : Nat) (h : i < 64) : (rcs f)[i * 3]? = some (.int .i64 (f i).who) ∧ (rcs f)[i * 3 + 1]? = some (.int .i64 (f i).bas) ∧ (rcs f)[i * 3 + 2]? = some (.int .i64 (f i).snc) := by
  refine ⟨?_, ?_, ?_⟩
  · rw [rcs_at f _ (by omega), show i * 3 / 3 = i by omega, show i * 3 % 3 = 0 by omega]; rfl
  · rw [rcs_at f _ (by omega), show (i * 3 + 1) / 3 = i by omega, show (i * 3 + 1) % 3 = 1 by omega]; rfl
  · rw [rcs_at f _ (by omega), show (i * 3 + 2) / 3 = i by omega, show (i * 3 + 2) % 3 = 2 by omega]; rfl
theorem rcs_one (f : Nat → En) : (rcs f).all (·.oneCell') = true := by
  rw [Array.all_eq_true]
  intro i h
  simp [rcs, Value.oneCell']
def upd (f : Nat → En) (k : Nat) (e : En) : Nat → En := fun i => if i = k then e else f i
theorem upd_same (f : Nat → En) (k : Nat) (e : En) : upd f k e k = e := if_pos rfl
theorem upd_ne (f : Nat → En) {k i : Nat} (e : En) (h : i ≠ k) : upd f k e i = f i := if_neg h
theorem rcs_set (f : Nat → En) (k : Nat) (e : En) (hk : k < 64) :
    (((rcs f).setIfInBounds (k * 3) (.int .i64 e.who)).setIfInBounds (k * 3 + 1) (.int .i64 e.bas)).setIfInBounds (k * 3 + 2) (.int .i64 e.snc) = rcs (upd f k e) := by
  apply Array.ext
  · simp
  · intro i h1 h2
    simp at h1
    rw [Array.getElem_setIfInBounds (by simpa using h1), Array.getElem_setIfInBounds (by simpa using h1), Array.getElem_setIfInBounds (by simpa using h1)]
    simp only [rcs, Array.getElem_ofFn]
    by_cases h : i / 3 = k
    · rw [h, upd_same]
      by_cases c2 : k * 3 + 2 = i
      · rw [if_pos c2, show i % 3 = 2 by omega]; rfl
      · by_cases c1 : k * 3 + 1 = i
        · rw [if_neg c2, if_pos c1, show i % 3 = 1 by omega]; rfl
        · rw [if_neg c2, if_neg c1, if_pos (by omega), show i % 3 = 0 by omega]; rfl
    · rw [if_neg (by omega), if_neg (by omega), if_neg (by omega), upd_ne _ _ h]
/- Taken, right, clashing. -/
def tkn (e : En) : Bool := !decide (e.bas = 0)
def wok (n : Int) : Bool := decide (0 ≤ n) && decide (n < 256)
def eok (n : Int) : Bool := decide (1 ≤ n) && decide (n ≤ 200)
def rgt (e : En) : Bool := wok e.who && decide (1 ≤ e.bas) && decide (e.bas < 32768) && eok e.snc
def isz (e : En) : Bool := decide (e.who = 0) && decide (e.bas = 0) && decide (e.snc = 0)
def rgp (e : En) : Bool := if tkn e then rgt e else isz e
def alike (a b : En) : Bool := decide (a.who = b.who) || decide (a.bas = b.bas)
def clh (a b : En) : Bool := tkn a && tkn b && alike a b
/- The least slot at which a person is. -/
def at' (f : Nat → En) (x : Int) (i : Nat) : Bool := tkn (f i) && decide ((f i).who = x)
def fd (f : Nat → En) (x : Int) : Nat → Nat → Int
  | _, 0 => -1
  | k, n + 1 => if at' f x k then (k : Int) else fd f x (k + 1) n
def fnd (f : Nat → En) (x : Int) : Int := fd f x 0 64
theorem fd_step (f : Nat → En) (x : Int) {k : Nat} (h : k < 64) : fd f x k (64 - k) = if at' f x k then (k : Int) else fd f x (k + 1) (64 - (k + 1)) := by
  rw [show 64 - k = (64 - (k + 1)) + 1 by omega, fd]
/- Is the entry at a slot right, beside those ahead of it? -/
def okp (f : Nat → En) (i : Nat) : Bool := rgp (f i) && (List.range i).all fun m => !clh (f m) (f i)
def okr (f : Nat → En) (i : Nat) : Bool := isz (f i) || (rgt (f i) && (List.range i).all fun m => !(tkn (f m) && alike (f m) (f i)))
theorem okp_okr (f : Nat → En) (i : Nat) : okp f i = okr f i := by
  unfold okp okr rgp
  cases ht : tkn (f i) with
  | false =>
    have hb : (f i).bas = 0 := by simpa [tkn] using ht
    have h1 : ((List.range i).all fun m => !clh (f m) (f i)) = true := by simp [clh, ht]
    have h2 : rgt (f i) = false := by simp [rgt, hb]
    rw [h1, h2]
    simp
  | true =>
    have hb : ¬ (f i).bas = 0 := by simpa [tkn] using ht
    have h2 : isz (f i) = false := by simp [isz, hb]
    rw [h2]
    simp [clh, ht]
def chk (f : Nat → En) : Bool := (List.range 64).all (okp f)
def chkE (f : Nat → En) : Int := if chk f then 0 else 31
theorem chk_good {f : Nat → En} (h : ∀ j, j < 64 → okp f j = true) : chk f = true := by
  unfold chk
  rw [List.all_eq_true]
  intro x hx
  exact h x (List.mem_range.1 hx)
theorem chkE_good {f : Nat → En} (h : ∀ j, j < 64 → okp f j = true) : chkE f = 0 := by unfold chkE; rw [chk_good h]; rfl
theorem chkE_bad {f : Nat → En} {k : Nat} (hk : k < 64) (h : okp f k = false) : chkE f = 31 := by
  unfold chkE
  rw [if_neg]
  intro hc
  unfold chk at hc
  rw [List.all_eq_true] at hc
  have := hc k (List.mem_range.2 hk)
  rw [h] at this
  cases this
theorem chk_at {f : Nat → En} (h : chk f = true) {k : Nat} (hk : k < 64) : okp f k = true := by
  unfold chk at h
  rw [List.all_eq_true] at h
  exact h k (List.mem_range.2 hk)
theorem range_good {n : Nat} {p : Nat → Bool} (h : ∀ m, m < n → p m = false) : ((List.range n).all fun m => !p m) = true := by
  rw [List.all_eq_true]
  intro m hm
  simp [h m (List.mem_range.1 hm)]
theorem range_bad {n k : Nat} {p : Nat → Bool} (hk : k < n) (h : p k = true) : ((List.range n).all fun m => !p m) = false := by
  rw [Bool.eq_false_iff]
  intro hc
  rw [List.all_eq_true] at hc
  have := hc k (List.mem_range.2 hk)
  rw [h] at this
  cases this
/- The taken seats as a word. -/
def tkw (f : Nat → En) : Nat → Nat
  | 0 => 0
  | k + 1 => if tkn (f k) then put (tkw f k) k else tkw f k
theorem tkw_lt (f : Nat → En) : ∀ k, k ≤ 64 → tkw f k < 18446744073709551616
  | 0, _ => by simp [tkw]
  | k + 1, h => by
    unfold tkw
    split
    · exact put_lt (tkw_lt f k (by omega)) (by omega)
    · exact tkw_lt f k (by omega)
theorem tkw_bit (f : Nat → En) (i : Nat) : ∀ k, (tkw f k).testBit i = (decide (i < k) && tkn (f i))
  | 0 => by simp [tkw]
  | k + 1 => by
    unfold tkw
    by_cases h : i = k
    · subst h
      cases ht : tkn (f i) with
      | false => simp [tkw_bit f i i]
      | true => simp [put_bit]
    · have e : decide (i < k + 1) = decide (i < k) := by simp; omega
      rw [e]
      split
      · rw [put_bit, tkw_bit f i k, decide_eq_false (fun e => h e.symm), Bool.false_or]
      · exact tkw_bit f i k
def tk (f : Nat → En) : Nat := tkw f 64
theorem tk_lt (f : Nat → En) : tk f < 18446744073709551616 := tkw_lt f 64 (by omega)
theorem tk_bit (f : Nat → En) {i : Nat} (h : i < 64) : (tk f).testBit i = tkn (f i) := by unfold tk; rw [tkw_bit]; simp [h]
theorem wd_tk (f : Nat → En) : wd (fun i => tkn (f i)) 64 = tk f := wd_all _ (tk_lt f) fun i hi => tk_bit f hi

theorem fd_range (f : Nat → En) (x : Int) : ∀ (n k : Nat), fd f x k n = -1 ∨ ∃ j : Nat, fd f x k n = (j : Int) ∧ k ≤ j ∧ j < k + n ∧ at' f x j = true ∧ ∀ i, k ≤ i → i < j → at' f x i = false
  | 0, k => .inl rfl
  | n + 1, k => by
    unfold fd
    cases h : at' f x k with
    | true => exact .inr ⟨k, rfl, Nat.le_refl _, by omega, h, fun i h1 h2 => by omega⟩
    | false =>
      rcases fd_range f x n (k + 1) with e | ⟨j, e, h1, h2, h3, h4⟩
      · exact .inl (by simpa using e)
      · refine .inr ⟨j, by simpa using e, by omega, by omega, h3, fun i g1 g2 => ?_⟩
        rcases Nat.lt_or_ge k i with g | g
        · exact h4 i g g2
        · obtain rfl : i = k := by omega
          exact h
theorem fnd_range (f : Nat → En) (x : Int) : fnd f x = -1 ∨ ∃ j : Nat, fnd f x = (j : Int) ∧ j < 64 ∧ at' f x j = true ∧ ∀ i, i < j → at' f x i = false := by
  rcases fd_range f x 64 0 with e | ⟨j, e, h1, h2, h3, h4⟩
  · exact .inl e
  · exact .inr ⟨j, e, by omega, h3, fun i hi => h4 i (by omega) hi⟩
theorem fd_none {f : Nat → En} {x : Int} : ∀ (n k : Nat), fd f x k n = -1 ↔ ∀ i, k ≤ i → i < k + n → at' f x i = false
  | 0, k => ⟨fun _ i h1 h2 => by omega, fun _ => rfl⟩
  | n + 1, k => by
    unfold fd
    cases h : at' f x k with
    | true =>
      refine ⟨fun e => ?_, fun e => ?_⟩
      · simp at e
      · rw [e k (Nat.le_refl _) (by omega)] at h; cases h
    | false =>
      simp only [Bool.false_eq_true, if_false]
      rw [fd_none n (k + 1)]
      refine ⟨fun e i h1 h2 => ?_, fun e i h1 h2 => e i (by omega) (by omega)⟩
      rcases Nat.lt_or_ge k i with g | g
      · exact e i g (by omega)
      · obtain rfl : i = k := by omega
        exact h
theorem fnd_none {f : Nat → En} {x : Int} : fnd f x = -1 ↔ ∀ i, i < 64 → at' f x i = false := by
  unfold fnd
  rw [fd_none 64 0]
  exact ⟨fun h i hi => h i (by omega) (by omega), fun h i _ hi => h i (by omega)⟩
/- Is the person on? -/
def on (f : Nat → En) (x : Int) : Bool := decide (0 ≤ fnd f x)
theorem on_ne (f : Nat → En) (x : Int) : on f x = !decide (fnd f x = -1) := by
  unfold on
  rcases fnd_range f x with e | ⟨j, e, _⟩
  · rw [e]; rfl
  · rw [e]
    have h1 : (0 : Int) ≤ (j : Int) := by omega
    have h2 : ¬ ((j : Int) = -1) := by omega
    simp [h1, h2]
/- The error of a person of a batch, behind those that stand ahead of it. -/
def er (f : Nat → En) (lv : Bool) (pre : List Int) (x : Int) : Int :=
  if wok x then (if decide (x ∈ pre) then 15 else if lv then (if on f x then 0 else 16) else (if on f x then 17 else 0)) else 14
def fr' (f : Nat → En) (lv : Bool) : List Int → List Int → Int
  | _, [] => 0
  | pre, x :: r => if er f lv pre x = 0 then fr' f lv (pre ++ [x]) r else er f lv pre x
theorem fr_step (f : Nat → En) (lv : Bool) (p L : List Int) {k : Nat} (h : k < L.length) :
    fr' f lv (p ++ L.take k) (L.drop k) = if er f lv (p ++ L.take k) (L.getD k 0) = 0 then fr' f lv (p ++ L.take (k + 1)) (L.drop (k + 1)) else er f lv (p ++ L.take k) (L.getD k 0) := by
  have e1 : L.getD k 0 = L[k] := by simp [List.getD, h]
  rw [List.drop_eq_getElem_cons h, fr', e1, List.take_succ_eq_append_getElem h, List.append_assoc]
theorem fr_end (f : Nat → En) (lv : Bool) (p L : List Int) : fr' f lv (p ++ L.take L.length) (L.drop L.length) = 0 := by simp [fr']
/- Does the batch fit? -/
def cnt (f : Nat → En) : Nat := (bl (tk f)).length
theorem cnt_le (f : Nat → En) : cnt f ≤ 64 := bl_len _
theorem cnt_nt (f : Nat → En) : (bl (nt (tk f))).length = 64 - cnt f := by have := bl_both (tk_lt f); unfold cnt; omega
def ft (f : Nat → En) (L J : List Int) : Int :=
  if chk f then
    if fr' f true [] L = 0 then
      if fr' f false L J = 0 then
        if J.length > 64 - cnt f + L.length then 18 else 0
      else fr' f false L J
    else fr' f true [] L
  else 31
theorem ft_tree {f : Nat → En} (L J : List Int) (h : chk f = false) : ft f L J = 31 := by unfold ft; rw [h]; rfl
theorem ft_left {f : Nat → En} {L : List Int} (J : List Int) (h : chk f = true) (h1 : fr' f true [] L ≠ 0) : ft f L J = fr' f true [] L := by unfold ft; rw [h, if_pos rfl, if_neg h1]
theorem ft_join {f : Nat → En} {L J : List Int} (h : chk f = true) (h1 : fr' f true [] L = 0) (h2 : fr' f false L J ≠ 0) : ft f L J = fr' f false L J := by unfold ft; rw [h, if_pos rfl, if_pos h1, if_neg h2]
theorem ft_full {f : Nat → En} {L J : List Int} (h : chk f = true) (h1 : fr' f true [] L = 0) (h2 : fr' f false L J = 0) : ft f L J = if J.length > 64 - cnt f + L.length then 18 else 0 := by unfold ft; rw [h, if_pos rfl, if_pos h1, if_pos h2]
theorem chkE_tt {f : Nat → En} (h : chk f = true) : chkE f = 0 := by unfold chkE; rw [h]; rfl
theorem chkE_ff {f : Nat → En} (h : chk f = false) : chkE f = 31 := by unfold chkE; rw [h]; rfl
/- The marks of those who have been seen. -/
def sns (l : List Int) : Array Value := Array.ofFn (n := 256) fun i => .bool (decide ((i.1 : Int) ∈ l))
@[simp] theorem sns_size (l : List Int) : (sns l).size = 256 := by simp [sns]
theorem sns_get (l : List Int) (i : Nat) (h : i < 256) : (sns l)[i]? = some (.bool (decide ((i : Int) ∈ l))) := by
  rw [Array.getElem?_eq_getElem (by simpa using h)]
  simp [sns]
theorem sns_set (l : List Int) (k : Nat) (hk : k < 256) : (sns l).setIfInBounds k (.bool true) = sns (l ++ [(k : Int)]) := by
  apply Array.ext
  · simp
  · intro i h1 h2
    simp at h1
    rw [Array.getElem_setIfInBounds (by simpa using h1)]
    simp only [sns, Array.getElem_ofFn]
    by_cases h : k = i
    · subst h; simp
    · rw [if_neg h]
      congr 2
      simp only [List.mem_append, List.mem_singleton, eq_iff_iff]
      constructor
      · exact fun h => .inl h
      · rintro (h1 | h1)
        · exact h1
        · exact absurd h1 (by omega)
theorem wok_nat {x : Int} (h : wok x = true) : ∃ k : Nat, x = (k : Int) ∧ k < 256 := by
  simp only [wok, Bool.and_eq_true, decide_eq_true_eq] at h
  exact ⟨x.toNat, by omega, by omega⟩

/- Seats (a person, a slot) as cells. -/
def ps (l : List (Int × Int)) : List Value := l.flatMap fun p => [.int .i64 p.1, .int .i64 p.2]
theorem ps_snoc (l : List (Int × Int)) (p : Int × Int) : ps (l ++ [p]) = ps l ++ [.int .i64 p.1, .int .i64 p.2] := by simp [ps]
@[simp] theorem ps_length (l : List (Int × Int)) : (ps l).length = l.length * 2 := by
  induction l with
  | nil => rfl
  | cons a l ih =>
    have : ps (a :: l) = .int .i64 a.1 :: .int .i64 a.2 :: ps l := rfl
    rw [this]
    simp [ih]
    omega
/- One is put out. -/
def ev1 (g : Nat → En) (x : Int) : Nat → En := if on g x then upd g (fnd g x).toNat zE else g
def evs (f : Nat → En) (L : List Int) : Nat → En := L.foldl ev1 f
theorem evs_snoc (f : Nat → En) (L : List Int) (x : Int) : evs f (L ++ [x]) = ev1 (evs f L) x := by simp [evs]
theorem ev1_on {g : Nat → En} {x : Int} {j : Nat} (h : fnd g x = (j : Int)) : ev1 g x = upd g j zE := by
  have : on g x = true := by unfold on; rw [h]; simp
  unfold ev1
  rw [this, if_pos rfl, h, Int.toNat_natCast]
def evl : (Nat → En) → List Int → List (Int × Int)
  | _, [] => []
  | f, x :: r => (x, fnd f x) :: evl (ev1 f x) r
theorem evl_snoc : ∀ (f : Nat → En) (L : List Int) (x : Int), evl f (L ++ [x]) = evl f L ++ [(x, fnd (evs f L) x)]
  | f, [], x => rfl
  | f, y :: r, x => by
    rw [List.cons_append, evl, evl_snoc (ev1 f y) r x, evl]
    rfl
@[simp] theorem evl_length : ∀ (f : Nat → En) (L : List Int), (evl f L).length = L.length
  | f, [] => rfl
  | f, y :: r => by rw [evl, List.length_cons, evl_length, List.length_cons]
theorem fnd_on {f : Nat → En} {x : Int} (h : on f x = true) : ∃ j : Nat, fnd f x = (j : Int) ∧ j < 64 := by
  rcases fnd_range f x with e | ⟨j, e, h1, _⟩
  · unfold on at h; rw [e] at h; simp at h
  · exact ⟨j, e, h1⟩
/- Some are let in, at the slots T. -/
def adm (f : Nat → En) (T : List Nat) (J : List Int) (sc bs : Int) : Nat → (Nat → En)
  | 0 => f
  | k + 1 => upd (adm f T J sc bs k) (T.getD k 0) ⟨J.getD k 0, bs + (k : Int), sc⟩
def adl (T : List Nat) (J : List Int) : Nat → List (Int × Int)
  | 0 => []
  | k + 1 => adl T J k ++ [(J.getD k 0, ((T.getD k 0 : Nat) : Int))]
@[simp] theorem adl_length (T : List Nat) (J : List Int) : ∀ k, (adl T J k).length = k
  | 0 => rfl
  | k + 1 => by rw [adl, List.length_append, adl_length]; rfl
/- Are the names free? -/
def frA (f : Nat → En) (bs : Int) (n : Nat) : Nat → Bool
  | 0 => true
  | k + 1 => frA f bs n k && !(decide (bs ≤ (f k).bas) && decide ((f k).bas < bs + (n : Int)))
def fre (f : Nat → En) (bs : Int) (n : Nat) : Bool := decide (n = 0) || (decide (1 ≤ bs) && decide (bs ≤ 32768 - (n : Int)) && frA f bs n 64)
theorem frA_le {f : Nat → En} {bs : Int} {n : Nat} : ∀ {k m : Nat}, k ≤ m → frA f bs n m = true → frA f bs n k = true
  | k, 0, h, e => by obtain rfl : k = 0 := (by omega); exact e
  | k, m + 1, h, e => by
    rcases Nat.lt_or_ge k (m + 1) with g | g
    · rw [frA, Bool.and_eq_true] at e
      exact frA_le (by omega) e.1
    · obtain rfl : k = m + 1 := by omega
      exact e
theorem frA_bad {f : Nat → En} {bs : Int} {n k : Nat} (hk : k < 64) (h : (decide (bs ≤ (f k).bas) && decide ((f k).bas < bs + (n : Int))) = true) : frA f bs n 64 = false := by
  cases e : frA f bs n 64 with
  | false => rfl
  | true =>
    have := frA_le (show k + 1 ≤ 64 by omega) e
    rw [frA, h] at this
    simp at this
/- The error of a move; the roster behind it, the seats. -/
def mvE (f : Nat → En) (L J : List Int) (sc bs : Int) : Int :=
  if ft f L J = 0 then (if eok sc then (if fre f bs J.length then 0 else 3) else 19) else ft f L J
def mvT (f : Nat → En) (L J : List Int) : List Nat := (bl (nt (tk (evs f L)))).take J.length
def mvR (f : Nat → En) (L J : List Int) (sc bs : Int) : Nat → En := if mvE f L J sc bs = 0 then adm (evs f L) (mvT f L J) J sc bs J.length else fun _ => zE
def mvL (f : Nat → En) (L J : List Int) (sc bs : Int) : List (Int × Int) := if mvE f L J sc bs = 0 then evl f L else []
def mvJ (f : Nat → En) (L J : List Int) (sc bs : Int) : List (Int × Int) := if mvE f L J sc bs = 0 then adl (mvT f L J) J J.length else []

theorem fr_zero {f : Nat → En} {lv : Bool} : ∀ {L p : List Int}, fr' f lv p L = 0 → ∀ k, k < L.length → er f lv (p ++ L.take k) (L.getD k 0) = 0
  | [], p, _, k, hk => by simp at hk
  | x :: r, p, h, k, hk => by
    rw [fr'] at h
    by_cases h0 : er f lv p x = 0
    · rw [if_pos h0] at h
      cases k with
      | zero => simpa using h0
      | succ k =>
        have := fr_zero h k (by simpa using hk)
        simpa using this
    · rw [if_neg h0] at h
      exact absurd h h0
theorem fr_of {f : Nat → En} {lv : Bool} : ∀ {L p : List Int}, (∀ k, k < L.length → er f lv (p ++ L.take k) (L.getD k 0) = 0) → fr' f lv p L = 0
  | [], p, _ => rfl
  | x :: r, p, h => by
    have h0 : er f lv p x = 0 := by simpa using h 0 (by simp)
    rw [fr', if_pos h0]
    exact fr_of fun k hk => by simpa using h (k + 1) (by simpa using hk)
theorem er_zero {f : Nat → En} {lv : Bool} {p : List Int} {x : Int} : er f lv p x = 0 ↔ wok x = true ∧ x ∉ p ∧ on f x = lv := by
  unfold er
  cases hw : wok x with
  | false => simp
  | true =>
    by_cases hm : x ∈ p
    · simp [hm]
    · cases lv <;> cases ho : on f x <;> simp [hm]
structure FitOk (f : Nat → En) (L J : List Int) : Prop where
  chk : chk f = true
  lv : ∀ k, k < L.length → wok (L.getD k 0) = true ∧ L.getD k 0 ∉ L.take k ∧ on f (L.getD k 0) = true
  jn : ∀ k, k < J.length → wok (J.getD k 0) = true ∧ J.getD k 0 ∉ L ++ J.take k ∧ on f (J.getD k 0) = false
  room : J.length ≤ 64 - cnt f + L.length
theorem ft_ok {f : Nat → En} {L J : List Int} (h : ft f L J = 0) : FitOk f L J := by
  unfold ft at h
  cases hc : chk f with
  | false => rw [hc] at h; simp at h
  | true =>
    rw [hc, if_pos rfl] at h
    by_cases h1 : fr' f true [] L = 0
    · rw [if_pos h1] at h
      by_cases h2 : fr' f false L J = 0
      · rw [if_pos h2] at h
        have h3 : ¬ (J.length > 64 - cnt f + L.length) := by intro h3; rw [if_pos h3] at h; omega
        refine ⟨hc, fun k hk => ?_, fun k hk => ?_, by omega⟩
        · have := er_zero.1 (fr_zero h1 k hk)
          simpa using this
        · exact er_zero.1 (fr_zero h2 k hk)
      · rw [if_neg h2] at h; exact absurd h h2
    · rw [if_neg h1] at h; exact absurd h h1
theorem ft_of {f : Nat → En} {L J : List Int} (h : FitOk f L J) : ft f L J = 0 := by
  have h1 : fr' f true [] L = 0 := fr_of fun k hk => er_zero.2 (by simpa using h.lv k hk)
  have h2 : fr' f false L J = 0 := fr_of fun k hk => er_zero.2 (h.jn k hk)
  rw [ft_full h.chk h1 h2, if_neg (by have := h.room; omega)]
/- Where somebody is found hangs on the seats that are taken with that number alone. -/
theorem fd_congr {f g : Nat → En} {x : Int} : ∀ (n k : Nat), (∀ i, k ≤ i → i < k + n → at' f x i = at' g x i) → fd f x k n = fd g x k n
  | 0, k, _ => rfl
  | n + 1, k, h => by
    unfold fd
    rw [h k (Nat.le_refl _) (by omega), fd_congr n (k + 1) fun i h1 h2 => h i (by omega) (by omega)]
theorem fnd_congr {f g : Nat → En} {x : Int} (h : ∀ i, i < 64 → at' f x i = at' g x i) : fnd f x = fnd g x := fd_congr 64 0 fun i _ hi => h i (by omega)
theorem on_at {f : Nat → En} {x : Int} (h : on f x = true) : ∃ j : Nat, fnd f x = (j : Int) ∧ j < 64 ∧ at' f x j = true := by
  rcases fnd_range f x with e | ⟨j, e, h1, h2, _⟩
  · unfold on at h; rw [e] at h; simp at h
  · exact ⟨j, e, h1, h2⟩
theorem at_who {f : Nat → En} {x : Int} {i : Nat} (h : at' f x i = true) : tkn (f i) = true ∧ (f i).who = x := by simpa [at'] using h
theorem tkn_zE : tkn zE = false := rfl
theorem at_ev1 {g : Nat → En} {x y : Int} (hne : x ≠ y) (i : Nat) : at' (ev1 g y) x i = at' g x i := by
  unfold ev1
  cases ho : on g y with
  | false => rfl
  | true =>
    obtain ⟨j, hj, hj64, ha⟩ := on_at ho
    obtain ⟨h1, h2⟩ := at_who ha
    rw [if_pos rfl, hj, Int.toNat_natCast]
    by_cases hi : i = j
    · subst hi
      unfold at'
      rw [upd_same, tkn_zE, h2]
      have hd : decide (y = x) = false := decide_eq_false (fun e => hne e.symm)
      rw [hd]
      simp
    · unfold at'
      rw [upd_ne _ _ hi]
theorem at_evs {x : Int} {i : Nat} : ∀ {L : List Int} {f : Nat → En}, x ∉ L → at' (evs f L) x i = at' f x i
  | [], f, _ => rfl
  | y :: r, f, h => by
    have h1 : x ≠ y := fun e => h (by simp [e])
    have h2 : x ∉ r := fun e => h (by simp [e])
    show at' (evs (ev1 f y) r) x i = _
    rw [at_evs h2, at_ev1 h1]
theorem fnd_evs {x : Int} {L : List Int} {f : Nat → En} (h : x ∉ L) : fnd (evs f L) x = fnd f x := fnd_congr fun i _ => at_evs h
theorem on_evs {x : Int} {L : List Int} {f : Nat → En} (h : x ∉ L) : on (evs f L) x = on f x := by unfold on; rw [fnd_evs h]
theorem FitOk.out {f : Nat → En} {L J : List Int} (h : FitOk f L J) : ∀ k, k < L.length → on (evs f (L.take k)) (L.getD k 0) = true := fun k hk => by
  obtain ⟨_, h2, h3⟩ := h.lv k hk
  rw [on_evs h2]
  exact h3
/- How many are on. -/
theorem tk_upd (g : Nat → En) {j : Nat} (hj : j < 64) (e : En) : tk (upd g j e) = if tkn e then put (tk g) j else drp (tk g) j := by
  apply eq_of_bits (tk_lt _) (by split; exact put_lt (tk_lt _) hj; exact drp_lt (tk_lt _))
  intro i hi
  rw [tk_bit _ hi]
  by_cases h : i = j
  · subst h
    rw [upd_same]
    cases he : tkn e with
    | true => rw [if_pos rfl, put_bit]; simp
    | false => rw [if_neg (by simp), drp_bit hj hi]; simp
  · rw [upd_ne _ _ h]
    have hd : decide (j = i) = false := decide_eq_false (fun e => h e.symm)
    split
    · rw [put_bit, hd, Bool.false_or, tk_bit _ hi]
    · rw [drp_bit hj hi, hd, tk_bit _ hi]; rfl
theorem put_self {s j : Nat} (hs : s < 18446744073709551616) (hj : j < 64) (h : s.testBit j = true) : put s j = s := by
  apply eq_of_bits (put_lt hs hj) hs
  intro i hi
  rw [put_bit]
  by_cases e : j = i
  · subst e; simp [h]
  · simp [e]
theorem cnt_drop {g : Nat → En} {j : Nat} (hj : j < 64) (h : tkn (g j) = true) {e : En} (he : tkn e = false) : cnt (upd g j e) + 1 = cnt g := by
  unfold cnt
  rw [tk_upd g hj e, he, if_neg (by simp)]
  have h1 := put_drp (tk_lt g) hj
  rw [put_self (tk_lt g) hj (by rw [tk_bit g hj]; exact h)] at h1
  omega
theorem cnt_ev1 {g : Nat → En} {x : Int} (h : on g x = true) : cnt (ev1 g x) + 1 = cnt g := by
  obtain ⟨j, hj, hj64, ha⟩ := on_at h
  rw [ev1_on hj]
  exact cnt_drop hj64 (at_who ha).1 tkn_zE
theorem cnt_evs {f : Nat → En} {L : List Int} (h : ∀ k, k < L.length → on (evs f (L.take k)) (L.getD k 0) = true) : ∀ k, k ≤ L.length → cnt (evs f (L.take k)) + k = cnt f
  | 0, _ => rfl
  | k + 1, hk => by
    have ih := cnt_evs h k (by omega)
    have e : L.take (k + 1) = L.take k ++ [L.getD k 0] := by
      rw [List.take_succ_eq_append_getElem (by omega)]
      simp [List.getD, show k < L.length by omega]
    rw [e, evs_snoc]
    have := cnt_ev1 (h k (by omega))
    omega
theorem FitOk.cnt {f : Nat → En} {L J : List Int} (h : FitOk f L J) : cnt (evs f L) + L.length = cnt f := by
  have := cnt_evs h.out L.length (Nat.le_refl _)
  rwa [List.take_length] at this
theorem FitOk.lenL {f : Nat → En} {L J : List Int} (h : FitOk f L J) : L.length ≤ 64 := by have := h.cnt; have := cnt_le f; omega
theorem FitOk.free {f : Nat → En} {L J : List Int} (h : FitOk f L J) : J.length ≤ (bl (nt (tk (evs f L)))).length := by
  rw [cnt_nt]
  have h1 := h.cnt
  have h2 := h.room
  have h3 := cnt_le f
  have h4 := cnt_le (evs f L)
  omega
theorem FitOk.lenJ {f : Nat → En} {L J : List Int} (h : FitOk f L J) : J.length ≤ 64 := Nat.le_trans h.free (bl_len _)
theorem fre_bs {f : Nat → En} {bs : Int} {J : List Int} (h : fre f bs J.length = true) (h0 : J ≠ []) : 1 ≤ bs ∧ bs + (J.length : Int) ≤ 32768 := by
  unfold fre at h
  have h1 : decide (J.length = 0) = false := decide_eq_false fun e => h0 (List.length_eq_zero_iff.1 e)
  rw [h1] at h
  simp at h
  omega
theorem mvE_zero {f : Nat → En} {L J : List Int} {sc bs : Int} (h : mvE f L J sc bs = 0) : FitOk f L J ∧ eok sc = true ∧ fre f bs J.length = true := by
  unfold mvE at h
  by_cases h1 : ft f L J = 0
  · rw [if_pos h1] at h
    cases h2 : eok sc with
    | false => rw [h2] at h; simp at h
    | true =>
      rw [h2, if_pos rfl] at h
      cases h3 : fre f bs J.length with
      | false => rw [h3] at h; simp at h
      | true => exact ⟨ft_ok h1, rfl, rfl⟩
  · rw [if_neg h1] at h; exact absurd h h1
theorem mvE_of {f : Nat → En} {L J : List Int} {sc bs : Int} (h1 : FitOk f L J) (h2 : eok sc = true) (h3 : fre f bs J.length = true) : mvE f L J sc bs = 0 := by
  unfold mvE
  rw [if_pos (ft_of h1), h2, if_pos rfl, h3, if_pos rfl]

theorem take_getN {T : List Nat} {k : Nat} (h : k < T.length) : T.take (k + 1) = T.take k ++ [T.getD k 0] := by
  rw [List.take_succ_eq_append_getElem h]
  simp [List.getD, h]
theorem tk_adm {f : Nat → En} {T : List Nat} {J : List Int} {sc bs : Int} (hT : ∀ i ∈ T, i < 64) (hb : 1 ≤ bs) : ∀ k, k ≤ T.length → tk (adm f T J sc bs k) = pf (tk f) (T.take k)
  | 0, _ => rfl
  | k + 1, hk => by
    have ih := tk_adm (f := f) (J := J) (sc := sc) hT hb k (by omega)
    have h64 : T.getD k 0 < 64 := hT _ (by rw [List.getD_eq_getElem?_getD, List.getElem?_eq_getElem (by omega)]; exact List.getElem_mem _)
    have ht : tkn ⟨J.getD k 0, bs + (k : Int), sc⟩ = true := by simp [tkn]; omega
    rw [adm, tk_upd _ h64, ht, if_pos rfl, ih, take_getN (by omega), pf_snoc]
theorem bl_head {s t : Nat} {r : List Nat} (h : bl s = t :: r) : s.testBit t = true ∧ t < 64 ∧ ∀ i, i < t → s.testBit i = false := by
  obtain ⟨_, h2, h3, h4⟩ := bf_tail h
  refine ⟨h3, by omega, fun i hi => ?_⟩
  cases hb : s.testBit i with
  | false => rfl
  | true =>
    have hm : i ∈ bl s := mem_bl.2 ⟨by omega, hb⟩
    rw [h] at hm
    rcases List.mem_cons.1 hm with e | e
    · omega
    · rw [h4] at e
      have := (mem_bf.1 e).1
      omega
/- The slots that are given. -/
structure Slots (f : Nat → En) (T : List Nat) (J : List Int) (sc bs : Int) (k : Nat) : Prop where
  lt : T.getD k 0 < 64
  free : tkn (adm f T J sc bs k (T.getD k 0)) = false
  low : ∀ i, i < T.getD k 0 → tkn (adm f T J sc bs k i) = true
theorem slots_of {f : Nat → En} {J : List Int} {sc bs : Int} {n : Nat} (hn : n ≤ (bl (nt (tk f))).length) (hb : 1 ≤ bs) {k : Nat} (hk : k < n) : Slots f ((bl (nt (tk f))).take n) J sc bs k := by
  have hT : ∀ i ∈ (bl (nt (tk f))).take n, i < 64 := fun i hi => (mem_bl.1 (List.mem_of_mem_take hi)).1
  have hl : ((bl (nt (tk f))).take n).length = n := by rw [List.length_take]; omega
  have ht := tk_adm (f := f) (J := J) (sc := sc) hT hb k (by omega)
  rw [List.take_take, Nat.min_eq_left (by omega)] at ht
  have hd := bl_pf k (tk_lt f)
  rw [← ht, List.drop_eq_getElem_cons (show k < (bl (nt (tk f))).length by omega)] at hd
  obtain ⟨h1, h2, h3⟩ := bl_head hd
  have e : ((bl (nt (tk f))).take n).getD k 0 = (bl (nt (tk f)))[k] := by
    rw [List.getD_eq_getElem?_getD, List.getElem?_eq_getElem (by omega), List.getElem_take]
    rfl
  rw [← e] at h1 h2 h3
  refine ⟨h2, ?_, fun i hi => ?_⟩
  · rw [nt_bit (tk_lt _) h2, tk_bit _ h2] at h1
    simpa using h1
  · have := h3 i hi
    rw [nt_bit (tk_lt _) (by omega), tk_bit _ (by omega)] at this
    simpa using this
theorem FitOk.slots {f : Nat → En} {L J : List Int} (h : FitOk f L J) {sc bs : Int} (hb : 1 ≤ bs) {k : Nat} (hk : k < J.length) : Slots (evs f L) (mvT f L J) J sc bs k := slots_of h.free hb hk
theorem FitOk.lenT {f : Nat → En} {L J : List Int} (h : FitOk f L J) : (mvT f L J).length = J.length := by
  unfold mvT
  have := h.free
  rw [List.length_take]
  omega

structure Rt (f : Nat → En) : Prop where
  one : ∀ i, i < 64 → rgp (f i) = true
  two : ∀ i j, i < 64 → j < 64 → i ≠ j → clh (f i) (f j) = false
theorem clh_comm (a b : En) : clh a b = clh b a := by
  unfold clh alike
  rw [Bool.and_comm (tkn a), show decide (a.who = b.who) = decide (b.who = a.who) by simp [eq_comm], show decide (a.bas = b.bas) = decide (b.bas = a.bas) by simp [eq_comm]]
theorem chk_rt {f : Nat → En} : chk f = true ↔ Rt f := by
  constructor
  · intro h
    have hi : ∀ i, i < 64 → rgp (f i) = true ∧ ∀ m, m < i → clh (f m) (f i) = false := fun i hi => by
      have := chk_at h hi
      unfold okp at this
      rw [Bool.and_eq_true, List.all_eq_true] at this
      refine ⟨this.1, fun m hm => ?_⟩
      simpa using this.2 m (List.mem_range.2 hm)
    refine ⟨fun i h => (hi i h).1, fun i j h1 h2 hne => ?_⟩
    rcases Nat.lt_or_ge i j with g | g
    · exact (hi j h2).2 i g
    · rw [clh_comm]
      exact (hi i h1).2 j (by omega)
  · intro h
    refine chk_good fun j hj => ?_
    unfold okp
    rw [h.one j hj, range_good fun m hm => h.two m j (by omega) hj (by omega)]
    rfl
theorem clh_zE (a : En) : clh a zE = false := by simp [clh, tkn_zE]
theorem rgp_zE : rgp zE = true := rfl
theorem rgp_of {e : En} (h : rgt e = true) : rgp e = true := by
  unfold rgp
  have : tkn e = true := by
    simp only [rgt, Bool.and_eq_true, decide_eq_true_eq] at h
    simp [tkn]
    omega
  rw [this, if_pos rfl, h]
theorem Rt.free {f : Nat → En} (h : Rt f) {i : Nat} (hi : i < 64) (ht : tkn (f i) = false) : f i = zE := by
  have := h.one i hi
  unfold rgp at this
  rw [ht] at this
  simp [isz] at this
  exact En.ext' this.1.1 this.1.2 this.2
theorem Rt.taken {f : Nat → En} (h : Rt f) {i : Nat} (hi : i < 64) (ht : tkn (f i) = true) : rgt (f i) = true := by
  have := h.one i hi
  unfold rgp at this
  rwa [ht, if_pos rfl] at this
theorem Rt.same {f : Nat → En} (h : Rt f) {i j : Nat} (hi : i < 64) (hj : j < 64) {x : Int} (h1 : at' f x i = true) (h2 : at' f x j = true) : i = j := by
  by_cases hne : i = j
  · exact hne
  · have := h.two i j hi hj hne
    obtain ⟨a1, a2⟩ := at_who h1
    obtain ⟨b1, b2⟩ := at_who h2
    simp [clh, a1, b1, alike, a2, b2] at this
theorem Rt.upd {f : Nat → En} (h : Rt f) {j : Nat} (hj : j < 64) {e : En} (he : rgp e = true) (hc : ∀ i, i < 64 → i ≠ j → clh (f i) e = false) : Rt (upd f j e) := by
  refine ⟨fun i hi => ?_, fun i m hi hm hne => ?_⟩
  · by_cases g : i = j
    · subst g; rw [upd_same]; exact he
    · rw [upd_ne _ _ g]; exact h.one i hi
  · by_cases g : i = j
    · subst g
      rw [upd_same, upd_ne _ _ (fun e => hne e.symm), clh_comm]
      exact hc m hm (fun e => hne e.symm)
    · by_cases g2 : m = j
      · subst g2
        rw [upd_same, upd_ne _ _ g]
        exact hc i hi g
      · rw [upd_ne _ _ g, upd_ne _ _ g2]
        exact h.two i m hi hm hne
theorem ev1_def (g : Nat → En) (x : Int) : ev1 g x = if on g x then upd g (fnd g x).toNat zE else g := rfl
theorem Rt.ev1 {g : Nat → En} (h : Rt g) (x : Int) : Rt (ev1 g x) := by
  rw [ev1_def]
  cases ho : on g x with
  | false => exact h
  | true =>
    obtain ⟨j, hj, hj64, _⟩ := on_at ho
    rw [if_pos rfl, hj, Int.toNat_natCast]
    exact h.upd hj64 rgp_zE fun i _ _ => clh_zE _
theorem Rt.evs : ∀ {L : List Int} {f : Nat → En}, Rt f → Rt (evs f L)
  | [], _, h => h
  | x :: r, f, h => Rt.evs (L := r) (h.ev1 x)
theorem ev1_sub (g : Nat → En) (x : Int) (i : Nat) : ev1 g x i = g i ∨ ev1 g x i = zE := by
  unfold ev1
  split
  · by_cases h : i = (fnd g x).toNat
    · right; rw [h, upd_same]
    · left; rw [upd_ne _ _ h]
  · exact .inl rfl
theorem evs_sub {i : Nat} : ∀ {L : List Int} {f : Nat → En}, evs f L i = f i ∨ evs f L i = zE
  | [], _ => .inl rfl
  | x :: r, f => by
    rcases evs_sub (L := r) (f := ev1 f x) (i := i) with h | h
    · rcases ev1_sub f x i with h2 | h2
      · left; exact h.trans h2
      · right; exact h.trans h2
    · right; exact h
theorem at_zE {x : Int} {f : Nat → En} {i : Nat} (h : f i = zE) : at' f x i = false := by unfold at'; rw [h, tkn_zE]; rfl
theorem at_off {x : Int} {i : Nat} {L : List Int} {f : Nat → En} (h : at' f x i = false) : at' (evs f L) x i = false := by
  rcases evs_sub (L := L) (f := f) (i := i) with e | e
  · unfold at' at h ⊢; rw [e]; exact h
  · exact at_zE e
theorem evs_append (f : Nat → En) (L M : List Int) : evs f (L ++ M) = evs (evs f L) M := by simp [evs]
/- Who is put out is off. -/
theorem at_ev1_off {g : Nat → En} (h : Rt g) {x : Int} (ho : on g x = true) {i : Nat} (hi : i < 64) : at' (ev1 g x) x i = false := by
  obtain ⟨j, hj, hj64, ha⟩ := on_at ho
  rw [ev1_on hj]
  by_cases e : i = j
  · subst e; exact at_zE (upd_same _ _ _)
  · unfold at'
    rw [upd_ne _ _ e]
    cases hc : at' g x i with
    | false => exact hc
    | true => exact absurd (h.same hi hj64 hc ha) e
theorem evs_off {f : Nat → En} (h : Rt f) {L : List Int} (hon : ∀ k, k < L.length → on (evs f (L.take k)) (L.getD k 0) = true) {x : Int} (hx : x ∈ L) {i : Nat} (hi : i < 64) : at' (evs f L) x i = false := by
  obtain ⟨k, hk, rfl⟩ := List.getElem_of_mem hx
  have e1 : L.getD k 0 = L[k] := by simp [List.getD, hk]
  have e2 : L = (L.take k ++ [L[k]]) ++ L.drop (k + 1) := by
    rw [← List.take_succ_eq_append_getElem hk, List.take_append_drop]
  have ho := hon k hk
  rw [e1] at ho
  have h1 := at_ev1_off (h.evs (L := L.take k)) ho hi
  rw [← evs_snoc] at h1
  have h2 := at_off (L := L.drop (k + 1)) h1
  rw [← evs_append, ← e2] at h2
  exact h2
theorem adm_cases (G : Nat → En) (T : List Nat) (J : List Int) (sc bs : Int) (i : Nat) : ∀ k, adm G T J sc bs k i = G i ∨ ∃ m, m < k ∧ i = T.getD m 0 ∧ adm G T J sc bs k i = ⟨J.getD m 0, bs + (m : Int), sc⟩
  | 0 => .inl rfl
  | k + 1 => by
    rw [adm]
    by_cases h : i = T.getD k 0
    · right; exact ⟨k, by omega, h, by rw [h, upd_same]⟩
    · rw [upd_ne _ _ h]
      rcases adm_cases G T J sc bs i k with e | ⟨m, h1, h2, h3⟩
      · exact .inl e
      · exact .inr ⟨m, by omega, h2, h3⟩
theorem frA_at {f : Nat → En} {bs : Int} {n : Nat} (h : frA f bs n 64 = true) {i : Nat} (hi : i < 64) : ¬ (bs ≤ (f i).bas ∧ (f i).bas < bs + (n : Int)) := by
  intro hc
  have := frA_bad hi (bs := bs) (n := n) (f := f) (by simp [hc.1, hc.2])
  rw [h] at this
  cases this
/- A move that is answered. -/
structure Mv (f : Nat → En) (L J : List Int) (sc bs : Int) : Prop where
  ok : FitOk f L J
  ep : eok sc = true
  fr : fre f bs J.length = true
section
variable {f : Nat → En} {L J : List Int} {sc bs : Int}
theorem mv_of (h : mvE f L J sc bs = 0) : Mv f L J sc bs := ⟨(mvE_zero h).1, (mvE_zero h).2.1, (mvE_zero h).2.2⟩
theorem Mv.rt (h : Mv f L J sc bs) : Rt f := chk_rt.1 h.ok.chk
theorem Mv.base (h : Mv f L J sc bs) {k : Nat} (hk : k < J.length) : 1 ≤ bs ∧ bs + (J.length : Int) ≤ 32768 := fre_bs h.fr (fun e => by rw [e] at hk; simp at hk)
theorem Mv.fa (h : Mv f L J sc bs) {k : Nat} (hk : k < J.length) : frA f bs J.length 64 = true := by
  have := h.fr
  unfold fre at this
  rw [decide_eq_false (show ¬ J.length = 0 by omega)] at this
  simp at this
  exact this.2
theorem Mv.slots (h : Mv f L J sc bs) {k : Nat} (hk : k < J.length) : Slots (evs f L) (mvT f L J) J sc bs k := h.ok.slots (h.base hk).1 hk
theorem Mv.r (h : mvE f L J sc bs = 0) : mvR f L J sc bs = adm (evs f L) (mvT f L J) J sc bs J.length := by unfold mvR; rw [if_pos h]
theorem off_at {f : Nat → En} {x : Int} (h : on f x = false) {i : Nat} (hi : i < 64) : at' f x i = false := by
  have : fnd f x = -1 := by rw [on_ne] at h; simpa using h
  exact fnd_none.1 this i hi
theorem not_take {J : List Int} {k m : Nat} (hk : k < J.length) (hm : m < k) (h : J.getD k 0 ∉ J.take k) : J.getD m 0 ≠ J.getD k 0 := by
  intro e
  apply h
  rw [← e, List.getD_eq_getElem?_getD, List.getElem?_eq_getElem (by omega)]
  exact List.mem_take_iff_getElem.2 ⟨m, by omega, rfl⟩
theorem Mv.step (h : Mv f L J sc bs) : ∀ k, k ≤ J.length → Rt (adm (evs f L) (mvT f L J) J sc bs k)
  | 0, _ => h.rt.evs
  | k + 1, hk => by
    have ih := h.step k (by omega)
    have hs := h.slots (show k < J.length by omega)
    obtain ⟨b1, b2⟩ := h.base (show k < J.length by omega)
    obtain ⟨j1, j2, j3⟩ := h.ok.jn k (by omega)
    rw [adm]
    have he : rgt ⟨J.getD k 0, bs + (k : Int), sc⟩ = true := by
      simp only [rgt, Bool.and_eq_true, decide_eq_true_eq]
      exact ⟨⟨⟨j1, by omega⟩, by omega⟩, h.ep⟩
    refine ih.upd hs.lt (rgp_of he) fun i hi hne => ?_
    cases ht : tkn (adm (evs f L) (mvT f L J) J sc bs k i) with
    | false => unfold clh; rw [ht]; rfl
    | true =>
      have key : (adm (evs f L) (mvT f L J) J sc bs k i).who ≠ J.getD k 0 ∧ (adm (evs f L) (mvT f L J) J sc bs k i).bas ≠ bs + (k : Int) := by
        rcases adm_cases (evs f L) (mvT f L J) J sc bs i k with e | ⟨m, m1, m2, m3⟩
        · rw [e] at ht ⊢
          rcases evs_sub (L := L) (f := f) (i := i) with e2 | e2
          · rw [e2] at ht ⊢
            have ha := off_at j3 hi
            unfold at' at ha
            rw [ht] at ha
            simp at ha
            refine ⟨ha, fun e3 => frA_at (h.fa (show k < J.length by omega)) hi ⟨by omega, by omega⟩⟩
          · rw [e2, tkn_zE] at ht; cases ht
        · rw [m3]
          refine ⟨not_take (by omega) m1 (fun hm => j2 (List.mem_append.2 (.inr hm))), ?_⟩
          show bs + (m : Int) ≠ bs + (k : Int)
          omega
      unfold clh alike
      rw [decide_eq_false key.1, decide_eq_false key.2]
      simp
theorem mvR_right (h : mvE f L J sc bs = 0) : chk (mvR f L J sc bs) = true := by
  rw [Mv.r h]
  exact chk_rt.2 ((mv_of h).step J.length (Nat.le_refl _))
end

section
variable {f : Nat → En} {L J : List Int} {sc bs : Int}
/- The slots that are given are free, and unlike. -/
theorem T_free {m : Nat} (hm : m < (mvT f L J).length) : (mvT f L J).getD m 0 < 64 ∧ tkn (evs f L ((mvT f L J).getD m 0)) = false := by
  have h : (mvT f L J).getD m 0 ∈ mvT f L J := by
    rw [List.getD_eq_getElem?_getD, List.getElem?_eq_getElem hm]
    exact List.getElem_mem _
  have h2 := mem_bl.1 (List.mem_of_mem_take (show (mvT f L J).getD m 0 ∈ (bl (nt (tk (evs f L)))).take J.length from h))
  refine ⟨h2.1, ?_⟩
  have h3 := h2.2
  rw [nt_bit (tk_lt _) h2.1, tk_bit _ h2.1] at h3
  simpa using h3
/- Who stays. -/
theorem evs_keep {i : Nat} (ht : tkn (f i) = true) (hn : (f i).who ∉ L) : evs f L i = f i := by
  have h1 : at' f (f i).who i = true := by simp [at', ht]
  rw [← at_evs (L := L) hn] at h1
  rcases evs_sub (L := L) (f := f) (i := i) with e | e
  · exact e
  · rw [at_zE e] at h1; cases h1
theorem adm_keep (h : Mv f L J sc bs) {i : Nat} (ht : tkn (evs f L i) = true) : ∀ k, k ≤ J.length → adm (evs f L) (mvT f L J) J sc bs k i = evs f L i := fun k hk => by
  rcases adm_cases (evs f L) (mvT f L J) J sc bs i k with e | ⟨m, m1, m2, m3⟩
  · exact e
  · have := (T_free (f := f) (L := L) (J := J) (m := m) (by rw [h.ok.lenT]; omega)).2
    rw [← m2, ht] at this
    cases this
theorem mv_stays (h : mvE f L J sc bs = 0) {i : Nat} (ht : tkn (f i) = true) (hn : (f i).who ∉ L) : mvR f L J sc bs i = f i := by
  have hk := evs_keep (f := f) (L := L) ht hn
  rw [Mv.r h, adm_keep (mv_of h) (by rw [hk]; exact ht) _ (Nat.le_refl _), hk]
/- Who leaves. -/
theorem mv_leaves (h : mvE f L J sc bs = 0) {x : Int} (hx : x ∈ L) : fnd (mvR f L J sc bs) x = -1 := by
  refine fnd_none.2 fun i hi => ?_
  have hm := mv_of h
  rw [Mv.r h]
  rcases adm_cases (evs f L) (mvT f L J) J sc bs i J.length with e | ⟨m, m1, m2, m3⟩
  · unfold at'
    rw [e]
    exact evs_off hm.rt hm.ok.out hx hi
  · unfold at'
    rw [m3]
    have : J.getD m 0 ≠ x := fun e => (hm.ok.jn m m1).2.1 (List.mem_append.2 (.inl (by rw [e]; exact hx)))
    rw [show (⟨J.getD m 0, bs + (m : Int), sc⟩ : En).who = J.getD m 0 from rfl, decide_eq_false this]
    simp
/- Who joins. -/
theorem adm_get (h : Mv f L J sc bs) {m : Nat} : ∀ k, m < k → k ≤ J.length → adm (evs f L) (mvT f L J) J sc bs k ((mvT f L J).getD m 0) = ⟨J.getD m 0, bs + (m : Int), sc⟩
  | 0, h1, _ => by omega
  | k + 1, h1, h2 => by
    rw [adm]
    by_cases e : m = k
    · subst e; rw [upd_same]
    · have ih := adm_get h (m := m) k (by omega) (by omega)
      have hs := h.slots (show k < J.length by omega)
      have hne : (mvT f L J).getD m 0 ≠ (mvT f L J).getD k 0 := fun e2 => by
        have h3 := hs.free
        rw [← e2, ih] at h3
        have h4 := (h.base (show k < J.length by omega)).1
        simp [tkn] at h3
        omega
      rw [upd_ne _ _ hne, ih]
theorem adl_get (T : List Nat) (J : List Int) {m : Nat} : ∀ k, m < k → (adl T J k).getD m (0, 0) = (J.getD m 0, ((T.getD m 0 : Nat) : Int))
  | 0, h => by omega
  | k + 1, h => by
    rw [adl]
    by_cases e : m = k
    · subst e
      rw [List.getD_eq_getElem?_getD, List.getElem?_append_right (by rw [adl_length]; omega), adl_length]
      simp
    · have ih := adl_get T J (m := m) k (by omega)
      rw [List.getD_eq_getElem?_getD, List.getElem?_append_left (by rw [adl_length]; omega), ← List.getD_eq_getElem?_getD, ih]
end
end Go.Proofs.YtpimbpfefhkojabGreatDoor.Rs
