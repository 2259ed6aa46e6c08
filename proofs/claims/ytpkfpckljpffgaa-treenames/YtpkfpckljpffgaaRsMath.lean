/- Rosters on plain data. -/
import Derived.Test.YtpkfpckljpffgaaStMath
import Derived.WalkKit
namespace Go.Proofs.Ytpkfpckljpffgaa.Rs
set_option linter.unusedVariables false
set_option linter.unusedSimpArgs false

/- An entry. -/
structure En where
  who : Int
  bas : Int
  snc : Int
theorem En.ext' {a b : En} (h1 : a.who = b.who) (h2 : a.bas = b.bas) (h3 : a.snc = b.snc) : a = b := by cases a; cases b; simp_all
def zE : En := ⟨0, 0, 0⟩
def En.fld (e : En) (k : Nat) : Int := if k = 0 then e.who else if k = 1 then e.bas else e.snc
def En.cs (e : En) : Array Value := #[.int .i64 e.who, .int .i64 e.bas, .int .i64 e.snc]
/- The 64 entries as cells. -/
def rcs (f : Nat → En) : Array Value := Array.ofFn (n := 192) fun i => .int .i64 ((f (i.1 / 3)).fld (i.1 % 3))
@[simp] theorem rcs_size (f : Nat → En) : (rcs f).size = 192 := by simp [rcs]
theorem rcs_at (f : Nat → En) (j : Nat) (h : j < 192) : (rcs f)[j]? = some (.int .i64 ((f (j / 3)).fld (j % 3))) := by
  rw [Array.getElem?_eq_getElem (by simpa using h)]
  simp [rcs]
theorem rcs_get (f : Nat → En) (i : Nat) (h : i < 64) : (rcs f)[i * 3]? = some (.int .i64 (f i).who) ∧ (rcs f)[i * 3 + 1]? = some (.int .i64 (f i).bas) ∧ (rcs f)[i * 3 + 2]? = some (.int .i64 (f i).snc) := by
  refine ⟨?_, ?_, ?_⟩
  · rw [rcs_at f _ (by omega), show i * 3 / 3 = i by omega, show i * 3 % 3 = 0 by omega]; rfl
  · rw [rcs_at f _ (by omega), show (i * 3 + 1) / 3 = i by omega, show (i * 3 + 1) % 3 = 1 by omega]; rfl
  · rw [rcs_at f _ (by omega), show (i * 3 + 2) / 3 = i by omega, show (i * 3 + 2) % 3 = 2 by omega]; rfl
theorem rcs_congr {f g : Nat → En} (h : ∀ i, i < 64 → f i = g i) : rcs f = rcs g := by
  unfold rcs
  congr 1
  funext i
  rw [h (i.1 / 3) (by have := i.2; omega)]
theorem rcs_one (f : Nat → En) : (rcs f).all (·.oneCell') = true := by
  rw [Array.all_eq_true]
  intro i h
  simp [rcs, Value.oneCell']
def upd (f : Nat → En) (k : Nat) (e : En) : Nat → En := fun i => if i = k then e else f i
theorem upd_same (f : Nat → En) (k : Nat) (e : En) : upd f k e k = e := if_pos rfl
theorem upd_ne (f : Nat → En) {k i : Nat} (e : En) (h : i ≠ k) : upd f k e i = f i := if_neg h
theorem rcs_set (f : Nat → En) (k : Nat) (e : En) (hk : k < 64) :
    (((rcs f).setIfInBounds (k * 3) (.int .i64 e.who)).setIfInBounds (k * 3 + 1) (.int .i64 e.bas)).setIfInBounds (k * 3 + 2) (.int .i64 e.snc) = rcs (upd f k e) := by
  apply Array.ext
  · simp
  · intro i h1 h2
    simp at h1
    rw [Array.getElem_setIfInBounds (by simpa using h1), Array.getElem_setIfInBounds (by simpa using h1), Array.getElem_setIfInBounds (by simpa using h1)]
    simp only [rcs, Array.getElem_ofFn]
    by_cases h : i / 3 = k
    · rw [h, upd_same]
      by_cases c2 : k * 3 + 2 = i
      · rw [if_pos c2, show i % 3 = 2 by omega]; rfl
      · by_cases c1 : k * 3 + 1 = i
        · rw [if_neg c2, if_pos c1, show i % 3 = 1 by omega]; rfl
        · rw [if_neg c2, if_neg c1, if_pos (by omega), show i % 3 = 0 by omega]; rfl
    · rw [if_neg (by omega), if_neg (by omega), if_neg (by omega), upd_ne _ _ h]
/- Taken, right, clashing. -/
def tkn (e : En) : Bool := !decide (e.bas = 0)
def wok (n : Int) : Bool := decide (0 ≤ n) && decide (n < 256)
def eok (n : Int) : Bool := decide (1 ≤ n) && decide (n ≤ 200)
def rgt (e : En) : Bool := wok e.who && decide (1 ≤ e.bas) && decide (e.bas < 32768) && eok e.snc
def isz (e : En) : Bool := decide (e.who = 0) && decide (e.bas = 0) && decide (e.snc = 0)
def rgp (e : En) : Bool := if tkn e then rgt e else isz e
def alike (a b : En) : Bool := decide (a.who = b.who) || decide (a.bas = b.bas)
def clh (a b : En) : Bool := tkn a && tkn b && alike a b
/- The least slot at which a person is. -/
def at' (f : Nat → En) (x : Int) (i : Nat) : Bool := tkn (f i) && decide ((f i).who = x)
def fd (f : Nat → En) (x : Int) : Nat → Nat → Int
  | _, 0 => -1
  | k, n + 1 => if at' f x k then (k : Int) else fd f x (k + 1) n
def fnd (f : Nat → En) (x : Int) : Int := fd f x 0 64
theorem fd_step (f : Nat → En) (x : Int) {k : Nat} (h : k < 64) : fd f x k (64 - k) = if at' f x k then (k : Int) else fd f x (k + 1) (64 - (k + 1)) := by
  rw [show 64 - k = (64 - (k + 1)) + 1 by omega, fd]
/- Is the entry at a slot right, beside those ahead of it? -/
def okp (f : Nat → En) (i : Nat) : Bool := rgp (f i) && (List.range i).all fun m => !clh (f m) (f i)
def okr (f : Nat → En) (i : Nat) : Bool := isz (f i) || (rgt (f i) && (List.range i).all fun m => !(tkn (f m) && alike (f m) (f i)))
theorem okp_okr (f : Nat → En) (i : Nat) : okp f i = okr f i := by
  unfold okp okr rgp
  cases ht : tkn (f i) with
  | false =>
    have hb : (f i).bas = 0 := by simpa [tkn] using ht
    have h1 : ((List.range i).all fun m => !clh (f m) (f i)) = true := by simp [clh, ht]
    have h2 : rgt (f i) = false := by simp [rgt, hb]
    rw [h1, h2]
    simp
  | true =>
    have hb : ¬ (f i).bas = 0 := by simpa [tkn] using ht
    have h2 : isz (f i) = false := by simp [isz, hb]
    rw [h2]
    simp [clh, ht]
def chk (f : Nat → En) : Bool := (List.range 64).all (okp f)
def chkE (f : Nat → En) : Int := if chk f then 0 else 31
theorem chk_good {f : Nat → En} (h : ∀ j, j < 64 → okp f j = true) : chk f = true := by
  unfold chk
  rw [List.all_eq_true]
  intro x hx
  exact h x (List.mem_range.1 hx)
theorem chkE_good {f : Nat → En} (h : ∀ j, j < 64 → okp f j = true) : chkE f = 0 := by unfold chkE; rw [chk_good h]; rfl
theorem chkE_bad {f : Nat → En} {k : Nat} (hk : k < 64) (h : okp f k = false) : chkE f = 31 := by
  unfold chkE
  rw [if_neg]
  intro hc
  unfold chk at hc
  rw [List.all_eq_true] at hc
  have := hc k (List.mem_range.2 hk)
  rw [h] at this
  cases this
theorem chk_at {f : Nat → En} (h : chk f = true) {k : Nat} (hk : k < 64) : okp f k = true := by
  unfold chk at h
  rw [List.all_eq_true] at h
  exact h k (List.mem_range.2 hk)
theorem range_good {n : Nat} {p : Nat → Bool} (h : ∀ m, m < n → p m = false) : ((List.range n).all fun m => !p m) = true := by
  rw [List.all_eq_true]
  intro m hm
  simp [h m (List.mem_range.1 hm)]
theorem range_bad {n k : Nat} {p : Nat → Bool} (hk : k < n) (h : p k = true) : ((List.range n).all fun m => !p m) = false := by
  rw [Bool.eq_false_iff]
  intro hc
  rw [List.all_eq_true] at hc
  have := hc k (List.mem_range.2 hk)
  rw [h] at this
  cases this
/- The taken seats as a word. -/
def tkw (f : Nat → En) : Nat → Nat
  | 0 => 0
  | k + 1 => if tkn (f k) then put (tkw f k) k else tkw f k
theorem tkw_lt (f : Nat → En) : ∀ k, k ≤ 64 → tkw f k < 18446744073709551616
  | 0, _ => by simp [tkw]
  | k + 1, h => by
    unfold tkw
    split
    · exact put_lt (tkw_lt f k (by omega)) (by omega)
    · exact tkw_lt f k (by omega)
theorem tkw_bit (f : Nat → En) (i : Nat) : ∀ k, (tkw f k).testBit i = (decide (i < k) && tkn (f i))
  | 0 => by simp [tkw]
  | k + 1 => by
    unfold tkw
    by_cases h : i = k
    · subst h
      cases ht : tkn (f i) with
      | false => simp [tkw_bit f i i]
      | true => simp [put_bit]
    · have e : decide (i < k + 1) = decide (i < k) := by simp; omega
      rw [e]
      split
      · rw [put_bit, tkw_bit f i k, decide_eq_false (fun e => h e.symm), Bool.false_or]
      · exact tkw_bit f i k
def tk (f : Nat → En) : Nat := tkw f 64
theorem tk_lt (f : Nat → En) : tk f < 18446744073709551616 := tkw_lt f 64 (by omega)
theorem tk_bit (f : Nat → En) {i : Nat} (h : i < 64) : (tk f).testBit i = tkn (f i) := by unfold tk; rw [tkw_bit]; simp [h]
theorem wd_tk (f : Nat → En) : wd (fun i => tkn (f i)) 64 = tk f := wd_all _ (tk_lt f) fun i hi => tk_bit f hi
end Go.Proofs.Ytpkfpckljpffgaa.Rs
