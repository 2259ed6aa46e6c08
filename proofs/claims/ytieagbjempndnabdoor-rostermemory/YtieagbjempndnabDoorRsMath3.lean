/- Moves on plain data: who is put out, who is let in. -/
import Derived.Test.YtieagbjempndnabDoorRsMath2
namespace Go.Proofs.YtieagbjempndnabDoor
set_option linter.unusedVariables false
set_option linter.unusedSimpArgs false

/- Seats (a person, a slot) as cells. -/
def ps (l : List (Int × Int)) : List Value := l.flatMap fun p => [.int .i64 p.1, .int .i64 p.2]
theorem ps_snoc (l : List (Int × Int)) (p : Int × Int) : ps (l ++ [p]) = ps l ++ [.int .i64 p.1, .int .i64 p.2] := by simp [ps]
@[simp] theorem ps_length (l : List (Int × Int)) : (ps l).length = l.length * 2 := by
  induction l with
  | nil => rfl
  | cons a l ih =>
    have : ps (a :: l) = .int .i64 a.1 :: .int .i64 a.2 :: ps l := rfl
    rw [this]
    simp [ih]
    omega
/- One is put out. -/
def ev1 (g : Nat → En) (x : Int) : Nat → En := if on g x then upd g (fnd g x).toNat zE else g
def evs (f : Nat → En) (L : List Int) : Nat → En := L.foldl ev1 f
theorem evs_snoc (f : Nat → En) (L : List Int) (x : Int) : evs f (L ++ [x]) = ev1 (evs f L) x := by simp [evs]
theorem ev1_on {g : Nat → En} {x : Int} {j : Nat} (h : fnd g x = (j : Int)) : ev1 g x = upd g j zE := by
  have : on g x = true := by unfold on; rw [h]; simp
  unfold ev1
  rw [this, if_pos rfl, h, Int.toNat_natCast]
def evl : (Nat → En) → List Int → List (Int × Int)
  | _, [] => []
  | f, x :: r => (x, fnd f x) :: evl (ev1 f x) r
theorem evl_snoc : ∀ (f : Nat → En) (L : List Int) (x : Int), evl f (L ++ [x]) = evl f L ++ [(x, fnd (evs f L) x)]
  | f, [], x => rfl
  | f, y :: r, x => by
    rw [List.cons_append, evl, evl_snoc (ev1 f y) r x, evl]
    rfl
@[simp] theorem evl_length : ∀ (f : Nat → En) (L : List Int), (evl f L).length = L.length
  | f, [] => rfl
  | f, y :: r => by rw [evl, List.length_cons, evl_length, List.length_cons]
theorem fnd_on {f : Nat → En} {x : Int} (h : on f x = true) : ∃ j : Nat, fnd f x = (j : Int) ∧ j < 64 := by
  rcases fnd_range f x with e | ⟨j, e, h1, _⟩
  · unfold on at h; rw [e] at h; simp at h
  · exact ⟨j, e, h1⟩
/- Some are let in, at the slots T. -/
def adm (f : Nat → En) (T : List Nat) (J : List Int) (sc bs : Int) : Nat → (Nat → En)
  | 0 => f
  | k + 1 => upd (adm f T J sc bs k) (T.getD k 0) ⟨J.getD k 0, bs + (k : Int), sc⟩
def adl (T : List Nat) (J : List Int) : Nat → List (Int × Int)
  | 0 => []
  | k + 1 => adl T J k ++ [(J.getD k 0, ((T.getD k 0 : Nat) : Int))]
@[simp] theorem adl_length (T : List Nat) (J : List Int) : ∀ k, (adl T J k).length = k
  | 0 => rfl
  | k + 1 => by rw [adl, List.length_append, adl_length]; rfl
/- Are the names free? -/
def frA (f : Nat → En) (bs : Int) (n : Nat) : Nat → Bool
  | 0 => true
  | k + 1 => frA f bs n k && !(decide (bs ≤ (f k).bas) && decide ((f k).bas < bs + (n : Int)))
def fre (f : Nat → En) (bs : Int) (n : Nat) : Bool := decide (n = 0) || (decide (1 ≤ bs) && decide (bs ≤ 32768 - (n : Int)) && frA f bs n 64)
theorem frA_le {f : Nat → En} {bs : Int} {n : Nat} : ∀ {k m : Nat}, k ≤ m → frA f bs n m = true → frA f bs n k = true
  | k, 0, h, e => by obtain rfl : k = 0 := (by omega); exact e
  | k, m + 1, h, e => by
    rcases Nat.lt_or_ge k (m + 1) with g | g
    · rw [frA, Bool.and_eq_true] at e
      exact frA_le (by omega) e.1
    · obtain rfl : k = m + 1 := by omega
      exact e
theorem frA_bad {f : Nat → En} {bs : Int} {n k : Nat} (hk : k < 64) (h : (decide (bs ≤ (f k).bas) && decide ((f k).bas < bs + (n : Int))) = true) : frA f bs n 64 = false := by
  cases e : frA f bs n 64 with
  | false => rfl
  | true =>
    have := frA_le (show k + 1 ≤ 64 by omega) e
    rw [frA, h] at this
    simp at this
/- The error of a move; the roster behind it, the seats. -/
def mvE (f : Nat → En) (L J : List Int) (sc bs : Int) : Int :=
  if ft f L J = 0 then (if eok sc then (if fre f bs J.length then 0 else 3) else 19) else ft f L J
def mvT (f : Nat → En) (L J : List Int) : List Nat := (bl (nt (tk (evs f L)))).take J.length
def mvR (f : Nat → En) (L J : List Int) (sc bs : Int) : Nat → En := if mvE f L J sc bs = 0 then adm (evs f L) (mvT f L J) J sc bs J.length else fun _ => zE
def mvL (f : Nat → En) (L J : List Int) (sc bs : Int) : List (Int × Int) := if mvE f L J sc bs = 0 then evl f L else []
def mvJ (f : Nat → En) (L J : List Int) (sc bs : Int) : List (Int × Int) := if mvE f L J sc bs = 0 then adl (mvT f L J) J J.length else []
end Go.Proofs.YtieagbjempndnabDoor
