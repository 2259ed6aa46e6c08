/- Trees on plain data: which are right, their nodes' keys, paths, who is held, where somebody stands. -/
import Derived.Test.YtpimbpfefhkojabGreatDoorRtJ
import Derived.Test.YtpimbpfefhkojabGreatDoorRsJ1
import Derived.Test.YtpimbpfefhkojabGreatDoorShJ
namespace Go.Proofs.YtpimbpfefhkojabGreatDoor
open Rt (Ky zK kcs kchk kchkE lfE lfB lfS lfR gd Gd)
open Rs (En zE rcs chk chkE tkn tk fnd)
open Sh (belB msk hitTo hasB)
set_option linter.unusedVariables false
set_option linter.unusedSimpArgs false

theorem ret_int {k : IntKind} {a b : Int} (h : a = b) : Ending.returned (.int k a) = .returned (.int k b) := by rw [h]
theorem ret_bool {a b : Bool} (h : a = b) : Ending.returned (.bool a) = .returned (.bool b) := by rw [h]
structure Tr where
  ep : Int
  fr : Int
  ks : Nat → Ky
  ro : Nat → En
def tcs (t : Tr) : Array Value := #[.int .i64 t.ep, .int .i64 t.fr] ++ (kcs t.ks ++ rcs t.ro)
@[simp] theorem tcs_size (t : Tr) : (tcs t).size = 236 := by simp [tcs]
theorem tcs_0 (t : Tr) : (tcs t)[0]? = some (.int .i64 t.ep) := by
  unfold tcs
  rw [Array.getElem?_append_left (by simp)]
  rfl
theorem tcs_1 (t : Tr) : (tcs t)[1]? = some (.int .i64 t.fr) := by
  unfold tcs
  rw [Array.getElem?_append_left (by simp)]
  rfl
theorem tcs_ks (t : Tr) (j : Nat) (h : j < 42) : (tcs t)[2 + j]? = (kcs t.ks)[j]? := by
  unfold tcs
  rw [Array.getElem?_append_right (by simp)]
  simp only [List.size_toArray, List.length_cons, List.length_nil, Nat.zero_add, Nat.reduceAdd, Nat.add_sub_cancel_left]
  rw [Array.getElem?_append_left (by simpa using h)]
theorem tcs_ro (t : Tr) (j : Nat) : (tcs t)[44 + j]? = (rcs t.ro)[j]? := by
  have e : 44 + j - (#[Value.int .i64 t.ep, .int .i64 t.fr] : Array Value).size - (kcs t.ks).size = j := by
    rw [Rt.kcs_size]
    show 44 + j - 2 - 42 = j
    omega
  unfold tcs
  rw [Array.getElem?_append_right (by simp; omega), Array.getElem?_append_right (by rw [Rt.kcs_size]; show 42 ≤ 44 + j - 2; omega), e]
theorem tcs_one (t : Tr) : (tcs t).all (·.oneCell') = true := by
  unfold tcs
  rw [Array.all_append, Array.all_append, Rt.kcs_one, Rs.rcs_one]
  simp [Value.oneCell']
/- Names and steps against Fresh and Epoch. -/
def fk1 (t : Tr) (v : Nat) : Bool := decide ((t.ks v).bas < t.fr) && decide ((t.ks v).stp ≤ t.ep)
def fitK (t : Tr) : Bool := (List.range 21).all (fk1 t)
def isn (k : Nat → Ky) (x : Int) : Bool := (List.range 21).any fun v => decide ((k v).bas = x)
def fs1 (t : Tr) (s : Nat) : Bool := decide ((t.ro s).bas < t.fr) && (decide ((t.ro s).snc ≤ t.ep) && !isn t.ks (t.ro s).bas)
def fitS (t : Tr) : Bool := (List.range 64).all (fs1 t)
def bnd (t : Tr) : Bool := decide (0 ≤ t.ep) && (decide (t.ep ≤ 200) && (decide (22 ≤ t.fr) && decide (t.fr ≤ 32768)))
def tck (t : Tr) : Bool := bnd t && (kchk t.ks && (chk t.ro && (fitK t && fitS t)))
def tckE (t : Tr) : Int := if tck t then 0 else 31
theorem tckE_tt {t : Tr} (h : tck t = true) : tckE t = 0 := by unfold tckE; rw [h]; rfl
theorem tckE_ff {t : Tr} (h : tck t = false) : tckE t = 31 := by unfold tckE; rw [h]; rfl
theorem all_yes {n : Nat} {p : Nat → Bool} (h : ∀ j, j < n → p j = true) : (List.range n).all p = true := by
  rw [List.all_eq_true]
  exact fun x hx => h x (List.mem_range.1 hx)
theorem all_at {n : Nat} {p : Nat → Bool} (h : (List.range n).all p = true) {k : Nat} (hk : k < n) : p k = true := by
  rw [List.all_eq_true] at h
  exact h k (List.mem_range.2 hk)
theorem all_no {n : Nat} {p : Nat → Bool} {k : Nat} (hk : k < n) (h : p k = false) : (List.range n).all p = false := by
  rw [Bool.eq_false_iff]
  intro hc
  rw [all_at hc hk] at h
  cases h
theorem any_yes {n : Nat} {p : Nat → Bool} {k : Nat} (hk : k < n) (h : p k = true) : (List.range n).any p = true := by
  rw [List.any_eq_true]
  exact ⟨k, List.mem_range.2 hk, h⟩
theorem any_no {n : Nat} {p : Nat → Bool} (h : ∀ j, j < n → p j = false) : (List.range n).any p = false := by
  rw [Bool.eq_false_iff]
  intro hc
  rw [List.any_eq_true] at hc
  obtain ⟨i, hi, h2⟩ := hc
  rw [h i (List.mem_range.1 hi)] at h2
  cases h2
theorem any_at {n : Nat} {p : Nat → Bool} (h : (List.range n).any p = false) {k : Nat} (hk : k < n) : p k = false := by
  rw [Bool.eq_false_iff]
  intro hc
  rw [any_yes hk hc] at h
  cases h
/- What a right tree has. -/
structure Right (t : Tr) : Prop where
  e0 : 0 ≤ t.ep
  e1 : t.ep ≤ 200
  f0 : 22 ≤ t.fr
  f1 : t.fr ≤ 32768
  ks : kchk t.ks = true
  ro : chk t.ro = true
  fk : ∀ v, v < 21 → (t.ks v).bas < t.fr ∧ (t.ks v).stp ≤ t.ep
  fs : ∀ s, s < 64 → (t.ro s).bas < t.fr ∧ (t.ro s).snc ≤ t.ep ∧ ∀ v, v < 21 → (t.ks v).bas ≠ (t.ro s).bas
theorem tck_right {t : Tr} (h : tck t = true) : Right t := by
  unfold tck at h
  rw [Bool.and_eq_true, Bool.and_eq_true, Bool.and_eq_true, Bool.and_eq_true] at h
  obtain ⟨h1, h2, h3, h4, h5⟩ := h
  unfold bnd at h1
  rw [Bool.and_eq_true, Bool.and_eq_true, Bool.and_eq_true] at h1
  obtain ⟨a, b, c, d⟩ := h1
  refine ⟨of_decide_eq_true a, of_decide_eq_true b, of_decide_eq_true c, of_decide_eq_true d, h2, h3, fun v hv => ?_, fun s hs => ?_⟩
  · have := all_at h4 hv
    unfold fk1 at this
    rw [Bool.and_eq_true] at this
    exact ⟨of_decide_eq_true this.1, of_decide_eq_true this.2⟩
  · have := all_at h5 hs
    unfold fs1 at this
    rw [Bool.and_eq_true, Bool.and_eq_true] at this
    obtain ⟨x, y, z⟩ := this
    refine ⟨of_decide_eq_true x, of_decide_eq_true y, fun v hv => ?_⟩
    have z' : isn t.ks (t.ro s).bas = false := by simpa using z
    exact of_decide_eq_false (any_at z' hv)
theorem Right.ent {t : Tr} (h : Right t) {s : Nat} (hs : s < 64) : Rs.rgp (t.ro s) = true := by
  have := Rs.chk_at h.ro hs
  unfold Rs.okp at this
  rw [Bool.and_eq_true] at this
  exact this.1
theorem Right.taken {t : Tr} (h : Right t) {s : Nat} (hs : s < 64) (ht : tkn (t.ro s) = true) : 1 ≤ (t.ro s).bas ∧ (t.ro s).bas < 32768 ∧ 1 ≤ (t.ro s).snc ∧ (t.ro s).snc ≤ 200 ∧ 0 ≤ (t.ro s).who ∧ (t.ro s).who < 256 := by
  have := h.ent hs
  unfold Rs.rgp at this
  rw [ht, if_pos rfl] at this
  simp [Rs.rgt, Rs.wok, Rs.eok] at this
  omega
/- An entry's leaf key in a right tree. -/
theorem Right.leaf {t : Tr} (h : Right t) {s : Nat} (hs : s < 64) (ht : tkn (t.ro s) = true) : lfE (t.ro s).bas (t.ro s).snc t.ep = 0 := by
  obtain ⟨a, b, c, d, _, _⟩ := h.taken hs ht
  have := (h.fs s hs).2.1
  have := h.e1
  exact Rt.lfE_ok (by omega) (Rt.lfR_ok a b c d) (by omega) (by omega)
theorem leaf_free {t : Tr} {s : Nat} (ht : tkn (t.ro s) = false) : lfE (t.ro s).bas (t.ro s).snc t.ep = 16 := by
  have hb : (t.ro s).bas = 0 := by simpa [tkn] using ht
  rw [hb]
  exact Rt.lfE_off
/- The key of a node. -/
def nod (v : Int) : Bool := decide (0 ≤ v) && decide (v < 85)
def koE (t : Tr) (v : Int) : Int := if tck t then (if nod v then (if v < 21 then 0 else lfE (t.ro (v - 21).toNat).bas (t.ro (v - 21).toNat).snc t.ep) else 2) else 31
def koK (t : Tr) (v : Int) : Ky := if koE t v = 0 then (if v < 21 then t.ks v.toNat else ⟨(t.ro (v - 21).toNat).bas, t.ep - (t.ro (v - 21).toNat).snc⟩) else zK
def KeyA (t : Tr) (v : Int) : Ending := .returned (.tuple #[.agg #[.int .i64 (koK t v).bas, .int .i64 (koK t v).stp], .int .i64 (koE t v)])
theorem KeyA.no {t : Tr} {v x : Int} (h : koE t v = x) (hx : x ≠ 0) : Ending.returned (.tuple #[.agg #[.int .i64 0, .int .i64 0], .int .i64 x]) = KeyA t v := by
  unfold KeyA koK
  rw [h, if_neg hx]
  rfl
theorem KeyA.inner {t : Tr} {v : Nat} (h : koE t v = 0) (hv : v < 21) : Ending.returned (.tuple #[.agg #[.int .i64 (t.ks v).bas, .int .i64 (t.ks v).stp], .int .i64 0]) = KeyA t v := by
  unfold KeyA koK
  rw [h, if_pos rfl, if_pos (by omega), Int.toNat_natCast]
theorem koE_bad {t : Tr} {v : Int} (h : tck t = false) : koE t v = 31 := by unfold koE; rw [h]; rfl
theorem koE_node {t : Tr} {v : Int} (h : tck t = true) (h2 : nod v = false) : koE t v = 2 := by unfold koE; rw [h, h2]; rfl
theorem koE_inner {t : Tr} {v : Int} (h : tck t = true) (h0 : 0 ≤ v) (h1 : v < 21) : koE t v = 0 := by
  unfold koE
  rw [h, if_pos rfl, show nod v = true by simp [nod]; omega, if_pos rfl, if_pos h1]
theorem koE_leaf {t : Tr} {s : Nat} (h : tck t = true) (hs : s < 64) : koE t (21 + (s : Int)) = lfE (t.ro s).bas (t.ro s).snc t.ep := by
  unfold koE
  rw [h, if_pos rfl, show nod (21 + (s : Int)) = true by simp [nod]; omega, if_pos rfl, if_neg (by omega), show (21 + (s : Int) - 21).toNat = s by omega]
theorem KeyA.leaf {t : Tr} {s : Nat} (h : tck t = true) (hs : s < 64) : Rt.LeafA (t.ro s).bas (t.ro s).snc t.ep = KeyA t (21 + (s : Int)) := by
  have e := koE_leaf h hs
  have e2 : (21 + (s : Int) - 21).toNat = s := by omega
  unfold KeyA Rt.LeafA
  by_cases h0 : lfE (t.ro s).bas (t.ro s).snc t.ep = 0
  · unfold koK lfB lfS
    rw [e, h0, if_pos rfl, if_pos rfl, if_pos rfl, if_neg (by omega), e2]
  · unfold koK lfB lfS
    rw [e, if_neg h0, if_neg h0, if_neg h0]
    rfl
/- A slot's path. -/
def pn (s i : Nat) : Nat := if i = 0 then 5 + s / 4 else if i = 1 then 1 + s / 16 else 0
theorem pn_lt {s : Nat} (hs : s < 64) (i : Nat) : pn s i < 21 := by
  unfold pn
  split
  · omega
  · split <;> omega
def slb (s : Int) : Bool := decide (0 ≤ s) && decide (s < 64)
def poE (t : Tr) (s : Int) : Int := if tck t then (if slb s then 0 else 1) else 31
def poP (t : Tr) (s : Int) : Nat → Ky := fun i => if poE t s = 0 then t.ks (pn s.toNat i) else zK
theorem poE_bad {t : Tr} {s : Int} (h : tck t = false) : poE t s = 31 := by unfold poE; rw [h]; rfl
theorem poE_slot {t : Tr} {s : Int} (h : tck t = true) (h2 : slb s = false) : poE t s = 1 := by unfold poE; rw [h, h2]; rfl
theorem poE_ok {t : Tr} {s : Nat} (h : tck t = true) (h2 : s < 64) : poE t s = 0 := by
  unfold poE
  rw [h, show slb s = true by simp [slb]; omega]
  rfl
theorem poP_no {t : Tr} {s : Int} (h : poE t s ≠ 0) (i : Nat) : poP t s i = zK := by unfold poP; rw [if_neg h]
theorem poP_ok {t : Tr} {s : Nat} (h : tck t = true) (h2 : s < 64) (i : Nat) : poP t s i = t.ks (pn s i) := by unfold poP; rw [poE_ok h h2, if_pos rfl, Int.toNat_natCast]
/- Held nodes. -/
def hld (r : Nat → En) (v : Int) : Bool := (List.range 64).any fun s => tkn (r s) && belB v (21 + (s : Int))
theorem tkn_has (r : Nat → En) {s : Nat} (hs : s < 64) : hasB ((tk r : Nat) : Int) s = tkn (r s) := by rw [Sh.hasB_bit, Rs.tk_bit r hs]
theorem hit_hld (r : Nat → En) (v : Int) : hitTo ((tk r : Nat) : Int) v 64 = hld r v := by
  rw [Bool.eq_iff_iff, Sh.hitTo_iff]
  unfold hld
  rw [List.any_eq_true]
  constructor
  · rintro ⟨s, hs, h1, h2⟩
    exact ⟨s, List.mem_range.2 hs, by rw [← tkn_has r hs, h1, h2]; rfl⟩
  · rintro ⟨s, hs, h⟩
    rw [Bool.and_eq_true] at h
    exact ⟨s, List.mem_range.1 hs, by rw [tkn_has r (List.mem_range.1 hs)]; exact h.1, h.2⟩
/- Where somebody is. -/
theorem fd_at (f : Nat → En) (x : Int) : ∀ n k, Rs.fd f x k n = -1 ∨ ∃ s : Nat, k ≤ s ∧ s < k + n ∧ Rs.fd f x k n = (s : Int) ∧ Rs.at' f x s = true
  | 0, k => Or.inl rfl
  | n + 1, k => by
    unfold Rs.fd
    cases h : Rs.at' f x k with
    | true => exact Or.inr ⟨k, by omega, by omega, by simp, h⟩
    | false =>
      rcases fd_at f x n (k + 1) with e | ⟨s, h1, h2, h3, h4⟩
      · exact Or.inl (by simpa using e)
      · exact Or.inr ⟨s, by omega, by omega, by simpa using h3, h4⟩
theorem fnd_at (f : Nat → En) (x : Int) : fnd f x = -1 ∨ ∃ s : Nat, s < 64 ∧ fnd f x = (s : Int) ∧ tkn (f s) = true ∧ (f s).who = x := by
  rcases fd_at f x 64 0 with h | ⟨s, _, h2, h3, h4⟩
  · exact Or.inl h
  · unfold Rs.at' at h4
    rw [Bool.and_eq_true] at h4
    exact Or.inr ⟨s, by omega, h3, h4.1, of_decide_eq_true h4.2⟩
/- In a right tree a taken seat's person is found there. -/
theorem fd_one {f : Nat → En} {x : Int} {s : Nat} (h : Rs.at' f x s = true) (hn : ∀ j, j < s → Rs.at' f x j = false) : ∀ n k, k ≤ s → s < k + n → Rs.fd f x k n = (s : Int)
  | 0, k, h1, h2 => by omega
  | n + 1, k, h1, h2 => by
    unfold Rs.fd
    by_cases e : k = s
    · rw [e, h]; rfl
    · rw [hn k (by omega)]
      exact fd_one h hn n (k + 1) (by omega) (by omega)
theorem Right.find {t : Tr} (h : Right t) {s : Nat} (hs : s < 64) (ht : tkn (t.ro s) = true) : fnd t.ro (t.ro s).who = (s : Int) := by
  refine fd_one (by unfold Rs.at'; rw [ht]; simp) (fun j hj => ?_) 64 0 (by omega) (by omega)
  rw [Bool.eq_false_iff]
  intro hc
  unfold Rs.at' at hc
  rw [Bool.and_eq_true] at hc
  have hk := Rs.chk_at h.ro hs
  unfold Rs.okp at hk
  rw [Bool.and_eq_true] at hk
  have := all_at hk.2 hj
  unfold Rs.clh Rs.alike at this
  rw [hc.1, ht, of_decide_eq_true hc.2] at this
  simp at this
/- Cards and states. -/
def caE (t : Tr) (x : Int) : Int := if tck t then (if fnd t.ro x < 0 then 16 else 0) else 31
def caS (t : Tr) (x : Int) : Int := if caE t x = 0 then fnd t.ro x else 0
def caW (t : Tr) (x : Int) : Int := if caE t x = 0 then x else 0
def caP (t : Tr) (x : Int) : Int := if caE t x = 0 then t.ep else 0
def caK (t : Tr) (x : Int) : Ky := if caE t x = 0 then koK t (21 + fnd t.ro x) else zK
theorem caE_bad {t : Tr} {x : Int} (h : tck t = false) : caE t x = 31 := by unfold caE; rw [h]; rfl
theorem caE_off {t : Tr} {x : Int} (h : tck t = true) (h2 : fnd t.ro x = -1) : caE t x = 16 := by unfold caE; rw [h, h2]; rfl
theorem caE_ok {t : Tr} {x : Int} {s : Nat} (h : tck t = true) (h2 : fnd t.ro x = (s : Int)) : caE t x = 0 := by unfold caE; rw [h, h2, if_pos rfl, if_neg (by omega)]
end Go.Proofs.YtpimbpfefhkojabGreatDoor
