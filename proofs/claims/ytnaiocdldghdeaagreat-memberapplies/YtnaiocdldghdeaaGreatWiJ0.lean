/- WiMath, WiMath2, joined. -/
import Derived.Test.YtnaiocdldghdeaaGreatBtJ1
import Derived.Test.YtnaiocdldghdeaaGreatKeyJ
import Derived.Test.YtnaiocdldghdeaaGreatShJ
/- Messages on plain data: how they are written as bits and read again; what is read by either reader. -/
namespace Go.Proofs.YtnaiocdldghdeaaGreat.Wi
open Go.RowKit
open Bt (bv bo bo_length bv_lt bv_bo bo_bv tb tb_length pk tx dn)
open Rt (gd)
open Sh (belB)
set_option linter.unusedVariables false
set_option linter.unusedSimpArgs false

/- Read and written: what is written is read again, and what is read was written so. -/
structure Cod {α : Type} (ok : α → Prop) (enc : α → List Bool) (dec : List Bool → Nat → Option (α × Nat)) : Prop where
  back : ∀ {T A Z : List Bool} {x : α}, ok x → T = A ++ (enc x ++ Z) → dec T A.length = some (x, A.length + (enc x).length)
  forth : ∀ {T : List Bool} {c : Nat} {x : α} {c' : Nat}, dec T c = some (x, c') → c ≤ T.length → ok x ∧ c' = c + (enc x).length ∧ c' ≤ T.length ∧ (T.drop c).take (enc x).length = enc x
/- One number. -/
def pn (q : Nat) (T : List Bool) (c : Nat) : Option (Nat × Nat) := if c + q ≤ T.length then some (bv ((T.drop c).take q), c + q) else none
theorem pn_yes {q : Nat} {T : List Bool} {c : Nat} (h : c + q ≤ T.length) : pn q T c = some (bv ((T.drop c).take q), c + q) := by unfold pn; rw [if_pos h]
theorem pn_lt {q : Nat} {T : List Bool} {c v c' : Nat} (h : pn q T c = some (v, c')) : v < 2 ^ q := by
  unfold pn at h
  split at h
  · cases h
    refine Nat.lt_of_lt_of_le (bv_lt _) (Nat.pow_le_pow_right (by decide) ?_)
    simp; omega
  · cases h
theorem cod_nat (q : Nat) : Cod (fun v : Nat => v < 2 ^ q) (fun v => bo v q) (pn q) where
  back := by
    intro T A Z x hx hT
    rw [pn_yes (by rw [hT]; simp)]
    rw [hT, List.drop_left' rfl, List.take_left' (bo_length _ _), bv_bo, Nat.mod_eq_of_lt hx, bo_length]
  forth := by
    intro T c x c' h hc
    have hlt := pn_lt h
    unfold pn at h
    split at h
    · rename_i hq
      simp only [Option.some.injEq, Prod.mk.injEq] at h
      obtain ⟨rfl, rfl⟩ := h
      have hl : ((T.drop c).take q).length = q := by simp; omega
      have e : bo (bv ((T.drop c).take q)) q = (T.drop c).take q := by
        have := bo_bv ((T.drop c).take q)
        rw [hl] at this
        exact this
      exact ⟨hlt, by rw [bo_length], hq, by rw [bo_length, e]⟩
    · cases h
/- One behind the other. -/
def pq {α β : Type} (d : List Bool → Nat → Option (α × Nat)) (e : List Bool → Nat → Option (β × Nat)) (T : List Bool) (c : Nat) : Option ((α × β) × Nat) :=
  match d T c with
  | none => none
  | some (x, c1) => match e T c1 with
    | none => none
    | some (y, c2) => some ((x, y), c2)
section
variable {α β : Type} {d : List Bool → Nat → Option (α × Nat)} {e : List Bool → Nat → Option (β × Nat)} {T : List Bool} {c c1 c2 : Nat} {x : α} {y : β}
theorem take_two {a b : Nat} {l : List Bool} : l.take (a + b) = l.take a ++ (l.drop a).take b := List.take_add
end
/- So many of a kind. -/
def pl {α : Type} (d : List Bool → Nat → Option (α × Nat)) (T : List Bool) (c : Nat) : Nat → Option (List α × Nat)
  | 0 => some ([], c)
  | n + 1 => match pl d T c n with
    | none => none
    | some (l, c1) => match d T c1 with
      | none => none
      | some (x, c2) => some (l ++ [x], c2)
section
variable {α : Type} {d : List Bool → Nat → Option (α × Nat)} {T : List Bool} {c c1 c2 n : Nat} {x : α} {l : List α}
theorem pl_next (h : pl d T c n = some (l, c1)) (h2 : d T c1 = some (x, c2)) : pl d T c (n + 1) = some (l ++ [x], c2) := by rw [pl, h]; (try dsimp only); rw [h2]
theorem pl_inv {L : List α} (h : pl d T c (n + 1) = some (L, c2)) : ∃ l x c1, L = l ++ [x] ∧ pl d T c n = some (l, c1) ∧ d T c1 = some (x, c2) := by
  rw [pl] at h
  split at h
  · cases h
  · rename_i l c1 h1
    try dsimp only at h
    split at h
    · cases h
    · rename_i x c2' h2
      cases h
      exact ⟨l, x, c1, rfl, h1, h2⟩
theorem snoc_of {n : Nat} {l : List α} (h : l.length = n + 1) : ∃ l' x, l = l' ++ [x] ∧ l'.length = n := by
  refine ⟨l.take n, l[n]'(by omega), ?_, by simp; omega⟩
  have := List.take_append_getElem (l := l) (i := n) (by omega)
  rw [this, List.take_of_length_le (by omega)]
theorem flat_snoc (f : α → List Bool) (l : List α) (x : α) : (l ++ [x]).flatMap f = l.flatMap f ++ f x := by simp
theorem Cod.list {ok : α → Prop} {en : α → List Bool} (h : Cod ok en d) : ∀ n, Cod (fun l : List α => l.length = n ∧ ∀ x ∈ l, ok x) (fun l => l.flatMap en) (fun T c => pl d T c n)
  | 0 => {
    back := by
      intro T A Z l hl hT
      have : l = [] := List.length_eq_zero_iff.1 hl.1
      subst this
      rfl
    forth := by
      intro T c l c' h hc
      cases h
      exact ⟨⟨rfl, by simp⟩, rfl, hc, rfl⟩ }
  | n + 1 => {
    back := by
      intro T A Z L hL hT
      obtain ⟨l, x, rfl, hl⟩ := snoc_of hL.1
      have e1 := (Cod.list h n).back (T := T) (A := A) (Z := en x ++ Z) (x := l) ⟨hl, fun y hy => hL.2 y (by simp [hy])⟩ (by rw [hT]; simp)
      have e2 := h.back (T := T) (A := A ++ l.flatMap en) (Z := Z) (hL.2 x (by simp)) (by rw [hT]; simp)
      rw [List.length_append] at e2
      try dsimp only at e1 ⊢
      rw [pl_next e1 e2, flat_snoc, List.length_append, Nat.add_assoc]
    forth := by
      intro T c L c' hd hc
      obtain ⟨l, x, c1, rfl, k1, k2⟩ := pl_inv hd
      obtain ⟨o1, a1, b1, t1⟩ := (Cod.list h n).forth (T := T) (c := c) k1 hc
      obtain ⟨o2, a2, b2, t2⟩ := h.forth k2 b1
      refine ⟨⟨by rw [List.length_append, o1.1]; rfl, ?_⟩, by rw [a2, a1, flat_snoc, List.length_append, Nat.add_assoc], b2, ?_⟩
      · intro y hy
        rcases List.mem_append.1 hy with hy | hy
        · exact o1.2 y hy
        · simp at hy; subst hy; exact o2
      · rw [flat_snoc, List.length_append, take_two, t1, List.drop_drop, ← a1, t2] }
/- A list behind its length. -/
def pc (q : Nat) (d : List Bool → Nat → Option (α × Nat)) (T : List Bool) (c : Nat) : Option (List α × Nat) :=
  match pn q T c with
  | none => none
  | some (n, c1) => pl d T c1 n
theorem pc_yes {q : Nat} (h : pn q T c = some (n, c1)) : pc q d T c = pl d T c1 n := by unfold pc; rw [h]
theorem Cod.count {ok : α → Prop} {en : α → List Bool} (h : Cod ok en d) (q : Nat) : Cod (fun l : List α => l.length < 2 ^ q ∧ ∀ x ∈ l, ok x) (fun l => bo l.length q ++ l.flatMap en) (pc q d) where
  back := by
    intro T A Z l hl hT
    have e1 := (cod_nat q).back (T := T) (A := A) (Z := l.flatMap en ++ Z) hl.1 (by rw [hT]; simp)
    have e2 := (h.list l.length).back (T := T) (A := A ++ bo l.length q) (Z := Z) (x := l) ⟨rfl, hl.2⟩ (by rw [hT]; simp)
    rw [List.length_append] at e2
    try dsimp only at e2
    rw [pc_yes e1, e2, List.length_append, Nat.add_assoc]
  forth := by
    intro T c l c' hd hc
    unfold pc at hd
    split at hd
    · cases hd
    · rename_i n c1 k1
      obtain ⟨o1, a1, b1, t1⟩ := (cod_nat q).forth k1 hc
      obtain ⟨o2, a2, b2, t2⟩ := (h.list n).forth (T := T) (c := c1) hd b1
      obtain ⟨rfl, o2⟩ := o2
      try dsimp only at a1 t1 a2 t2 ⊢
      refine ⟨⟨o1, o2⟩, by rw [a2, a1, List.length_append, Nat.add_assoc], b2, ?_⟩
      rw [List.length_append, take_two, t1, List.drop_drop, ← a1, t2]
end
/- The same under another name. -/
def pm {α β : Type} (f : α → β) (d : List Bool → Nat → Option (α × Nat)) (T : List Bool) (c : Nat) : Option (β × Nat) :=
  match d T c with
  | none => none
  | some (x, c1) => some (f x, c1)
section
variable {α β : Type} {d : List Bool → Nat → Option (α × Nat)} {T : List Bool} {c c1 : Nat} {x : α} {f : α → β}
theorem pm_yes (h : d T c = some (x, c1)) : pm f d T c = some (f x, c1) := by unfold pm; rw [h]
theorem pm_inv {y : β} (h : pm f d T c = some (y, c1)) : ∃ x, y = f x ∧ d T c = some (x, c1) := by
  unfold pm at h
  split at h
  · cases h
  · rename_i x c' h1
    cases h
    exact ⟨x, rfl, h1⟩
theorem Cod.map {ok : α → Prop} {en : α → List Bool} (h : Cod ok en d) (f : α → β) (g : β → α) (ok' : β → Prop) (hgf : ∀ x, ok x → g (f x) = x) (hok : ∀ y, ok' y → ok (g y) ∧ f (g y) = y) (hok2 : ∀ x, ok x → ok' (f x)) : Cod ok' (fun y => en (g y)) (pm f d) where
  back := by
    intro T A Z y hy hT
    have := h.back (hok y hy).1 hT
    rw [pm_yes this, (hok y hy).2]
  forth := by
    intro T c y c' hd hc
    obtain ⟨x, rfl, h1⟩ := pm_inv hd
    obtain ⟨o, a, b, t⟩ := h.forth h1 hc
    try dsimp only
    rw [hgf x o]
    exact ⟨hok2 x o, a, b, t⟩
end
def pi (q : Nat) : List Bool → Nat → Option (Int × Nat) := pm (fun n : Nat => (n : Int)) (pn q)
def pS : List Bool → Nat → Option ((Int × Int) × Nat) := pq (pi 8) (pi 6)
def gK (k : Int × Int) : Bool := gd k.1 k.2
def pK (T : List Bool) (c : Nat) : Option ((Int × Int) × Nat) :=
  match pn 24 T c with
  | none => none
  | some (v, c1) => if gK ((v / 256 : Nat), (v % 256 : Nat)) then some (((v / 256 : Nat), (v % 256 : Nat)), c1) else none
def gB (b : (Int × Int) × (Int × Int)) : Bool := gK b.1 && gK b.2
def pB : List Bool → Nat → Option (((Int × Int) × (Int × Int)) × Nat) := pq pK pK
def pI : List Bool → Nat → Option (((Int × Int) × ((Int × Int) × (Int × Int))) × Nat) := pq (pq (pi 5) (pi 7)) pB
end Go.Proofs.YtnaiocdldghdeaaGreat.Wi
/- Messages on plain data: right ones, their bits, their bytes; there and back; nothing shorter and nothing longer. -/
namespace Go.Proofs.YtnaiocdldghdeaaGreat.Wi
open Go.RowKit
open Bt (bv bo bo_length bv_lt bv_bo bo_bv tb tb_length pk tx dn)
open Rt (gd)
open Sh (belB)
set_option linter.unusedVariables false
set_option linter.unusedSimpArgs false

structure Msg where
  kd : Int
  rk : Int × (List (Int × Int) × (List (Int × Int) × List ((Int × Int) × ((Int × Int) × (Int × Int)))))
  rq : Int × Int
  rp : (Int × Int) × (Int × (((Int × Int) × (Int × Int)) × (((Int × Int) × (Int × Int)) × ((Int × Int) × (Int × Int)))))
  sd : Int × ((Int × Int) × ByteArray)
def zR : Int × (List (Int × Int) × (List (Int × Int) × List ((Int × Int) × ((Int × Int) × (Int × Int))))) := (0, [], [], [])
def zQ : Int × Int := (0, 0)
def zP : (Int × Int) × (Int × (((Int × Int) × (Int × Int)) × (((Int × Int) × (Int × Int)) × ((Int × Int) × (Int × Int))))) := ((0, 0), 0, ((0, 0), (0, 0)), ((0, 0), (0, 0)), ((0, 0), (0, 0)))
def zD : Int × ((Int × Int) × ByteArray) := (0, (0, 0), tx [])
def zM : Msg := ⟨0, zR, zQ, zP, zD⟩
def mR (r : Int × (List (Int × Int) × (List (Int × Int) × List ((Int × Int) × ((Int × Int) × (Int × Int)))))) : Msg := ⟨1, r, zQ, zP, zD⟩
/- Right ones. -/
def gE (e : Int) : Bool := decide (1 ≤ e) && decide (e ≤ 200)
def gW (x : Int) : Bool := decide (0 ≤ x) && decide (x < 256)
def gS (s : Int × Int) : Bool := gW s.1 && (decide (0 ≤ s.2) && decide (s.2 < 64))
def dpr (v w : Int) : Bool := belB v w && decide (w ≠ v)
def gI (i : (Int × Int) × ((Int × Int) × (Int × Int))) : Bool := (decide (0 ≤ i.1.1) && decide (i.1.1 < 21)) && (dpr i.1.1 i.1.2 && gB i.2)
def gR (r : Int × (List (Int × Int) × (List (Int × Int) × List ((Int × Int) × ((Int × Int) × (Int × Int)))))) : Bool :=
  gE r.1 && ((decide (r.2.1.length ≤ 64) && r.2.1.all gS) && ((decide (r.2.2.1.length ≤ 64) && r.2.2.1.all gS) && (decide (r.2.2.2.length ≤ 1536) && r.2.2.2.all gI)))
def gQ (q : Int × Int) : Bool := gW q.1 && gE q.2
def gP (p : (Int × Int) × (Int × (((Int × Int) × (Int × Int)) × (((Int × Int) × (Int × Int)) × ((Int × Int) × (Int × Int)))))) : Bool := gS p.1 && (gE p.2.1 && (gB p.2.2.1 && (gB p.2.2.2.1 && gB p.2.2.2.2)))
def gD (d : Int × ((Int × Int) × ByteArray)) : Bool := gE d.1 && (gK d.2.1 && decide (d.2.2.size ≤ 64))
def nR (r : Int × (List (Int × Int) × (List (Int × Int) × List ((Int × Int) × ((Int × Int) × (Int × Int)))))) : Bool := decide (r.1 = 0) && (decide (r.2.1.length = 0) && (decide (r.2.2.1.length = 0) && decide (r.2.2.2.length = 0)))
theorem nR_iff {r : Int × (List (Int × Int) × (List (Int × Int) × List ((Int × Int) × ((Int × Int) × (Int × Int)))))} : nR r = true ↔ r = zR := by
  obtain ⟨e, l, j, i⟩ := r
  simp [nR, zR, List.length_eq_zero_iff]
def gM (m : Msg) : Bool :=
  if m.kd = 1 then gR m.rk && (decide (m.rq = zQ) && (decide (m.rp = zP) && decide (m.sd = zD)))
  else if m.kd = 2 then nR m.rk && (gQ m.rq && (decide (m.rp = zP) && decide (m.sd = zD)))
  else if m.kd = 3 then nR m.rk && (decide (m.rq = zQ) && (gP m.rp && decide (m.sd = zD)))
  else if m.kd = 4 then nR m.rk && (decide (m.rq = zQ) && (decide (m.rp = zP) && gD m.sd))
  else false
theorem gE_iff {e : Int} : gE e = true ↔ 1 ≤ e ∧ e ≤ 200 := by simp [gE]
theorem gI_iff {i : (Int × Int) × ((Int × Int) × (Int × Int))} : gI i = true ↔ ((0 ≤ i.1.1 ∧ i.1.1 < 21) ∧ dpr i.1.1 i.1.2 = true ∧ gK i.2.1 = true ∧ gK i.2.2 = true) := by simp [gI, gB]
def pL : List Bool → Nat → Option (List (Int × Int) × Nat) := pc 7 pS
def pIs : List Bool → Nat → Option (List ((Int × Int) × ((Int × Int) × (Int × Int))) × Nat) := pc 11 pI
def pR : List Bool → Nat → Option ((Int × (List (Int × Int) × (List (Int × Int) × List ((Int × Int) × ((Int × Int) × (Int × Int)))))) × Nat) := pq (pi 8) (pq pL (pq pL pIs))
def tn (q : Nat) (T : List Bool) (c : Nat) : Nat × Nat := if c + q ≤ T.length then (bv ((T.drop c).take q), c + q) else (0, c)
def ti (q : Nat) (T : List Bool) (c : Nat) : Int × Nat := (((tn q T c).1 : Int), (tn q T c).2)
def tq {α β : Type} (d : List Bool → Nat → α × Nat) (e : List Bool → Nat → β × Nat) (T : List Bool) (c : Nat) : (α × β) × Nat := (((d T c).1, (e T (d T c).2).1), (e T (d T c).2).2)
def tl {α : Type} (d : List Bool → Nat → α × Nat) (T : List Bool) (c : Nat) : Nat → List α × Nat
  | 0 => ([], c)
  | n + 1 => ((tl d T c n).1 ++ [(d T (tl d T c n).2).1], (d T (tl d T c n).2).2)
def tc {α : Type} (q : Nat) (d : List Bool → Nat → α × Nat) (T : List Bool) (c : Nat) : List α × Nat := tl d T (tn q T c).2 (tn q T c).1
def tK : List Bool → Nat → (Int × Int) × Nat := tq (ti 16) (ti 8)
def tS : List Bool → Nat → (Int × Int) × Nat := tq (ti 8) (ti 6)
def tB : List Bool → Nat → ((Int × Int) × (Int × Int)) × Nat := tq tK tK
def tI : List Bool → Nat → ((Int × Int) × ((Int × Int) × (Int × Int))) × Nat := tq (tq (ti 5) (ti 7)) tB
def tR : List Bool → Nat → (Int × (List (Int × Int) × (List (Int × Int) × List ((Int × Int) × ((Int × Int) × (Int × Int)))))) × Nat := tq (ti 8) (tq (tc 7 tS) (tq (tc 7 tS) (tc 11 tI)))
section
variable {α β : Type} {d : List Bool → Nat → Option (α × Nat)} {e : List Bool → Nat → Option (β × Nat)} {d' : List Bool → Nat → α × Nat} {e' : List Bool → Nat → β × Nat}
end
end Go.Proofs.YtnaiocdldghdeaaGreat.Wi
