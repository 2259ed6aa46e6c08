/- WiMath, WiMath2, joined. -/
import Derived.Test.YtpimbpfefhkojaaGreatBtJ1
import Derived.Test.YtpimbpfefhkojaaGreatKeyJ
import Derived.Test.YtpimbpfefhkojaaGreatShJ
/- Messages on plain data: how they are written as bits and read again; what is read by either reader. -/
namespace Go.Proofs.YtpimbpfefhkojaaGreat.Wi
open Go.RowKit
open Bt (bv bo bo_length bv_lt bv_bo bo_bv bo_split bo_mod bv_append tb tb_length tb_append pk pk_tb tb_pk pk_pad pk_lt pk_length tx bys bys_tx tx_bys bys_length tx_size dn bitsF okF bitsF_append pkS pkE)
open Rt (gd)
open Sh (belB)
set_option linter.unusedVariables false
set_option linter.unusedSimpArgs false

/- Read and written: what is written is read again, and what is read was written so. -/
structure Cod {α : Type} (ok : α → Prop) (enc : α → List Bool) (dec : List Bool → Nat → Option (α × Nat)) : Prop where
  back : ∀ {T A Z : List Bool} {x : α}, ok x → T = A ++ (enc x ++ Z) → dec T A.length = some (x, A.length + (enc x).length)
  forth : ∀ {T : List Bool} {c : Nat} {x : α} {c' : Nat}, dec T c = some (x, c') → c ≤ T.length → ok x ∧ c' = c + (enc x).length ∧ c' ≤ T.length ∧ (T.drop c).take (enc x).length = enc x
/- One number. -/
def pn (q : Nat) (T : List Bool) (c : Nat) : Option (Nat × Nat) := if c + q ≤ T.length then some (bv ((T.drop c).take q), c + q) else none
theorem pn_yes {q : Nat} {T : List Bool} {c : Nat} (h : c + q ≤ T.length) : pn q T c = some (bv ((T.drop c).take q), c + q) := by unfold pn; rw [if_pos h]
theorem pn_no {q : Nat} {T : List Bool} {c : Nat} (h : ¬ c + q ≤ T.length) : pn q T c = none := by unfold pn; rw [if_neg h]
theorem pn_lt {q : Nat} {T : List Bool} {c v c' : Nat} (h : pn q T c = some (v, c')) : v < 2 ^ q := by
  unfold pn at h
  split at h
  · cases h
    refine Nat.lt_of_lt_of_le (bv_lt _) (Nat.pow_le_pow_right (by decide) ?_)
    simp; omega
  · cases h
theorem cod_nat (q : Nat) : Cod (fun v : Nat => v < 2 ^ q) (fun v => bo v q) (pn q) where
  back := by
    intro T A Z x hx hT
    rw [pn_yes (by rw [hT]; simp)]
    rw [hT, List.drop_left' rfl, List.take_left' (bo_length _ _), bv_bo, Nat.mod_eq_of_lt hx, bo_length]
  forth := by
    intro T c x c' h hc
    have hlt := pn_lt h
    unfold pn at h
    split at h
    · rename_i hq
      simp only [Option.some.injEq, Prod.mk.injEq] at h
      obtain ⟨rfl, rfl⟩ := h
      have hl : ((T.drop c).take q).length = q := by simp; omega
      have e : bo (bv ((T.drop c).take q)) q = (T.drop c).take q := by
        have := bo_bv ((T.drop c).take q)
        rw [hl] at this
        exact this
      exact ⟨hlt, by rw [bo_length], hq, by rw [bo_length, e]⟩
    · cases h
/- One behind the other. -/
def pq {α β : Type} (d : List Bool → Nat → Option (α × Nat)) (e : List Bool → Nat → Option (β × Nat)) (T : List Bool) (c : Nat) : Option ((α × β) × Nat) :=
  match d T c with
  | none => none
  | some (x, c1) => match e T c1 with
    | none => none
    | some (y, c2) => some ((x, y), c2)
section
variable {α β : Type} {d : List Bool → Nat → Option (α × Nat)} {e : List Bool → Nat → Option (β × Nat)} {T : List Bool} {c c1 c2 : Nat} {x : α} {y : β}
theorem pq_no (h : d T c = none) : pq d e T c = none := by unfold pq; rw [h]
theorem pq_no2 (h : d T c = some (x, c1)) (h2 : e T c1 = none) : pq d e T c = none := by unfold pq; rw [h]; (try dsimp only); rw [h2]
theorem pq_yes (h : d T c = some (x, c1)) (h2 : e T c1 = some (y, c2)) : pq d e T c = some ((x, y), c2) := by unfold pq; rw [h]; (try dsimp only); rw [h2]
theorem pq_one (h : d T c = some (x, c1)) : pq d e T c = (e T c1).map fun p => ((x, p.1), p.2) := by
  unfold pq; rw [h]; try dsimp only
  cases e T c1 <;> rfl
theorem pq_inv {p : α × β} (h : pq d e T c = some (p, c2)) : ∃ c1, d T c = some (p.1, c1) ∧ e T c1 = some (p.2, c2) := by
  unfold pq at h
  split at h
  · cases h
  · rename_i x c1 h1
    try dsimp only at h
    split at h
    · cases h
    · rename_i y c2' h2
      cases h
      exact ⟨c1, h1, h2⟩
theorem take_two {a b : Nat} {l : List Bool} : l.take (a + b) = l.take a ++ (l.drop a).take b := List.take_add
theorem Cod.seq {ok1 : α → Prop} {ok2 : β → Prop} {en1 : α → List Bool} {en2 : β → List Bool} (h1 : Cod ok1 en1 d) (h2 : Cod ok2 en2 e) : Cod (fun p : α × β => ok1 p.1 ∧ ok2 p.2) (fun p => en1 p.1 ++ en2 p.2) (pq d e) where
  back := by
    intro T A Z p hp hT
    have e1 := h1.back (T := T) (A := A) (Z := en2 p.2 ++ Z) hp.1 (by rw [hT]; simp)
    have e2 := h2.back (T := T) (A := A ++ en1 p.1) (Z := Z) hp.2 (by rw [hT]; simp)
    rw [List.length_append] at e2
    rw [pq_yes e1 e2, List.length_append, Nat.add_assoc]
  forth := by
    intro T c p c' h hc
    obtain ⟨c1, k1, k2⟩ := pq_inv h
    obtain ⟨o1, a1, b1, t1⟩ := h1.forth k1 hc
    obtain ⟨o2, a2, b2, t2⟩ := h2.forth k2 b1
    refine ⟨⟨o1, o2⟩, by rw [a2, a1, List.length_append, Nat.add_assoc], b2, ?_⟩
    rw [List.length_append, take_two, t1, List.drop_drop, ← a1, t2]
end
/- So many of a kind. -/
def pl {α : Type} (d : List Bool → Nat → Option (α × Nat)) (T : List Bool) (c : Nat) : Nat → Option (List α × Nat)
  | 0 => some ([], c)
  | n + 1 => match pl d T c n with
    | none => none
    | some (l, c1) => match d T c1 with
      | none => none
      | some (x, c2) => some (l ++ [x], c2)
section
variable {α : Type} {d : List Bool → Nat → Option (α × Nat)} {T : List Bool} {c c1 c2 n : Nat} {x : α} {l : List α}
theorem pl_no (h : pl d T c n = none) : ∀ k, pl d T c (n + k) = none
  | 0 => h
  | k + 1 => by
    show pl d T c (n + k + 1) = none
    rw [pl, pl_no h k]
theorem pl_stop {m : Nat} (h : pl d T c n = none) (hm : n ≤ m) : pl d T c m = none := by
  have := pl_no h (m - n)
  rwa [Nat.add_sub_cancel' hm] at this
theorem pl_next_no (h : pl d T c n = some (l, c1)) (h2 : d T c1 = none) : pl d T c (n + 1) = none := by rw [pl, h]; (try dsimp only); rw [h2]
theorem pl_next (h : pl d T c n = some (l, c1)) (h2 : d T c1 = some (x, c2)) : pl d T c (n + 1) = some (l ++ [x], c2) := by rw [pl, h]; (try dsimp only); rw [h2]
theorem pl_inv {L : List α} (h : pl d T c (n + 1) = some (L, c2)) : ∃ l x c1, L = l ++ [x] ∧ pl d T c n = some (l, c1) ∧ d T c1 = some (x, c2) := by
  rw [pl] at h
  split at h
  · cases h
  · rename_i l c1 h1
    try dsimp only at h
    split at h
    · cases h
    · rename_i x c2' h2
      cases h
      exact ⟨l, x, c1, rfl, h1, h2⟩
theorem pl_len : ∀ {n : Nat} {l : List α} {c1 : Nat}, pl d T c n = some (l, c1) → l.length = n
  | 0, l, c1, h => by cases h; rfl
  | n + 1, l, c1, h => by
    obtain ⟨l', x, c', rfl, h1, _⟩ := pl_inv h
    rw [List.length_append, pl_len h1]; rfl
theorem snoc_of {n : Nat} {l : List α} (h : l.length = n + 1) : ∃ l' x, l = l' ++ [x] ∧ l'.length = n := by
  refine ⟨l.take n, l[n]'(by omega), ?_, by simp; omega⟩
  have := List.take_append_getElem (l := l) (i := n) (by omega)
  rw [this, List.take_of_length_le (by omega)]
theorem flat_snoc (f : α → List Bool) (l : List α) (x : α) : (l ++ [x]).flatMap f = l.flatMap f ++ f x := by simp
theorem Cod.list {ok : α → Prop} {en : α → List Bool} (h : Cod ok en d) : ∀ n, Cod (fun l : List α => l.length = n ∧ ∀ x ∈ l, ok x) (fun l => l.flatMap en) (fun T c => pl d T c n)
  | 0 => {
    back := by
      intro T A Z l hl hT
      have : l = [] := List.length_eq_zero_iff.1 hl.1
      subst this
      rfl
    forth := by
      intro T c l c' h hc
      cases h
      exact ⟨⟨rfl, by simp⟩, rfl, hc, rfl⟩ }
  | n + 1 => {
    back := by
      intro T A Z L hL hT
      obtain ⟨l, x, rfl, hl⟩ := snoc_of hL.1
      have e1 := (Cod.list h n).back (T := T) (A := A) (Z := en x ++ Z) (x := l) ⟨hl, fun y hy => hL.2 y (by simp [hy])⟩ (by rw [hT]; simp)
      have e2 := h.back (T := T) (A := A ++ l.flatMap en) (Z := Z) (hL.2 x (by simp)) (by rw [hT]; simp)
      rw [List.length_append] at e2
      try dsimp only at e1 ⊢
      rw [pl_next e1 e2, flat_snoc, List.length_append, Nat.add_assoc]
    forth := by
      intro T c L c' hd hc
      obtain ⟨l, x, c1, rfl, k1, k2⟩ := pl_inv hd
      obtain ⟨o1, a1, b1, t1⟩ := (Cod.list h n).forth (T := T) (c := c) k1 hc
      obtain ⟨o2, a2, b2, t2⟩ := h.forth k2 b1
      refine ⟨⟨by rw [List.length_append, o1.1]; rfl, ?_⟩, by rw [a2, a1, flat_snoc, List.length_append, Nat.add_assoc], b2, ?_⟩
      · intro y hy
        rcases List.mem_append.1 hy with hy | hy
        · exact o1.2 y hy
        · simp at hy; subst hy; exact o2
      · rw [flat_snoc, List.length_append, take_two, t1, List.drop_drop, ← a1, t2] }
/- A list behind its length. -/
def pc (q : Nat) (d : List Bool → Nat → Option (α × Nat)) (T : List Bool) (c : Nat) : Option (List α × Nat) :=
  match pn q T c with
  | none => none
  | some (n, c1) => pl d T c1 n
theorem pc_no {q : Nat} (h : pn q T c = none) : pc q d T c = none := by unfold pc; rw [h]
theorem pc_yes {q : Nat} (h : pn q T c = some (n, c1)) : pc q d T c = pl d T c1 n := by unfold pc; rw [h]
theorem Cod.count {ok : α → Prop} {en : α → List Bool} (h : Cod ok en d) (q : Nat) : Cod (fun l : List α => l.length < 2 ^ q ∧ ∀ x ∈ l, ok x) (fun l => bo l.length q ++ l.flatMap en) (pc q d) where
  back := by
    intro T A Z l hl hT
    have e1 := (cod_nat q).back (T := T) (A := A) (Z := l.flatMap en ++ Z) hl.1 (by rw [hT]; simp)
    have e2 := (h.list l.length).back (T := T) (A := A ++ bo l.length q) (Z := Z) (x := l) ⟨rfl, hl.2⟩ (by rw [hT]; simp)
    rw [List.length_append] at e2
    try dsimp only at e2
    rw [pc_yes e1, e2, List.length_append, Nat.add_assoc]
  forth := by
    intro T c l c' hd hc
    unfold pc at hd
    split at hd
    · cases hd
    · rename_i n c1 k1
      obtain ⟨o1, a1, b1, t1⟩ := (cod_nat q).forth k1 hc
      obtain ⟨o2, a2, b2, t2⟩ := (h.list n).forth (T := T) (c := c1) hd b1
      obtain ⟨rfl, o2⟩ := o2
      try dsimp only at a1 t1 a2 t2 ⊢
      refine ⟨⟨o1, o2⟩, by rw [a2, a1, List.length_append, Nat.add_assoc], b2, ?_⟩
      rw [List.length_append, take_two, t1, List.drop_drop, ← a1, t2]
end
/- The same under another name. -/
def pm {α β : Type} (f : α → β) (d : List Bool → Nat → Option (α × Nat)) (T : List Bool) (c : Nat) : Option (β × Nat) :=
  match d T c with
  | none => none
  | some (x, c1) => some (f x, c1)
section
variable {α β : Type} {d : List Bool → Nat → Option (α × Nat)} {T : List Bool} {c c1 : Nat} {x : α} {f : α → β}
theorem pm_no (h : d T c = none) : pm f d T c = none := by unfold pm; rw [h]
theorem pm_yes (h : d T c = some (x, c1)) : pm f d T c = some (f x, c1) := by unfold pm; rw [h]
theorem pm_inv {y : β} (h : pm f d T c = some (y, c1)) : ∃ x, y = f x ∧ d T c = some (x, c1) := by
  unfold pm at h
  split at h
  · cases h
  · rename_i x c' h1
    cases h
    exact ⟨x, rfl, h1⟩
theorem Cod.map {ok : α → Prop} {en : α → List Bool} (h : Cod ok en d) (f : α → β) (g : β → α) (ok' : β → Prop) (hgf : ∀ x, ok x → g (f x) = x) (hok : ∀ y, ok' y → ok (g y) ∧ f (g y) = y) (hok2 : ∀ x, ok x → ok' (f x)) : Cod ok' (fun y => en (g y)) (pm f d) where
  back := by
    intro T A Z y hy hT
    have := h.back (hok y hy).1 hT
    rw [pm_yes this, (hok y hy).2]
  forth := by
    intro T c y c' hd hc
    obtain ⟨x, rfl, h1⟩ := pm_inv hd
    obtain ⟨o, a, b, t⟩ := h.forth h1 hc
    try dsimp only
    rw [hgf x o]
    exact ⟨hok2 x o, a, b, t⟩
end
/- Numbers, seats, keys, boxes, items, texts. -/
def fitI (q : Nat) (v : Int) : Prop := 0 ≤ v ∧ v < 2 ^ q
def pi (q : Nat) : List Bool → Nat → Option (Int × Nat) := pm (fun n : Nat => (n : Int)) (pn q)
theorem cod_int (q : Nat) : Cod (fitI q) (fun v : Int => bo v.toNat q) (pi q) := by
  refine (cod_nat q).map (fun n : Nat => (n : Int)) (fun v => v.toNat) (fitI q) (fun x _ => Int.toNat_natCast x) (fun y hy => ?_) (fun x hx => ?_)
  · obtain ⟨h0, h1⟩ := hy
    have e : ((y.toNat : Nat) : Int) = y := Int.toNat_of_nonneg h0
    refine ⟨?_, e⟩
    have : ((y.toNat : Nat) : Int) < ((2 ^ q : Nat) : Int) := by rw [e]; simpa using h1
    exact Int.ofNat_lt.1 this
  · refine ⟨by omega, ?_⟩
    have : ((x : Nat) : Int) < ((2 ^ q : Nat) : Int) := Int.ofNat_lt.2 hx
    simpa using this
def eS (s : Int × Int) : List Bool := bo s.1.toNat 8 ++ bo s.2.toNat 6
def pS : List Bool → Nat → Option ((Int × Int) × Nat) := pq (pi 8) (pi 6)
theorem cod_S : Cod (fun s : Int × Int => fitI 8 s.1 ∧ fitI 6 s.2) eS pS := (cod_int 8).seq (cod_int 6)
def eK (k : Int × Int) : List Bool := bo k.1.toNat 16 ++ bo k.2.toNat 8
def gK (k : Int × Int) : Bool := gd k.1 k.2
def pK (T : List Bool) (c : Nat) : Option ((Int × Int) × Nat) :=
  match pn 24 T c with
  | none => none
  | some (v, c1) => if gK ((v / 256 : Nat), (v % 256 : Nat)) then some (((v / 256 : Nat), (v % 256 : Nat)), c1) else none
theorem gK_iff {k : Int × Int} : gK k = true ↔ (1 ≤ k.1 ∧ k.1 ≤ 65535) ∧ 0 ≤ k.2 ∧ k.2 ≤ 255 := by
  simp [gK, gd, and_assoc]
theorem key_bits (b s : Nat) (h : s < 256) : bo (b * 256 + s) 24 = bo b 16 ++ bo s 8 := by
  have h1 := bo_split (b * 256 + s) 16 8
  have e : (b * 256 + s) / 2 ^ 8 = b := by omega
  rw [e] at h1
  have e2 : (b * 256 + s) % 2 ^ 8 = s := by omega
  rw [h1, ← bo_mod (b * 256 + s) 8, e2]
theorem cod_K : Cod (fun k => gK k = true) eK pK where
  back := by
    intro T A Z k hk hT
    have hk' := gK_iff.1 hk
    have e : eK k = bo (k.1.toNat * 256 + k.2.toNat) 24 := (key_bits _ _ (by omega)).symm
    have h := (cod_nat 24).back (T := T) (A := A) (Z := Z) (x := k.1.toNat * 256 + k.2.toNat) (by show _ < _; omega) (by rw [hT, e])
    unfold pK
    rw [h]
    try dsimp only
    have e1 : (((k.1.toNat * 256 + k.2.toNat) / 256 : Nat) : Int) = k.1 := by omega
    have e2 : (((k.1.toNat * 256 + k.2.toNat) % 256 : Nat) : Int) = k.2 := by omega
    rw [e1, e2, if_pos hk, e]
  forth := by
    intro T c k c' h hc
    unfold pK at h
    split at h
    · cases h
    · rename_i v c1 h1
      split at h
      · rename_i hg
        cases h
        obtain ⟨o, a, b, t⟩ := (cod_nat 24).forth h1 hc
        have e : eK (((v / 256 : Nat), (v % 256 : Nat)) : Int × Int) = bo v 24 := by
          unfold eK
          try dsimp only
          rw [Int.toNat_natCast, Int.toNat_natCast, ← key_bits _ _ (by omega)]
          congr 1
          omega
        rw [e]
        exact ⟨hg, a, b, t⟩
      · cases h
def eB (b : (Int × Int) × (Int × Int)) : List Bool := eK b.1 ++ eK b.2
def gB (b : (Int × Int) × (Int × Int)) : Bool := gK b.1 && gK b.2
def pB : List Bool → Nat → Option (((Int × Int) × (Int × Int)) × Nat) := pq pK pK
theorem cod_B : Cod (fun b : (Int × Int) × (Int × Int) => gK b.1 = true ∧ gK b.2 = true) eB pB := cod_K.seq cod_K
def eI (i : (Int × Int) × ((Int × Int) × (Int × Int))) : List Bool := (bo i.1.1.toNat 5 ++ bo i.1.2.toNat 7) ++ eB i.2
def pI : List Bool → Nat → Option (((Int × Int) × ((Int × Int) × (Int × Int))) × Nat) := pq (pq (pi 5) (pi 7)) pB
theorem cod_I : Cod (fun i : (Int × Int) × ((Int × Int) × (Int × Int)) => (fitI 5 i.1.1 ∧ fitI 7 i.1.2) ∧ (gK i.2.1 = true ∧ gK i.2.2 = true)) eI pI := ((cod_int 5).seq (cod_int 7)).seq cod_B
def eX (s : ByteArray) : List Bool := bo s.size 7 ++ tb (bys s)
def pX : List Bool → Nat → Option (ByteArray × Nat) := pm tx (pc 7 (pn 8))
theorem bys_lt (s : ByteArray) : ∀ x ∈ bys s, x < 256 := by
  intro x hx
  simp only [bys, List.mem_map] at hx
  obtain ⟨b, _, rfl⟩ := hx
  exact UInt8.toNat_lt b
theorem cod_X : Cod (fun s : ByteArray => s.size < 2 ^ 7) eX pX := by
  have h := ((cod_nat 8).count 7).map tx bys (fun s : ByteArray => s.size < 2 ^ 7) (fun l hl => bys_tx l (fun x hx => hl.2 x hx)) (fun s hs => ⟨⟨by rw [bys_length]; exact hs, fun x hx => bys_lt s x hx⟩, tx_bys s⟩) (fun l hl => by rw [tx_size]; exact hl.1)
  have e : (fun y => (fun l : List Nat => bo l.length 7 ++ l.flatMap fun v => bo v 8) (bys y)) = eX := by
    funext s
    show bo (bys s).length 7 ++ tb (bys s) = _
    rw [bys_length]; rfl
  rw [e] at h
  exact h
end Go.Proofs.YtpimbpfefhkojaaGreat.Wi
/- Messages on plain data: right ones, their bits, their bytes; there and back; nothing shorter and nothing longer. -/
namespace Go.Proofs.YtpimbpfefhkojaaGreat.Wi
open Go.RowKit
open Bt (bv bo bo_length bv_lt bv_bo bo_bv bo_split bo_mod bv_append tb tb_length tb_append pk pk_tb tb_pk pk_pad pk_lt pk_length tx bys bys_tx tx_bys bys_length tx_size dn bitsF okF bitsF_append pkS pkE)
open Rt (gd)
open Sh (belB)
set_option linter.unusedVariables false
set_option linter.unusedSimpArgs false

structure Msg where
  kd : Int
  rk : Int × (List (Int × Int) × (List (Int × Int) × List ((Int × Int) × ((Int × Int) × (Int × Int)))))
  rq : Int × Int
  rp : (Int × Int) × (Int × (((Int × Int) × (Int × Int)) × (((Int × Int) × (Int × Int)) × ((Int × Int) × (Int × Int)))))
  sd : Int × ((Int × Int) × ByteArray)
def zR : Int × (List (Int × Int) × (List (Int × Int) × List ((Int × Int) × ((Int × Int) × (Int × Int))))) := (0, [], [], [])
def zQ : Int × Int := (0, 0)
def zP : (Int × Int) × (Int × (((Int × Int) × (Int × Int)) × (((Int × Int) × (Int × Int)) × ((Int × Int) × (Int × Int))))) := ((0, 0), 0, ((0, 0), (0, 0)), ((0, 0), (0, 0)), ((0, 0), (0, 0)))
def zD : Int × ((Int × Int) × ByteArray) := (0, (0, 0), tx [])
def zM : Msg := ⟨0, zR, zQ, zP, zD⟩
def mR (r : Int × (List (Int × Int) × (List (Int × Int) × List ((Int × Int) × ((Int × Int) × (Int × Int)))))) : Msg := ⟨1, r, zQ, zP, zD⟩
def mQ (q : Int × Int) : Msg := ⟨2, zR, q, zP, zD⟩
def mP (p : (Int × Int) × (Int × (((Int × Int) × (Int × Int)) × (((Int × Int) × (Int × Int)) × ((Int × Int) × (Int × Int)))))) : Msg := ⟨3, zR, zQ, p, zD⟩
def mD (d : Int × ((Int × Int) × ByteArray)) : Msg := ⟨4, zR, zQ, zP, d⟩
/- Right ones. -/
def gE (e : Int) : Bool := decide (1 ≤ e) && decide (e ≤ 200)
def gW (x : Int) : Bool := decide (0 ≤ x) && decide (x < 256)
def gS (s : Int × Int) : Bool := gW s.1 && (decide (0 ≤ s.2) && decide (s.2 < 64))
def dpr (v w : Int) : Bool := belB v w && decide (w ≠ v)
def gI (i : (Int × Int) × ((Int × Int) × (Int × Int))) : Bool := (decide (0 ≤ i.1.1) && decide (i.1.1 < 21)) && (dpr i.1.1 i.1.2 && gB i.2)
def gR (r : Int × (List (Int × Int) × (List (Int × Int) × List ((Int × Int) × ((Int × Int) × (Int × Int)))))) : Bool :=
  gE r.1 && ((decide (r.2.1.length ≤ 64) && r.2.1.all gS) && ((decide (r.2.2.1.length ≤ 64) && r.2.2.1.all gS) && (decide (r.2.2.2.length ≤ 1536) && r.2.2.2.all gI)))
def gQ (q : Int × Int) : Bool := gW q.1 && gE q.2
def gP (p : (Int × Int) × (Int × (((Int × Int) × (Int × Int)) × (((Int × Int) × (Int × Int)) × ((Int × Int) × (Int × Int)))))) : Bool := gS p.1 && (gE p.2.1 && (gB p.2.2.1 && (gB p.2.2.2.1 && gB p.2.2.2.2)))
def gD (d : Int × ((Int × Int) × ByteArray)) : Bool := gE d.1 && (gK d.2.1 && decide (d.2.2.size ≤ 64))
def nR (r : Int × (List (Int × Int) × (List (Int × Int) × List ((Int × Int) × ((Int × Int) × (Int × Int)))))) : Bool := decide (r.1 = 0) && (decide (r.2.1.length = 0) && (decide (r.2.2.1.length = 0) && decide (r.2.2.2.length = 0)))
theorem nR_iff {r : Int × (List (Int × Int) × (List (Int × Int) × List ((Int × Int) × ((Int × Int) × (Int × Int)))))} : nR r = true ↔ r = zR := by
  obtain ⟨e, l, j, i⟩ := r
  simp [nR, zR, List.length_eq_zero_iff]
def gM (m : Msg) : Bool :=
  if m.kd = 1 then gR m.rk && (decide (m.rq = zQ) && (decide (m.rp = zP) && decide (m.sd = zD)))
  else if m.kd = 2 then nR m.rk && (gQ m.rq && (decide (m.rp = zP) && decide (m.sd = zD)))
  else if m.kd = 3 then nR m.rk && (decide (m.rq = zQ) && (gP m.rp && decide (m.sd = zD)))
  else if m.kd = 4 then nR m.rk && (decide (m.rq = zQ) && (decide (m.rp = zP) && gD m.sd))
  else false
theorem gE_iff {e : Int} : gE e = true ↔ 1 ≤ e ∧ e ≤ 200 := by simp [gE]
theorem gW_iff {x : Int} : gW x = true ↔ 0 ≤ x ∧ x < 256 := by simp [gW]
theorem gS_iff {s : Int × Int} : gS s = true ↔ (0 ≤ s.1 ∧ s.1 < 256) ∧ 0 ≤ s.2 ∧ s.2 < 64 := by simp [gS, gW]
theorem gB_iff {b : (Int × Int) × (Int × Int)} : gB b = true ↔ gK b.1 = true ∧ gK b.2 = true := by simp [gB]
theorem bel_node {v w : Int} (h : belB v w = true) : (0 ≤ v ∧ v < 85) ∧ 0 ≤ w ∧ w < 85 := by
  simp only [belB, Sh.nodeB, Bool.and_eq_true, decide_eq_true_eq] at h
  omega
theorem gI_iff {i : (Int × Int) × ((Int × Int) × (Int × Int))} : gI i = true ↔ ((0 ≤ i.1.1 ∧ i.1.1 < 21) ∧ dpr i.1.1 i.1.2 = true ∧ gK i.2.1 = true ∧ gK i.2.2 = true) := by simp [gI, gB]
theorem gI_fit {i : (Int × Int) × ((Int × Int) × (Int × Int))} (h : gI i = true) : (fitI 5 i.1.1 ∧ fitI 7 i.1.2) ∧ (gK i.2.1 = true ∧ gK i.2.2 = true) := by
  obtain ⟨⟨h1, h2⟩, h3, h4, h5⟩ := gI_iff.1 h
  simp only [dpr, Bool.and_eq_true] at h3
  have := bel_node h3.1
  exact ⟨⟨⟨h1, by show _ < (32 : Int); omega⟩, ⟨by omega, by show _ < (128 : Int); omega⟩⟩, h4, h5⟩
theorem gS_fit {s : Int × Int} (h : gS s = true) : fitI 8 s.1 ∧ fitI 6 s.2 := by
  have := gS_iff.1 h
  exact ⟨⟨by omega, by show _ < (256 : Int); omega⟩, ⟨by omega, by show _ < (64 : Int); omega⟩⟩
theorem gE_fit {e : Int} (h : gE e = true) : fitI 8 e := by
  have := gE_iff.1 h
  exact ⟨by omega, by show _ < (256 : Int); omega⟩
theorem gW_fit {e : Int} (h : gW e = true) : fitI 8 e := by
  have := gW_iff.1 h
  exact ⟨by omega, by show _ < (256 : Int); omega⟩
/- The parts' bits. -/
def eL (l : List (Int × Int)) : List Bool := bo l.length 7 ++ l.flatMap eS
def eR (r : Int × (List (Int × Int) × (List (Int × Int) × List ((Int × Int) × ((Int × Int) × (Int × Int)))))) : List Bool := bo r.1.toNat 8 ++ (eL r.2.1 ++ (eL r.2.2.1 ++ (bo r.2.2.2.length 11 ++ r.2.2.2.flatMap eI)))
def eQ (q : Int × Int) : List Bool := bo q.1.toNat 8 ++ bo q.2.toNat 8
def eP (p : (Int × Int) × (Int × (((Int × Int) × (Int × Int)) × (((Int × Int) × (Int × Int)) × ((Int × Int) × (Int × Int)))))) : List Bool := eS p.1 ++ (bo p.2.1.toNat 8 ++ (eB p.2.2.1 ++ (eB p.2.2.2.1 ++ eB p.2.2.2.2)))
def eD (d : Int × ((Int × Int) × ByteArray)) : List Bool := bo d.1.toNat 8 ++ (eK d.2.1 ++ eX d.2.2)
def pL : List Bool → Nat → Option (List (Int × Int) × Nat) := pc 7 pS
def pIs : List Bool → Nat → Option (List ((Int × Int) × ((Int × Int) × (Int × Int))) × Nat) := pc 11 pI
def pR : List Bool → Nat → Option ((Int × (List (Int × Int) × (List (Int × Int) × List ((Int × Int) × ((Int × Int) × (Int × Int)))))) × Nat) := pq (pi 8) (pq pL (pq pL pIs))
def pQ : List Bool → Nat → Option ((Int × Int) × Nat) := pq (pi 8) (pi 8)
def pP : List Bool → Nat → Option (((Int × Int) × (Int × (((Int × Int) × (Int × Int)) × (((Int × Int) × (Int × Int)) × ((Int × Int) × (Int × Int)))))) × Nat) := pq pS (pq (pi 8) (pq pB (pq pB pB)))
def pD : List Bool → Nat → Option ((Int × ((Int × Int) × ByteArray)) × Nat) := pq (pi 8) (pq pK pX)
def okR (r : Int × (List (Int × Int) × (List (Int × Int) × List ((Int × Int) × ((Int × Int) × (Int × Int)))))) : Prop :=
  fitI 8 r.1 ∧ ((r.2.1.length < 2 ^ 7 ∧ ∀ x ∈ r.2.1, fitI 8 x.1 ∧ fitI 6 x.2) ∧ ((r.2.2.1.length < 2 ^ 7 ∧ ∀ x ∈ r.2.2.1, fitI 8 x.1 ∧ fitI 6 x.2) ∧ (r.2.2.2.length < 2 ^ 11 ∧ ∀ i ∈ r.2.2.2, (fitI 5 i.1.1 ∧ fitI 7 i.1.2) ∧ (gK i.2.1 = true ∧ gK i.2.2 = true))))
def okQ (q : Int × Int) : Prop := fitI 8 q.1 ∧ fitI 8 q.2
def okP (p : (Int × Int) × (Int × (((Int × Int) × (Int × Int)) × (((Int × Int) × (Int × Int)) × ((Int × Int) × (Int × Int)))))) : Prop :=
  (fitI 8 p.1.1 ∧ fitI 6 p.1.2) ∧ (fitI 8 p.2.1 ∧ ((gK p.2.2.1.1 = true ∧ gK p.2.2.1.2 = true) ∧ ((gK p.2.2.2.1.1 = true ∧ gK p.2.2.2.1.2 = true) ∧ (gK p.2.2.2.2.1 = true ∧ gK p.2.2.2.2.2 = true))))
def okT (d : Int × ((Int × Int) × ByteArray)) : Prop := fitI 8 d.1 ∧ (gK d.2.1 = true ∧ d.2.2.size < 2 ^ 7)
theorem cod_R : Cod okR eR pR := (cod_int 8).seq ((cod_S.count 7).seq ((cod_S.count 7).seq (cod_I.count 11)))
theorem cod_Q : Cod okQ eQ pQ := (cod_int 8).seq (cod_int 8)
theorem cod_P : Cod okP eP pP := cod_S.seq ((cod_int 8).seq (cod_B.seq (cod_B.seq cod_B)))
theorem cod_D : Cod okT eD pD := (cod_int 8).seq (cod_K.seq cod_X)
/- The message's. -/
def eM (m : Msg) : List Bool := bo (m.kd - 1).toNat 2 ++ (if m.kd = 1 then eR m.rk else if m.kd = 2 then eQ m.rq else if m.kd = 3 then eP m.rp else eD m.sd)
def pM (T : List Bool) (c : Nat) : Option (Msg × Nat) :=
  match pn 2 T c with
  | none => none
  | some (v, c1) => if v = 0 then pm mR pR T c1 else if v = 1 then pm mQ pQ T c1 else if v = 2 then pm mP pP T c1 else pm mD pD T c1
def okM (m : Msg) : Prop := (okR m.rk ∧ m = mR m.rk) ∨ (okQ m.rq ∧ m = mQ m.rq) ∨ (okP m.rp ∧ m = mP m.rp) ∨ (okT m.sd ∧ m = mD m.sd)
theorem eM_R (r) : eM (mR r) = bo 0 2 ++ eR r := rfl
theorem eM_Q (r) : eM (mQ r) = bo 1 2 ++ eQ r := rfl
theorem eM_P (r) : eM (mP r) = bo 2 2 ++ eP r := rfl
theorem eM_D (r) : eM (mD r) = bo 3 2 ++ eD r := rfl
theorem part_back {α : Type} {ok : α → Prop} {en : α → List Bool} {p : List Bool → Nat → Option (α × Nat)} (h : Cod ok en p) {x : α} (hx : ok x) {v : Nat} (hv : v < 4) {T A Z : List Bool} (hT : T = A ++ ((bo v 2 ++ en x) ++ Z)) :
    pn 2 T A.length = some (v, A.length + 2) ∧ p T (A.length + 2) = some (x, A.length + (bo v 2 ++ en x).length) := by
  have e1 := (cod_nat 2).back (T := T) (A := A) (Z := en x ++ Z) hv (by rw [hT]; simp)
  have e2 := h.back (T := T) (A := A ++ bo v 2) (Z := Z) hx (by rw [hT]; simp)
  simp only [List.length_append, bo_length] at e1 e2 ⊢
  exact ⟨e1, by rw [e2, Nat.add_assoc]⟩
theorem part_forth {α : Type} {ok : α → Prop} {en : α → List Bool} {p : List Bool → Nat → Option (α × Nat)} (h : Cod ok en p) {x : α} {v c c1 c' : Nat} {T : List Bool} (h1 : pn 2 T c = some (v, c1)) (h2 : p T c1 = some (x, c')) (hc : c ≤ T.length) :
    ok x ∧ c' = c + (bo v 2 ++ en x).length ∧ c' ≤ T.length ∧ (T.drop c).take (bo v 2 ++ en x).length = bo v 2 ++ en x := by
  obtain ⟨o1, a1, b1, t1⟩ := (cod_nat 2).forth h1 hc
  obtain ⟨o2, a2, b2, t2⟩ := h.forth h2 b1
  try dsimp only at a1 t1
  refine ⟨o2, by rw [a2, a1, List.length_append, Nat.add_assoc], b2, ?_⟩
  rw [List.length_append, take_two, t1, List.drop_drop, ← a1, t2]
theorem cod_M : Cod okM eM pM where
  back := by
    intro T A Z m hm hT
    rcases hm with ⟨o, e⟩ | ⟨o, e⟩ | ⟨o, e⟩ | ⟨o, e⟩ <;> rw [e] at hT ⊢ <;> unfold pM
    · obtain ⟨h1, h2⟩ := part_back cod_R o (v := 0) (by decide) hT
      rw [h1]; exact pm_yes h2
    · obtain ⟨h1, h2⟩ := part_back cod_Q o (v := 1) (by decide) hT
      rw [h1]; exact pm_yes h2
    · obtain ⟨h1, h2⟩ := part_back cod_P o (v := 2) (by decide) hT
      rw [h1]; exact pm_yes h2
    · obtain ⟨h1, h2⟩ := part_back cod_D o (v := 3) (by decide) hT
      rw [h1]; exact pm_yes h2
  forth := by
    intro T c m c' h hc
    unfold pM at h
    split at h
    · cases h
    · rename_i v c1 h1
      have hv := pn_lt h1
      by_cases v0 : v = 0
      · subst v0
        rw [if_pos rfl] at h
        obtain ⟨x, rfl, h2⟩ := pm_inv h
        obtain ⟨o, r⟩ := part_forth cod_R h1 h2 hc
        exact ⟨.inl ⟨o, rfl⟩, r⟩
      · rw [if_neg v0] at h
        by_cases v1 : v = 1
        · subst v1
          rw [if_pos rfl] at h
          obtain ⟨x, rfl, h2⟩ := pm_inv h
          obtain ⟨o, r⟩ := part_forth cod_Q h1 h2 hc
          exact ⟨.inr (.inl ⟨o, rfl⟩), r⟩
        · rw [if_neg v1] at h
          by_cases v2 : v = 2
          · subst v2
            rw [if_pos rfl] at h
            obtain ⟨x, rfl, h2⟩ := pm_inv h
            obtain ⟨o, r⟩ := part_forth cod_P h1 h2 hc
            exact ⟨.inr (.inr (.inl ⟨o, rfl⟩)), r⟩
          · rw [if_neg v2] at h
            obtain rfl : v = 3 := by omega
            obtain ⟨x, rfl, h2⟩ := pm_inv h
            obtain ⟨o, r⟩ := part_forth cod_D h1 h2 hc
            exact ⟨.inr (.inr (.inr ⟨o, rfl⟩)), r⟩
theorem gR_ok {r : Int × (List (Int × Int) × (List (Int × Int) × List ((Int × Int) × ((Int × Int) × (Int × Int)))))} (h : gR r = true) : okR r := by
  simp only [gR, Bool.and_eq_true, decide_eq_true_eq, List.all_eq_true] at h
  obtain ⟨h1, ⟨h2, h3⟩, ⟨h4, h5⟩, h6, h7⟩ := h
  exact ⟨gE_fit h1, ⟨by omega, fun x hx => gS_fit (h3 x hx)⟩, ⟨by omega, fun x hx => gS_fit (h5 x hx)⟩, by omega, fun x hx => gI_fit (h7 x hx)⟩
theorem gM_cases {m : Msg} (h : gM m = true) : (gR m.rk = true ∧ m = mR m.rk) ∨ (gQ m.rq = true ∧ m = mQ m.rq) ∨ (gP m.rp = true ∧ m = mP m.rp) ∨ (gD m.sd = true ∧ m = mD m.sd) := by
  obtain ⟨k, r, q, p, d⟩ := m
  unfold gM at h
  try dsimp only at h ⊢
  split at h
  · rename_i hk
    simp only [Bool.and_eq_true, decide_eq_true_eq, nR_iff] at h
    obtain ⟨a, rfl, rfl, rfl⟩ := h
    exact .inl ⟨a, by rw [hk]; rfl⟩
  · split at h
    · rename_i hk
      simp only [Bool.and_eq_true, decide_eq_true_eq, nR_iff] at h
      obtain ⟨rfl, a, rfl, rfl⟩ := h
      exact .inr (.inl ⟨a, by rw [hk]; rfl⟩)
    · split at h
      · rename_i hk
        simp only [Bool.and_eq_true, decide_eq_true_eq, nR_iff] at h
        obtain ⟨rfl, rfl, a, rfl⟩ := h
        exact .inr (.inr (.inl ⟨a, by rw [hk]; rfl⟩))
      · split at h
        · rename_i hk
          simp only [Bool.and_eq_true, decide_eq_true_eq, nR_iff] at h
          obtain ⟨rfl, rfl, rfl, a⟩ := h
          exact .inr (.inr (.inr ⟨a, by rw [hk]; rfl⟩))
        · cases h
theorem gM_ok {m : Msg} (h : gM m = true) : okM m := by
  rcases gM_cases h with ⟨a, e⟩ | ⟨a, e⟩ | ⟨a, e⟩ | ⟨a, e⟩
  · exact .inl ⟨gR_ok a, e⟩
  · simp only [gQ, Bool.and_eq_true] at a
    exact .inr (.inl ⟨⟨gW_fit a.1, gE_fit a.2⟩, e⟩)
  · simp only [gP, Bool.and_eq_true] at a
    exact .inr (.inr (.inl ⟨⟨gS_fit a.1, gE_fit a.2.1, gB_iff.1 a.2.2.1, gB_iff.1 a.2.2.2.1, gB_iff.1 a.2.2.2.2⟩, e⟩))
  · simp only [gD, Bool.and_eq_true, decide_eq_true_eq] at a
    exact .inr (.inr (.inr ⟨⟨gE_fit a.1, a.2.1, by omega⟩, e⟩))
/- The document's reader: where bits lack, noughts are read. -/
def Sim {α : Type} (p : List Bool → Nat → Option (α × Nat)) (t : List Bool → Nat → α × Nat) : Prop := ∀ {T : List Bool} {c : Nat} {x : α} {c' : Nat}, p T c = some (x, c') → t T c = (x, c')
def tn (q : Nat) (T : List Bool) (c : Nat) : Nat × Nat := if c + q ≤ T.length then (bv ((T.drop c).take q), c + q) else (0, c)
def ti (q : Nat) (T : List Bool) (c : Nat) : Int × Nat := (((tn q T c).1 : Int), (tn q T c).2)
def tq {α β : Type} (d : List Bool → Nat → α × Nat) (e : List Bool → Nat → β × Nat) (T : List Bool) (c : Nat) : (α × β) × Nat := (((d T c).1, (e T (d T c).2).1), (e T (d T c).2).2)
def tl {α : Type} (d : List Bool → Nat → α × Nat) (T : List Bool) (c : Nat) : Nat → List α × Nat
  | 0 => ([], c)
  | n + 1 => ((tl d T c n).1 ++ [(d T (tl d T c n).2).1], (d T (tl d T c n).2).2)
def tc {α : Type} (q : Nat) (d : List Bool → Nat → α × Nat) (T : List Bool) (c : Nat) : List α × Nat := tl d T (tn q T c).2 (tn q T c).1
def tK : List Bool → Nat → (Int × Int) × Nat := tq (ti 16) (ti 8)
def tS : List Bool → Nat → (Int × Int) × Nat := tq (ti 8) (ti 6)
def tB : List Bool → Nat → ((Int × Int) × (Int × Int)) × Nat := tq tK tK
def tI : List Bool → Nat → ((Int × Int) × ((Int × Int) × (Int × Int))) × Nat := tq (tq (ti 5) (ti 7)) tB
def tX (T : List Bool) (c : Nat) : ByteArray × Nat := (tx (tc 7 (tn 8) T c).1, (tc 7 (tn 8) T c).2)
def tR : List Bool → Nat → (Int × (List (Int × Int) × (List (Int × Int) × List ((Int × Int) × ((Int × Int) × (Int × Int)))))) × Nat := tq (ti 8) (tq (tc 7 tS) (tq (tc 7 tS) (tc 11 tI)))
def tQ : List Bool → Nat → (Int × Int) × Nat := tq (ti 8) (ti 8)
def tP : List Bool → Nat → ((Int × Int) × (Int × (((Int × Int) × (Int × Int)) × (((Int × Int) × (Int × Int)) × ((Int × Int) × (Int × Int)))))) × Nat := tq tS (tq (ti 8) (tq tB (tq tB tB)))
def tD : List Bool → Nat → (Int × ((Int × Int) × ByteArray)) × Nat := tq (ti 8) (tq tK tX)
def tM (T : List Bool) : Msg :=
  if (tn 2 T 0).1 = 0 then mR (tR T (tn 2 T 0).2).1 else if (tn 2 T 0).1 = 1 then mQ (tQ T (tn 2 T 0).2).1 else if (tn 2 T 0).1 = 2 then mP (tP T (tn 2 T 0).2).1 else mD (tD T (tn 2 T 0).2).1
theorem tn_lt (q : Nat) (T : List Bool) (c : Nat) : (tn q T c).1 < 2 ^ q := by
  unfold tn
  split
  · refine Nat.lt_of_lt_of_le (bv_lt _) (Nat.pow_le_pow_right (by decide) ?_)
    simp; omega
  · exact Nat.two_pow_pos q
theorem tn_le {q : Nat} {T : List Bool} {c : Nat} (h : c ≤ T.length) : (tn q T c).2 ≤ T.length := by
  unfold tn
  split
  · assumption
  · exact h
theorem sim_n (q : Nat) : Sim (pn q) (tn q) := by
  intro T c x c' h
  unfold pn at h
  unfold tn
  split at h
  · rename_i hq
    cases h
    rw [if_pos hq]
  · cases h
theorem sim_i (q : Nat) : Sim (pi q) (ti q) := by
  intro T c x c' h
  obtain ⟨n, rfl, h1⟩ := pm_inv h
  unfold ti
  rw [sim_n q h1]
section
variable {α β : Type} {d : List Bool → Nat → Option (α × Nat)} {e : List Bool → Nat → Option (β × Nat)} {d' : List Bool → Nat → α × Nat} {e' : List Bool → Nat → β × Nat}
theorem sim_q (h1 : Sim d d') (h2 : Sim e e') : Sim (pq d e) (tq d' e') := by
  intro T c x c' h
  obtain ⟨c1, k1, k2⟩ := pq_inv h
  unfold tq
  rw [h1 k1]
  try dsimp only
  rw [h2 k2]
theorem sim_l (h1 : Sim d d') {T : List Bool} {c : Nat} : ∀ {n : Nat} {l : List α} {c' : Nat}, pl d T c n = some (l, c') → tl d' T c n = (l, c')
  | 0, l, c', h => by cases h; rfl
  | n + 1, l, c', h => by
    obtain ⟨l', x, c1, rfl, k1, k2⟩ := pl_inv h
    rw [tl, sim_l h1 k1]
    try dsimp only
    rw [h1 k2]
theorem sim_c (q : Nat) (h1 : Sim d d') : Sim (pc q d) (tc q d') := by
  intro T c x c' h
  unfold pc at h
  split at h
  · cases h
  · rename_i n c1 k1
    unfold tc
    rw [sim_n q k1]
    exact sim_l h1 h
end
theorem sim_K : Sim pK tK := by
  intro T c x c' h
  unfold pK at h
  split at h
  · cases h
  · rename_i v c1 k
    split at h
    · cases h
      unfold pn at k
      split at k
      · rename_i hq
        simp only [Option.some.injEq, Prod.mk.injEq] at k
        obtain ⟨k, rfl⟩ := k
        have e : (T.drop c).take 24 = (T.drop c).take 16 ++ (T.drop (c + 16)).take 8 := by
          rw [show (24 : Nat) = 16 + 8 from rfl, take_two, List.drop_drop]
        have l8 : ((T.drop (c + 16)).take 8).length = 8 := by simp; omega
        have hlt := bv_lt ((T.drop (c + 16)).take 8)
        rw [l8] at hlt
        have hv : v = bv ((T.drop c).take 16) * 256 + bv ((T.drop (c + 16)).take 8) := by rw [← k, e, bv_append, l8]
        unfold tK tq ti tn
        rw [if_pos (show c + 16 ≤ T.length by omega)]
        try dsimp only
        rw [if_pos (show c + 16 + 8 ≤ T.length by omega)]
        try dsimp only
        have e1 : v / 256 = bv ((T.drop c).take 16) := by omega
        have e2 : v % 256 = bv ((T.drop (c + 16)).take 8) := by omega
        rw [e1, e2]
      · cases k
    · cases h
theorem sim_S : Sim pS tS := sim_q (sim_i 8) (sim_i 6)
theorem sim_B : Sim pB tB := sim_q sim_K sim_K
theorem sim_I : Sim pI tI := sim_q (sim_q (sim_i 5) (sim_i 7)) sim_B
theorem sim_X : Sim pX tX := by
  intro T c x c' h
  obtain ⟨l, rfl, k⟩ := pm_inv h
  unfold tX
  rw [sim_c 7 (sim_n 8) k]
theorem sim_R : Sim pR tR := sim_q (sim_i 8) (sim_q (sim_c 7 sim_S) (sim_q (sim_c 7 sim_S) (sim_c 11 sim_I)))
theorem sim_Q : Sim pQ tQ := sim_q (sim_i 8) (sim_i 8)
theorem sim_P : Sim pP tP := sim_q sim_S (sim_q (sim_i 8) (sim_q sim_B (sim_q sim_B sim_B)))
theorem sim_D : Sim pD tD := sim_q (sim_i 8) (sim_q sim_K sim_X)
theorem sim_M {T : List Bool} {m : Msg} {c : Nat} (h : pM T 0 = some (m, c)) : tM T = m := by
  unfold pM at h
  split at h
  · cases h
  · rename_i v c1 h1
    have hs := sim_n 2 h1
    unfold tM
    rw [hs]
    try dsimp only
    by_cases v0 : v = 0
    · rw [if_pos v0] at h ⊢
      obtain ⟨x, rfl, h2⟩ := pm_inv h
      rw [sim_R h2]
    · rw [if_neg v0] at h ⊢
      by_cases v1 : v = 1
      · rw [if_pos v1] at h ⊢
        obtain ⟨x, rfl, h2⟩ := pm_inv h
        rw [sim_Q h2]
      · rw [if_neg v1] at h ⊢
        by_cases v2 : v = 2
        · rw [if_pos v2] at h ⊢
          obtain ⟨x, rfl, h2⟩ := pm_inv h
          rw [sim_P h2]
        · rw [if_neg v2] at h ⊢
          obtain ⟨x, rfl, h2⟩ := pm_inv h
          rw [sim_D h2]
/- What is written, what is taken. -/
def enS (m : Msg) : ByteArray := if gM m then tx (pk (eM m)) else tx []
def enE (m : Msg) : Int := if gM m then 0 else 13
def okD (T : List Bool) : Bool := match pM T 0 with
  | none => false
  | some (m, c) => dn T c && gM m
def dcM (T : List Bool) : Msg := if okD T then tM T else zM
def dcE (T : List Bool) : Int := if okD T then 0 else 13
theorem okD_some {T : List Bool} {m : Msg} {c : Nat} (h : pM T 0 = some (m, c)) : okD T = (dn T c && gM m) := by unfold okD; rw [h]
theorem okD_none {T : List Bool} (h : pM T 0 = none) : okD T = false := by unfold okD; rw [h]
theorem dn_zeros (l : List Bool) (k : Nat) : dn (l ++ List.replicate k false) l.length = decide (k < 8) := by
  unfold dn
  rw [List.drop_left' rfl, (Bt.bv_zero_iff (List.replicate k false)).2 (by simp)]
  simp
theorem en_tb {m : Msg} (h : gM m = true) : tb (bys (enS m)) = eM m ++ List.replicate (8 * (((eM m).length + 7) / 8) - (eM m).length) false := by
  unfold enS
  rw [h, if_pos rfl, bys_tx _ (pk_lt _), tb_pk]
theorem en_size {m : Msg} (h : gM m = true) : (enS m).size = ((eM m).length + 7) / 8 := by
  unfold enS
  rw [h, if_pos rfl, tx_size, pk_length]
theorem en_read {m : Msg} (h : gM m = true) {T X : List Bool} (hT : T = tb (bys (enS m)) ++ X) : pM T 0 = some (m, (eM m).length) := by
  have := cod_M.back (T := T) (A := []) (Z := List.replicate (8 * (((eM m).length + 7) / 8) - (eM m).length) false ++ X) (gM_ok h) (by rw [hT, en_tb h]; simp)
  simpa using this
theorem en_back {m : Msg} (h : gM m = true) : okD (tb (bys (enS m))) = true ∧ tM (tb (bys (enS m))) = m := by
  have hp := en_read h (T := tb (bys (enS m))) (X := []) (by simp)
  refine ⟨?_, sim_M hp⟩
  rw [okD_some hp, h, en_tb h, dn_zeros]
  simp; omega
theorem okD_text {s : ByteArray} (h : okD (tb (bys s)) = true) : gM (tM (tb (bys s))) = true ∧ enS (tM (tb (bys s))) = s := by
  obtain ⟨T, hT⟩ : ∃ T, tb (bys s) = T := ⟨_, rfl⟩
  rw [hT] at h ⊢
  cases hp : pM T 0 with
  | none => rw [okD_none hp] at h; cases h
  | some x =>
    obtain ⟨m, c⟩ := x
    rw [okD_some hp, Bool.and_eq_true] at h
    obtain ⟨o, a, b, t⟩ := cod_M.forth hp (Nat.zero_le _)
    rw [sim_M hp]
    refine ⟨h.2, ?_⟩
    rw [Nat.zero_add] at a
    rw [List.drop_zero] at t
    have hd := h.1
    rw [a] at hd
    simp only [dn, Bool.and_eq_true, decide_eq_true_eq] at hd
    have hz := (Bt.bv_zero_iff _).1 hd.2
    have hTT : T = eM m ++ List.replicate (T.length - (eM m).length) false := by
      conv => lhs; rw [← List.take_append_drop (eM m).length T, t]
      conv => lhs; rw [hz, List.length_drop]
    have hTl : T.length = 8 * s.size := by rw [← hT, tb_length, bys_length]
    have hp2 : pk T = pk (eM m) := by
      conv => lhs; rw [hTT]
      exact pk_pad _ _ (by omega)
    unfold enS
    rw [h.2, if_pos rfl, ← hp2, ← hT, pk_tb _ (bys_lt s), tx_bys]
theorem okD_doc (s : ByteArray) : okD (tb (bys s)) = (gM (tM (tb (bys s))) && decide (enS (tM (tb (bys s))) = s)) := by
  rw [Bool.eq_iff_iff, Bool.and_eq_true, decide_eq_true_eq]
  constructor
  · exact okD_text
  · rintro ⟨h1, h2⟩
    have := (en_back h1).1
    rw [h2] at this
    exact this
theorem bys_app (a b : ByteArray) : bys (a ++ b) = bys a ++ bys b := by
  simp [bys, ByteArray.data_append]
theorem en_pre {m m' : Msg} (h : gM m = true) (h' : gM m' = true) {z : ByteArray} (he : enS m = enS m' ++ z) : z.size = 0 := by
  have e : tb (bys (enS m)) = tb (bys (enS m')) ++ tb (bys z) := by rw [he, bys_app, tb_append]
  have h1 := en_read h (T := tb (bys (enS m))) (X := []) (by simp)
  have h2 := en_read h' e
  rw [h1] at h2
  simp only [Option.some.injEq, Prod.mk.injEq] at h2
  have hs := congrArg ByteArray.size he
  rw [ByteArray.size_append, h2.1] at hs
  omega
theorem en_less {m : Msg} (h : gM m = true) {s z : ByteArray} (he : enS m = s ++ z) (hz : z.size ≠ 0) : okD (tb (bys s)) = false := by
  rw [Bool.eq_false_iff]
  intro ho
  obtain ⟨g, e⟩ := okD_text ho
  exact hz (en_pre h g (z := z) (by rw [e]; exact he))
theorem en_more {m : Msg} (h : gM m = true) {z : ByteArray} (hz : z.size ≠ 0) : okD (tb (bys (enS m ++ z))) = false := by
  rw [Bool.eq_false_iff]
  intro ho
  obtain ⟨g, e⟩ := okD_text ho
  exact hz (en_pre g h (z := z) e)
theorem en_inj {a b : Msg} (ha : gM a = true) (hb : gM b = true) (h : enS a = enS b) : a = b := by
  have h1 := (en_back ha).2
  have h2 := (en_back hb).2
  rw [h] at h1
  exact h1.symm.trans h2
/- A message's fields. -/
def fS (s : Int × Int) : List (Nat × Int) := [(s.1.toNat, 8), (s.2.toNat, 6)]
def fK (k : Int × Int) : List (Nat × Int) := [(k.1.toNat, 16), (k.2.toNat, 8)]
def fB (b : (Int × Int) × (Int × Int)) : List (Nat × Int) := fK b.1 ++ fK b.2
def fI (i : (Int × Int) × ((Int × Int) × (Int × Int))) : List (Nat × Int) := [(i.1.1.toNat, 5), (i.1.2.toNat, 7)] ++ fB i.2
def fL (l : List (Int × Int)) : List (Nat × Int) := [(l.length, 7)] ++ l.flatMap fS
def fR (r : Int × (List (Int × Int) × (List (Int × Int) × List ((Int × Int) × ((Int × Int) × (Int × Int)))))) : List (Nat × Int) := [(r.1.toNat, 8)] ++ (fL r.2.1 ++ (fL r.2.2.1 ++ ([(r.2.2.2.length, 11)] ++ r.2.2.2.flatMap fI)))
def fQ (q : Int × Int) : List (Nat × Int) := [(q.1.toNat, 8), (q.2.toNat, 8)]
def fP (p : (Int × Int) × (Int × (((Int × Int) × (Int × Int)) × (((Int × Int) × (Int × Int)) × ((Int × Int) × (Int × Int)))))) : List (Nat × Int) := fS p.1 ++ ([(p.2.1.toNat, 8)] ++ (fB p.2.2.1 ++ (fB p.2.2.2.1 ++ fB p.2.2.2.2)))
def fX (s : ByteArray) : List (Nat × Int) := [(s.size, 7)] ++ (bys s).map fun n => (n, 8)
def fD (d : Int × ((Int × Int) × ByteArray)) : List (Nat × Int) := [(d.1.toNat, 8)] ++ (fK d.2.1 ++ fX d.2.2)
def fM (m : Msg) : List (Nat × Int) := [((m.kd - 1).toNat, 2)] ++ (if m.kd = 1 then fR m.rk else if m.kd = 2 then fQ m.rq else if m.kd = 3 then fP m.rp else fD m.sd)
theorem bits_one (v : Nat) (q : Nat) : bitsF [(v, (q : Int))] = bo v q := by simp [bitsF]
theorem bits_flat {α : Type} (f : α → List (Nat × Int)) (e : α → List Bool) (h : ∀ x, bitsF (f x) = e x) : ∀ l : List α, bitsF (l.flatMap f) = l.flatMap e
  | [] => rfl
  | x :: l => by rw [List.flatMap_cons, List.flatMap_cons, bitsF_append, h, bits_flat f e h l]
theorem bits_S (s) : bitsF (fS s) = eS s := by simp [bitsF, fS, eS]
theorem bits_K (s) : bitsF (fK s) = eK s := by simp [bitsF, fK, eK]
theorem bits_B (s) : bitsF (fB s) = eB s := by unfold fB eB; rw [bitsF_append, bits_K, bits_K]
theorem bits_I (s) : bitsF (fI s) = eI s := by unfold fI eI; rw [bitsF_append, bits_B]; simp [bitsF]
theorem bits_L (s) : bitsF (fL s) = eL s := by unfold fL eL; rw [bitsF_append, bits_flat fS eS bits_S]; simp [bitsF]
theorem bits_R (r) : bitsF (fR r) = eR r := by unfold fR eR; rw [bitsF_append, bitsF_append, bitsF_append, bitsF_append, bits_L, bits_L, bits_flat fI eI bits_I]; simp [bitsF]
theorem bits_Q (r) : bitsF (fQ r) = eQ r := by simp [bitsF, fQ, eQ]
theorem bits_P (r) : bitsF (fP r) = eP r := by unfold fP eP; rw [bitsF_append, bitsF_append, bitsF_append, bitsF_append, bits_S, bits_B, bits_B, bits_B]; simp [bitsF]
theorem bits_X (s) : bitsF (fX s) = eX s := by
  unfold fX eX
  rw [bitsF_append]
  have e : bitsF ((bys s).map fun n => (n, (8 : Int))) = tb (bys s) := by simp [bitsF, tb, List.flatMap_map]
  rw [e]; simp [bitsF]
theorem bits_D (r) : bitsF (fD r) = eD r := by unfold fD eD; rw [bitsF_append, bitsF_append, bits_K, bits_X]; simp [bitsF]
theorem bits_M (m : Msg) : bitsF (fM m) = eM m := by
  unfold fM eM
  rw [bitsF_append]
  have e : bitsF [((m.kd - 1).toNat, (2 : Int))] = bo (m.kd - 1).toNat 2 := by simp [bitsF]
  rw [e]
  congr 1
  split
  · exact bits_R _
  · split
    · exact bits_Q _
    · split
      · exact bits_P _
      · exact bits_D _
/- All of them are right. -/
theorem okF_nat {v q : Nat} (h1 : 1 ≤ q) (h2 : q ≤ 64) (h3 : v < 2 ^ q) : okF (v, (q : Int)) = true := by
  unfold okF Bt.gw
  simp
  exact ⟨⟨by omega, by omega⟩, h3⟩
theorem okF_fit {v : Int} {q : Nat} (h1 : 1 ≤ q) (h2 : q ≤ 64) (h : fitI q v) : okF (v.toNat, (q : Int)) = true := by
  obtain ⟨a, b⟩ := h
  refine okF_nat h1 h2 ?_
  have e : ((v.toNat : Nat) : Int) = v := Int.toNat_of_nonneg a
  have : ((v.toNat : Nat) : Int) < ((2 ^ q : Nat) : Int) := by rw [e]; simpa using b
  exact Int.ofNat_lt.1 this
theorem all_S {s : Int × Int} (h : fitI 8 s.1 ∧ fitI 6 s.2) : ∀ x ∈ fS s, okF x = true := by
  intro x hx
  simp only [fS, List.mem_cons, List.not_mem_nil, or_false] at hx
  rcases hx with rfl | rfl
  · exact okF_fit (q := 8) (by decide) (by decide) h.1
  · exact okF_fit (q := 6) (by decide) (by decide) h.2
theorem all_K {k : Int × Int} (h : gK k = true) : ∀ x ∈ fK k, okF x = true := by
  have := gK_iff.1 h
  intro x hx
  simp only [fK, List.mem_cons, List.not_mem_nil, or_false] at hx
  rcases hx with rfl | rfl
  · exact okF_fit (q := 16) (by decide) (by decide) ⟨by omega, by show _ < (65536 : Int); omega⟩
  · exact okF_fit (q := 8) (by decide) (by decide) ⟨by omega, by show _ < (256 : Int); omega⟩
theorem all_app {a b : List (Nat × Int)} (h1 : ∀ x ∈ a, okF x = true) (h2 : ∀ x ∈ b, okF x = true) : ∀ x ∈ a ++ b, okF x = true := by
  intro x hx
  rcases List.mem_append.1 hx with h | h
  · exact h1 x h
  · exact h2 x h
theorem all_B {b : (Int × Int) × (Int × Int)} (h : gK b.1 = true ∧ gK b.2 = true) : ∀ x ∈ fB b, okF x = true := all_app (all_K h.1) (all_K h.2)
theorem all_one {v q : Nat} (h1 : 1 ≤ q) (h2 : q ≤ 64) (h3 : v < 2 ^ q) : ∀ x ∈ [(v, (q : Int))], okF x = true := by
  intro x hx
  simp only [List.mem_cons, List.not_mem_nil, or_false] at hx
  subst hx
  exact okF_nat h1 h2 h3
theorem all_fit {v : Int} {q : Nat} (h1 : 1 ≤ q) (h2 : q ≤ 64) (h : fitI q v) : ∀ x ∈ [(v.toNat, (q : Int))], okF x = true := by
  intro x hx
  simp only [List.mem_cons, List.not_mem_nil, or_false] at hx
  subst hx
  exact okF_fit h1 h2 h
theorem all_flat {α : Type} {f : α → List (Nat × Int)} {l : List α} (h : ∀ y ∈ l, ∀ x ∈ f y, okF x = true) : ∀ x ∈ l.flatMap f, okF x = true := by
  intro x hx
  obtain ⟨y, hy, hx⟩ := List.mem_flatMap.1 hx
  exact h y hy x hx
theorem all_M {m : Msg} (h : gM m = true) : ∀ x ∈ fM m, okF x = true := by
  rcases gM_ok h with ⟨o, e⟩ | ⟨o, e⟩ | ⟨o, e⟩ | ⟨o, e⟩ <;> rw [e]
  · refine all_app (all_one (q := 2) (by decide) (by decide) (by show (_ : Nat) < 4; first | exact (by decide : (0 : Nat) < 4) | exact (by decide : (1 : Nat) < 4) | exact (by decide : (2 : Nat) < 4) | exact (by decide : (3 : Nat) < 4))) ?_
    obtain ⟨o1, ⟨o2, o3⟩, ⟨o4, o5⟩, o6, o7⟩ := o
    refine all_app (all_fit (q := 8) (by decide) (by decide) o1) (all_app (all_app (all_one (q := 7) (by decide) (by decide) o2) (all_flat fun y hy => all_S (o3 y hy))) (all_app (all_app (all_one (q := 7) (by decide) (by decide) o4) (all_flat fun y hy => all_S (o5 y hy))) (all_app (all_one (q := 11) (by decide) (by decide) o6) (all_flat fun y hy => ?_))))
    have h := o7 y hy
    exact all_app (all_app (all_fit (q := 5) (by decide) (by decide) h.1.1) (all_fit (q := 7) (by decide) (by decide) h.1.2)) (all_B h.2)
  · refine all_app (all_one (q := 2) (by decide) (by decide) (by show (_ : Nat) < 4; first | exact (by decide : (0 : Nat) < 4) | exact (by decide : (1 : Nat) < 4) | exact (by decide : (2 : Nat) < 4) | exact (by decide : (3 : Nat) < 4))) ?_
    exact all_app (all_fit (q := 8) (by decide) (by decide) o.1) (all_fit (q := 8) (by decide) (by decide) o.2)
  · refine all_app (all_one (q := 2) (by decide) (by decide) (by show (_ : Nat) < 4; first | exact (by decide : (0 : Nat) < 4) | exact (by decide : (1 : Nat) < 4) | exact (by decide : (2 : Nat) < 4) | exact (by decide : (3 : Nat) < 4))) ?_
    exact all_app (all_S o.1) (all_app (all_fit (q := 8) (by decide) (by decide) o.2.1) (all_app (all_B o.2.2.1) (all_app (all_B o.2.2.2.1) (all_B o.2.2.2.2))))
  · refine all_app (all_one (q := 2) (by decide) (by decide) (by show (_ : Nat) < 4; first | exact (by decide : (0 : Nat) < 4) | exact (by decide : (1 : Nat) < 4) | exact (by decide : (2 : Nat) < 4) | exact (by decide : (3 : Nat) < 4))) ?_
    refine all_app (all_fit (q := 8) (by decide) (by decide) o.1) (all_app (all_K o.2.1) (all_app (all_one (q := 7) (by decide) (by decide) o.2.2) ?_))
    intro x hx
    obtain ⟨n, hn, rfl⟩ := List.mem_map.1 hx
    exact okF_nat (q := 8) (by decide) (by decide) (bys_lt _ n hn)
theorem flat_len {α : Type} (f : α → List (Nat × Int)) (k : Nat) (h : ∀ x, (f x).length = k) : ∀ l : List α, (l.flatMap f).length = k * l.length
  | [] => by simp
  | x :: l => by rw [List.flatMap_cons, List.length_append, h, flat_len f k h l, List.length_cons, Nat.mul_succ, Nat.add_comm]
theorem fM_len {m : Msg} (h : gM m = true) : (fM m).length ≤ 16384 := by
  rcases gM_ok h with ⟨o, e⟩ | ⟨o, e⟩ | ⟨o, e⟩ | ⟨o, e⟩ <;> rw [e]
  · obtain ⟨o1, ⟨o2, o3⟩, ⟨o4, o5⟩, o6, o7⟩ := o
    show ([(0, 2)] ++ fR m.rk).length ≤ _
    simp only [fR, fL, List.length_append, List.length_cons, List.length_nil, flat_len fS 2 (fun _ => rfl), flat_len fI 6 (fun _ => rfl)]
    omega
  · show ([(1, 2)] ++ fQ m.rq).length ≤ _
    simp [fQ]
  · show ([(2, 2)] ++ fP m.rp).length ≤ _
    simp [fP, fS, fB, fK]
  · obtain ⟨o1, o2, o3⟩ := o
    show ([(3, 2)] ++ fD m.sd).length ≤ _
    simp only [fD, fX, fK, List.length_append, List.length_cons, List.length_nil, List.length_map, bys_length]
    omega
theorem en_pk {m : Msg} (h : gM m = true) : pkS (fM m) = enS m ∧ pkE (fM m) = 0 := by
  have ha : (fM m).all okF = true := List.all_eq_true.2 (all_M h)
  unfold pkS pkE enS
  rw [ha, h, bits_M]
  exact ⟨rfl, rfl⟩
theorem eM_len {m : Msg} (h : gM m = true) : (eM m).length ≤ 1048576 := by
  have h1 := Bt.bitsF_le (fM m) (all_M h)
  have h2 := fM_len h
  rw [bits_M] at h1
  omega
theorem en_small (m : Msg) : (enS m).size ≤ 131073 := by
  cases h : gM m with
  | true => rw [en_size h]; have := eM_len h; omega
  | false => unfold enS; rw [h]; simp [tx_size]
end Go.Proofs.YtpimbpfefhkojaaGreat.Wi
