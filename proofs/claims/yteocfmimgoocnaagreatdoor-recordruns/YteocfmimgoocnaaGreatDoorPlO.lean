/- P12.4 and P12.5 of the closure; keys that are gathered; what stands behind a step. -/
import Derived.Test.YteocfmimgoocnaaGreatDoorPlN
namespace Go.Proofs.YteocfmimgoocnaaGreatDoor
open Go.RowKit Go.Maps
open Rt (Ky zK KyAt)
open Rs (En zE tkn RdS RdI ps evl)
set_option linter.unusedVariables false
set_option linter.unusedSimpArgs false

def kpr (k : Ky) : Int × Int := (k.bas, k.stp)
theorem le1_not {H : Int → Option Int} {b s : Int} (h : ∀ u, H b = some u → s < u) : le1 H b s = false := by
  rcases hH : H b with _ | u
  · exact le1_none hH
  · exact le1_no hH (h u hH)
/- P12.5. -/
theorem back_none {t : Tr} {L J : List Int} (h : Stp t L J) {ks : List (Int × Int)} {H : Int → Option Int} (hk : ∀ k ∈ ks, ∃ c : Nat, c < 85 ∧ koE (nx t L J) (c : Int) = 0 ∧ k = kpr (koK (nx t L J) (c : Int))) (hc : Clos ks (its (nx t L J) (plR t L) (jns t L J)) H) {d : Nat} (hd : d < 85) (h0 : koE t (d : Int) = 0) : le1 H (koK t (d : Int)).bas (koK t (d : Int)).stp = false := by
  refine le1_not fun u hu => ?_
  have := hc.snd.low (fun b s => ∃ c : Nat, c < 85 ∧ koE (nx t L J) (c : Int) = 0 ∧ (koK (nx t L J) (c : Int)).bas = b ∧ (koK (nx t L J) (c : Int)).stp = s) (fun k hk' => by
    obtain ⟨c, hc', e0, e⟩ := hk k hk'
    exact ⟨c, hc', e0, by rw [e]; rfl, by rw [e]; rfl⟩) (fun x hx u _ _ => by
    obtain ⟨v, c, e, hi⟩ := item_of h hx
    have hv := hi.lv
    refine ⟨v, by omega, koE_inner h.tckn (by omega) (by omega), ?_, ?_⟩
    · rw [e, koK_in h.tckn hv]; show _ = (kyA (nx t L J) v).bas; rw [kyA_in hv]
    · rw [e, koK_in h.tckn hv]; show _ = (kyA (nx t L J) v).stp; rw [kyA_in hv]) _ _ hu
  obtain ⟨c, hc', e0, e1, e2⟩ := this
  have := bwd h hc' hd e0 h0 e1
  omega
/- P12.4. -/
theorem fwd_none {t : Tr} {L J : List Int} (h : Stp t L J) {ks : List (Int × Int)} {H : Int → Option Int} (hk : ∀ k ∈ ks, ∃ s : Nat, s < 64 ∧ tkn (t.ro s) = true ∧ (t.ro s).who ∈ L ∧ (k.1 = (koK t ((21 + s : Nat) : Int)).bas ∨ ∃ i, i < 3 ∧ k.1 = (t.ks (pn s i)).bas)) (hc : Clos ks (its (nx t L J) (plR t L) (jns t L J)) H) {d : Nat} (hd : d < 85) (h0 : koE (nx t L J) (d : Int) = 0) : le1 H (koK (nx t L J) (d : Int)).bas (koK (nx t L J) (d : Int)).stp = false := by
  have key : ∀ b s, H b = some s → ∀ c : Nat, c < 85 → koE (nx t L J) (c : Int) = 0 → (koK (nx t L J) (c : Int)).bas ≠ b := by
    intro b s hb
    refine hc.snd.low (fun b _ => ∀ c : Nat, c < 85 → koE (nx t L J) (c : Int) = 0 → (koK (nx t L J) (c : Int)).bas ≠ b) (fun k hk' => ?_) (fun x hx u _ hI => ?_) b s hb
    · obtain ⟨s, hs, ht, hL, e⟩ := hk k hk'
      intro c hc' hc0
      rcases e with e | ⟨i, hi, e⟩
      · rw [e]; exact fwd_leaf h hs ht hL hc' hc0
      · rw [e]; exact fwd_path h hs ht hL hi hc' hc0
    · obtain ⟨v, c, e, hi⟩ := item_of h hx
      have hcz := hld_leaf h.tckn hi.lc hi.held
      exfalso
      refine hI c hi.lc hcz ?_
      rw [e]
      show _ = (kyA (nx t L J) c).bas
      rw [kyA_ko h.tckn hi.lc hcz]
  refine le1_not fun u hu => ?_
  exact absurd rfl (key _ _ hu d hd h0)
/- Names and steps are within an int. -/
theorem wi_of {x : Int} (h0 : -9223372036854775808 ≤ x) (h1 : x < 9223372036854775808) : Wi x := by
  show (decide (IntKind.i64.min ≤ x) && decide (x ≤ IntKind.i64.max)) = true
  have e1 : IntKind.i64.min = -9223372036854775808 := by decide
  have e2 : IntKind.i64.max = 9223372036854775807 := by decide
  rw [e1, e2, decide_eq_true (by omega), decide_eq_true (by omega)]
  rfl
theorem wi_gd {b s : Int} (h : Rt.Gd b s) : Wi b ∧ Wi s := by
  obtain ⟨h1, h2, h3, h4⟩ := h
  exact ⟨wi_of (by omega) (by omega), wi_of (by omega) (by omega)⟩
theorem its_wi {t : Tr} {L J : List Int} (h : Stp t L J) : ∀ x ∈ its (nx t L J) (plR t L) (jns t L J), Wi x.un.bas ∧ Wi x.ld.bas ∧ Wi x.ld.stp := fun x hx => by
  obtain ⟨v, c, e, hi⟩ := item_of h hx
  have h1 := wi_gd (ko_gd h.tckn hi.lc (hld_leaf h.tckn hi.lc hi.held))
  have h2 := wi_gd (ks_gd h.tckn hi.lv)
  rw [e]
  refine ⟨h1.1, ?_⟩
  show Wi (kyA (nx t L J) v).bas ∧ Wi (kyA (nx t L J) v).stp
  rw [kyA_in hi.lv]
  exact h2
/- Keys that are gathered. -/
structure BK (w W : World) (v : Value) (l : List (Int × Int)) : Prop where
  bel : Below w.heap.size w W
  row : W.ownsRow w.heap.size 23 2 v l.length (ps l)
theorem BK.later {w W W' : World} {v : Value} {l : List (Int × Int)} (h : BK w W v l) (hb : Below W.heap.size W W') : BK w W' v l := ⟨h.bel.trans (hb.mono h.bel.size), Rs.owns_later h.row hb⟩
theorem BK.app {w W W1 : World} {v v' : Value} {l : List (Int × Int)} {o : Obj} {p : Int × Int} (h : BK w W v l) (hown : W1.ownsRow w.heap.size 23 2 v' (l.length + 1) (ps l ++ [.int .i64 p.1, .int .i64 p.2])) (hg : (W.alloc o).grownBy W1 v.ownBlock) : BK w W1 v' (l ++ [p]) := by
  refine ⟨Rs.grown_bel h.bel h.row (Nat.le_refl _) hg, ?_⟩
  rw [Rs.ps_snoc, List.length_append]
  exact hown
theorem infoKey2 : (Tryz.prog.info? 23).map (fun i => (i.zero, i.size, i.bytes)) = some (some (.agg #[.int .i64 0, .int .i64 0]), 2, 16) := by kernel_rfl
theorem infoKey_parts : ∃ i, Tryz.prog.info? 23 = some i ∧ i.zero = some (.agg #[.int .i64 0, .int .i64 0]) ∧ i.size = 2 ∧ i.bytes = 16 := by
  have h := infoKey2
  cases hq : Tryz.prog.info? 23 with
  | none => rw [hq] at h; cases h
  | some i =>
    rw [hq] at h
    simp at h
    exact ⟨i, rfl, h.1, h.2.1, h.2.2⟩
/- A seat of a list, held while something is looked up of a tree. -/
structure LS (w W : World) (B C : Nat) (t : Tr) (p : Int × Int) : Prop where
  tr : TrAt W B t
  se : StAt W C p
  bel : Below w.heap.size w W
theorem LS.later {w W W' : World} {B C : Nat} {t : Tr} {p : Int × Int} (h : LS w W B C t p) (hb : Below W.heap.size W W') : LS w W' B C t p := ⟨h.tr.later hb, h.se.later hb, h.bel.trans (hb.mono h.bel.size)⟩
theorem LS.two {w W : World} {B C : Nat} {t : Tr} {p : Int × Int} (h : LS w W B C t p) {A : Nat} {e : Ky} (hA : KyAt W A e) (h3 : w.heap.size ≤ A) (a b : Int) : LS w ((W.setCell ⟨A, 0, none⟩ (.int .i64 a)).setCell ⟨A, 1, none⟩ (.int .i64 b)) B C t p :=
  ⟨(Rt.set2_other (block_ne h.tr hA (by decide)) _ _ _ _).trans h.tr, (Rt.set2_other (block_ne h.se hA (by decide)) _ _ _ _).trans h.se, Rt.set2_below h.bel h3 _ _ _ _⟩
end Go.Proofs.YteocfmimgoocnaaGreatDoor
