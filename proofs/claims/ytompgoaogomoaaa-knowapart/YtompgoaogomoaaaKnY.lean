/- Contracts: Learn and See of the program's know. -/
import Derived.Test.YtompgoaogomoaaaKnX
namespace Go.Proofs.Ytompgoaogomoaaa.Kn
open Go.RowKit Go.Maps
open Rt (Gd gd gd_yes gd_no good_any gives_any gv)
set_option linter.unusedVariables false
set_option linter.unusedSimpArgs false

/- The object, whatever lies where. -/
def PAt (w : World) (N p : Nat) (T : List K2) (B : List B2) (X : List Sd) (F : Nat → Prop) : Prop :=
  ∃ f pd bl bb bt bs vs, Wk T B f pd [] ∧ Pk w N p f pd B X bl bb bt bs vs ∧ F = Fp p bl bb bt bs vs
/- What may be told and seen: boxes that are within a row of fewer than 2^41, however often each came. -/
def Rm (T : List K2) (B : List B2) (X : List Sd) : Prop := (∃ B0 : List B2, B0.length < 2748779069440 ∧ ∀ b ∈ B, b ∈ B0) ∧ B.length < 1152921504606846976 ∧ X.length < 1152921504606846976
theorem pd_len {T : List K2} {B : List B2} {f : Nat → Int} {pd : List B2} {ls : List K2} {X : List Sd} (h : Wk T B f pd ls) (hR : Rm T B X) : pd.length < 2748779069440 := by
  obtain ⟨⟨B0, h1, h2⟩, _⟩ := hR
  exact Nat.lt_of_le_of_lt (nodup_len h.nd fun x hx => h2 x (h.pin x hx).1) h1
theorem GainP.pp {w w1 w' : World} {N p : Nat} {T : List K2} {B : List B2} {X : List Sd} {bl bb bt bs : Nat} {vs : K2 → Value} (h : GainP w1 N p T B X bl bb bt bs vs w') (hk : Kept (Fp p bl bb bt bs vs) w w1) : PP PAt w w' N p T B X (Fp p bl bb bt bs vs) := by
  obtain ⟨f, pd, vs', h1, h2, h3, h4⟩ := h
  have hs : ∀ k, Fp p bl bb bt bs vs' k → Fp p bl bb bt bs vs k := fun k hk => by
    rcases hk with e | e | e | e | e | ⟨u, e⟩
    · exact .inl e
    · exact .inr (.inl e)
    · exact .inr (.inr (.inl e))
    · exact .inr (.inr (.inr (.inl e)))
    · exact .inr (.inr (.inr (.inr (.inl e))))
    · exact .inr (.inr (.inr (.inr (.inr ⟨u, h4 u k e⟩))))
  refine ⟨_, ⟨f, pd, bl, bb, bt, bs, vs', h1, h2, rfl⟩, hk.trans h3 fun i _ e => ?_, fun k hk => .inl (hs k hk)⟩
  rcases e with e | e
  · exact .inr (.inl e)
  · exact .inr (.inr (.inr (.inr (.inl e))))
theorem PAt.same {w w' : World} {N p : Nat} {T' : List K2} {B : List B2} {X : List Sd} {f : Nat → Int} {pd : List B2} {bl bb bt bs : Nat} {vs : K2 → Value} (h1 : Wk T' B f pd []) (h2 : Pk w' N p f pd B X bl bb bt bs vs) (hk : Kept (Fp p bl bb bt bs vs) w w') : PP PAt w w' N p T' B X (Fp p bl bb bt bs vs) :=
  ⟨_, ⟨f, pd, bl, bb, bt, bs, vs, h1, h2, rfl⟩, hk, fun _ h => .inl h⟩
set_option maxRecDepth 100000 in
theorem learn_p (w : World) (N p : Nat) (T : List K2) (B : List B2) (X : List Sd) (F : Nat → Prop) (b s : Int) (h : PAt w N p T B X F) (hR : Rm T B X) :
    Calls Try.prog 23 #[.pointer (some ⟨p, 0, none⟩), .agg #[.int .i64 b, .int .i64 s] ] w fun e w' => e = .returned (.tuple #[]) ∧ PP PAt w w' N p (T ++ [(b, s)]) B X F := by
  obtain ⟨f, pd, bl, bb, bt, bs, vs, h1, h2, rfl⟩ := h
  have hpd := pd_len h1 hR
  have hg := good_any b s
  have hb1 : Below w.heap.size w (w.alloc (.cells #[.int .i64 b, .int .i64 s] 33)) := Rt.below1 _ _
  obtain ⟨x0, x1⟩ := (KAt.new w (b, s)).cell
  by_cases hgd : Gd b s
  · rw [gd_yes hgd] at hg
    have hW : Wk (T ++ [(b, s)]) B f pd ([] ++ [(b, s)]) := h1.tell (k := (b, s)) hgd
    have hga := fun W (hW2 : Below w.heap.size w W) => gain_p W N p (T ++ [(b, s)]) f pd B X bl bb bt bs vs (h2.later hW2) b s hW (by omega)
    clear h1 h2 hR hpd hgd hW
    go_enter Try.func23, Try.ntmps23
    go_upto_region 1 with (fail)
    generalize w.alloc (.cells #[.int .i64 b, .int .i64 s] 33) = w1 at *
    go_wp2_with (first | (go_at_call 37; refine (hg _).mono ?_; rintro r w2 ⟨rfl, hw2⟩; have hb2 := Rt.Below.then hb1 (hw2 ▸ Rt.below1 w1 _); have x0 := cell_later (hw2 ▸ Rt.below1 w1 (.cells #[.int .i64 b, .int .i64 s] 33)) x0; have x1 := cell_later (hw2 ▸ Rt.below1 w1 (.cells #[.int .i64 b, .int .i64 s] 33)) x1; clear hw2) | (go_at_call 48; refine (hga _ hb2).mono ?_; rintro r w3 ⟨rfl, hgp⟩))
    first | go_end0 | refine bodyPost_ret (results_none rfl _ _ _) rfl ?_
    exact ⟨rfl, hgp.pp (Kept.ofBelow hb2)⟩
  · rw [gd_no hgd] at hg
    have hE := fun W (hW : Below w.heap.size w W) => PAt.same (h1.tellBad (k := (b, s)) hgd) (h2.later hW) (Kept.ofBelow hW)
    have HE : Hid _ := hE
    clear h1 h2 hR hpd hgd hE
    go_enter Try.func23, Try.ntmps23
    go_upto_region 1 with (fail)
    generalize w.alloc (.cells #[.int .i64 b, .int .i64 s] 33) = w1 at *
    go_wp2_with (go_at_call 37; refine (hg _).mono ?_; rintro r w2 ⟨rfl, rfl⟩)
    first | go_end0 | refine bodyPost_ret (results_none rfl _ _ _) rfl ?_
    exact ⟨rfl, HE.out _ (Rt.Below.then hb1 (Rt.below1 _ _))⟩
end Go.Proofs.Ytompgoaogomoaaa.Kn
