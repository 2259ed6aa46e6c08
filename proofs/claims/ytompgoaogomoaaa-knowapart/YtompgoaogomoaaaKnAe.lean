/- The program's know keeps the contracts that are asked of it. -/
import Derived.Test.YtompgoaogomoaaaKnAd
import Derived.Test.YtompgoaogomoaaaKnM
namespace Go.Proofs.Ytompgoaogomoaaa.Kn
open Go.RowKit Go.Maps
open Rt (Gd gd gd_yes gd_no)
set_option linter.unusedVariables false
set_option linter.unusedSimpArgs false

theorem api : KApi PAt Rm where
  rm := fun l hl => by
    have := len_ops l
    exact ⟨⟨boxL l, by omega, fun _ h => h⟩, by omega, by omega⟩
  kept := fun {w w' N p T B X F G} h hk hF => by
    obtain ⟨f, pd, bl, bb, bt, bs, vs, h1, h2, rfl⟩ := h
    exact ⟨f, pd, bl, bb, bt, bs, vs, h1, h2.kept hk hF, rfl⟩
  ge := fun {w N p T B X F} h k hk => by
    obtain ⟨f, pd, bl, bb, bt, bs, vs, h1, h2, rfl⟩ := h
    exact h2.inHeap k hk
  new := new_p
  learn := fun {w N p T B X F} b s h _ hR _ _ => learn_p w N p T B X F b s h hR
  see := fun {w N p T B X F} b0 b1 b2 b3 h _ hR hw => see_p w N p T B X F b0 b1 b2 b3 h hR hw
  seeX := fun {w N p T B X F} e0 u0 u1 t h _ hR hw => by
    obtain ⟨f, pd, bl, bb, bt, bs, vs, h1, h2, rfl⟩ := h
    refine (seeX_p w N p f pd B X bl bb bt bs vs h2 hR.2.2 e0 u0 u1 t hw).mono ?_
    rintro e w' ⟨rfl, h3, h4⟩
    exact ⟨rfl, PAt.same h1 h3 (h4.mono fun _ _ e => .inr (.inr (.inr (.inl e))))⟩
  has := fun {w N p T B X F} b s {v} h hR hw hv => by
    obtain ⟨f, pd, bl, bb, bt, bs, vs, h1, h2, rfl⟩ := h
    refine (has_p w N p f pd B X bl bb bt bs vs h2 h1.snd b s hw.1).mono ?_
    rintro e w' ⟨rfl, h3⟩
    have : inT f (b, s) = v := by rw [Bool.eq_iff_iff, h1.tab.iff, hv]
    exact ⟨by rw [this], h3⟩
  makes := fun {w N p T B X F} b0 b1 b2 b3 {v} h hR hw hv => by
    obtain ⟨f, pd, bl, bb, bt, bs, vs, h1, h2, rfl⟩ := h
    obtain ⟨s, hs⟩ := bool_of (((b0, b1), (b2, b3)) ∈ B ∧ gb ((b0, b1), (b2, b3)) = true)
    refine (makes_p w N p f pd B X bl bb bt bs vs h2 h1.snd b0 b1 b2 b3 hw hs).mono ?_
    rintro e w' ⟨rfl, h3⟩
    have : (s || (inT f (b0, b1) && inT f (b2, b3))) = v := by
      rw [Bool.eq_iff_iff, Bool.or_eq_true, Bool.and_eq_true, hs, h1.tab.iff, h1.tab.iff, hv]
      constructor
      · rintro (⟨a, b⟩ | ⟨a, b⟩)
        · exact ⟨b, .inl a⟩
        · exact ⟨gb_iff2.2 ⟨had_good a, had_good b⟩, .inr ⟨a, b⟩⟩
      · rintro ⟨a, b | b⟩
        · exact .inl ⟨b, a⟩
        · exact .inr b
    exact ⟨by rw [this], h3⟩
  makesX := fun {w N p T B X F} e0 u0 u1 t {v} h hR hw hv => by
    obtain ⟨f, pd, bl, bb, bt, bs, vs, h1, h2, rfl⟩ := h
    obtain ⟨s, hs⟩ := bool_of ((e0, ((u0, u1), t)) ∈ X ∧ gx (e0, ((u0, u1), t)) = true)
    refine (makesX_p w N p f pd B X bl bb bt bs vs h2 h1.snd e0 u0 u1 t hw hs).mono ?_
    rintro e w' ⟨rfl, h3⟩
    have : (s || (gx (e0, ((u0, u1), t)) && inT f (u0, u1))) = v := by
      rw [Bool.eq_iff_iff, Bool.or_eq_true, Bool.and_eq_true, hs, h1.tab.iff, hv]
      constructor
      · rintro (⟨a, b⟩ | ⟨a, b⟩)
        · exact ⟨b, .inl a⟩
        · exact ⟨a, .inr b⟩
      · rintro ⟨a, b | b⟩
        · exact .inl ⟨b, a⟩
        · exact .inr ⟨a, b⟩
    exact ⟨by rw [this], h3⟩
  keys := fun {w N p T B X F} h hR => by
    obtain ⟨f, pd, bl, bb, bt, bs, vs, h1, h2, rfl⟩ := h
    refine (keys_p w N p f pd B X bl bb bt bs vs h2).mono ?_
    rintro e w' ⟨v, rfl, h3, h4⟩
    exact ⟨v, f, rfl, h1.tab, h3, h4⟩
  copy := fun {w N p T B X F} h hR => copy_p w N p T B X F h hR
end Go.Proofs.Ytompgoaogomoaaa.Kn
