/- The program's net keeps what is asked of it. -/
import Derived.Test.YtcdibafcolhlgaaNeG
import Derived.Test.YtcdibafcolhlgaaNeH
namespace Go.Proofs.Ytcdibafcolhlgaa.Ne
open Go.RowKit Go.Maps
set_option linter.unusedVariables false
theorem api : NApi PAt where
  kept := fun h hk hF => h.kept hk hF
  ge := fun h => h.ge
  new := new_p
  send := by
    rintro w N p s F f t ⟨va, b, h, rfl⟩ hN hok hl hf ht
    refine (sendP w N p s va b f t h hN hok.len hl).mono ?_
    rintro e w' ⟨rfl, va', h1, h2, h3⟩
    exact ⟨rfl, _, ⟨va', b, h1, rfl⟩, h2, h3⟩
  get_no := by
    rintro w N p s F k ⟨va, b, h, rfl⟩ hok hl hw hk
    exact getP_no w N p s va b h k hw hk
  get_yes := by
    rintro w N p s F i ⟨va, b, h, rfl⟩ hok hl hi hg
    exact getP_yes w N p s va b h i (by omega) hi hg
  drop_no := by
    rintro w N p s F k ⟨va, b, h, rfl⟩ hok hl hw hk
    exact dropP_no w N p s va b h k hw hk
  drop_yes := by
    rintro w N p s F i ⟨va, b, h, rfl⟩ hN hok hl hi hg
    refine (dropP_yes w N p s va b h i (by omega) hi hg).mono ?_
    rintro e w' ⟨rfl, h1, h2⟩
    exact ⟨rfl, _, ⟨va, b, h1, rfl⟩, h2.mono (fun k _ e => .inr (.inr e)), fun k e => .inl e⟩
  waiting := by
    rintro w N p s F ⟨va, b, h, rfl⟩ hok hl
    exact waitingP w N p s va b h hok hl
  seen := by
    rintro w N p s F ⟨va, b, h, rfl⟩ hok hl
    exact seenP w N p s va b h hl
end Go.Proofs.Ytcdibafcolhlgaa.Ne
