/- The walk of RosterChecks. -/
import Derived.Test.YtieagbjempndnaaDoorRsK
import Derived.Test.YtieagbjempndnaaDoorRsQ
import Derived.Test.YtieagbjempndnaaDoorOpenCa
namespace Go.Proofs.YtieagbjempndnaaDoor.rosterChecks
open Go.RowKit Go.Maps Go.Shelf
set_option linter.unusedVariables false
set_option linter.unusedSimpArgs false

structure RB (w W : World) (f : Nat → En) : Prop where
  ro : RoAt W w.heap.size f
  bel : Below w.heap.size w W
theorem RB.later {w W W' : World} {f : Nat → En} (h : RB w W f) (hb : Below W.heap.size W W') : RB w W' f := ⟨h.ro.later hb, h.bel.trans (hb.mono h.bel.size)⟩
theorem iv_rd {W : World} {b : Nat} {v : Value} {l : List Int} (h : W.ownsRow b 3 1 v l.length (iv l)) : ∃ a cap, v = .slice a l.length cap ∧ RdI W a l ∧ ∀ g o, a = some ⟨g, o, none⟩ → v.ownBlock = some g := by
  rcases h.2 with ⟨rfl, h0⟩ | ⟨g, cap, cur, rfl, h3, h4, _⟩
  · have : l = [] := List.length_eq_zero_iff.1 h0
    subst this
    exact ⟨none, 0, rfl, RdI.nil _ _, fun g o e => by cases e⟩
  · refine ⟨some ⟨g, 0, none⟩, cap, rfl, fun i hi => ⟨g, 0, rfl, ?_⟩, fun g' o e => by simp at e; simp [Value.ownBlock, e.1]⟩
    rw [Nat.zero_add, World.ownsRow.cellAt h i (by omega), iv_get hi]
theorem RoAt_far {W W' : World} {row : Option Nat} {B : Nat} {f : Nat → En} (h : RoAt W B f) (hg : W.grownBy W' row) (hne : some B ≠ row) : RoAt W' B f := (hg.block B h.lt hne).trans h
theorem far_of {v u : Value} {a : Option Addr} (hap : v.ownBlock = none ∨ v.ownBlock ≠ u.ownBlock) (ha : ∀ g o, a = some ⟨g, o, none⟩ → u.ownBlock = some g) : ∀ b o, a = some ⟨b, o, none⟩ → some b ≠ v.ownBlock := fun b o e h => by
  have := ha b o e
  rcases hap with h1 | h1
  · rw [h1] at h; cases h
  · rw [← h, ← this] at h1
    exact h1 rfl
set_option maxRecDepth 100000 in
set_option maxHeartbeats 4000000 in
theorem walk (f : Nat → En) (x : Int) (w : World) (wf : ∀ i, i < 64 → (Lit.int .i64 (f i).who).wf = true ∧ (Lit.int .i64 (f i).bas).wf = true ∧ (Lit.int .i64 (f i).snc).wf = true) (wx : (Lit.int .i64 x).wf = true) (hT : Tb w) :
    Calls Tryd.prog 3 #[.agg (rcs f), .int .i64 x] w fun e w' => e = .returned (.bool true) ∧ Below w.heap.size w w' := by
  have hR : RB w (w.alloc (.cells (rcs f) 25)) f := ⟨RoAt.new w f, alloc_ro w f⟩
  clear wf wx
  go_enter Tryd.func3, Tryd.ntmps3
  go_upto_region 1 with (fail)
  generalize w.alloc (.cells (rcs f) 25) = w1 at *
  have hli := fun W (h : Below w.heap.size w W) => lives_any W (hT.later h)
  have hc1 := fun W (h : Below w.heap.size w W) => check_any f W
  have hc2 := fun W (h : Below w.heap.size w W) => rCheck_any f W
  have ht1 := fun W (h : Below w.heap.size w W) => taken_any f W
  have ht2 := fun W (h : Below w.heap.size w W) => rTaken_any f W
  have hf1 := fun W (h : Below w.heap.size w W) => find_any f x W
  have hf2 := fun W (h : Below w.heap.size w W) => rFind_any f x W
  generalize chkE f = E at *
  generalize ((tk f : Nat) : Int) = tw at *
  generalize fnd f x = fi at *
  have hS0 : RB w w1.drew f := hR.later ⟨rfl, rfl, rfl, Nat.le_refl _, fun _ _ => rfl⟩
  refine wp_region_held_drew (S := fun W => RB w W f) (by kernel_rfl) hS0 (fun hHeld => ?_)
  refine wpAnyH_ready (rs := [0]) (by kernel_rfl) (by simp) ?_
  refine AllReadyH.cons rfl (fun K hK => ?_) AllReadyH.nil
  go_simp
  refine (hli _ (RB.bel hHeld)).mono ?_
  rintro e v1 ⟨rfl, hb1⟩
  go_wp2_with fail
  refine hK.out _ _ (RB.later hHeld hb1) (fun hHeld1 => ?_)
  clear hb1 hHeld
  clear hK K
  try simp only [Act.put, List.setIfInBounds_toArray, List.set_cons_zero, List.set_cons_succ]
  refine wpAnyH_take (i := 1) (oi := { dst := some 10, op := Op.unOp UnOp.not 4 (Operand.tmp 9), type := _, pos := _, after := _, guard := none }) (v := .bool false) rfl (by kernel_rfl) (by kernel_rfl) (by kernel_rfl) (fun _ _ _ h => h) (Or.inl ⟨by rfl, fun w hSw => by (try dsimp only at hSw); go_simp⟩) (by assumption) ?_
  simp only [Act.put, List.setIfInBounds_toArray, List.set_cons_zero, List.set_cons_succ]
  refine wpAnyH_take (i := 2) (oi := { dst := some 11, op := Op.move (Operand.tmp 10), type := _, pos := _, after := _, guard := none }) (v := .bool false) rfl (by kernel_rfl) (by kernel_rfl) (by kernel_rfl) (fun _ _ _ h => h) (Or.inl ⟨by rfl, fun w hSw => by (try dsimp only at hSw); go_simp⟩) (by assumption) ?_
  simp only [Act.put, List.setIfInBounds_toArray, List.set_cons_zero, List.set_cons_succ]
  refine wpAnyH_take (i := 3) (oi := { dst := some 12, op := Op.load 25 (Operand.tmp 2), type := _, pos := _, after := _, guard := some (2, false) }) (v := .agg (rcs f)) rfl (by kernel_rfl) (by kernel_rfl) (by kernel_rfl) (fun _ _ _ h => h) (Or.inl ⟨by rfl, fun w hSw => ld25_exec (RB.ro hSw) rfl rfl⟩) (by assumption) ?_
  simp only [Act.put, List.setIfInBounds_toArray, List.set_cons_zero, List.set_cons_succ]
  refine wpAnyH_take (i := 5) (oi := { dst := some 14, op := Op.load 25 (Operand.tmp 2), type := _, pos := _, after := _, guard := some (2, false) }) (v := .agg (rcs f)) rfl (by kernel_rfl) (by kernel_rfl) (by kernel_rfl) (fun _ _ _ h => h) (Or.inl ⟨by rfl, fun w hSw => ld25_exec (RB.ro hSw) rfl rfl⟩) (by assumption) ?_
  simp only [Act.put, List.setIfInBounds_toArray, List.set_cons_zero, List.set_cons_succ]
  refine wpAnyH_ready (rs := [4]) (by kernel_rfl) (by simp) ?_
  refine AllReadyH.cons rfl (fun K hK => ?_) AllReadyH.nil
  go_simp
  refine (hc1 _ (RB.bel hHeld1)).mono ?_
  rintro e v2 ⟨rfl, hb2⟩
  go_wp2_with fail
  refine hK.out _ _ (RB.later hHeld1 hb2) (fun hHeld2 => ?_)
  clear hb2 hHeld1
  clear hK K
  try simp only [Act.put, List.setIfInBounds_toArray, List.set_cons_zero, List.set_cons_succ]
  refine wpAnyH_ready (rs := [6]) (by kernel_rfl) (by simp) ?_
  refine AllReadyH.cons rfl (fun K hK => ?_) AllReadyH.nil
  go_simp
  refine (hc2 _ (RB.bel hHeld2)).mono ?_
  rintro e v3 ⟨rfl, hb3⟩
  go_wp2_with fail
  refine hK.out _ _ (RB.later hHeld2 hb3) (fun hHeld3 => ?_)
  clear hb3 hHeld2
  clear hK K
  try simp only [Act.put, List.setIfInBounds_toArray, List.set_cons_zero, List.set_cons_succ]
  refine wpAnyH_take (i := 7) (oi := { dst := some 16, op := Op.binOp BinOp.neq 27 (Operand.tmp 13) (Operand.tmp 15) 27, type := _, pos := _, after := _, guard := some (2, false) }) (v := .bool false) rfl (by kernel_rfl) (by kernel_rfl) (by kernel_rfl) (fun _ _ _ h => h) (Or.inl ⟨by rfl, fun w hSw => by (try dsimp only at hSw); go_simp⟩) (by assumption) ?_
  simp only [Act.put, List.setIfInBounds_toArray, List.set_cons_zero, List.set_cons_succ]
  refine wpAnyH_take (i := 8) (oi := { dst := some 17, op := Op.pick (Operand.tmp 11) (Operand.const (Value.bool true)) (Operand.tmp 16), type := _, pos := _, after := _, guard := none }) (v := .bool false) rfl (by kernel_rfl) (by kernel_rfl) (by kernel_rfl) (fun _ _ _ h => h) (Or.inl ⟨by rfl, fun w hSw => by (try dsimp only at hSw); go_simp⟩) (by assumption) ?_
  simp only [Act.put, List.setIfInBounds_toArray, List.set_cons_zero, List.set_cons_succ]
  refine wpAnyH_take (i := 9) (oi := { dst := some 18, op := Op.move (Operand.tmp 17), type := _, pos := _, after := _, guard := none }) (v := .bool false) rfl (by kernel_rfl) (by kernel_rfl) (by kernel_rfl) (fun _ _ _ h => h) (Or.inl ⟨by rfl, fun w hSw => by (try dsimp only at hSw); go_simp⟩) (by assumption) ?_
  simp only [Act.put, List.setIfInBounds_toArray, List.set_cons_zero, List.set_cons_succ]
  refine wpAnyH_take (i := 10) (oi := { dst := some 19, op := Op.load 25 (Operand.tmp 2), type := _, pos := _, after := _, guard := some (9, false) }) (v := .agg (rcs f)) rfl (by kernel_rfl) (by kernel_rfl) (by kernel_rfl) (fun _ _ _ h => h) (Or.inl ⟨by rfl, fun w hSw => ld25_exec (RB.ro hSw) rfl rfl⟩) (by assumption) ?_
  simp only [Act.put, List.setIfInBounds_toArray, List.set_cons_zero, List.set_cons_succ]
  refine wpAnyH_take (i := 12) (oi := { dst := some 21, op := Op.load 25 (Operand.tmp 2), type := _, pos := _, after := _, guard := some (9, false) }) (v := .agg (rcs f)) rfl (by kernel_rfl) (by kernel_rfl) (by kernel_rfl) (fun _ _ _ h => h) (Or.inl ⟨by rfl, fun w hSw => ld25_exec (RB.ro hSw) rfl rfl⟩) (by assumption) ?_
  simp only [Act.put, List.setIfInBounds_toArray, List.set_cons_zero, List.set_cons_succ]
  refine wpAnyH_ready (rs := [11]) (by kernel_rfl) (by simp) ?_
  refine AllReadyH.cons rfl (fun K hK => ?_) AllReadyH.nil
  go_simp
  refine (ht1 _ (RB.bel hHeld3)).mono ?_
  rintro e v4 ⟨rfl, hb4⟩
  go_wp2_with fail
  refine hK.out _ _ (RB.later hHeld3 hb4) (fun hHeld4 => ?_)
  clear hb4 hHeld3
  clear hK K
  try simp only [Act.put, List.setIfInBounds_toArray, List.set_cons_zero, List.set_cons_succ]
  refine wpAnyH_ready (rs := [13]) (by kernel_rfl) (by simp) ?_
  refine AllReadyH.cons rfl (fun K hK => ?_) AllReadyH.nil
  go_simp
  refine (ht2 _ (RB.bel hHeld4)).mono ?_
  rintro e v5 ⟨rfl, hb5⟩
  go_wp2_with fail
  refine hK.out _ _ (RB.later hHeld4 hb5) (fun hHeld5 => ?_)
  clear hb5 hHeld4
  clear hK K
  try simp only [Act.put, List.setIfInBounds_toArray, List.set_cons_zero, List.set_cons_succ]
  refine wpAnyH_take (i := 14) (oi := { dst := some 23, op := Op.binOp BinOp.neq 29 (Operand.tmp 20) (Operand.tmp 22) 29, type := _, pos := _, after := _, guard := some (9, false) }) (v := .bool false) rfl (by kernel_rfl) (by kernel_rfl) (by kernel_rfl) (fun _ _ _ h => h) (Or.inl ⟨by rfl, fun w hSw => by (try dsimp only at hSw); go_simp⟩) (by assumption) ?_
  simp only [Act.put, List.setIfInBounds_toArray, List.set_cons_zero, List.set_cons_succ]
  refine wpAnyH_take (i := 15) (oi := { dst := some 24, op := Op.pick (Operand.tmp 18) (Operand.const (Value.bool true)) (Operand.tmp 23), type := _, pos := _, after := _, guard := none }) (v := .bool false) rfl (by kernel_rfl) (by kernel_rfl) (by kernel_rfl) (fun _ _ _ h => h) (Or.inl ⟨by rfl, fun w hSw => by (try dsimp only at hSw); go_simp⟩) (by assumption) ?_
  simp only [Act.put, List.setIfInBounds_toArray, List.set_cons_zero, List.set_cons_succ]
  refine wpAnyH_take (i := 16) (oi := { dst := some 25, op := Op.move (Operand.tmp 24), type := _, pos := _, after := _, guard := none }) (v := .bool false) rfl (by kernel_rfl) (by kernel_rfl) (by kernel_rfl) (fun _ _ _ h => h) (Or.inl ⟨by rfl, fun w hSw => by (try dsimp only at hSw); go_simp⟩) (by assumption) ?_
  simp only [Act.put, List.setIfInBounds_toArray, List.set_cons_zero, List.set_cons_succ]
  refine wpAnyH_take (i := 17) (oi := { dst := some 26, op := Op.load 25 (Operand.tmp 2), type := _, pos := _, after := _, guard := some (16, false) }) (v := .agg (rcs f)) rfl (by kernel_rfl) (by kernel_rfl) (by kernel_rfl) (fun _ _ _ h => h) (Or.inl ⟨by rfl, fun w hSw => ld25_exec (RB.ro hSw) rfl rfl⟩) (by assumption) ?_
  simp only [Act.put, List.setIfInBounds_toArray, List.set_cons_zero, List.set_cons_succ]
  refine wpAnyH_take (i := 18) (oi := { dst := some 27, op := Op.move (Operand.tmp 1), type := _, pos := _, after := _, guard := some (16, false) }) (v := .int .i64 x) rfl (by kernel_rfl) (by kernel_rfl) (by kernel_rfl) (fun _ _ _ h => h) (Or.inl ⟨by rfl, fun w hSw => by (try dsimp only at hSw); go_simp⟩) (by assumption) ?_
  simp only [Act.put, List.setIfInBounds_toArray, List.set_cons_zero, List.set_cons_succ]
  refine wpAnyH_take (i := 20) (oi := { dst := some 29, op := Op.load 25 (Operand.tmp 2), type := _, pos := _, after := _, guard := some (16, false) }) (v := .agg (rcs f)) rfl (by kernel_rfl) (by kernel_rfl) (by kernel_rfl) (fun _ _ _ h => h) (Or.inl ⟨by rfl, fun w hSw => ld25_exec (RB.ro hSw) rfl rfl⟩) (by assumption) ?_
  simp only [Act.put, List.setIfInBounds_toArray, List.set_cons_zero, List.set_cons_succ]
  refine wpAnyH_take (i := 21) (oi := { dst := some 30, op := Op.move (Operand.tmp 1), type := _, pos := _, after := _, guard := some (16, false) }) (v := .int .i64 x) rfl (by kernel_rfl) (by kernel_rfl) (by kernel_rfl) (fun _ _ _ h => h) (Or.inl ⟨by rfl, fun w hSw => by (try dsimp only at hSw); go_simp⟩) (by assumption) ?_
  simp only [Act.put, List.setIfInBounds_toArray, List.set_cons_zero, List.set_cons_succ]
  refine wpAnyH_ready (rs := [19]) (by kernel_rfl) (by simp) ?_
  refine AllReadyH.cons rfl (fun K hK => ?_) AllReadyH.nil
  go_simp
  refine (hf1 _ (RB.bel hHeld5)).mono ?_
  rintro e v6 ⟨rfl, hb6⟩
  go_wp2_with fail
  refine hK.out _ _ (RB.later hHeld5 hb6) (fun hHeld6 => ?_)
  clear hb6 hHeld5
  clear hK K
  try simp only [Act.put, List.setIfInBounds_toArray, List.set_cons_zero, List.set_cons_succ]
  refine wpAnyH_ready (rs := [22]) (by kernel_rfl) (by simp) ?_
  refine AllReadyH.cons rfl (fun K hK => ?_) AllReadyH.nil
  go_simp
  refine (hf2 _ (RB.bel hHeld6)).mono ?_
  rintro e v7 ⟨rfl, hb7⟩
  go_wp2_with fail
  refine hK.out _ _ (RB.later hHeld6 hb7) (fun hHeld7 => ?_)
  clear hb7 hHeld6
  clear hK K
  try simp only [Act.put, List.setIfInBounds_toArray, List.set_cons_zero, List.set_cons_succ]
  refine wpAnyH_take (i := 23) (oi := { dst := some 32, op := Op.binOp BinOp.neq 3 (Operand.tmp 28) (Operand.tmp 31) 3, type := _, pos := _, after := _, guard := some (16, false) }) (v := .bool false) rfl (by kernel_rfl) (by kernel_rfl) (by kernel_rfl) (fun _ _ _ h => h) (Or.inl ⟨by rfl, fun w hSw => by (try dsimp only at hSw); go_simp⟩) (by assumption) ?_
  simp only [Act.put, List.setIfInBounds_toArray, List.set_cons_zero, List.set_cons_succ]
  refine wpAnyH_take (i := 24) (oi := { dst := some 33, op := Op.pick (Operand.tmp 25) (Operand.const (Value.bool true)) (Operand.tmp 32), type := _, pos := _, after := _, guard := none }) (v := .bool false) rfl (by kernel_rfl) (by kernel_rfl) (by kernel_rfl) (fun _ _ _ h => h) (Or.inl ⟨by rfl, fun w hSw => by (try dsimp only at hSw); go_simp⟩) (by assumption) ?_
  simp only [Act.put, List.setIfInBounds_toArray, List.set_cons_zero, List.set_cons_succ]
  refine wpAnyH_done (by kernel_rfl) ?_ _
  rename_i W0
  have HH : Hid (RB w _ f) := hHeld7
  clear hli hc1 hc2 ht1 ht2 hf1 hf2 hS0 hR
  go_upto_region 3 with (fail)
  have hG0 : RB w (World.drew _) f := RB.later HH.out ⟨rfl, rfl, rfl, Nat.le_refl _, fun _ _ => rfl⟩
  refine wp_region_held_drew (S := fun W => RB w W f) (by kernel_rfl) hG0 (fun hG => ?_)
  refine wpAnyH_take (i := 0) (oi := { dst := some 34, op := Op.load 25 (Operand.tmp 2), type := _, pos := _, after := _, guard := none }) (v := .agg (rcs f)) rfl (by kernel_rfl) (by kernel_rfl) (by kernel_rfl) (fun _ _ _ h => h) (Or.inl ⟨by rfl, fun w hSw => ld25_exec (RB.ro hSw) rfl rfl⟩) (by assumption) ?_
  simp only [Act.put, List.setIfInBounds_toArray, List.set_cons_zero, List.set_cons_succ]
  refine wpAnyH_take (i := 2) (oi := { dst := some 36, op := Op.load 25 (Operand.tmp 2), type := _, pos := _, after := _, guard := none }) (v := .agg (rcs f)) rfl (by kernel_rfl) (by kernel_rfl) (by kernel_rfl) (fun _ _ _ h => h) (Or.inl ⟨by rfl, fun w hSw => ld25_exec (RB.ro hSw) rfl rfl⟩) (by assumption) ?_
  simp only [Act.put, List.setIfInBounds_toArray, List.set_cons_zero, List.set_cons_succ]
  refine wpAnyH_take (i := 4) (oi := { dst := some 38, op := Op.load 25 (Operand.tmp 2), type := _, pos := _, after := _, guard := none }) (v := .agg (rcs f)) rfl (by kernel_rfl) (by kernel_rfl) (by kernel_rfl) (fun _ _ _ h => h) (Or.inl ⟨by rfl, fun w hSw => ld25_exec (RB.ro hSw) rfl rfl⟩) (by assumption) ?_
  simp only [Act.put, List.setIfInBounds_toArray, List.set_cons_zero, List.set_cons_succ]
  refine wpAnyH_ready (rs := [1]) (by kernel_rfl) (by simp) ?_
  refine AllReadyH.cons rfl (fun K hK => ?_) AllReadyH.nil
  go_simp
  refine (people_any f _).mono ?_
  rintro e z1 ⟨⟨va, rfl, ra1⟩, hb1⟩
  go_wp2_with fail
  refine hK.out _ _ (RB.later hG hb1) (fun hG1 => ?_)
  clear hb1 hG
  clear hK K
  try simp only [Act.put, List.setIfInBounds_toArray, List.set_cons_zero, List.set_cons_succ]
  refine wpAnyH_ready (rs := [3]) (by kernel_rfl) (by simp) ?_
  refine AllReadyH.cons rfl (fun K hK => ?_) AllReadyH.nil
  go_simp
  refine (people_any f _).mono ?_
  rintro e z2 ⟨⟨vb, rfl, rb2⟩, hb2⟩
  have ra2 := owns_later ra1 hb2
  have apb := apart_older ra1 rb2
  go_wp2_with fail
  refine hK.out _ _ (RB.later hG1 hb2) (fun hG2 => ?_)
  have hs12 := hb2.size
  clear hb2 hG1 ra1
  clear hK K
  try simp only [Act.put, List.setIfInBounds_toArray, List.set_cons_zero, List.set_cons_succ]
  refine wpAnyH_ready (rs := [5]) (by kernel_rfl) (by simp) ?_
  refine AllReadyH.cons rfl (fun K hK => ?_) AllReadyH.nil
  go_simp
  refine (rPeople_any f _).mono ?_
  rintro e z3 ⟨⟨vc, rfl, rc3⟩, hb3⟩
  have ra3 := owns_later ra2 hb3
  have rb3 := owns_later rb2 hb3
  have apc := apart_older ra2 rc3
  go_wp2_with fail
  refine hK.out _ _ (RB.later hG2 hb3) (fun hG3 => ?_)
  clear hb3 hG2 ra2 rb2
  clear hK K
  try simp only [Act.put, List.setIfInBounds_toArray, List.set_cons_zero, List.set_cons_succ]
  refine wpAnyH_take (i := 6) (oi := { dst := some 5, op := Op.assign (Operand.tmp 35), type := _, pos := _, after := _, guard := none }) (v := va) rfl (by kernel_rfl) (by kernel_rfl) (by kernel_rfl) (fun _ _ _ h => h) (Or.inl ⟨by rfl, fun w hSw => by (try dsimp only at hSw); go_simp⟩) (by assumption) ?_
  simp only [Act.put, List.setIfInBounds_toArray, List.set_cons_zero, List.set_cons_succ]
  refine wpAnyH_take (i := 7) (oi := { dst := some 6, op := Op.assign (Operand.tmp 37), type := _, pos := _, after := _, guard := none }) (v := vb) rfl (by kernel_rfl) (by kernel_rfl) (by kernel_rfl) (fun _ _ _ h => h) (Or.inl ⟨by rfl, fun w hSw => by (try dsimp only at hSw); go_simp⟩) (by assumption) ?_
  simp only [Act.put, List.setIfInBounds_toArray, List.set_cons_zero, List.set_cons_succ]
  refine wpAnyH_take (i := 8) (oi := { dst := some 7, op := Op.assign (Operand.tmp 39), type := _, pos := _, after := _, guard := none }) (v := vc) rfl (by kernel_rfl) (by kernel_rfl) (by kernel_rfl) (fun _ _ _ h => h) (Or.inl ⟨by rfl, fun w hSw => by (try dsimp only at hSw); go_simp⟩) (by assumption) ?_
  simp only [Act.put, List.setIfInBounds_toArray, List.set_cons_zero, List.set_cons_succ]
  refine wpAnyH_done (by kernel_rfl) ?_ _
  obtain ⟨aa, ca, rfl, rda, hoa⟩ := iv_rd ra3
  obtain ⟨ab, cb, rfl, rdb, hob⟩ := iv_rd rb3
  obtain ⟨ac, cc, rfl, rdc, hoc⟩ := iv_rd rc3
  have HNB : Hid (∀ b o, ab = some ⟨b, o, none⟩ → some b ≠ (Value.slice aa (ppl f).length ca).ownBlock) := far_of apb hob
  have HNC : Hid (∀ b o, ac = some ⟨b, o, none⟩ → some b ≠ (Value.slice aa (ppl f).length ca).ownBlock) := far_of apc hoc
  have hbase : w.heap.size + 1 ≤ v7.drew.heap.size + 1 := by have := HH.out.bel.size; show w.heap.size + 1 ≤ v7.heap.size + 1; omega
  have HRW : Hid (z3.ownsRow (w.heap.size + 1) 3 1 (.slice aa (ppl f).length ca) (ppl f).length (iv (ppl f))) := owns_wide ra3 hbase
  have HLOW : Hid (∀ k, k < w.heap.size + 1 → some k ≠ (Value.slice aa (ppl f).length ca).ownBlock) := fun k hk => row_far HRW.out hk
  have hp64 := ppl_len f
  have s1 := fun (W : World) (h : Below z3.heap.size z3 W) => same_any aa ac ca cc (ppl f) W (by omega) (rda.later h) (rdc.later h)
  have s2 := fun (W : World) (h : Below z3.heap.size z3 W) => same_any ab ac cb cc (ppl f) W (by omega) (rdb.later h) (rdc.later h)
  have HG3 : Hid (RB w z3 f) := hG3
  have RB3 : Hid (RdI z3 ab (ppl f)) := rdb
  have RC3 : Hid (RdI z3 ac (ppl f)) := rdc
  obtain ⟨cf, hcf⟩ : ∃ cf, rcs f = cf := ⟨_, rfl⟩
  rw [hcf]
  have HCF : Hid (rcs f = cf) := hcf
  obtain ⟨N, hN⟩ : ∃ N, (ppl f).length = N := ⟨_, rfl⟩
  have HN : Hid ((ppl f).length = N) := hN
  rw [hN] at hp64 HRW HLOW HNB HNC ⊢
  simp only [hN] at s1 s2
  clear hcf ra3 rb3 rc3 apb apc rda rdb rdc hoa hob hoc hbase hG3 hG0 hN HH hHeld7
  go_wp2_with fail
  refine (s1 _ (Below.refl _ _)).mono ?_
  rintro e w5 ⟨rfl, hb5⟩
  clear s1
  go_wp2_with fail
  refine (s2 _ hb5).mono ?_
  rintro e w6 ⟨rfl, hb6⟩
  clear s2
  have hb36 := hb5.trans (hb6.mono hb5.size)
  have HR6 : Hid (w6.ownsRow (w.heap.size + 1) 3 1 (.slice aa N ca) N (iv (ppl f))) := owns_later HRW.out hb36
  have HG6 : Hid (RB w w6 f) := HG3.out.later hb36
  have RB6 : Hid (RdI w6 ab (ppl f)) := RB3.out.later hb36
  have RC6 : Hid (RdI w6 ac (ppl f)) := RC3.out.later hb36
  clear hb5 hb6 hb36 HRW HG3 RB3 RC3
  go_wp2_with fail
  go_loopw [52] (fun i wr => ∃ k : Nat, k ≤ N ∧ i = .int .i64 (k : Int) ∧ w6.grownBy wr (Value.slice aa N ca).ownBlock ∧ ∃ xs, wr.ownsRow (w.heap.size + 1) 3 1 (.slice aa N ca) N xs) (fun i _ => N - (intOf i).toNat)
  case atStart => exact ⟨0, by omega, rfl, grown_refl _ _, _, HR6.out⟩
  case round =>
    obtain ⟨k, hk, rfl, hg, xs, ho⟩ := hrel
    have HG : Hid (w6.grownBy wr (Value.slice aa N ca).ownBlock) := hg
    have HO : Hid (wr.ownsRow (w.heap.size + 1) 3 1 (.slice aa N ca) N xs) := ho
    clear hg ho
    by_cases hkm : k < N
    · obtain ⟨g, rfl, hg1, hg2⟩ := row_some HO.out (by omega)
      obtain ⟨u0, q0⟩ := row_cell HO.out k (by omega)
      have f0 := HO.out.frozenAt k
      have i1 : (0 : Int) ≤ (k : Int) := by omega
      have i2 : (k : Int) < (N : Int) := by omega
      go_wp2_with fail
      go_roundw
      case rel =>
        have st := HO.out.stored k (.int .i64 (-9))
        exact ⟨k + 1, by omega, by go_num, grown_trans HG.out st.2, _, st.1⟩
      case measure => simp [intOf]; omega
    · have hkn' : decide ((k : Int) < (N : Int)) = false := by simp; omega
      obtain ⟨i0, hi, hz0, hz1, hz2⟩ := info_parts infoInt
      have hs6 : w.heap.size + 1 ≤ wr.heap.size := Nat.le_trans HG6.out.ro.lt HG.out.size
      go_upto_region 12 with (at_builtin; refine wpList_append_own (w := _) rfl _ _ 32 rfl (w.heap.size + 1) 3 i0 _ 1 8 Tryd.underlying32 hi hz0 hz1 hz2 rfl (by decide) _ _ _ rfl (HO.out.alloc _) ⟨wr.heap.size, 0, none⟩ 1 1 [.int .i64 (-8)] rfl rfl (cell_one_new _ _ _) (by simp [Value.oneCell']) (by unfold maxLen; omega) (by omega) (by simp; omega) ?_; intro v' w8 hown' hgrow _; obtain ⟨g', cap', rfl⟩ := ownsRow_succ hown')
      have gw := grown_trans HG.out (show wr.grownBy (wr.alloc (.cells #[.int .i64 (-8)] 3)) (Value.slice aa N ca).ownBlock from ⟨rfl, rfl, rfl, by simp, fun q hq _ => ((Below.refl _ wr).alloc (Nat.le_refl _) _).block q hq⟩)
      have gx := grown_trans gw hgrow
      have RB8 : Hid (RdI w8 ab (ppl f)) := RB6.out.far gx HNB.out
      have RC8 : Hid (RdI w8 ac (ppl f)) := RC6.out.far gx HNC.out
      have RO8 : RoAt w8 w.heap.size f := RoAt_far HG6.out.ro gx (HLOW.out _ (by omega))
      have HB8 : Below w.heap.size w w8 := below_grown HG6.out.bel gx HG6.out.bel.size fun j hj => by
        rcases Nat.lt_or_ge j (w.heap.size + 1) with hlt | hge
        · exact absurd hj.symm (HLOW.out j hlt)
        · omega
      clear gw gx hgrow hown' HG HO HG6 RB6 RC6 HR6
      have s3 := same_any ab ac cb cc (ppl f) w8 (by rw [HN.out]; omega) RB8.out RC8.out
      rw [HN.out] at s3
      go_wp2_with fail
      refine s3.mono ?_
      rintro e w9 ⟨rfl, hb9⟩
      have RO9 := RO8.later hb9
      have HB9 := HB8.trans (hb9.mono HB8.size)
      have RC9 := RC8.out.later hb9
      clear s3 hb9 RO8 HB8 RB8 RC8
      have hpe := people_any f w9
      rw [HCF.out] at hpe
      go_wp2_with (refine rd_guard (v := .agg cf) (by rfl) (by rw [← HCF.out]; exact ld25_exec RO9 rfl rfl) ?_)
      refine hpe.mono ?_
      rintro e w10 ⟨⟨vd, rfl, rd10⟩, hb10⟩
      obtain ⟨ad, cd, rfl, rdd, _⟩ := iv_rd rd10
      have HB10 := HB9.trans (hb10.mono HB9.size)
      have s4 := same_any ad ac cd cc (ppl f) w10 (by rw [HN.out]; omega) rdd (RC9.later hb10)
      rw [HN.out] at s4 ⊢
      clear hpe rd10 rdd hb10 RC9 RO9 HB9
      go_wp2_with fail
      refine s4.mono ?_
      rintro e w11 ⟨rfl, hb11⟩
      clear s4
      go_wp2_with fail
      go_ret
      exact ⟨rfl, HB10.trans (hb11.mono HB10.size)⟩
end Go.Proofs.YtieagbjempndnaaDoor.rosterChecks
