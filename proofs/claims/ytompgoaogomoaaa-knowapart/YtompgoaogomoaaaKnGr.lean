/- KnowGrows' walk, by what is asked of the program's know. -/
import Derived.Test.YtompgoaogomoaaaKnNo
namespace Go.Proofs.Ytompgoaogomoaaa.Kn
open Go.RowKit Go.Maps
open Rt (Gd gd gd_yes gd_no rGood_any)
set_option linter.unusedVariables false
set_option linter.unusedSimpArgs false

def MkL (l : List Op9) (b : B2) : Prop := gb ((b.1.1, b.1.2), (b.2.1, b.2.2)) = true ∧ (((b.1.1, b.1.2), (b.2.1, b.2.2)) ∈ boxL l ∨ (HadL l (b.1.1, b.1.2) ∧ HadL l (b.2.1, b.2.2)))
theorem had_more {l l' : List Op9} {x : K2} (h : HadL l x) : HadL (l ++ l') x :=
  had_sub (fun k hg hk => had_told hg (by unfold toldL at hk ⊢; rw [List.filterMap_append]; exact List.mem_append.2 (.inl hk))) (fun u k hk _ _ => by unfold boxL at hk ⊢; rw [List.filterMap_append]; exact List.mem_append.2 (.inl hk)) h
theorem mk_more {l l' : List Op9} {b : B2} (h : MkL l b) : MkL (l ++ l') b := ⟨h.1, h.2.imp (fun hk => by unfold boxL at hk ⊢; rw [List.filterMap_append]; exact List.mem_append.2 (.inl hk)) fun ⟨h1, h2⟩ => ⟨had_more h1, had_more h2⟩⟩
def wK (k : K2) : Prop := wI k.1 ∧ wI k.2
def wB (b : B2) : Prop := wI b.1.1 ∧ wI b.1.2 ∧ wI b.2.1 ∧ wI b.2.2
/- Between two steps: the object, the boxes it made, the keys it had. -/
structure Gr (PAt : PPred) (w : World) (N p : Nat) (l : List Op9) (F : Nat → Prop) (M : List B2) (H : List K2) (vm vh : Value) : Prop where
  po : POps PAt w N p l F
  rm : w.ownsRow N 35 4 vm M.length (M.flatMap bC)
  rh : w.ownsRow N 33 2 vh H.length (H.flatMap kC)
  fm : ∀ k, vm.ownBlock = some k → ¬ F k
  fh : ∀ k, vh.ownBlock = some k → ¬ F k
  lm : M.length ≤ l.length
  lh : H.length ≤ l.length
  am : ∀ b ∈ M, MkL l b ∧ wB b
  ah : ∀ x ∈ H, HadL l x ∧ wK x
section
variable {PAt : PPred} {Rm : RPred} {w w' : World} {N p g c : Nat} {l : List Op9} {o : Op9} {F : Nat → Prop} {M : List B2} {H : List K2} {vm vh : Value}
theorem Gr.later (A : KApi PAt Rm) (h : Gr PAt w N p l F M H vm vh) (hb : Below w.heap.size w w') : Gr PAt w' N p l F M H vm vh :=
  ⟨A.later h.po hb, own_later h.rm hb, own_later h.rh hb, h.fm, h.fh, h.lm, h.lh, h.am, h.ah⟩
theorem Gr.did (h : Gr PAt w N p l F M H vm vh) (hd : PPo PAt w w' N p (l ++ [o]) F) : ∃ F', Gr PAt w' N p (l ++ [o]) F' M H vm vh := by
  obtain ⟨F', h1, h2, h3⟩ := hd
  refine ⟨F', h1, h2.row h.rm h.fm, h2.row h.rh h.fh, fun k hk hf => ?_, fun k hk hf => ?_, ?_, ?_, fun b hb => ⟨mk_more (h.am b hb).1, (h.am b hb).2⟩, fun x hx => ⟨had_more (h.ah x hx).1, (h.ah x hx).2⟩⟩
  · rcases h3 k hf with h4 | h4
    · exact h.fm k hk h4
    · have := (h.rm.lt k hk).2; omega
  · rcases h3 k hf with h4 | h4
    · exact h.fh k hk h4
    · have := (h.rh.lt k hk).2; omega
  · have := h.lm; simp; omega
  · have := h.lh; simp; omega
theorem Gr.made (A : KApi PAt Rm) (h : Gr PAt w N p l F M H vm vh) {b : B2} (hb : MkL l b ∧ wB b) (hl : M.length + 1 ≤ l.length) (hg : w.grownBy w' vm.ownBlock) (hr : w'.ownsRow N 35 4 (.slice (some ⟨g, 0, none⟩) (M.length + 1) c) (M.length + 1) (M.flatMap bC ++ bC b)) (hat : vm.ownBlock = some g ∨ g = w.heap.size) :
    Gr PAt w' N p l F (M ++ [b]) H (.slice (some ⟨g, 0, none⟩) (M.length + 1) c) vh := by
  have hk := (Kept.refl (fun j => vm.ownBlock = some j) w).grown hg (fun j e _ => e)
  have e : (M ++ [b]).flatMap bC = M.flatMap bC ++ bC b := by simp
  refine ⟨A.kept h.po hk (fun k hf e => h.fm k e hf), by rw [e, List.length_append]; exact hr, hk.row h.rh (fun k e e' => own_apart h.rm h.rh (by decide) k e' e), fun k hk' hf => ?_, h.fh, by simp; omega, h.lh, fun x hx => ?_, h.ah⟩
  · cases hk'
    rcases hat with e | e
    · exact h.fm _ e hf
    · have h9 : g < w.heap.size := (A.ge h.po _ hf).2; omega
  · rcases List.mem_append.1 hx with hx | hx
    · exact h.am x hx
    · rw [List.mem_singleton] at hx; exact hx ▸ hb
theorem Gr.had (A : KApi PAt Rm) (h : Gr PAt w N p l F M H vm vh) {x : K2} (hx : HadL l x ∧ wK x) (hl : H.length + 1 ≤ l.length) (hg : w.grownBy w' vh.ownBlock) (hr : w'.ownsRow N 33 2 (.slice (some ⟨g, 0, none⟩) (H.length + 1) c) (H.length + 1) (H.flatMap kC ++ kC x)) (hat : vh.ownBlock = some g ∨ g = w.heap.size) :
    Gr PAt w' N p l F M (H ++ [x]) vm (.slice (some ⟨g, 0, none⟩) (H.length + 1) c) := by
  have hk := (Kept.refl (fun j => vh.ownBlock = some j) w).grown hg (fun j e _ => e)
  have e : (H ++ [x]).flatMap kC = H.flatMap kC ++ kC x := by simp
  refine ⟨A.kept h.po hk (fun k hf e => h.fh k e hf), hk.row h.rm (fun k e e' => own_apart h.rm h.rh (by decide) k e e'), by rw [e, List.length_append]; exact hr, h.fm, fun k hk' hf => ?_, h.lm, by simp; omega, h.am, fun y hy => ?_⟩
  · cases hk'
    rcases hat with e | e
    · exact h.fh _ e hf
    · have h9 : g < w.heap.size := (A.ge h.po _ hf).2; omega
  · rcases List.mem_append.1 hy with hy | hy
    · exact h.ah y hy
    · rw [List.mem_singleton] at hy; exact hy ▸ hx
end
structure GS (PAt : PPred) (w2 W : World) (N p P : Nat) (l : List Op9) (F : Nat → Prop) (M : List B2) (H : List K2) (vm vh : Value) (oc : Array Value) : Prop where
  gr : Gr PAt W N p l F M H vm vh
  bel : Below N w2 W
  sz : N ≤ W.heap.size
  ob : W.heap[P]? = some (.cells oc 39 (0, 0))
section
variable {PAt : PPred} {Rm : RPred} {w2 w w' : World} {N p P g c : Nat} {l : List Op9} {F : Nat → Prop} {M : List B2} {H : List K2} {vm vh : Value} {oc : Array Value}
theorem GS.later (A : KApi PAt Rm) (h : GS PAt w2 w N p P l F M H vm vh oc) (hb : Below w.heap.size w w') : GS PAt w2 w' N p P l F M H vm vh oc :=
  ⟨h.gr.later A hb, h.bel.trans (hb.mono h.sz), Nat.le_trans h.sz hb.size, (hb.block P (Array.getElem?_eq_some_iff.1 h.ob).1).trans h.ob⟩
theorem GS.cell (h : GS PAt w2 w N p P l F M H vm vh oc) (j : Nat) : w.cell? ⟨P, j, none⟩ = oc[j]? := cell_of_row _ _ j _ _ _ h.ob
theorem GS.made (A : KApi PAt Rm) (h : GS PAt w2 w N p P l F M H vm vh oc) {b : B2} (hb : MkL l b ∧ wB b) (hl : M.length + 1 ≤ l.length) (hg : w.grownBy w' vm.ownBlock) (hr : w'.ownsRow N 35 4 (.slice (some ⟨g, 0, none⟩) (M.length + 1) c) (M.length + 1) (M.flatMap bC ++ bC b)) (hat : vm.ownBlock = some g ∨ g = w.heap.size) :
    GS PAt w2 w' N p P l F (M ++ [b]) H (.slice (some ⟨g, 0, none⟩) (M.length + 1) c) vh oc := by
  have hk := (Kept.refl (fun j => vm.ownBlock = some j) w).grown hg (fun j e _ => e)
  refine ⟨h.gr.made A hb hl hg hr hat, h.bel.trans (hk.below h.sz fun k e => (h.gr.rm.lt k e).1), Nat.le_trans h.sz hk.size, (hk.block P (Array.getElem?_eq_some_iff.1 h.ob).1 fun e => ?_).trans h.ob⟩
  obtain ⟨_, _, cur, hc⟩ := own_type h.gr.rm e
  rw [h.ob] at hc
  simp at hc
theorem GS.had (A : KApi PAt Rm) (h : GS PAt w2 w N p P l F M H vm vh oc) {x : K2} (hx : HadL l x ∧ wK x) (hl : H.length + 1 ≤ l.length) (hg : w.grownBy w' vh.ownBlock) (hr : w'.ownsRow N 33 2 (.slice (some ⟨g, 0, none⟩) (H.length + 1) c) (H.length + 1) (H.flatMap kC ++ kC x)) (hat : vh.ownBlock = some g ∨ g = w.heap.size) :
    GS PAt w2 w' N p P l F M (H ++ [x]) vm (.slice (some ⟨g, 0, none⟩) (H.length + 1) c) oc := by
  have hk := (Kept.refl (fun j => vh.ownBlock = some j) w).grown hg (fun j e _ => e)
  refine ⟨h.gr.had A hx hl hg hr hat, h.bel.trans (hk.below h.sz fun k e => (h.gr.rh.lt k e).1), Nat.le_trans h.sz hk.size, (hk.block P (Array.getElem?_eq_some_iff.1 h.ob).1 fun e => ?_).trans h.ob⟩
  obtain ⟨_, _, cur, hc⟩ := own_type h.gr.rh e
  rw [h.ob] at hc
  simp at hc
end
end Go.Proofs.Ytompgoaogomoaaa.Kn
