/- Contracts: New; the copies of maps, of a list of keys. -/
import Derived.Test.YtompgoaogomoaaaKnAb
import Derived.Shelf.SlMaps.Clone
import Derived.Carry
import Derived.Laws.Cover3
namespace Go.Proofs.Ytompgoaogomoaaa.Kn
open Go.RowKit Go.Maps
open Rt (Gd gd gd_yes gd_no)
set_option linter.unusedVariables false
set_option linter.unusedSimpArgs false

/- An object of four maps that are apart. -/
theorem pat_mk {W : World} {N : Nat} {T : List K2} {B : List B2} {X : List Sd} {f : Nat → Int} {pd : List B2} {bl bb bt bs : Nat} {vs : K2 → Value} (hw : Wk T B f pd []) (hL : Lm W bl f) (hB : Us 35 kB wfB W bb B.length (fun c => c ∈ B ∧ gb c = true)) (hX : Us 37 kX wX W bt X.length (fun c => c ∈ X ∧ gx c = true)) (hS : Sm W N bs B.length pd vs)
    (ne : bl ≠ bb ∧ bl ≠ bt ∧ bl ≠ bs ∧ bb ≠ bt ∧ bb ≠ bs ∧ bt ≠ bs) (ge : N ≤ bl ∧ N ≤ bb ∧ N ≤ bt ∧ N ≤ bs) : PAt (W.alloc (.cells #[.map (some bl), .map (some bb), .map (some bt), .map (some bs)] 69)) N W.heap.size T B X (Fp W.heap.size bl bb bt bs vs) := by
  have hb := Rt.below1 W (.cells #[.map (some bl), .map (some bb), .map (some bt), .map (some bs)] 69)
  have hlt := hL.lt
  exact ⟨f, pd, bl, bb, bt, bs, vs, hw, ⟨(MapKept.heap_alloc W _).1, hL.later hb, hB.later hb, hX.later hb, hS.later hb, ne, by omega, ge⟩, rfl⟩
set_option maxRecDepth 100000 in
theorem new_p (w : World) : Calls Try.prog 10 #[] w fun e w' => ∃ p F, e = .returned (.pointer (some ⟨p, 0, none⟩)) ∧ PAt w' w.heap.size p [] [] [] F ∧ Below w.heap.size w w' := by
  have hmm := @run_makeMap Try.prog
  have HL : Hid (Lm (w.alloc (.map #[] 0)) w.heap.size (fun _ => 0)) := Lm.new w
  have HB : Hid (Us 35 kB wfB ((w.alloc (.map #[] 0)).alloc (.map #[] 0)) (w.heap.size + 1) 0 (fun _ => False)) := by unfold Hid; have := Us.new (K := 35) (kl := kB) (ok := wfB) (w.alloc (.map #[] 0)); simpa using this
  have HX : Hid (Us 37 kX wX (((w.alloc (.map #[] 0)).alloc (.map #[] 0)).alloc (.map #[] 0)) (w.heap.size + 1 + 1) 0 (fun _ => False)) := by unfold Hid; have := Us.new (K := 37) (kl := kX) (ok := wX) ((w.alloc (.map #[] 0)).alloc (.map #[] 0)); simpa using this
  have HS : Hid (Sm ((((w.alloc (.map #[] 0)).alloc (.map #[] 0)).alloc (.map #[] 0)).alloc (.map #[] 0)) w.heap.size (w.heap.size + 1 + 1 + 1) 0 [] (fun _ => snil)) := by unfold Hid; have := Sm.new (((w.alloc (.map #[] 0)).alloc (.map #[] 0)).alloc (.map #[] 0)) w.heap.size; simpa using this
  have b1 := Rt.below1 w (.map #[] 0)
  have b2 := Rt.below1 (w.alloc (.map #[] 0)) (.map #[] 0)
  have b3 := Rt.below1 ((w.alloc (.map #[] 0)).alloc (.map #[] 0)) (.map #[] 0)
  have b4 := Rt.below1 (((w.alloc (.map #[] 0)).alloc (.map #[] 0)).alloc (.map #[] 0)) (.map #[] 0)
  have HB4 : Hid (Below w.heap.size w ((((w.alloc (.map #[] 0)).alloc (.map #[] 0)).alloc (.map #[] 0)).alloc (.map #[] 0))) := Rt.Below.then (Rt.Below.then (Rt.Below.then b1 b2) b3) b4
  have HP0 := pat_mk (T := []) (B := []) (X := []) Wk.empty (((HL.out.later b2).later b3).later b4) (((HB.out.later b3).later b4).mono (m := 0) (Nat.le_refl _) (fun c => by simp)) ((HX.out.later b4).mono (m := 0) (Nat.le_refl _) (fun c => by simp)) HS.out ⟨by omega, by omega, by omega, by omega, by omega, by omega⟩ ⟨by omega, by omega, by omega, by omega⟩
  have e4 : ((((w.alloc (.map #[] 0)).alloc (.map #[] 0)).alloc (.map #[] 0)).alloc (.map #[] 0)).heap.size = w.heap.size + 1 + 1 + 1 + 1 := by simp
  rw [e4] at HP0
  have HP : Hid (∃ F, PAt (((((w.alloc (.map #[] 0)).alloc (.map #[] 0)).alloc (.map #[] 0)).alloc (.map #[] 0)).alloc (.cells #[.map (some w.heap.size), .map (some (w.heap.size + 1)), .map (some (w.heap.size + 1 + 1)), .map (some (w.heap.size + 1 + 1 + 1))] 69)) w.heap.size (w.heap.size + 1 + 1 + 1 + 1) [] [] [] F) := ⟨_, HP0⟩
  clear HL HB HX HS b1 b2 b3 b4 e4 HP0
  go_enter Try.func10, Try.ntmps10
  go_wp2
  go_ret
  obtain ⟨F, hF⟩ := HP.out
  exact ⟨_, F, rfl, hF, Rt.Below.then HB4.out (Rt.below1 _ _)⟩
/- The copies. -/
set_option maxRecDepth 100000 in
theorem mcl_any (b : Nat) (f : Nat → Int) (w : World) (h : Lm w b f) : Calls Try.prog 50 #[.map (some b)] w fun e w' => ∃ b', e = .returned (.map (some b')) ∧ Lm w' b' f ∧ w.heap.size ≤ b' ∧ Below w.heap.size w w' := by
  obtain ⟨n, D, ⟨es, cl, hb, F, hs, hD⟩, hM⟩ := h
  have hq := fun w => run_eql_map_nil_sl (P := Try.prog) w 64 _ _ (some b) Try.underlying64
  have HF : Hid (∀ w' : World, w'.heap[w.heap.size]? = some (.map es cl) → Lm w' w.heap.size f) := fun w' h' => ⟨n, D, ⟨es, cl, h', F, hs, hD⟩, hM⟩
  clear F hs hD hM
  go_enter Try.func50, Try.ntmps50
  go_wp2
  rw [run_callFunc_extern Try.func59 (by kernel_rfl) (by kernel_rfl) (by kernel_rfl) (e := Extern.MapsClone.clone) (by kernel_rfl), run_maps_clone_sl w 64 hb]
  simp only [Result.andThen]
  rw [Oper.upon_value]
  go_wp2
  rw [run_typeAssert_map_sl _ 64 20 _ _ _ Try.underlying64 ]
  simp only [Result.andThen]
  rw [Oper.upon_value]
  go_wp2
  go_ret
  exact ⟨_, rfl, HF.out _ (MapKept.heap_alloc w _).1, Nat.le_refl _, Rt.below1 _ _⟩
set_option maxRecDepth 100000 in
theorem mcb_any (b : Nat) (n : Nat) (S : B2 → Prop) (w : World) (h : Us 35 kB wfB w b n S) : Calls Try.prog 51 #[.map (some b)] w fun e w' => ∃ b', e = .returned (.map (some b')) ∧ Us 35 kB wfB w' b' n S ∧ w.heap.size ≤ b' ∧ Below w.heap.size w w' := by
  obtain ⟨D, ⟨es, cl, hb, F, hs, hD⟩, hM⟩ := h
  have hq := fun w => run_eql_map_nil_sl (P := Try.prog) w 65 _ _ (some b) Try.underlying65
  have HF : Hid (∀ w' : World, w'.heap[w.heap.size]? = some (.map es cl) → Us 35 kB wfB w' w.heap.size n S) := fun w' h' => ⟨D, ⟨es, cl, h', F, hs, hD⟩, hM⟩
  clear F hs hD hM
  go_enter Try.func51, Try.ntmps51
  go_wp2
  rw [run_callFunc_extern Try.func59 (by kernel_rfl) (by kernel_rfl) (by kernel_rfl) (e := Extern.MapsClone.clone) (by kernel_rfl), run_maps_clone_sl w 65 hb]
  simp only [Result.andThen]
  rw [Oper.upon_value]
  go_wp2
  rw [run_typeAssert_map_sl _ 65 20 _ _ _ Try.underlying65 ]
  simp only [Result.andThen]
  rw [Oper.upon_value]
  go_wp2
  go_ret
  exact ⟨_, rfl, HF.out _ (MapKept.heap_alloc w _).1, Nat.le_refl _, Rt.below1 _ _⟩
set_option maxRecDepth 100000 in
theorem mcx_any (b : Nat) (n : Nat) (S : Sd → Prop) (w : World) (h : Us 37 kX wX w b n S) : Calls Try.prog 52 #[.map (some b)] w fun e w' => ∃ b', e = .returned (.map (some b')) ∧ Us 37 kX wX w' b' n S ∧ w.heap.size ≤ b' ∧ Below w.heap.size w w' := by
  obtain ⟨D, ⟨es, cl, hb, F, hs, hD⟩, hM⟩ := h
  have hq := fun w => run_eql_map_nil_sl (P := Try.prog) w 66 _ _ (some b) Try.underlying66
  have HF : Hid (∀ w' : World, w'.heap[w.heap.size]? = some (.map es cl) → Us 37 kX wX w' w.heap.size n S) := fun w' h' => ⟨D, ⟨es, cl, h', F, hs, hD⟩, hM⟩
  clear F hs hD hM
  go_enter Try.func52, Try.ntmps52
  go_wp2
  rw [run_callFunc_extern Try.func59 (by kernel_rfl) (by kernel_rfl) (by kernel_rfl) (e := Extern.MapsClone.clone) (by kernel_rfl), run_maps_clone_sl w 66 hb]
  simp only [Result.andThen]
  rw [Oper.upon_value]
  go_wp2
  rw [run_typeAssert_map_sl _ 66 20 _ _ _ Try.underlying66 ]
  simp only [Result.andThen]
  rw [Oper.upon_value]
  go_wp2
  go_ret
  exact ⟨_, rfl, HF.out _ (MapKept.heap_alloc w _).1, Nat.le_refl _, Rt.below1 _ _⟩
theorem eql_nilK (w : World) (a : Option Addr) (l c : Nat) : (binOp .eql 27 (.slice a l c) (.slice none 0 0)).run Try.prog w = .ok (.bool a.isNone) w := by
  simp only [binOp]
  simp [run_equal_slice_nil w 27 33 a l c Try.underlying27 ]
theorem clone_keys (N : Nat) (y : Value) (L : List K2) (w : World) (h : w.ownsRow N 33 2 y L.length (L.flatMap kC)) (h0 : L ≠ []) (hl : L.length ≤ 4398046511104) :
    Calls Try.prog 49 #[y] w fun e w' => ∃ v, e = .returned v ∧ w'.ownsRow w.heap.size 33 2 v L.length (L.flatMap kC) ∧ Below w.heap.size w w' := by
  obtain ⟨i0, hi, hz0, hz1, hz2⟩ := info_parts infoKey
  obtain ⟨a, c, rfl, hac⟩ := own_spell h
  have hp : 0 < L.length := List.length_pos_iff.2 h0
  obtain ⟨g, rfl⟩ : ∃ g, a = some ⟨g, 0, none⟩ := hac.resolve_left (by omega)
  have hq := fun w => eql_nilK w (some ⟨g, 0, none⟩) L.length c
  have hb := Rt.below1 w (.cells #[] 33)
  have HE : Hid ((w.alloc (.cells #[] 33)).ownsRow w.heap.size 33 2 (.slice (some ⟨w.heap.size, 0, none⟩) 0 0) 0 []) := ⟨rfl, Or.inr ⟨w.heap.size, 0, #[], rfl, Nat.le_refl _, heap_alloc_new w _, Nat.le_refl _, Nat.zero_le _, rfl, rfl⟩⟩
  have HR : Hid _ := own_later h hb
  have HB : Hid _ := hb
  obtain ⟨n, hn⟩ : ∃ n, L.length = n := ⟨_, rfl⟩
  have HN : Hid (L.length = n) := hn
  rw [hn] at hl hp hq ⊢
  clear h hac h0 hb hn
  go_enter Try.func49, Try.ntmps49
  go_wp2_with (at_builtin; refine wpList_app rfl _ _ 27 rfl w.heap.size N 33 i0 _ 2 16 Try.underlying27 hi hz0 hz1 hz2 rfl (by decide) (.slice (some ⟨w.heap.size, 0, none⟩) 0 0) (.slice (some ⟨g, 0, none⟩) n c) 0 n [] (L.flatMap kC) rfl rfl HE.out (HN.out ▸ HR.out) (fun e => by omega) (kC_one _) (by unfold maxLen; omega) (by omega) (by simp) ?_; intro v8 w8 r1 r2 r3)
  go_ret
  rw [Nat.zero_add, List.nil_append] at r1
  exact ⟨_, rfl, r1, HB.out.grown r2 HB.out.size (fun j hj => by cases hj; exact Nat.le_refl _)⟩
end Go.Proofs.Ytompgoaogomoaaa.Kn
