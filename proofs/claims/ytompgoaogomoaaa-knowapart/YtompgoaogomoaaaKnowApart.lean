/- For any two rows of calls: a copy goes its own way; lists that are answered are new memory. No conditions. -/
import Derived.Test.YtompgoaogomoaaaRows
import Derived.Test.YtompgoaogomoaaaKnAe
import Derived.Test.YtompgoaogomoaaaKnAq
import Derived.BigQuiet
import Derived.OpenShut
import Derived.SizedLaws
import Derived.Deep.SlicePairs
namespace Go.Proofs.Ytompgoaogomoaaa.knowApart
open Go.ChangeShapes Go.WideShapes Go.ChangeAt Go.RowKit Go.Maps Go.Joins Go.Deep
open Go.Proofs.Ytompgoaogomoaaa.Kn
set_option linter.unusedVariables false
set_option linter.unusedSimpArgs false

theorem walk (a : Option Addr) (c : Nat) (l : List Op9) (a2 : Option Addr) (d : Nat) (q : List Op9) (w : World) (rd : RdO w a l) (hl : l.length * 80 ≤ 140737488351232) (hn : a = none → c = 0) (ok : ∀ p ∈ l, OkO p) (rq : RdO w a2 q) (hlq : q.length * 80 ≤ 140737488351232) (hn2 : a2 = none → d = 0) (okq : ∀ p ∈ q, OkO p) :
    Calls Try.prog 8 #[.slice a l.length c, .slice a2 q.length d] w fun e w' => e = .returned (.bool true) ∧ Below w.heap.size w w' := apart_walk api a c l a2 d q w rd hl ok rq hlq okq
theorem own : ownKnob Try.prog.godebug = none := by kernel_rfl
theorem laidOut : laidOutB Try.prog = true := by kernel_rfl
set_option maxRecDepth 100000 in
theorem lifted (os : Os) (started : os.Started) (H : Type) (enc : TypeId × Value → H) :
    ReturnsInHanded {} Try.checked os 8 .any (Rows.knowApartSpec.pre6 enc Try.prog Try.f8 Rows.knowApartRow.domain false) (Rows.knowApartSpec.post enc Try.prog Try.f8 false true false false) := by
  refine returnsInHanded_of_change_sized (C := Try.checked) own started (by kernel_rfl) Try.func8
    (ChangeSpec.witness6 (enc := enc) (C := Try.checked) false ⟨#[], #[.slice none 0 0, .slice none 0 0], []⟩ 8 (by kernel_rfl) (by kernel_rfl) (by kernel_rfl) (by kernel_rfl)) ?_
  intro W base args ds gs before hval0 hW hcnd hsz0 _
  have hsz : (DataW.weightsEach Try.prog (Try.f8.params.toList ++ Rows.knowApartSpec.plain.varTypes Try.prog) (ds ++ gs)).all (· ≤ reachBytes) = true := hsz0
  clear hsz0
  have hval : ∀ (j : Nat) t v, Try.f8.params[j]? = some t → args[j]? = some v → Value.okWide Try.prog W .any base t v := hval0
  have hW' := hW
  obtain ⟨p, q, hA0, hV, rfl, hfz, hnd⟩ := hW
  have hA : DataW.TrodAll enc Try.prog W 0 (fun _ => true) true Try.f8.params.toList args.toList ds p := hA0
  rw [Try.params8] at hA hval hsz
  obtain ⟨v0, vs0, d0, ds0, p0, q0, hargs, rfl, rfl, h0, r0⟩ := trodAll_cons hA
  obtain ⟨v1, vs1, d1, ds1, p1, q1, rfl, rfl, rfl, h1, r1⟩ := trodAll_cons r0
  obtain ⟨rfl, rfl, rfl⟩ := trodAll_nil r1
  obtain rfl : args = #[v0, v1] := by cases args; simp_all
  obtain ⟨rfl, rfl⟩ := trodVars_none hV
  have k0 := h0
  have lt0 : ∀ x ∈ p0, x.block < W.heap.size := by obtain ⟨m, hm⟩ := k0; exact DataW.trod_lt m _ _ _ hm
  obtain ⟨a0, c0, l0, rfl, rd0, hl0, hn0, hg0⟩ := kops_of (fun es sp e => by subst e; have h := sized_slice hsz (j := 0) (t := 22) (e := 39) rfl rfl Try.underlying22; rw [bytesKO] at h; exact h) (okWide_slice Try.underlying22 (hval 0 22 v0 rfl rfl)) h0
  have k1 := h1
  have lt1 : ∀ x ∈ p1, x.block < W.heap.size := by obtain ⟨m, hm⟩ := k1; exact DataW.trod_lt m _ _ _ hm
  obtain ⟨a1, c1, l1, rfl, rd1, hl1, hn1, hg1⟩ := kops_of (fun es sp e => by subst e; have h := sized_slice hsz (j := 1) (t := 22) (e := 39) rfl rfl Try.underlying22; rw [bytesKO] at h; exact h) (okWide_slice Try.underlying22 (hval 1 22 v1 rfl rfl)) h1
  clear hA0 hval0
  refine (walk a0 c0 l0 a1 c1 l1 W rd0 hl0 hn0 hg0 rd1 hl1 hn1 hg1).mono fun e W' ⟨he, bel⟩ => ?_
  subst he
  exact ⟨_, rfl, _, _, _, [], _, [], hW', trodAll_mk1 (shut_bool Try.underlying4 _), (trodAll_cons_mk (Below.trod laidOut (by kernel_rfl) (of_decide_eq_true (by kernel_rfl)) k0 bel lt0) (trodAll_cons_mk (Below.trod laidOut (by kernel_rfl) (of_decide_eq_true (by kernel_rfl)) k1 bel lt1) trodAll_mk0)), rfl, bel.frame _, fun h => by cases h⟩
theorem over : Rows.knowApartRow.holds Try.pinned (OpenSpec.ofChange Rows.knowApartSpec) :=
  OpenClaim.holds_of_wide 8 Try.f8 rfl rfl rfl rfl rfl rfl rfl ⟨rfl, rfl, rfl, rfl, rfl⟩ rfl rfl rfl rfl rfl (by kernel_rfl) Try.func8 (by kernel_rfl)
    (of_decide_eq_true (by kernel_rfl)) (by unfold Func.isWrapper; first | (rw [if_pos (by decide +kernel)]; kernel_rfl) | (rw [if_neg (by decide +kernel)]; exact ⟨rfl, rfl⟩))
    (fun os started H enc _ => lifted os started H enc)
end Go.Proofs.Ytompgoaogomoaaa.knowApart
namespace Go.Proofs.Ytompgoaogomoaaa
theorem knowApart_holds : Rows.KnowApartSaid := knowApart.over
#print axioms knowApart_holds
end Go.Proofs.Ytompgoaogomoaaa
