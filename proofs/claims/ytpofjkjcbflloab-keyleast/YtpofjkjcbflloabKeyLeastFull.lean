/- For every list of keys: KeyLeast answers true. No condition but the form's own reach. -/
import Derived.Test.YtpofjkjcbflloabRows
import Derived.Test.YtpofjkjcbflloabKwNil
import Derived.Test.YtpofjkjcbflloabOpenKey
import Derived.Deep.SlicePairs
import Derived.SizedLaws
namespace Go.Proofs.Ytpofjkjcbflloab.keyLeast
open Go.ChangeShapes Go.WideShapes Go.ChangeAt Go.RowKit
set_option linter.unusedVariables false

theorem lea_any (a : Option Addr) (c : Nat) (ks : List (Int × Int)) (w : World) (hl : ks.length * 16 ≤ 140737488351232) (h : RdAt w a ks) (hc : a = none → c = 0) :
    Calls Try.prog 3 #[.slice a ks.length c] w fun e w' => e = .returned (.bool true) ∧ Below w.heap.size w w' := by
  by_cases h0 : ks = []
  · cases a with
    | none => exact lea_nil c ks.length ks (lst ks) rfl rfl (by rw [h0]; rfl) (hc rfl) w hl h
    | some ad => exact lea_zero ad c ks.length ks (lst ks) rfl rfl (by rw [h0]; rfl) w hl h
  · obtain ⟨b, o, rfl, k1⟩ := h.spot h0
    exact lea_some b o c ks.length ks (lst ks) rfl rfl (List.length_pos_iff.2 h0) w hl h
theorem own : ownKnob Try.prog.godebug = none := by kernel_rfl
theorem bytesK : Try.prog.bytesOf 25 = 16 := by kernel_rfl
theorem laidOut : laidOutB Try.prog = true := by kernel_rfl
/- The keys of a slice that came in. -/
theorem keys_of {H : Type} {enc : TypeId × Value → H} {W : World} {base : Nat} {spare : Nat → Bool} {held : Bool} {v : Value} {d : DataW H} {ps : List MemPlace} (hs : ∀ es sp, d = .slice es sp → (es.length + sp.length) * 16 ≤ reachBytes)
    (hv : ∃ a len cap, v = .slice a len cap) (h : DataW.Trod enc Try.prog W base spare held 22 v d ps) :
    ∃ (a : Option Addr) (cap : Nat) (ks : List (Int × Int)), v = .slice a ks.length cap ∧ RdAt W a ks ∧ ks.length * 16 ≤ 140737488351232 ∧ (a = none → cap = 0) := by
  obtain ⟨a0, len0, cap0, rfl⟩ := hv
  obtain ⟨fuel, hf⟩ := h
  rcases Go.Deep.open_slice_pairs Try.underlying22 Try.underlying25 (by kernel_rfl) rfl rfl (by kernel_rfl) (by kernel_rfl) hf with ⟨hcs, _⟩ | ⟨a, len, cap, m, n, V0, V1, D0, D1, P0, P1, hcs, _, hl, _, hm, hx, hc⟩
  · simp [Value.cells] at hcs
    obtain ⟨rfl, rfl, rfl⟩ := hcs
    exact ⟨none, 0, [], rfl, RdAt.nil _ _, by simp, fun _ => rfl⟩
  · simp [Value.cells] at hcs
    obtain ⟨rfl, rfl, rfl⟩ := hcs
    simp only [Prod.mk.injEq] at hx
    have hlm : len0 ≤ m := by rw [hm]; split <;> omega
    have each : ∀ i, i < len0 → ∃ p : Int × Int, W.cell? (a.add (i * 2)) = some (.int .i64 p.1) ∧ W.cell? (a.add (i * 2 + 1)) = some (.int .i64 p.2) := fun i hi => by
      obtain ⟨c0, c1, t0, t1⟩ := hc i (by omega)
      obtain ⟨x, q0, _, _⟩ := DataW.trod_int Try.underlying3 t0
      obtain ⟨y, q1, _, _⟩ := DataW.trod_int Try.underlying3 t1
      simp at q0 q1
      exact ⟨(x, y), by rw [c0, q0], by rw [c1, q1]⟩
    obtain ⟨q, hq⟩ := Go.Deep.choose_lt each
    refine ⟨some a, cap0, (List.range len0).map q, by simp, fun i hi => ?_, ?_, fun h => by cases h⟩
    · have hi' : i < len0 := by simpa using hi
      obtain ⟨c0, c1⟩ := hq i hi'
      obtain ⟨b, o, sp⟩ := a
      have hsp : sp = none := by simpa [Addr.add] using World.cell?_spot (hq 0 (by omega)).1
      subst hsp
      have e : ((List.range len0).map q).getD i (0, 0) = q i := by simp [hi']
      rw [e]
      rw [add_plain] at c0 c1
      exact ⟨b, o, rfl, c0, c1⟩
    · have h1 := hs _ _ hx.1
      simp only [List.length_map, List.length_range, reachBytes] at h1 ⊢
      omega

set_option maxRecDepth 100000 in
theorem lifted (os : Os) (started : os.Started) (H : Type) (enc : TypeId × Value → H) :
    ReturnsInHanded {} Try.checked os 3 .any (Rows.keyLeastSpec.pre6 enc Try.prog Try.f3 Rows.keyLeastRow.domain false) (Rows.keyLeastSpec.post enc Try.prog Try.f3 false true false false) := by
  refine returnsInHanded_of_change_sized (C := Try.checked) own started (by kernel_rfl) Try.func3
    (ChangeSpec.witness6 (enc := enc) (C := Try.checked) false ⟨#[], #[.slice none 0 0], []⟩ 8 (by kernel_rfl) (by kernel_rfl) (by kernel_rfl) (by kernel_rfl)) ?_
  intro W base args ds gs before hval0 hW _ hsz0 _
  have hsz : (DataW.weightsEach Try.prog (Try.f3.params.toList ++ Rows.keyLeastSpec.plain.varTypes Try.prog) (ds ++ gs)).all (· ≤ reachBytes) = true := hsz0
  clear hsz0
  have hval : ∀ (j : Nat) t v, Try.f3.params[j]? = some t → args[j]? = some v → Value.okWide Try.prog W .any base t v := hval0
  have hW' := hW
  obtain ⟨p, q, hA0, hV, rfl, hfz, hnd⟩ := hW
  have hA : DataW.TrodAll enc Try.prog W 0 (fun _ => true) true Try.f3.params.toList args.toList ds p := hA0
  rw [Try.params3 ] at hA hval hsz
  obtain ⟨v0, vs0, d0, ds0, p0, q0, hargs, rfl, rfl, h0, r0⟩ := trodAll_cons hA
  obtain ⟨rfl, rfl, rfl⟩ := trodAll_nil r0
  obtain rfl : args = #[v0] := by cases args; simp_all
  obtain ⟨rfl, rfl⟩ := trodVars_none hV
  have k0 := h0
  have lt0 : ∀ x ∈ p0, x.block < W.heap.size := by obtain ⟨m, hm⟩ := k0; exact DataW.trod_lt m _ _ _ hm
  obtain ⟨a, cap, ks, rfl, hr, hl, hcap⟩ := keys_of (fun es sp e => by subst e; have h := sized_slice hsz (j := 0) (t := 22) (e := 25) rfl rfl Try.underlying22; rw [bytesK] at h; exact h) (okWide_slice Try.underlying22 (hval 0 22 v0 rfl rfl)) h0
  clear hA0
  refine (lea_any a cap ks W hl hr hcap).mono fun e W' ⟨he, bel⟩ => ?_
  subst he
  exact ⟨_, rfl, _, _, _, [], _, [], hW', trodAll_mk1 (shut_bool Try.underlying4 _), (trodAll_cons_mk (Below.trod laidOut (by kernel_rfl) (of_decide_eq_true (by kernel_rfl)) k0 bel lt0) trodAll_mk0), rfl, bel.frame _, fun h => by cases h⟩

theorem over : Rows.keyLeastRow.holds Try.pinned (OpenSpec.ofChange Rows.keyLeastSpec) :=
  OpenClaim.holds_of_wide 3 Try.f3 rfl rfl rfl rfl rfl rfl rfl ⟨rfl, rfl, rfl, rfl, rfl⟩ rfl rfl rfl rfl rfl (by kernel_rfl) Try.func3 (by kernel_rfl)
    (of_decide_eq_true (by kernel_rfl)) (by unfold Func.isWrapper; first | (rw [if_pos (by decide +kernel)]; kernel_rfl) | (rw [if_neg (by decide +kernel)]; exact ⟨rfl, rfl⟩))
    (fun os started H enc _ => lifted os started H enc)
end Go.Proofs.Ytpofjkjcbflloab.keyLeast
namespace Go.Proofs.Ytpofjkjcbflloab
theorem keyLeast_holds : Rows.KeyLeastSaid := keyLeast.over
#print axioms keyLeast_holds
end Go.Proofs.Ytpofjkjcbflloab
