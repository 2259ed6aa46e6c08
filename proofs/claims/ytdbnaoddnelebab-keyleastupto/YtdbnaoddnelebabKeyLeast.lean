/- For every list of keys that, with its spare places, is of bulk at most 1048576: KeyLeast answers true. Condition: that bulk. -/
import Derived.Test.YtdbnaoddnelebabRows
import Derived.Test.YtdbnaoddnelebabKwNil
import Derived.Test.YtdbnaoddnelebabOpenKey
import Derived.Deep.SlicePairs
import Derived.JoinedCond
namespace Go.Proofs.Ytdbnaoddnelebab.keyLeast
open Go.ChangeShapes Go.WideShapes Go.ChangeAt Go.RowKit
set_option linter.unusedVariables false

theorem lea_any (a : Option Addr) (c : Nat) (ks : List (Int × Int)) (w : World) (hl : ks.length * 16 ≤ 140737488351232) (h : RdAt w a ks) (hc : a = none → c = 0) :
    Calls Try.prog 4 #[.slice a ks.length c] w fun e w' => e = .returned (.bool true) ∧ Below w.heap.size w w' := by
  by_cases h0 : ks = []
  · cases a with
    | none => exact lea_nil c ks.length ks (lst ks) rfl rfl (by rw [h0]; rfl) (hc rfl) w hl h
    | some ad => exact lea_zero ad c ks.length ks (lst ks) rfl rfl (by rw [h0]; rfl) w hl h
  · obtain ⟨b, o, rfl, k1⟩ := h.spot h0
    exact lea_some b o c ks.length ks (lst ks) rfl rfl (List.length_pos_iff.2 h0) w hl h
theorem bulk_one {H : Type} (d : DataW H) : 1 ≤ Rows.uptoBulk d := by
  cases d with
  | lit l => cases l <;> simp [Rows.uptoBulk]
  | _ => simp [Rows.uptoBulk]
theorem bulk_len {H : Type} : ∀ l : List (DataW H), l.length ≤ Rows.uptoBulkAll l
  | [] => by simp
  | x :: l => by have h1 := bulk_one x; have h2 := bulk_len l; simp only [Rows.uptoBulkAll, List.length_cons]; omega
theorem bulk_slice {H : Type} {es sp : List (DataW H)} (hk : Rows.uptoSmall H [.slice es sp] = true) : es.length ≤ 1048576 := by
  have h : Rows.uptoBulkAll [DataW.slice es sp] ≤ 1048576 := of_decide_eq_true hk
  simp only [Rows.uptoBulkAll, Rows.uptoBulk] at h
  have := bulk_len es
  omega

theorem own : ownKnob Try.prog.godebug = none := by kernel_rfl
theorem laidOut : laidOutB Try.prog = true := by kernel_rfl
/- The keys of a slice that came in. -/
theorem keys_of {H : Type} {enc : TypeId × Value → H} {W : World} {base : Nat} {spare : Nat → Bool} {held : Bool} {v : Value} {d : DataW H} {ps : List MemPlace} (hs : Rows.uptoSmall H [d] = true)
    (hv : ∃ a len cap, v = .slice a len cap) (h : DataW.Trod enc Try.prog W base spare held 35 v d ps) :
    ∃ (a : Option Addr) (cap : Nat) (ks : List (Int × Int)), v = .slice a ks.length cap ∧ RdAt W a ks ∧ ks.length ≤ 1048576 ∧ (a = none → cap = 0) := by
  obtain ⟨a0, len0, cap0, rfl⟩ := hv
  obtain ⟨fuel, hf⟩ := h
  rcases Go.Deep.open_slice_pairs Try.underlying35 Try.underlying23 (by kernel_rfl) rfl rfl (by kernel_rfl) (by kernel_rfl) hf with ⟨hcs, _⟩ | ⟨a, len, cap, m, n, V0, V1, D0, D1, P0, P1, hcs, _, hl, _, hm, hx, hc⟩
  · simp [Value.cells] at hcs
    obtain ⟨rfl, rfl, rfl⟩ := hcs
    exact ⟨none, 0, [], rfl, RdAt.nil _ _, by simp, fun _ => rfl⟩
  · simp [Value.cells] at hcs
    obtain ⟨rfl, rfl, rfl⟩ := hcs
    simp only [Prod.mk.injEq] at hx
    have hlm : len0 ≤ m := by rw [hm]; split <;> omega
    have each : ∀ i, i < len0 → ∃ p : Int × Int, W.cell? (a.add (i * 2)) = some (.int .i64 p.1) ∧ W.cell? (a.add (i * 2 + 1)) = some (.int .i64 p.2) := fun i hi => by
      obtain ⟨c0, c1, t0, t1⟩ := hc i (by omega)
      obtain ⟨x, q0, _, _⟩ := DataW.trod_int Try.underlying3 t0
      obtain ⟨y, q1, _, _⟩ := DataW.trod_int Try.underlying3 t1
      simp at q0 q1
      exact ⟨(x, y), by rw [c0, q0], by rw [c1, q1]⟩
    obtain ⟨q, hq⟩ := Go.Deep.choose_lt each
    refine ⟨some a, cap0, (List.range len0).map q, by simp, fun i hi => ?_, ?_, fun h => by cases h⟩
    · have hi' : i < len0 := by simpa using hi
      obtain ⟨c0, c1⟩ := hq i hi'
      obtain ⟨b, o, sp⟩ := a
      have hsp : sp = none := by simpa [Addr.add] using World.cell?_spot (hq 0 (by omega)).1
      subst hsp
      have e : ((List.range len0).map q).getD i (0, 0) = q i := by simp [hi']
      rw [e]
      rw [add_plain] at c0 c1
      exact ⟨b, o, rfl, c0, c1⟩
    · rw [hx.1] at hs
      have := bulk_slice hs
      simpa using this

theorem contract (H : Type) (enc : TypeId × Value → H) (W : World) (base : Nat) (args : Array Value) (ds gs : List (DataW H)) (before : List MemPlace)
    (hval : ∀ (j : Nat) t v, Try.f4.params[j]? = some t → args[j]? = some v → Value.okWide Try.prog W .any base t v)
    (hW : DataW.Whole enc Try.prog Try.f4.params.toList Rows.keyLeastSpec.vars false W args.toList ds gs before) (hk : Rows.uptoSmall H (ds ++ gs) = true) :
    Calls Try.prog 4 args W fun e W' => ∃ v, e = .returned v ∧ Rows.keyLeastSpec.post enc Try.prog Try.f4 false true false false W args v W' := by
  have hW' := hW
  obtain ⟨p, q, hA0, hV, rfl, hfz, hnd⟩ := hW
  have hA : DataW.TrodAll enc Try.prog W 0 (fun _ => true) true Try.f4.params.toList args.toList ds p := hA0
  rw [Try.params4 ] at hA hval
  obtain ⟨v0, vs0, d0, ds0, p0, q0, hargs, rfl, rfl, h0, r0⟩ := trodAll_cons hA
  obtain ⟨rfl, rfl, rfl⟩ := trodAll_nil r0
  obtain rfl : args = #[v0] := by cases args; simp_all
  obtain ⟨rfl, rfl⟩ := trodVars_none hV
  have k0 := h0
  have lt0 : ∀ x ∈ p0, x.block < W.heap.size := by obtain ⟨m, hm⟩ := k0; exact DataW.trod_lt m _ _ _ hm
  obtain ⟨a, cap, ks, rfl, hr, hl, hcap⟩ := keys_of (by simpa using hk) (okWide_slice Try.underlying35 (hval 0 35 v0 rfl rfl)) h0
  clear hA0
  refine (lea_any a cap ks W (by omega) hr hcap).mono fun e W' ⟨he, bel⟩ => ?_
  subst he
  exact ⟨_, rfl, _, _, _, [], _, [], hW', trodAll_mk1 (shut_bool Try.underlying4 _), (trodAll_cons_mk (Below.trod laidOut (by kernel_rfl) (of_decide_eq_true (by kernel_rfl)) k0 bel lt0) trodAll_mk0), rfl, bel.frame _, fun h => by cases h⟩

set_option maxRecDepth 100000 in
theorem lifted (os : Os) (started : os.Started) (H : Type) (enc : TypeId × Value → H) (F : Stop.Interp) :
    ReturnsInHanded {} Try.checked os 4 .any ((Rows.OpenSpec.upto Rows.keyLeastSpec).pre6 enc Try.prog Try.f4 Rows.keyLeastUptoRow.domain false) (((Rows.OpenSpec.upto Rows.keyLeastSpec).at F).post enc Try.prog Try.f4 false true false false) := by
  refine returnsInHanded_of_cond (C := Try.checked) (s := Rows.OpenSpec.upto Rows.keyLeastSpec) (k := Rows.uptoSmall) rfl own started (by kernel_rfl) Try.func4
    (OpenSpec.witness (enc := enc) (C := Try.checked) (s := Rows.OpenSpec.upto Rows.keyLeastSpec) (k := Rows.uptoSmall) rfl false ⟨#[], #[.slice none 0 0], []⟩ 8 (by kernel_rfl) (by kernel_rfl) (by kernel_rfl)
      (x := ([.nil], [], [])) (by kernel_rfl) rfl (by kernel_rfl)) ?_
  intro W base args ds gs before hval hW _ hk _
  exact contract H enc W base args ds gs before hval hW hk
theorem over : Rows.keyLeastUptoRow.holds Try.pinned (Rows.OpenSpec.upto Rows.keyLeastSpec) :=
  OpenClaim.holds_of_cond 4 Try.f4 rfl rfl rfl rfl rfl rfl rfl ⟨rfl, rfl, rfl, rfl, rfl⟩ rfl rfl rfl rfl rfl (by kernel_rfl) Try.func4 (by kernel_rfl)
    (of_decide_eq_true (by kernel_rfl)) (by unfold Func.isWrapper; first | (rw [if_pos (by decide +kernel)]; kernel_rfl) | (rw [if_neg (by decide +kernel)]; exact ⟨rfl, rfl⟩))
    (fun os started H enc _ F => lifted os started H enc F)
end Go.Proofs.Ytdbnaoddnelebab.keyLeast
namespace Go.Proofs.Ytdbnaoddnelebab
theorem keyLeast_holds : Rows.KeyLeastUptoSaid := keyLeast.over
#print axioms keyLeast_holds
end Go.Proofs.Ytdbnaoddnelebab
