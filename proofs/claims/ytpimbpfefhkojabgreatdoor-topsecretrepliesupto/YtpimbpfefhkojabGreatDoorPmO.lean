/- Opening batches and reveals that came in as arguments, in the second form. -/
import Derived.Test.YtpimbpfefhkojabGreatDoorCards
import Derived.Test.YtpimbpfefhkojabGreatDoorPmJ2
import Derived.Test.YtpimbpfefhkojabGreatDoorPlJ5
import Derived.Test.YtpimbpfefhkojabGreatDoorOpenRs
namespace Go.Proofs.YtpimbpfefhkojabGreatDoor
open Go.ChangeShapes Go.WideShapes Go.ChangeAt Go.RowKit Go.Joins Go.Deep
open Rs (RdI)
set_option linter.unusedVariables false
set_option linter.unusedSimpArgs false

theorem bulk_one {H : Type} (d : DataW H) : 1 ≤ Rows.uptoBulk d := by
  cases d with
  | lit l => cases l <;> simp [Rows.uptoBulk]
  | _ => simp [Rows.uptoBulk]
theorem bulk_len {H : Type} : ∀ es : List (DataW H), es.length ≤ Rows.uptoBulkAll es
  | [] => Nat.le_refl _
  | d :: r => by
    have h1 := bulk_one d
    have h2 := bulk_len r
    rw [List.length_cons, Rows.uptoBulkAll]
    omega
theorem bulk_mem {H : Type} {d : DataW H} : ∀ {es : List (DataW H)}, d ∈ es → Rows.uptoBulk d ≤ Rows.uptoBulkAll es
  | x :: r, h => by
    rw [Rows.uptoBulkAll]
    rcases List.mem_cons.1 h with rfl | h
    · omega
    · have := bulk_mem h
      omega
theorem bulk_slice {H : Type} {d : DataW H} {es sp : List (DataW H)} (e : d = .slice es sp) (h : Rows.uptoBulk d ≤ 1048576) : es.length + sp.length ≤ 1048576 ∧ ∀ x ∈ es, Rows.uptoBulk x ≤ 1048576 := by
  subst e
  rw [Rows.uptoBulk] at h
  have h1 := bulk_len es
  have h2 := bulk_len sp
  exact ⟨by omega, fun x hx => by have := bulk_mem hx; omega⟩
theorem bulk_pair {H : Type} {x y : DataW H} (h : Rows.uptoBulk (.agg [x, y]) ≤ 1048576) : Rows.uptoBulk x ≤ 1048576 ∧ Rows.uptoBulk y ≤ 1048576 := by
  rw [Rows.uptoBulk, Rows.uptoBulkAll, Rows.uptoBulkAll, Rows.uptoBulkAll] at h
  omega
theorem bulk_eight {H : Type} {d : DataW H} (h : Rows.uptoBulk d ≤ 1048576) : ∀ es sp, d = .slice es sp → (es.length + sp.length) * 8 ≤ reachBytes := fun es sp e => by
  have := (bulk_slice e h).1
  unfold reachBytes
  omega
theorem rvs_of {H : Type} {enc : TypeId × Value → H} {W : World} {base : Nat} {spare : Nat → Bool} {held : Bool} {v : Value} {d : DataW H} {ps : List MemPlace} (hs : Rows.uptoBulk d ≤ 1048576)
    (hv : ∃ a len cap, v = .slice a len cap) (h : DataW.Trod enc Tryz.prog W base spare held 23 v d ps) :
    ∃ (a : Option Addr) (cap : Nat) (ks : List (Int × Int)), v = .slice a ks.length cap ∧ RdP W a ks ∧ ks.length ≤ 1048576 := by
  obtain ⟨a0, len0, cap0, rfl⟩ := hv
  obtain ⟨fuel, hf⟩ := h
  rcases Go.Deep.open_slice_pairs Tryz.underlying23 Tryz.underlying80 (by kernel_rfl) rfl rfl (by kernel_rfl) (by kernel_rfl) hf with ⟨hcs, _⟩ | ⟨a, len, cap, m, n, V0, V1, D0, D1, P0, P1, hcs, _, hl, _, hm, hx, hc⟩
  · simp [Value.cells] at hcs
    obtain ⟨rfl, rfl, rfl⟩ := hcs
    exact ⟨none, 0, [], rfl, (fun i hi => by cases hi), by simp⟩
  · simp [Value.cells] at hcs
    obtain ⟨rfl, rfl, rfl⟩ := hcs
    simp only [Prod.mk.injEq] at hx
    have hlm : len0 ≤ m := by rw [hm]; split <;> omega
    have each : ∀ i, i < len0 → ∃ p : Int × Int, W.cell? (a.add (i * 2)) = some (.int .i64 p.1) ∧ W.cell? (a.add (i * 2 + 1)) = some (.int .i64 p.2) := fun i hi => by
      obtain ⟨c0, c1, t0, t1⟩ := hc i (by omega)
      obtain ⟨x, q0, _, _⟩ := DataW.trod_int Tryz.underlying3 t0
      obtain ⟨y, q1, _, _⟩ := DataW.trod_int Tryz.underlying3 t1
      simp at q0 q1
      exact ⟨(x, y), by rw [c0, q0], by rw [c1, q1]⟩
    obtain ⟨q, hq⟩ := Go.Deep.choose_lt each
    refine ⟨some a, cap0, (List.range len0).map q, by simp, fun i hi => ?_, ?_⟩
    · have hi' : i < len0 := by simpa using hi
      obtain ⟨c0, c1⟩ := hq i hi'
      obtain ⟨b, o, sp⟩ := a
      have hsp : sp = none := by simpa [Addr.add] using World.cell?_spot (hq 0 (by omega)).1
      subst hsp
      have e : ((List.range len0).map q).getD i (0, 0) = q i := by simp [hi']
      rw [e]
      rw [Rs.add_plain] at c0 c1
      exact ⟨b, o, rfl, c0, c1⟩
    · have h1 := (bulk_slice hx.1 hs).1
      simp only [List.length_map, List.length_range] at h1 ⊢
      omega
theorem bts_of {H : Type} {enc : TypeId × Value → H} {W : World} {base : Nat} {spare : Nat → Bool} {held : Bool} {v : Value} {d : DataW H} {ps : List MemPlace} (hs : Rows.uptoBulk d ≤ 1048576)
    (hv : ∃ a len cap, v = .slice a len cap) (h : DataW.Trod enc Tryz.prog W base spare held 22 v d ps) :
    ∃ (a : Option Addr) (cap : Nat) (l : List (List Int × List Int)), v = .slice a l.length cap ∧ RdB W a l ∧ l.length ≤ 4194304 ∧ ∀ i, i < l.length → (l.getD i ([], [])).1.length ≤ 17592186044416 ∧ (l.getD i ([], [])).2.length ≤ 17592186044416 := by
  obtain ⟨a0, len0, cap0, rfl⟩ := hv
  obtain ⟨fuel, hf⟩ := h
  rcases Go.Deep.open_slice_pairs Tryz.underlying22 Tryz.underlying66 (by kernel_rfl) rfl rfl (by kernel_rfl) (by kernel_rfl) hf with ⟨hcs, _⟩ | ⟨a, len, cap, m, n, V0, V1, D0, D1, P0, P1, hcs, _, hl, _, hm, hx, hc⟩
  · simp [Value.cells] at hcs
    obtain ⟨rfl, rfl, rfl⟩ := hcs
    exact ⟨none, 0, [], rfl, (fun i hi => by cases hi), by simp, (fun i hi => by cases hi)⟩
  · simp [Value.cells] at hcs
    obtain ⟨rfl, rfl, rfl⟩ := hcs
    simp only [Prod.mk.injEq] at hx
    have hlm : len0 ≤ m := by rw [hm]; split <;> omega
    obtain ⟨hb1, hb2⟩ := bulk_slice hx.1 hs
    have each : ∀ i, i < len0 → ∃ p : List Int × List Int, (∃ aL cL aJ cJ, W.cell? (a.add (i * 2)) = some (.slice aL p.1.length cL) ∧ W.cell? (a.add (i * 2 + 1)) = some (.slice aJ p.2.length cJ) ∧ RdI W aL p.1 ∧ RdI W aJ p.2) ∧ p.1.length ≤ 17592186044416 ∧ p.2.length ≤ 17592186044416 := fun i hi => by
      obtain ⟨c0, c1, t0, t1⟩ := hc i (by omega)
      obtain ⟨k0, k1⟩ := bulk_pair (hb2 _ (List.mem_map.2 ⟨i, List.mem_range.2 hi, rfl⟩))
      obtain ⟨aL, cL, L, q0, r0, l0⟩ := Rs.ints_raw (x := (D0 i, P0 i)) (bulk_eight k0) t0
      obtain ⟨aJ, cJ, J, q1, r1, l1⟩ := Rs.ints_raw (x := (D1 i, P1 i)) (bulk_eight k1) t1
      simp at q0 q1
      exact ⟨(L, J), ⟨aL, cL, aJ, cJ, by rw [c0, q0], by rw [c1, q1], r0, r1⟩, by dsimp only; omega, by dsimp only; omega⟩
    obtain ⟨q, hq⟩ := Go.Deep.choose_lt each
    refine ⟨some a, cap0, (List.range len0).map q, by simp, fun i hi => ?_, ?_, fun i hi => ?_⟩
    · have hi' : i < len0 := by simpa using hi
      obtain ⟨⟨aL, cL, aJ, cJ, c0, c1, r0, r1⟩, _⟩ := hq i hi'
      obtain ⟨⟨_, _, _, _, c00, _⟩, _⟩ := hq 0 (by omega)
      obtain ⟨b, o, sp⟩ := a
      have hsp : sp = none := by simpa [Addr.add] using World.cell?_spot c00
      subst hsp
      have e : ((List.range len0).map q).getD i ([], []) = q i := by simp [hi']
      rw [e]
      rw [Rs.add_plain] at c0 c1
      exact ⟨b, o, aL, cL, aJ, cJ, rfl, c0, c1, r0, r1⟩
    · simp only [List.length_map, List.length_range] at hb1 ⊢
      omega
    · have hi' : i < len0 := by simpa using hi
      have e : ((List.range len0).map q).getD i ([], []) = q i := by simp [hi']
      rw [e]
      exact (hq i hi').2
end Go.Proofs.YtpimbpfefhkojabGreatDoor
