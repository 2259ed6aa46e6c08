/- Contracts: Get and Drop of the document's Net. -/
import Derived.Test.YtcdibafcolhlgaaNeB
namespace Go.Proofs.Ytcdibafcolhlgaa.Ne
open Go.RowKit Go.Maps
set_option linter.unusedVariables false
set_option linter.unusedSimpArgs false

/- Whether a packet with the number is under way; what Get answers. -/
def Nst.on (s : Nst) (k : Int) : Prop := ∃ i, i < s.A.length ∧ k = (i : Int) + 1 ∧ s.G.getD i true = false
def aP (P : Pt) (E : Int) : Ending := .returned (.tuple #[.agg #[.int .i64 P.1, .int .i64 P.2.1, .string P.2.2], .int .i64 E])
def Nst.dropped (s : Nst) (i : Nat) : Nst := ⟨s.A, s.G.set i true⟩
section
variable {w w' : World} {N p : Nat} {s : Nst} {va vg : Value}
theorem NAt.gcell (h : NAt w N p s va vg) {i : Nat} (hi : i < s.G.length) : ∃ g c, vg = .slice (some ⟨g, 0, none⟩) s.G.length c ∧ w.cell? ⟨g, i, none⟩ = some (.bool (s.G.getD i true)) ∧ w.frozen? ⟨g, i, none⟩ = false := by
  obtain ⟨a, c, e, h0⟩ := own_spell h.gone
  obtain ⟨g, rfl⟩ := h0.resolve_left (by omega)
  have hr := h.gone
  rw [e] at hr
  refine ⟨g, c, e, ?_, hr.frozenAt i⟩
  rw [hr.cellAt i (by omega), List.getElem?_map, List.getElem?_eq_getElem hi, List.getD_eq_getElem?_getD, List.getElem?_eq_getElem hi]
  rfl
theorem NAt.acell (h : NAt w N p s va vg) {i : Nat} (hi : i < s.A.length) : ∃ g c, va = .slice (some ⟨g, 0, none⟩) s.A.length c ∧ w.cell? ⟨g, i * 3, none⟩ = some (.int .i64 (s.A.getD i zP).1) ∧ w.cell? ⟨g, i * 3 + 1, none⟩ = some (.int .i64 (s.A.getD i zP).2.1) ∧ w.cell? ⟨g, i * 3 + 2, none⟩ = some (.string (s.A.getD i zP).2.2) := by
  obtain ⟨a, c, e, h0⟩ := own_spell h.all
  obtain ⟨g, rfl⟩ := h0.resolve_left (by omega)
  have hr := h.all
  rw [e] at hr
  obtain ⟨b, o, e2, c0, c1, c2⟩ := rdP_of hr i hi
  cases e2
  rw [Nat.zero_add] at c0 c1 c2
  exact ⟨g, c, e, c0, c1, c2⟩
theorem NAt.drop (h : NAt w N p s va vg) {i : Nat} (hi : i < s.G.length) {g c : Nat} (hg : vg = .slice (some ⟨g, 0, none⟩) s.G.length c) : NP w (w.setCell ⟨g, i, none⟩ (.bool true)) N p (s.dropped i) va vg := by
  have hr := h.gone
  rw [hg] at hr
  have hs := (hr.stored i (.bool true)).1
  obtain ⟨a1, a2, a4⟩ := h.apart
  have hgo : vg.ownBlock = some g := by rw [hg]; rfl
  have hk : Kept (fun k => k = g) w (w.setCell ⟨g, i, none⟩ (.bool true)) := (Kept.refl (fun k => k = g) w).setCell (p := ⟨g, i, none⟩) (fun _ => rfl) _
  refine ⟨va, vg, ⟨(hk.block p h.lt (fun e => a2 (e ▸ hgo))).trans h.blk, hk.row h.all (fun k e e' => a4 k e (e' ▸ hgo)), ?_, h.np⟩, hk.mono (fun k _ e => .inr (.inr (e ▸ hgo))), fun k e => .inl e⟩
  show World.ownsRow _ N 4 1 vg (s.G.set i true).length ((s.G.set i true).map Value.bool)
  rw [List.length_set, List.map_set, hg]
  exact hs
end
set_option maxRecDepth 100000 in
set_option maxHeartbeats 2000000 in
theorem get_no (w : World) (N p : Nat) (s : Nst) (va vg : Value) (h : NAt w N p s va vg) (hlen : s.G.length = s.A.length) (hl : s.A.length < 4611686018427387904) (k : Int) (hk : ¬ s.on k) :
    Calls Try.prog 11 #[.pointer (some ⟨p, 0, none⟩), .int .i64 k] w fun e w' => e = aP zP 26 ∧ Below w.heap.size w w' := by
  have hb1 : Below w.heap.size w (w.alloc (.cells #[.int .i64 0, .int .i64 0, .string ⟨#[]⟩] 35)) := below1 _ _
  have hx := boxed3 w (.int .i64 0) (.int .i64 0) (.string ⟨#[]⟩) 35
  obtain ⟨aT, cT, hvt, -⟩ := own_spell h.all
  obtain ⟨n, hn⟩ : ∃ n, s.A.length = n := ⟨_, rfl⟩
  have c0 := cell_later hb1 h.c0
  have c1 := cell_later hb1 h.c1
  rw [hvt, hn] at c0
  have HH : Hid (NAt w N p s va vg ∧ s.G.length = n ∧ ¬ s.on k ∧ s.A.length = n) := ⟨h, by rw [hlen, hn], hk, hn⟩
  rw [hn] at hl
  clear h hlen hk hn hvt
  by_cases h1 : k < 1
  · go_enter Try.func11, Try.ntmps11
    go_wp2_with fail
    exact bodyPost_ret (v := .tuple #[.agg #[.int .i64 0, .int .i64 0, .string ⟨#[]⟩], .int .i64 26]) (by simp [results, Try.results11, go_sem]) rfl ⟨rfl, hb1⟩
  · by_cases h2 : (n : Int) < k
    · go_enter Try.func11, Try.ntmps11
      go_wp2_with fail
      exact bodyPost_ret (v := .tuple #[.agg #[.int .i64 0, .int .i64 0, .string ⟨#[]⟩], .int .i64 26]) (by simp [results, Try.results11, go_sem]) rfl ⟨rfl, hb1⟩
    · obtain ⟨i, rfl⟩ : ∃ i : Nat, k = (i : Int) + 1 := ⟨(k - 1).toNat, by omega⟩
      have hi : i < n := by omega
      obtain ⟨g, c, hvg, cg, -⟩ := HH.out.1.gcell (i := i) (by rw [HH.out.2.1]; exact hi)
      have hon : s.G.getD i true = true := by
        cases hb : s.G.getD i true with
        | true => rfl
        | false => exact absurd ⟨i, by rw [HH.out.2.2.2]; exact hi, rfl, hb⟩ HH.out.2.2.1
      rw [hon] at cg
      rw [hvg, HH.out.2.1] at c1
      have cg := cell_later hb1 cg
      have hw : IntKind.i64.wrap ((i : Int) + 1 - 1) = (i : Int) := by rw [show (i : Int) + 1 - 1 = (i : Int) by omega]; exact i64_fit _ (by omega) (by omega)
      have i1 : (0 : Int) ≤ (i : Int) := by omega
      have i2 : (i : Int) < (n : Int) := by omega
      clear hvg hon
      go_enter Try.func11, Try.ntmps11
      go_wp2_with fail
      exact bodyPost_ret (v := .tuple #[.agg #[.int .i64 0, .int .i64 0, .string ⟨#[]⟩], .int .i64 26]) (by simp [results, Try.results11, go_sem]) rfl ⟨rfl, hb1⟩
set_option maxRecDepth 100000 in
set_option maxHeartbeats 2000000 in
theorem get_yes (w : World) (N p : Nat) (s : Nst) (va vg : Value) (h : NAt w N p s va vg) (hlen : s.G.length = s.A.length) (hl : s.A.length < 4611686018427387904) (i : Nat) (hi : i < s.A.length) (hon : s.G.getD i true = false) :
    Calls Try.prog 11 #[.pointer (some ⟨p, 0, none⟩), .int .i64 ((i : Int) + 1)] w fun e w' => e = aP (s.A.getD i zP) 0 ∧ Below w.heap.size w w' := by
  have hb1 : Below w.heap.size w (w.alloc (.cells #[.int .i64 0, .int .i64 0, .string ⟨#[]⟩] 35)) := below1 _ _
  obtain ⟨x0, x1, x2⟩ := boxed3 w (.int .i64 0) (.int .i64 0) (.string ⟨#[]⟩) 35
  obtain ⟨n, hn⟩ : ∃ n, s.A.length = n := ⟨_, rfl⟩
  have c0 := cell_later hb1 h.c0
  have c1 := cell_later hb1 h.c1
  obtain ⟨g, c, hvg, cg, -⟩ := h.gcell (i := i) (by rw [hlen]; exact hi)
  obtain ⟨ga, ca, hva, d0, d1, d2⟩ := h.acell hi
  rw [hlen, hn] at hvg
  rw [hn] at hva hi hl
  rw [hvg] at c1
  rw [hva] at c0
  rw [hon] at cg
  have cg := cell_later hb1 cg
  have d0 := cell_later hb1 d0
  have d1 := cell_later hb1 d1
  have d2 := cell_later hb1 d2
  obtain ⟨P, hP⟩ : ∃ P, s.A.getD i zP = P := ⟨_, rfl⟩
  rw [hP] at d0 d1 d2 ⊢
  obtain ⟨P0, P1, P2⟩ := P
  dsimp only at d0 d1 d2
  have hw : IntKind.i64.wrap ((i : Int) + 1 - 1) = (i : Int) := by rw [show (i : Int) + 1 - 1 = (i : Int) by omega]; exact i64_fit _ (by omega) (by omega)
  have i1 : (0 : Int) ≤ (i : Int) := by omega
  have i2 : (i : Int) < (n : Int) := by omega
  have e1 : ¬ ((i : Int) + 1 < 1) := by omega
  have e2 : ¬ ((n : Int) < (i : Int) + 1) := by omega
  have HB := hb1
  clear hvg hva hon h hlen hn hP
  go_enter Try.func11, Try.ntmps11
  go_wp2_with fail
  exact bodyPost_ret (v := .tuple #[.agg #[.int .i64 P0, .int .i64 P1, .string P2], .int .i64 0]) (by simp [results, Try.results11, go_sem]) rfl ⟨rfl, below1 _ _⟩
set_option maxRecDepth 100000 in
set_option maxHeartbeats 2000000 in
theorem drop_no (w : World) (N p : Nat) (s : Nst) (va vg : Value) (h : NAt w N p s va vg) (hlen : s.G.length = s.A.length) (hl : s.A.length < 4611686018427387904) (k : Int) (hk : ¬ s.on k) :
    Calls Try.prog 13 #[.pointer (some ⟨p, 0, none⟩), .int .i64 k] w fun e w' => e = .returned (.int .i64 26) ∧ Below w.heap.size w w' := by
  have hg := get_no w N p s va vg h hlen hl k hk
  unfold aP zP at hg
  dsimp only at hg
  clear h hlen hl hk
  go_enter Try.func13, Try.ntmps13
  go_wp2_with (go_at_call 11; refine hg.mono ?_; rintro r w1 ⟨rfl, hb1⟩)
  go_ret
  exact ⟨rfl, Below.then hb1 (below1 _ _)⟩
set_option maxRecDepth 100000 in
set_option maxHeartbeats 2000000 in
theorem drop_yes (w : World) (N p : Nat) (s : Nst) (va vg : Value) (h : NAt w N p s va vg) (hlen : s.G.length = s.A.length) (hl : s.A.length < 4611686018427387904) (i : Nat) (hi : i < s.A.length) (hon : s.G.getD i true = false) :
    Calls Try.prog 13 #[.pointer (some ⟨p, 0, none⟩), .int .i64 ((i : Int) + 1)] w fun e w' => e = .returned (.int .i64 0) ∧ NP w w' N p (s.dropped i) va vg := by
  have hg := get_yes w N p s va vg h hlen hl i hi hon
  obtain ⟨P, hP⟩ : ∃ P, s.A.getD i zP = P := ⟨_, rfl⟩
  rw [hP] at hg
  obtain ⟨P0, P1, P2⟩ := P
  unfold aP at hg
  dsimp only at hg
  obtain ⟨n, hn⟩ : ∃ n, s.G.length = n := ⟨_, rfl⟩
  have HK : Hid (NAt w N p s va vg ∧ i < s.G.length ∧ s.G.length = n) := ⟨h, by rw [hlen]; exact hi, hn⟩
  have hin : i < n := by rw [← hn, hlen]; exact hi
  have hnb : n < 4611686018427387904 := by rw [← hn, hlen]; exact hl
  have hgc := fun W (hW : Below w.heap.size w W) => (HK.out.1.later hW).gcell HK.out.2.1
  have hw : IntKind.i64.wrap ((i : Int) + 1 - 1) = (i : Int) := by rw [show (i : Int) + 1 - 1 = (i : Int) by omega]; exact i64_fit _ (by omega) (by omega)
  have i1 : (0 : Int) ≤ (i : Int) := by omega
  have i2 : (i : Int) < (n : Int) := by omega
  clear h hlen hl hi hon hP hn
  go_enter Try.func13, Try.ntmps13
  go_upto_region 2 with (go_at_call 11; refine hg.mono ?_; rintro r w1 ⟨rfl, hb1⟩)
  have hb2 := Below.then hb1 (below1 w1 (.cells #[.int .i64 P0, .int .i64 P1, .string P2] 35))
  generalize w1.alloc (.cells #[.int .i64 P0, .int .i64 P1, .string P2] 35) = w2 at *
  have HA : Hid (NAt w2 N p s va vg ∧ Below w.heap.size w w2) := ⟨HK.out.1.later hb2, hb2⟩
  obtain ⟨g, c, hvg, cg, fg⟩ := hgc _ hb2
  have c1 := HA.out.1.c1
  rw [hvg, HK.out.2.2] at c1
  have HG : Hid (vg = .slice (some ⟨g, 0, none⟩) s.G.length c) := hvg
  clear hg hgc hb1 hb2 hvg
  go_wp2_with fail
  go_ret
  refine ⟨rfl, ?_⟩
  obtain ⟨v1, v2, z1, z2, z3⟩ := HA.out.1.drop (i := i) HK.out.2.1 HG.out
  exact ⟨v1, v2, z1, (Kept.ofBelow HA.out.2).trans z2 (fun _ _ e => e), fun j e => (z3 j e).imp id (fun h => Nat.le_trans HA.out.2.size h)⟩
end Go.Proofs.Ytcdibafcolhlgaa.Ne
