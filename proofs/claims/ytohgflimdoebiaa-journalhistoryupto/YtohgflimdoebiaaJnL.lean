/- The law's lives: a payload is appended and found again. -/
import Derived.Test.YtohgflimdoebiaaJnMJ
import Derived.Test.YtohgflimdoebiaaJnC2
import Derived.Test.YtohgflimdoebiaaDrJ
import Derived.Test.YtohgflimdoebiaaDkN
namespace Go.Proofs.Ytohgflimdoebiaa.Dk
open Go.RowKit Go.Maps
set_option linter.unusedVariables false
set_option maxRecDepth 4000
set_option linter.unusedSimpArgs false

def aa : ByteArray := ⟨#[97]⟩
theorem np_aa : np aa.size = 1 := by decide
theorem belowK {a b c : World} {F : Nat → Prop} {N : Nat} (h : Below N a b) (k : Kept F b c) (hF : ∀ i, F i → N ≤ i) (hN : N ≤ b.heap.size) : Below N a c :=
  ⟨k.os.trans h.os, k.tape.trans h.tape, k.output.trans h.output, Nat.le_trans h.size k.size, fun i hi => (k.block i (by omega) (fun e => absurd (hF i e) (by omega))).trans (h.block i hi)⟩
/- A disk and a journal that are going on: what lies below N stays. -/
structure Go1 (N : Nat) (w0 w : World) (p : Nat) (s : St) : Prop where
  ex : ∃ b m x, Dk N w p s b m x
  below : Below N w0 w
  size : N ≤ w.heap.size
theorem Go1.later {N : Nat} {w0 w w' : World} {p : Nat} {s : St} (h : Go1 N w0 w p s) (hb : Below w.heap.size w w') : Go1 N w0 w' p s := by
  obtain ⟨⟨b, m, x, d⟩, h1, h2⟩ := h
  exact ⟨⟨b, m, x, d.later hb⟩, h1.trans (hb.mono h2), Nat.le_trans h2 hb.size⟩
theorem Go1.wrote {N : Nat} {w0 w w' : World} {p : Nat} {s s' : St} {b m : Nat} {x : Value} (h : Go1 N w0 w p s) (hd : Dk N w p s b m x) (hw : Wrote N w p s' b m x w') : Go1 N w0 w' p s' := by
  obtain ⟨x1, d1, k1, f1⟩ := hw
  exact ⟨⟨b, m, x1, d1⟩, belowK h.below k1 (fun i hi => (hd.inHeap i hi).2) h.size, Nat.le_trans h.size k1.size⟩
/- A row of texts, a journal that aren't the disk's stay. -/
theorem keepS {N M : Nat} {w w' : World} {p : Nat} {s s' : St} {b m : Nat} {x v : Value} {l : List ByteArray} (hd : Dk N w p s b m x) (hw : Wrote N w p s' b m x w') (hr : RwS w M v l) : RwS w' M v l := by
  obtain ⟨x1, d1, k1, f1⟩ := hw
  refine k1.row hr (fun k hv => ?_)
  rcases hr.2 with ⟨h0, _⟩ | ⟨g, cap, cur, h0, hb, hgg, rest⟩
  · subst h0; cases hv
  · subst h0; cases hv
    exact hd.notT hgg (by decide) (by decide)
theorem keepJ {N : Nat} {w w' : World} {j p q c a : Nat} {dd : Bool} {s s' : St} {b m : Nat} {x : Value} (hd : Dk N w p s b m x) (hw : Wrote N w p s' b m x w') (hj : Jn w j q c a dd) : Jn w' j q c a dd := by
  obtain ⟨x1, d1, k1, f1⟩ := hw
  exact hj.kept k1 (hj.out hd)
/- The same for an Append. -/
theorem Go1.jwrote {N : Nat} {w0 w w' : World} {j p : Nat} {s s' : St} {b m c a : Nat} {x : Value} {dd : Bool} (h : Go1 N w0 w p s) (hd : Dk N w p s b m x) (hj : N ≤ j) (hw : JWrote N w j p s' b m x c a dd w') : Go1 N w0 w' p s' ∧ Jn w' j p c a dd := by
  obtain ⟨x1, d1, j1, k1, f1⟩ := hw
  refine ⟨⟨⟨b, m, x1, d1⟩, belowK h.below k1 (fun i hi => ?_) h.size, Nat.le_trans h.size k1.size⟩, j1⟩
  rcases hi with rfl | hi
  · exact hj
  · exact (hd.inHeap i hi).2
theorem jkeepS {N M : Nat} {w w' : World} {j p : Nat} {s s' : St} {b m c a c0 a0 : Nat} {x v : Value} {dd d0 : Bool} {l : List ByteArray} (hd : Dk N w p s b m x) (hj0 : Jn w j p c0 a0 d0) (hw : JWrote N w j p s' b m x c a dd w') (hr : RwS w M v l) : RwS w' M v l := by
  obtain ⟨x1, d1, j1, k1, f1⟩ := hw
  refine k1.row hr (fun k hv => ?_)
  rcases hr.2 with ⟨h0, _⟩ | ⟨g, cap, cur, h0, hb, hgg, rest⟩
  · subst h0; cases hv
  · subst h0; cases hv
    intro hF
    rcases hF with e | hF
    · unfold Jn at hj0
      have e' : g = j := e
      rw [e', hj0] at hgg
      cases hgg
    · exact hd.notT hgg (by decide) (by decide) hF
/- Opening on a journal's disk. -/
theorem open_go {N : Nat} {w0 w : World} {p : Nat} {s : St} (h : Go1 N w0 w p s) (hlog : s.log.length + 2048 ≤ 5864062014805) :
    Calls Try.prog 25 #[.pointer (some ⟨p, 0, none⟩)] w fun e w' => Go1 N w0 w' p (opS s) ∧ ((opB s = false ∧ e = .returned (.tuple #[.pointer none, .slice none 0 0, .int .i64 11])) ∨
    (opB s = true ∧ ∃ j v, e = .returned (.tuple #[.pointer (some ⟨j, 0, none⟩), v, .int .i64 0]) ∧ w.heap.size ≤ j ∧ Jn w' j p (scP s).length (scE s) false ∧ RwS w' w.heap.size v (scP s))) ∧ (∀ M v l, RwS w M v l → RwS w' M v l) := by
  obtain ⟨⟨b, m, x, d⟩, h1, h2⟩ := h
  refine (open_any N w p s b m x d hlog h2).mono ?_
  rintro e w' ⟨hw, hr⟩
  exact ⟨Go1.wrote ⟨⟨b, m, x, d⟩, h1, h2⟩ d hw, hr, fun M v l hl => keepS d hw hl⟩
theorem append_go1 {N : Nat} {w0 w : World} {j p : Nat} {s : St} {c a : Nat} {d : Bool} (h : Go1 N w0 w p s) (hj : Jn w j p c a d) (hjN : N ≤ j) (t : ByteArray) (ha : a ≤ 2048) (ht : t.size ≤ 9223372036854775807) (hlog : s.log.length + 255 ≤ 5864062014805) :
    Calls Try.prog 26 #[.pointer (some ⟨j, 0, none⟩), .string t] w fun e w' => e = .returned (.int .i64 (apE s c a d t)) ∧ Go1 N w0 w' p (apS s c a d t) ∧ Jn w' j p (apC s c a d t) (apA s c a d t) (apD s c a d t) ∧ (∀ M v l, RwS w M v l → RwS w' M v l) := by
  obtain ⟨⟨b, m, x, dd⟩, h1, h2⟩ := h
  refine (append_any N w j p s b m x c a d t dd hj ha ht hlog h2).mono ?_
  rintro e w' ⟨he, hw⟩
  obtain ⟨g1, g2⟩ := Go1.jwrote ⟨⟨b, m, x, dd⟩, h1, h2⟩ dd hjN hw
  exact ⟨he, g1, g2, fun M v l hl => jkeepS dd hj hw hl⟩
theorem new_go (w : World) : Calls Try.prog 13 #[] w fun e w' => ∃ p, e = .returned (.pointer (some ⟨p, 0, none⟩)) ∧ Go1 w.heap.size w w' p nu := by
  refine (new_any w).mono ?_
  rintro e w' ⟨p, b, m, x, rfl, hd, hb⟩
  exact ⟨p, rfl, ⟨b, m, x, hd⟩, hb, hb.size⟩
set_option maxHeartbeats 2000000 in
theorem lives_any (w : World) : Calls Try.prog 7 #[] w fun e w' => e = .returned (.bool true) ∧ Below w.heap.size w w' := by
  have HN := Hs.new
  have h0 : nu.left ≠ 0 := by decide
  obtain ⟨o1, o2⟩ := HN.again h0
  obtain ⟨sc1, sc2⟩ := HN.scan
  have hap := HN.appended aa
  obtain ⟨f1, f2, f3⟩ := hap.free rfl
  have hz : apE nu 0 0 false aa = 0 := by
    by_cases e : apE nu 0 0 false aa = 0
    · exact e
    · obtain ⟨-, -, h3⟩ := hap.not e f1
      rcases h3 with ⟨-, h4⟩ | ⟨-, -, h4⟩
      · exact absurd h4 (by decide)
      · rw [np_aa] at h4
        simp [recs] at h4
  obtain ⟨-, hs2, hl2, hlg⟩ := hap.ok hz
  obtain ⟨p1, p2⟩ := hs2.again hl2
  obtain ⟨sd1, sd2⟩ := hs2.scan
  have hC : apC nu 0 0 false aa = 1 := by unfold apC; rw [if_pos hz]
  have hA : apA nu 0 0 false aa = 1 := by unfold apA; rw [if_pos hz, np_aa]
  have HOP := fun (w0 w : World) (p : Nat) (h : Go1 w0.heap.size w0 w p nu) => open_go h (by decide)
  have HAP := fun (w0 w : World) (p j : Nat) (h : Go1 w0.heap.size w0 w p nu) (hj : Jn w j p 0 0 false) (hjN : w0.heap.size ≤ j) => append_go1 h hj hjN aa (by decide) (by decide) (by decide)
  have e0 : (recs 1 ([] : List ByteArray)).length = 0 := rfl
  rw [List.length_nil, e0] at hlg hs2 hl2 p1 p2 sd1 sd2 f2
  obtain ⟨s2, hs⟩ : ∃ s2, apS nu 0 0 false aa = s2 := ⟨_, rfl⟩
  rw [hs] at hlg hs2 hl2 p1 p2 sd1 sd2
  have HOP2 := fun (w0 w : World) (p : Nat) (h : Go1 w0.heap.size w0 w p s2) => open_go h (by rw [hlg, np_aa]; decide)
  simp only [o1, o2, sc1, sc2, hz, hC, hA, hs, p1, p2, sd1, sd2] at HOP HAP HOP2
  have HO1 : Hid (∀ (w0 w : World) (p : Nat), Go1 w0.heap.size w0 w p nu → Calls Try.prog 25 #[.pointer (some ⟨p, 0, none⟩)] w fun e w' => Go1 w0.heap.size w0 w' p nu ∧ ∃ j v, e = .returned (.tuple #[.pointer (some ⟨j, 0, none⟩), v, .int .i64 0]) ∧ w.heap.size ≤ j ∧ Jn w' j p 0 0 false ∧ RwS w' w.heap.size v []) := fun w0 w p h => (HOP w0 w p h).mono fun e w' h9 => by
    obtain ⟨g1, g2, -⟩ := h9
    rcases g2 with ⟨g2, -⟩ | ⟨-, g2⟩
    · cases g2
    · exact ⟨g1, g2⟩
  have HO2 : Hid (∀ (w0 w : World) (p : Nat), Go1 w0.heap.size w0 w p s2 → Calls Try.prog 25 #[.pointer (some ⟨p, 0, none⟩)] w fun e w' => Go1 w0.heap.size w0 w' p s2 ∧ ∃ j v, e = .returned (.tuple #[.pointer (some ⟨j, 0, none⟩), v, .int .i64 0]) ∧ RwS w' w.heap.size v [aa]) := fun w0 w p h => (HOP2 w0 w p h).mono fun e w' h9 => by
    obtain ⟨g1, g2, -⟩ := h9
    rcases g2 with ⟨g2, -⟩ | ⟨-, j, v, g2, g3, g4, g5⟩
    · cases g2
    · exact ⟨g1, j, v, g2, g5⟩
  have HA1 : Hid (∀ (w0 w : World) (p j : Nat), Go1 w0.heap.size w0 w p nu → Jn w j p 0 0 false → w0.heap.size ≤ j → Calls Try.prog 26 #[.pointer (some ⟨j, 0, none⟩), .string aa] w fun e w' => e = .returned (.int .i64 0) ∧ Go1 w0.heap.size w0 w' p s2 ∧ ∃ d, Jn w' j p 1 1 d) := fun w0 w p j h hj hjN => (HAP w0 w p j h hj hjN).mono fun e w' h9 => ⟨h9.1, h9.2.1, _, h9.2.2.1⟩
  clear HOP HAP HOP2 hap f1 f2 f3 hz hs2 hl2 hlg p1 p2 sd1 sd2 hC hA hs o1 o2 sc1 sc2 HN h0 e0
  go_enter Try.func7, Try.ntmps7
  go_wp2_with fail
  refine (new_go w).mono ?_
  rintro e w1 ⟨p, rfl, hg1⟩
  have HG1 : Hid (Go1 w.heap.size w w1 p nu) := hg1
  have hop := HO1.out w w1 p hg1
  clear hg1
  go_wp2_with fail
  refine hop.mono ?_
  rintro e w2 ⟨hg2, j, v, rfl, hj2, hjn2, hr2⟩
  obtain ⟨a2, cap2, e2⟩ := row_spell hr2
  subst e2
  have HG2 : Hid (Go1 w.heap.size w w2 p nu) := hg2
  have happ := HA1.out w w2 p j hg2 hjn2 (Nat.le_trans HG1.out.size hj2)
  clear hop hg2 hr2
  simp only [List.length_nil]
  go_wp2_with fail
  refine happ.mono ?_
  rintro e w3 ⟨rfl, hg3, d3, hjn3⟩
  have HG3 : Hid (Go1 w.heap.size w w3 p s2) := hg3
  have hct := count_any w3 j p 1 1 d3 hjn3
  have hen := end_any w3 j p 1 1 d3 hjn3
  have hop2 := HO2.out w w3 p hg3
  clear happ hjn2 hjn3 hg3
  go_wp2_with fail
  refine hct.mono ?_
  rintro e w4 ⟨rfl, rfl⟩
  go_wp2_with fail
  refine hen.mono ?_
  rintro e w5 ⟨rfl, rfl⟩
  go_wp2_with fail
  refine hop2.mono ?_
  rintro e w6 ⟨hg6, j6, v6, rfl, hr6⟩
  obtain ⟨a6, cap6, e6⟩ := row_spell hr6
  subst e6
  have HB6 : Hid (Below w.heap.size w w6) := hg6.below
  have HR6 : Hid (RwS w6 w5.heap.size (.slice a6 [aa].length cap6) [aa]) := hr6
  clear hop2 hct hen hg6 hr6
  simp only [List.length_cons, List.length_nil]
  go_wp2_with fail
  refine (same_any a6 (some ⟨w6.heap.size, 0, none⟩) cap6 1 [aa] _ (by decide) ((RwS.rd HR6.out).later (below1 _ _)) ?_).mono ?_
  · intro i hi
    obtain rfl : i = 0 := by simp at hi; omega
    refine ⟨w6.heap.size, 0, rfl, ?_⟩
    have := cell_one_at w6 (.string aa) 9 w6.heap.size rfl 0 (.string aa) rfl
    rw [add_plain] at this
    exact this
  · rintro e w7 ⟨rfl, hb7⟩
    have HB7 : Hid (Below w.heap.size w w7) := (HB6.out.alloc HB6.out.size _).trans (hb7.mono (by have := HB6.out.size; simp; omega))
    clear hb7
    go_wp2_with fail
    go_ret
    exact ⟨rfl, HB7.out⟩
end Go.Proofs.Ytohgflimdoebiaa.Dk
