/- For every history of a bulk at most 1048576: appends that are cut, recoveries that are cut: what is found is what was there, and this one just if all its blocks were written. Condition: that bulk. -/
import Derived.Test.YtohgflimdoebiaaRows
import Derived.Test.YtohgflimdoebiaaJnK
import Derived.Test.YtohgflimdoebiaaJnU
import Derived.Test.YtohgflimdoebiaaOpenJn
import Derived.Laws.OwnMore
import Derived.OpenShut
namespace Go.Proofs.Ytohgflimdoebiaa.Dk.journalHistory
open Go.ChangeShapes Go.WideShapes Go.ChangeAt Go.RowKit Go.Maps
set_option linter.unusedVariables false
set_option linter.unusedSimpArgs false

theorem blk_grown {w w' : World} {k N e z n : Nat} {cs : Array Value} {t : TypeId} {v : Value} {xs : List Value} (h : w.heap[k]? = some (.cells cs t)) (hr : w.ownsRow N e z v n xs) (hne : t ≠ e) (hg : w.grownBy w' v.ownBlock) : w'.heap[k]? = some (.cells cs t) := by
  refine (hg.block k (Array.getElem?_eq_some_iff.1 h).1 (fun e1 => ?_)).trans h
  rcases hr.2 with ⟨h0, _⟩ | ⟨g, cap, cur, h0, hb, hgg, rest⟩
  · subst h0; cases e1
  · subst h0
    simp [Value.ownBlock] at e1
    subst e1
    rw [h] at hgg
    cases hgg
    exact hne rfl
def Sb (w : World) (k : Nat) (X : ByteArray) (C A : Int) : Prop := w.heap[k]? = some (.cells #[.string X, .int .i64 C, .int .i64 A] 66)
theorem Sb.c0 {w : World} {k : Nat} {X : ByteArray} {C A : Int} (h : Sb w k X C A) : w.cell? ⟨k, 0, none⟩ = some (.string X) := by unfold Sb at h; simp [World.cell?, h]
theorem Sb.c1 {w : World} {k : Nat} {X : ByteArray} {C A : Int} (h : Sb w k X C A) : w.cell? ⟨k, 1, none⟩ = some (.int .i64 C) := by unfold Sb at h; simp [World.cell?, h]
theorem Sb.c2 {w : World} {k : Nat} {X : ByteArray} {C A : Int} (h : Sb w k X C A) : w.cell? ⟨k, 2, none⟩ = some (.int .i64 A) := by unfold Sb at h; simp [World.cell?, h]
theorem Sb.keep {w w' : World} {k : Nat} {X : ByteArray} {C A : Int} (h : Sb w k X C A) (hk : KeepT w w') : Sb w' k X C A := hk k _ _ _ h (by decide) (by decide) (by decide)
/- Between two steps. -/
structure Run (N : Nat) (w0 w : World) (p j : Nat) (s : St) (ps : List ByteArray) (v7 : Value) : Prop where
  go : Go1 N w0 w p s
  hs : Hs s ps ⟨#[]⟩ 0 0
  jn : Jn w j p ps.length (recs 1 ps).length false
  jN : N ≤ j
  r7 : w.ownsRow N 9 1 v7 ps.length (cellsS ps)
/- Behind a step's append. -/
def After (N : Nat) (w0 w : World) (p j : Nat) (s0 : St) (ps : List ByteArray) (X : ByteArray) (v7 : Value) (e : Ending) : Prop :=
  ∃ (s : St) (m : Nat), Go1 N w0 w p s ∧ s.log.length = s0.log.length + m ∧ m ≤ 255 ∧ w.ownsRow N 9 1 v7 ps.length (cellsS ps) ∧
    ((e = .returned (.int .i64 0) ∧ X.size ≤ 5865 ∧ s.left ≠ 0 ∧ Hs s (ps ++ [X]) ⟨#[]⟩ 0 0 ∧ Jn w j p (ps ++ [X]).length (recs 1 (ps ++ [X])).length false) ∨
     ((e = .returned (.int .i64 9) ∨ e = .returned (.int .i64 10)) ∧ s.left ≠ 0 ∧ Hs s ps ⟨#[]⟩ 0 0 ∧ Jn w j p ps.length (recs 1 ps).length false) ∨
     (e = .returned (.int .i64 11) ∧ X.size ≤ 5865 ∧ m = np X.size ∧ Hs s (ps ++ [X]) ⟨#[]⟩ 0 0) ∨
     (e = .returned (.int .i64 11) ∧ ¬ (X.size ≤ 5865 ∧ m = np X.size) ∧ ∃ t k, Hs s ps t k 0))
theorem run_append {N : Nat} {w0 w : World} {p j : Nat} {s : St} {ps : List ByteArray} {v7 : Value} (h : Run N w0 w p j s ps v7) (X : ByteArray) (hX : X.size ≤ 9223372036854775807) (hlog : s.log.length ≤ 4294967296) :
    Calls Try.prog 26 #[.pointer (some ⟨j, 0, none⟩), .string X] w fun e w' => After N w0 w' p j s ps X v7 e ∧ KeepT w w' := by
  have hfit := h.hs.fit
  refine (append_k h.go h.jn h.jN X (by omega) hX (by omega)).mono ?_
  rintro e w' ⟨he, hg, hj, hk⟩
  have ha := h.hs.appended X
  have hr := hk.row h.r7 (by decide) (by decide) (by decide)
  refine ⟨?_, hk⟩
  have hlb := apS_log s ps.length (recs 1 ps).length false X
  by_cases h0 : apE s ps.length (recs 1 ps).length false X = 0
  · obtain ⟨o1, o2, o3, o4⟩ := ha.ok h0
    have hC : apC s ps.length (recs 1 ps).length false X = (ps ++ [X]).length := by unfold apC; rw [if_pos h0]; simp
    have hA : apA s ps.length (recs 1 ps).length false X = (recs 1 (ps ++ [X])).length := by unfold apA; rw [if_pos h0, recs_add, List.length_append, blks_length]
    have hD : apD s ps.length (recs 1 ps).length false X = false := by unfold apD; rw [h0, if_neg (by decide)]
    rw [hC, hA, hD] at hj
    rw [h0] at he
    exact ⟨_, _, hg, o4, by omega, hr, .inl ⟨he, o1, o3, o2, hj⟩⟩
  · have hC : apC s ps.length (recs 1 ps).length false X = ps.length := by unfold apC; rw [if_neg h0]
    have hA : apA s ps.length (recs 1 ps).length false X = (recs 1 ps).length := by unfold apA; rw [if_neg h0]
    by_cases h11 : apE s ps.length (recs 1 ps).length false X = 11
    · obtain ⟨m, hm, hc⟩ := ha.down h11
      rw [h11] at he
      refine ⟨_, m, hg, hm, by omega, hr, .inr (.inr ?_)⟩
      rcases hc with ⟨c1, c2, c3⟩ | ⟨c1, t, k, c2⟩
      · exact .inl ⟨he, c1, c2, c3⟩
      · exact .inr ⟨he, c1, t, k, c2⟩
    · obtain ⟨n1, n2, n3⟩ := ha.not h0 h11
      have hD : apD s ps.length (recs 1 ps).length false X = false := by unfold apD; rw [if_neg h11]
      rw [hC, hA, hD] at hj
      rw [n1] at hg
      refine ⟨s, 0, hg, rfl, by omega, hr, .inr (.inl ⟨?_, n2, h.hs, hj⟩)⟩
      rcases n3 with ⟨e1, -⟩ | ⟨e1, -⟩
      · rw [e1] at he; exact .inl he
      · rw [e1] at he; exact .inr he
/- In recovery. -/
structure Rec (N : Nat) (w0 w : World) (p : Nat) (s : St) (ms : List ByteArray) (t : ByteArray) (k j : Nat) (vm : Value) (B : Nat) : Prop where
  go : Go1 N w0 w p s
  hs : Hs s ms t k j
  row : w.ownsRow N 9 1 vm ms.length (cellsS ms)
  log : s.log.length + (k - j) ≤ B
theorem rec_up {N : Nat} {w0 w : World} {p : Nat} {s : St} {ms : List ByteArray} {t : ByteArray} {k j : Nat} {vm : Value} {B : Nat} (h : Rec N w0 w p s ms t k j vm B) (n : Int) (h1 : -1 ≤ n) (h2 : n ≤ 9223372036854775807) :
    Calls Try.prog 29 #[.pointer (some ⟨p, 0, none⟩), .int .i64 n] w fun e w' => e = .returned (.tuple #[]) ∧ Rec N w0 w' p ⟨s.img, s.log, n⟩ ms t k j vm B := by
  refine (up_k h.go n h2).mono ?_
  rintro e w' ⟨he, hg, hk, -⟩
  rw [show max n (-1) = n by omega] at hg
  exact ⟨he, hg, h.hs.up n h1 h2, hk.row h.row (by decide) (by decide) (by decide), h.log⟩
theorem rec_open {N : Nat} {w0 w : World} {p : Nat} {s : St} {ms : List ByteArray} {t : ByteArray} {k j : Nat} {vm : Value} {B : Nat} (h : Rec N w0 w p s ms t k j vm B) (hB : B ≤ 4294967296) :
    Calls Try.prog 25 #[.pointer (some ⟨p, 0, none⟩)] w fun e w' =>
      (e = .returned (.tuple #[.pointer none, .slice none 0 0, .int .i64 11]) ∧ ¬ (s.left = -1 ∨ 254 < s.left) ∧ ∃ s' j', Rec N w0 w' p s' ms t k j' vm B) ∨
      (∃ jj a cap s', e = .returned (.tuple #[.pointer (some ⟨jj, 0, none⟩), .slice a ms.length cap, .int .i64 0]) ∧ Run N w0 w' p jj s' ms vm ∧ s'.log.length ≤ B ∧ RdS w' a ms) := by
  have ho := h.hs.opened
  have hlog := h.log
  refine (open_k h.go (by omega)).mono ?_
  rintro e w' ⟨hg, hc, hk⟩
  have hr := hk.row h.row (by decide) (by decide) (by decide)
  rcases hc with ⟨hb, he⟩ | ⟨hb, jj, v, he, hjj, hjn, hrow⟩
  · left
    refine ⟨he, fun hm => (by rw [ho.much hm] at hb; cases hb), ?_⟩
    obtain ⟨m, hm, hh, hl⟩ := ho.no hb
    exact ⟨_, _, hg, hh, hr, by rw [hl]; omega⟩
  · right
    obtain ⟨y1, y2, y3⟩ := ho.yes hb
    rw [ho.found] at hjn hrow
    rw [ho.ended] at hjn
    obtain ⟨a, cap, rfl⟩ := row_spell hrow
    exact ⟨jj, a, cap, _, he, ⟨hg, y1.zero, hjn, Nat.le_trans h.go.size hjj, hr⟩, by rw [y3]; omega, RwS.rd hrow⟩
theorem run_rec {N : Nat} {w0 w : World} {p j : Nat} {s : St} {ps : List ByteArray} {v7 : Value} (h : Run N w0 w p j s ps v7) : Rec N w0 w p s ps ⟨#[]⟩ 0 0 v7 s.log.length := ⟨h.go, h.hs, h.r7, by omega⟩
theorem Run.later {N : Nat} {w0 w w' : World} {p j : Nat} {s : St} {ps : List ByteArray} {v7 : Value} (h : Run N w0 w p j s ps v7) (hb : Below w.heap.size w w') : Run N w0 w' p j s ps v7 := ⟨h.go.later hb, h.hs, h.jn.later hb, h.jN, row_later h.r7 hb⟩
theorem run_up {N : Nat} {w0 w : World} {p j : Nat} {s : St} {ps : List ByteArray} {v7 : Value} (h : Run N w0 w p j s ps v7) (n : Int) (h2 : n ≤ 9223372036854775807) :
    Calls Try.prog 29 #[.pointer (some ⟨p, 0, none⟩), .int .i64 n] w fun e w' => e = .returned (.tuple #[]) ∧ (∃ s', s'.log.length = s.log.length ∧ Run N w0 w' p j s' ps v7) ∧ KeepT w w' := by
  refine (up_k h.go n h2).mono ?_
  rintro e w' ⟨he, hg, hk, hj⟩
  exact ⟨he, ⟨⟨s.img, s.log, max n (-1)⟩, rfl, ⟨hg, h.hs.up _ (by omega) (by omega), hj _ _ _ _ _ h.jn, h.jN, hk.row h.r7 (by decide) (by decide) (by decide)⟩⟩, hk⟩
set_option maxHeartbeats 16000000 in
set_option maxRecDepth 100000 in
theorem walk (a0 : Option Addr) (c0 : Nat) (l0 : List (ByteArray × Int × Int)) (w : World) (rd0 : RdT w a0 l0) (hl0 : l0.length ≤ 1048576) (hn0 : a0 = none → c0 = 0) (hg0 : ∀ p ∈ l0, p.1.size ≤ 9223372036854775807 ∧ (Lit.int .i64 p.2.1).wf = true ∧ (Lit.int .i64 p.2.2).wf = true) :
    Calls Try.prog 6 #[.slice a0 l0.length c0] w fun e w' => e = .returned (.bool true) ∧ Below w.heap.size w w' := by
  obtain ⟨i0, hi, hz0, hz1, hz2⟩ := info_parts infoS
  have HRD : Hid (RdT w a0 l0) := rd0
  have HG0 : Hid (∀ p ∈ l0, p.1.size ≤ 9223372036854775807 ∧ (Lit.int .i64 p.2.1).wf = true ∧ (Lit.int .i64 p.2.2).wf = true) := hg0
  obtain ⟨n, hn⟩ : ∃ n, l0.length = n := ⟨_, rfl⟩
  have HLN : Hid (l0.length = n) := hn
  rw [hn] at hl0 ⊢
  clear rd0 hn0 hg0 hn
  have HN := Hs.new
  obtain ⟨o1, o2⟩ := HN.again (by decide)
  obtain ⟨sc1, sc2⟩ := HN.scan
  have HOP : Hid (∀ (w0 w : World) (p : Nat), Go1 w0.heap.size w0 w p nu → Calls Try.prog 25 #[.pointer (some ⟨p, 0, none⟩)] w fun e w' => ∃ j v, e = .returned (.tuple #[.pointer (some ⟨j, 0, none⟩), v, .int .i64 0]) ∧ Run w0.heap.size w0 w' p j nu [] (.slice none 0 0)) := fun w0 w p h => (open_k h (by decide)).mono fun e w' h9 => by
    obtain ⟨g1, g2, g3⟩ := h9
    rw [o1] at g1
    rcases g2 with ⟨g2, -⟩ | ⟨-, j, v, e1, e2, e3, e4⟩
    · rw [o2] at g2; cases g2
    · rw [sc1, sc2] at e3
      exact ⟨j, v, e1, g1, HN, e3, Nat.le_trans h.size e2, World.ownsRow_nil _ _ _ _⟩
  clear HN o1 o2 sc1 sc2
  go_enter Try.func6, Try.ntmps6
  go_wp2_with fail
  refine (lives_any _).mono ?_
  rintro e wa ⟨rfl, hba⟩
  have HBA : Hid (Below w.heap.size w wa) := hba
  clear hba
  go_wp2_with fail
  refine (new_go wa).mono ?_
  rintro e wb ⟨p, rfl, hgb⟩
  have hop := HOP.out wa wb p hgb
  clear hgb
  go_wp2_with fail
  refine hop.mono ?_
  rintro e wc ⟨j0, vj, rfl, hRc⟩
  have HRC : Hid (Run wa.heap.size wa wc p j0 nu [] (.slice none 0 0)) := hRc
  clear hop hRc
  go_wp2_with fail
  go_loopw [4, 7, 36] (fun v4 v7 i wr => ∃ (kk j : Nat) (s : St) (ps : List ByteArray), kk ≤ n ∧ i = .int .i64 (kk : Int) ∧ v4 = .pointer (some ⟨j, 0, none⟩) ∧ Run wa.heap.size wa wr p j s ps v7 ∧ s.log.length ≤ 1024 * kk) (fun _ _ i _ => n - (intOf i).toNat)
  case atStart => exact ⟨0, j0, nu, [], by omega, rfl, rfl, HRC.out, by decide⟩
  case round =>
    obtain ⟨kk, j, s, ps, hk, rfl, rfl, hR, hlg⟩ := hrel
    have HR : Hid (Run wa.heap.size wa wr p j s ps u7) := hR
    have hcnt := hR.hs.cnt.2
    have hbw : Below wa.heap.size wa wr := hR.go.below
    by_cases hkn : kk < n
    · have hrd1 : RdT wr a0 l0 := fun i hi => by
        obtain ⟨b, o, e, c0, c1, c2⟩ := HRD.out i hi
        have hb := HBA.out.trans (hbw.mono HBA.out.size)
        exact ⟨b, o, e, cell_later hb (Nat.le_refl _) c0, cell_later hb (Nat.le_refl _) c1, cell_later hb (Nat.le_refl _) c2⟩
      obtain ⟨b, o, ea, cX, cC, cA⟩ := hrd1 kk (by rw [HLN.out]; exact hkn)
      subst ea
      obtain ⟨hX, hC, hA⟩ := HG0.out (l0.getD kk (⟨#[]⟩, 0, 0)) (by rw [getD_yes _ _ (by rw [HLN.out]; exact hkn)]; exact List.getElem_mem _)
      obtain ⟨⟨X, C, A⟩, hXX⟩ : ∃ x, l0.getD kk (⟨#[]⟩, 0, 0) = x := ⟨_, rfl⟩
      rw [hXX] at cX cC cA hX hC hA
      have cX : wr.cell? ⟨b, o + kk * 3, none⟩ = some (.string X) := cX
      have cC : wr.cell? ⟨b, o + kk * 3 + 1, none⟩ = some (.int .i64 C) := cC
      have cA : wr.cell? ⟨b, o + kk * 3 + 2, none⟩ = some (.int .i64 A) := cA
      have j1 : (0 : Int) ≤ (kk : Int) := by omega
      have j2 : (kk : Int) < (n : Int) := by omega
      have hC2 : C ≤ 9223372036854775807 := (bounds_i64 hC).2
      have hup := run_up (hR.later (below1 wr (.cells #[.string X, .int .i64 C, .int .i64 A] 66))) C hC2
      have HS1 : Hid (Sb (wr.alloc (.cells #[.string X, .int .i64 C, .int .i64 A] 66)) wr.heap.size X C A) := World.alloc_heap_new _ _
      clear hXX hbw hR hrd1
      go_wp2_with fail
      refine hup.mono ?_
      rintro e w2 ⟨rfl, ⟨s1, hs1, hR2⟩, hkt2⟩
      obtain ⟨sb, hsb⟩ : ∃ sb, wr.heap.size = sb := ⟨_, rfl⟩
      have HSB2 : Hid (Sb w2 sb X C A) := by rw [← hsb]; exact HS1.out.keep hkt2
      rw [hsb]
      have hw2 := writes_k hR2.go (by omega)
      have HR2 : Hid (Run wa.heap.size wa w2 p j s1 ps u7) := hR2
      obtain ⟨L, hL⟩ : ∃ L, s1.log.length = L := ⟨_, rfl⟩
      have HL : Hid (s1.log.length = L) := hL
      rw [hL] at hw2 hs1
      have hlg2 : L ≤ 1024 * kk := by omega
      clear hs1 hlg
      clear hup hR2 hkt2 hsb HS1 cX cC cA hL
      go_wp2_with fail
      refine hw2.mono ?_
      rintro e w3 ⟨⟨av, cv, rfl⟩, hb3⟩
      have hR3 := HR2.out.later hb3
      have HSB3 : Hid (Sb w3 sb X C A) := HSB2.out.keep (KeepT.ofBelow hb3)
      have cX3 := HSB3.out.c0
      have hap := run_append hR3 X hX (by rw [HL.out]; omega)
      clear hw2 hb3 hR3
      go_wp2_with fail
      refine hap.mono ?_
      rintro e w4 ⟨⟨s4, m, hgo4, hlog4, hm4, hr4, hcase⟩, hkt4⟩
      have HSB4 : Hid (Sb w4 sb X C A) := HSB3.out.keep hkt4
      have hw4 := writes_k hgo4 (by rw [hlog4, HL.out]; omega)
      rw [hlog4, HL.out] at hw4
      have HGO4 : Hid (Go1 wa.heap.size wa w4 p s4) := hgo4
      have HR74 : Hid (w4.ownsRow wa.heap.size 9 1 u7 ps.length (cellsS ps)) := hr4
      have HLG4 : Hid (s4.log.length = L + m) := by rw [← HL.out]; exact hlog4
      have z1 : IntKind.i64.wrap (((L + m : Nat) : Int) - (L : Int)) = (m : Int) := by rw [Bt.wrap_fit _ (by omega) (by omega)]; omega
      obtain ⟨LM, hLM⟩ : ∃ LM, L + m = LM := ⟨_, rfl⟩
      rw [hLM] at hw4 z1
      have hLM2 : LM ≤ 1024 * kk + 255 := by omega
      obtain ⟨q, hq⟩ : ∃ q, ps.length = q := ⟨_, rfl⟩
      have HQ : Hid (ps.length = q) := hq
      rw [hq] at HR74 hcnt
      clear hap hkt4 hgo4 hr4 hlog4 cX3 hLM hq
      rcases hcase with ⟨rfl, hXs, hl4, hh4, hj4⟩ | ⟨he, hl4, hh4, hj4⟩ | ⟨rfl, hXs, hmn, hh4⟩ | ⟨rfl, hno, t4, k4, hh4⟩
      · have HH4 : Hid (Hs s4 (ps ++ [X]) ⟨#[]⟩ 0 0) := hh4
        have HJ4 : Hid (Jn w4 j p (ps ++ [X]).length (recs 1 (ps ++ [X])).length false) := hj4
        have hlb : decide (s4.left ≠ 0) = true := by simpa using hl4
        clear hh4 hj4
        go_wp2_with fail
        refine hw4.mono ?_
        rintro e w5 ⟨⟨av5, cv5, rfl⟩, hb5⟩
        have HSB : Hid (Sb w5 sb X C A) := HSB4.out.keep (KeepT.ofBelow hb5)
        have HR7 : Hid (w5.ownsRow wa.heap.size 9 1 u7 q (cellsS ps)) := row_later HR74.out hb5
        have HGO5 : Hid (Go1 wa.heap.size wa w5 p s4) := HGO4.out.later hb5
        have HJ5 : Hid (Jn w5 j p (ps ++ [X]).length (recs 1 (ps ++ [X])).length false) := HJ4.out.later hb5
        have cX5 := HSB.out.c0
        have hsz5 := HGO5.out.size
        clear hw4 hb5
        go_wp2_with (at_builtin; refine wpList_append_lies _ rfl _ _ _ rfl wa.heap.size 9 i0 _ 1 16 Try.underlying22 hi hz0 hz1 hz2 rfl (by omega) _ q (cellsS ps) rfl (HR7.out.alloc _) ⟨w5.heap.size, 0, none⟩ 1 1 [.string X] rfl rfl (cell_one_at _ _ _ _ rfl) (by simp [Value.oneCell']) (by omega) (by unfold maxLen; omega) (by omega) (by simp; omega) (w5.heap.size + 1) (by simp) ?_; intro g6 cap6 w6 hown6 hgrow6 hat6 hlt6; have HG6 : Hid ((w5.alloc (.cells #[.string X] 9)).grownBy w6 u7.ownBlock) := hgrow6; have HO6 : Hid (w6.ownsRow wa.heap.size 9 1 (.slice (some ⟨g6, 0, none⟩) (q + 1) cap6) (q + 1) (cellsS ps ++ [.string X])) := hown6; have HSB6 : Hid (Sb w6 sb X C A) := (by exact blk_grown (HSB.out.keep (KeepT.ofBelow (below1 _ _))) (HR7.out.alloc _) (by decide) hgrow6); have cA6 := HSB6.out.c2; clear hown6 hgrow6 hat6 hlt6)
        have HGO6 : Hid (Go1 wa.heap.size wa w6 p s4) := (HGO5.out.later (below1 _ _)).grown (HR7.out.alloc _) (by decide) (by decide) HG6.out
        have HJ6 : Hid (Jn w6 j p (ps ++ [X]).length (recs 1 (ps ++ [X])).length false) := (HJ5.out.later (below1 _ _)).grown (HR7.out.alloc _) (by decide) HG6.out
        have hon := on_k HGO6.out
        rw [hlb] at hon
        refine hon.mono ?_
        rintro e w7 ⟨rfl, rfl⟩
        go_wp2_with fail
        go_roundw
        case rel =>
          have hq1 : (ps ++ [X]).length = q + 1 := by rw [List.length_append, HQ.out]; rfl
          refine ⟨kk + 1, j, s4, ps ++ [X], by omega, by go_num, rfl, ⟨HGO6.out, HH4.out, HJ6.out, HR.out.jN, ?_⟩, by rw [HLG4.out]; omega⟩
          rw [hq1]
          have e : cellsS (ps ++ [X]) = cellsS ps ++ [.string X] := by simp [cellsS]
          rw [e]
          exact HO6.out
        case measure => simp [intOf]; omega
      · have HH4 : Hid (Hs s4 ps ⟨#[]⟩ 0 0) := hh4
        have HJ4 : Hid (Jn w4 j p ps.length (recs 1 ps).length false) := hj4
        have hlb : decide (s4.left ≠ 0) = true := by simpa using hl4
        clear hh4 hj4
        rcases he with rfl | rfl
        all_goals
          go_wp2_with fail
          refine hw4.mono ?_
          rintro e w5 ⟨⟨av5, cv5, rfl⟩, hb5⟩
          have HR7 : Hid (w5.ownsRow wa.heap.size 9 1 u7 q (cellsS ps)) := row_later HR74.out hb5
          have HGO5 : Hid (Go1 wa.heap.size wa w5 p s4) := HGO4.out.later hb5
          have HJ5 : Hid (Jn w5 j p ps.length (recs 1 ps).length false) := HJ4.out.later hb5
          have hon := on_k HGO5.out
          rw [hlb] at hon
          clear hw4 hb5
          go_wp2_with fail
          refine hon.mono ?_
          rintro e w7 ⟨rfl, rfl⟩
          go_wp2_with fail
          go_roundw
          case rel =>
            refine ⟨kk + 1, j, s4, ps, by omega, by go_num, rfl, ⟨HGO5.out, HH4.out, HJ5.out, HR.out.jN, ?_⟩, by rw [HLG4.out]; omega⟩
            rw [HQ.out]; exact HR7.out
          case measure => simp [intOf]; omega
      · have HH4 : Hid (Hs s4 (ps ++ [X]) ⟨#[]⟩ 0 0) := hh4
        have hpt := fun W => rParts_any (X.size : Int) W
        obtain ⟨n1, n2, n3, -, -⟩ := np_spec X.size hXs
        rw [← hmn] at n1 n2 n3
        simp only [n1] at hpt
        have s1' : decide ((X.size : Int) ≤ 5865) = true := by simp; omega
        have s2' : ((m : Int) == (m : Int)) = true := by simp
        clear hh4 hmn n1
        go_wp2_with fail
        refine hw4.mono ?_
        rintro e w5 ⟨⟨av5, cv5, rfl⟩, hb5⟩
        have HSB : Hid (Sb w5 sb X C A) := HSB4.out.keep (KeepT.ofBelow hb5)
        have HR7 : Hid (w5.ownsRow wa.heap.size 9 1 u7 q (cellsS ps)) := row_later HR74.out hb5
        have HGO5 : Hid (Go1 wa.heap.size wa w5 p s4) := HGO4.out.later hb5
        have cX5 := HSB.out.c0
        have hsz5 := HGO5.out.size
        clear hw4 hb5
        go_wp2_with fail
        refine (hpt _).mono ?_
        rintro e w5 ⟨rfl, rfl⟩
        go_wp2_with (at_builtin; refine wpList_append_lies _ rfl _ _ _ rfl wa.heap.size 9 i0 _ 1 16 Try.underlying22 hi hz0 hz1 hz2 rfl (by omega) _ q (cellsS ps) rfl (HR7.out.alloc _) ⟨w5.heap.size, 0, none⟩ 1 1 [.string X] rfl rfl (cell_one_at _ _ _ _ rfl) (by simp [Value.oneCell']) (by omega) (by unfold maxLen; omega) (by omega) (by simp; omega) (w5.heap.size + 1) (by simp) ?_; intro g6 cap6 w6 hown6 hgrow6 hat6 hlt6; have HG6 : Hid ((w5.alloc (.cells #[.string X] 9)).grownBy w6 u7.ownBlock) := hgrow6; have HO6 : Hid (w6.ownsRow wa.heap.size 9 1 (.slice (some ⟨g6, 0, none⟩) (q + 1) cap6) (q + 1) (cellsS ps ++ [.string X])) := hown6; have HSB6 : Hid (Sb w6 sb X C A) := (by exact blk_grown (HSB.out.keep (KeepT.ofBelow (below1 _ _))) (HR7.out.alloc _) (by decide) hgrow6); have cA6 := HSB6.out.c2; clear hown6 hgrow6 hat6 hlt6)
        obtain ⟨BB, hBBe⟩ : ∃ BB, 1024 * kk + 600 = BB := ⟨_, rfl⟩
        have hBB : BB ≤ 4294967296 := by omega
        obtain ⟨ms, hms⟩ : ∃ ms, ps ++ [X] = ms := ⟨_, rfl⟩
        obtain ⟨vm, hvm⟩ : ∃ vm, Value.slice (some ⟨g6, 0, none⟩) (q + 1) cap6 = vm := ⟨_, rfl⟩
        have HREC : Hid (Rec wa.heap.size wa w6 p s4 ms ⟨#[]⟩ 0 0 vm BB) := by
          have hq1 : (ps ++ [X]).length = q + 1 := by rw [List.length_append, HQ.out]; rfl
          rw [← hms, ← hvm]
          refine ⟨(HGO5.out.later (below1 _ _)).grown (HR7.out.alloc _) (by decide) (by decide) HG6.out, HH4.out, ?_, by rw [HLG4.out]; omega⟩
          rw [hq1]
          have e : cellsS (ps ++ [X]) = cellsS ps ++ [.string X] := by simp [cellsS]
          rw [e]
          exact HO6.out
        rw [hvm]
        clear hms hvm
        obtain ⟨P0, hP0, hkP⟩ : ∃ P : Nat, P ≤ 3 ∧ wrap64 ((IntKind.u64.wrap A).tmod 4) = (P : Int) := by simpa using k_mod A 3 (by omega)
        obtain ⟨M, hM⟩ : ∃ M, ms.length = M := ⟨_, rfl⟩
        have HMM : Hid (ms.length = M) := hM
        have hMle : M ≤ 2048 := by rw [← hM]; exact HREC.out.hs.cnt.2
        obtain ⟨am, capm, em⟩ := row_spell HREC.out.row
        subst em
        rw [hM]
        clear hM
        go_wp2_with fail
        rw [hkP]
        go_loopw [13] (fun x wy => ∃ (P : Nat) (sy : St) (ty : ByteArray) (ky jy : Nat), P ≤ 600 ∧ x = .int .i64 (P : Int) ∧ Rec wa.heap.size wa wy p sy ms ty ky jy (.slice am ms.length capm) BB) (fun x _ => 600 - (intOf x).toNat)
        case atStart => exact ⟨P0, _, _, _, _, by omega, rfl, HREC.out⟩
        case round =>
          obtain ⟨P, sy, ty, ky, jy, hP, rfl, hrec⟩ := hrel
          have hup2 := rec_up hrec (P : Int) (by omega) (by omega)
          clear hrec
          go_wp2_with fail
          refine hup2.mono ?_
          rintro e w8 ⟨rfl, hrec8⟩
          have hop8 := rec_open hrec8 hBB
          clear hup2 hrec8
          go_wp2_with fail
          refine hop8.mono ?_
          rintro e w9 (⟨rfl, hnm, s9, j9, hrec9⟩ | ⟨jj, a9, cap9, s9, rfl, hR9, hl9, hrd9⟩)
          · have hP2 : P ≤ 254 := by
              have : ¬ (254 < (P : Int)) := fun h => hnm (.inr h)
              omega
            have HREC9 : Hid (Rec wa.heap.size wa w9 p s9 ms ty ky j9 (.slice am ms.length capm) BB) := hrec9
            have y1 : IntKind.i64.wrap ((P : Int) + 1) = ((P + 1 : Nat) : Int) := by rw [Bt.wrap_fit _ (by omega) (by omega)]; omega
            have y2 : decide (600 < ((P + 1 : Nat) : Int)) = false := by simp; omega
            obtain ⟨P1, hP1⟩ : ∃ P1, ((P + 1 : Nat) : Int) = P1 := ⟨_, rfl⟩
            have HP1 : Hid (((P + 1 : Nat) : Int) = P1) := hP1
            rw [hP1] at y1 y2
            clear hop8 hrec9 hnm hP1
            go_wp2_with fail
            go_roundw
            case rel => exact ⟨P + 1, _, _, _, _, by omega, by rw [HP1.out], HREC9.out⟩
            case measure => simp [intOf, ← HP1.out]; omega
          · have HR9 : Hid (Run wa.heap.size wa w9 p jj s9 ms (.slice am ms.length capm)) := hR9
            have hsm := same_any a9 am cap9 capm ms w9 (by rw [HMM.out]; omega) hrd9 (RwS.rd hR9.r7)
            rw [HMM.out] at hsm ⊢
            clear hop8 hR9 hrd9
            go_wp2_with fail
            refine hsm.mono ?_
            rintro e w10 ⟨rfl, hb10⟩
            have HR10 : Hid (Run wa.heap.size wa w10 p jj s9 ms (.slice am ms.length capm)) := HR9.out.later hb10
            clear hsm hb10
            go_wp2_with fail
            go_roundw
            case rel =>
              refine ⟨kk + 1, jj, s9, ms, by omega, by go_num, rfl, ?_, by omega⟩
              have h := HR10.out
              rw [HMM.out] at h
              exact h
            case measure => simp [intOf]; omega
      · have HH4 : Hid (Hs s4 ps t4 k4 0) := hh4
        have hk4 : k4 ≤ 254 := by have := hh4.hk; have := (np_spec t4.size hh4.tsz).2.2.1; omega
        clear hh4
        obtain ⟨BB, hBBe⟩ : ∃ BB, 1024 * kk + 600 = BB := ⟨_, rfl⟩
        have hBB : BB ≤ 4294967296 := by omega
        by_cases hXs : X.size ≤ 5865
        · have hpt := fun W => rParts_any (X.size : Int) W
          obtain ⟨n1, n2, n3, -, -⟩ := np_spec X.size hXs
          have hmn : m ≠ np X.size := fun e => hno ⟨hXs, e⟩
          obtain ⟨np1, hnp1⟩ : ∃ np1, np X.size = np1 := ⟨_, rfl⟩
          rw [hnp1] at n1 n2 n3 hmn
          simp only [n1] at hpt
          have s1' : decide ((X.size : Int) ≤ 5865) = true := by simp; omega
          have s2' : ((m : Int) == (np1 : Int)) = false := by simp; omega
          clear n1 hnp1 hno
          go_wp2_with fail
          refine hw4.mono ?_
          rintro e w5 ⟨⟨av5, cv5, rfl⟩, hb5⟩
          have HSB : Hid (Sb w5 sb X C A) := HSB4.out.keep (KeepT.ofBelow hb5)
          have cX5 := HSB.out.c0
          have cA5 := HSB.out.c2
          have HREC : Hid (Rec wa.heap.size wa w5 p s4 ps t4 k4 0 u7 BB) := ⟨HGO4.out.later hb5, HH4.out, by rw [HQ.out]; exact row_later HR74.out hb5, by rw [HLG4.out]; omega⟩
          clear hw4 hb5
          go_wp2_with fail
          refine (hpt _).mono ?_
          rintro e w5 ⟨rfl, rfl⟩
          obtain ⟨ms, hms⟩ : ∃ ms, ps = ms := ⟨_, rfl⟩
          rw [hms] at HREC
          clear hms
          obtain ⟨P0, hP0, hkP⟩ : ∃ P : Nat, P ≤ 3 ∧ wrap64 ((IntKind.u64.wrap A).tmod 4) = (P : Int) := by simpa using k_mod A 3 (by omega)
          obtain ⟨M, hM⟩ : ∃ M, ms.length = M := ⟨_, rfl⟩
          have HMM : Hid (ms.length = M) := hM
          have hMle : M ≤ 2048 := by rw [← hM]; exact HREC.out.hs.cnt.2
          obtain ⟨am, capm, em⟩ := row_spell HREC.out.row
          subst em
          rw [hM]
          clear hM
          go_wp2_with fail
          rw [hkP]
          go_loopw [13] (fun x wy => ∃ (P : Nat) (sy : St) (ty : ByteArray) (ky jy : Nat), P ≤ 600 ∧ x = .int .i64 (P : Int) ∧ Rec wa.heap.size wa wy p sy ms ty ky jy (.slice am ms.length capm) BB) (fun x _ => 600 - (intOf x).toNat)
          case atStart => exact ⟨P0, _, _, _, _, by omega, rfl, HREC.out⟩
          case round =>
            obtain ⟨P, sy, ty, ky, jy, hP, rfl, hrec⟩ := hrel
            have hup2 := rec_up hrec (P : Int) (by omega) (by omega)
            clear hrec
            go_wp2_with fail
            refine hup2.mono ?_
            rintro e w8 ⟨rfl, hrec8⟩
            have hop8 := rec_open hrec8 hBB
            clear hup2 hrec8
            go_wp2_with fail
            refine hop8.mono ?_
            rintro e w9 (⟨rfl, hnm, s9, j9, hrec9⟩ | ⟨jj, a9, cap9, s9, rfl, hR9, hl9, hrd9⟩)
            · have hP2 : P ≤ 254 := by
                have : ¬ (254 < (P : Int)) := fun h => hnm (.inr h)
                omega
              have HREC9 : Hid (Rec wa.heap.size wa w9 p s9 ms ty ky j9 (.slice am ms.length capm) BB) := hrec9
              have y1 : IntKind.i64.wrap ((P : Int) + 1) = ((P + 1 : Nat) : Int) := by rw [Bt.wrap_fit _ (by omega) (by omega)]; omega
              have y2 : decide (600 < ((P + 1 : Nat) : Int)) = false := by simp; omega
              obtain ⟨P1, hP1⟩ : ∃ P1, ((P + 1 : Nat) : Int) = P1 := ⟨_, rfl⟩
              have HP1 : Hid (((P + 1 : Nat) : Int) = P1) := hP1
              rw [hP1] at y1 y2
              clear hop8 hrec9 hnm hP1
              go_wp2_with fail
              go_roundw
              case rel => exact ⟨P + 1, _, _, _, _, by omega, by rw [HP1.out], HREC9.out⟩
              case measure => simp [intOf, ← HP1.out]; omega
            · have HR9 : Hid (Run wa.heap.size wa w9 p jj s9 ms (.slice am ms.length capm)) := hR9
              have hsm := same_any a9 am cap9 capm ms w9 (by rw [HMM.out]; omega) hrd9 (RwS.rd hR9.r7)
              rw [HMM.out] at hsm ⊢
              clear hop8 hR9 hrd9
              go_wp2_with fail
              refine hsm.mono ?_
              rintro e w10 ⟨rfl, hb10⟩
              have HR10 : Hid (Run wa.heap.size wa w10 p jj s9 ms (.slice am ms.length capm)) := HR9.out.later hb10
              clear hsm hb10
              go_wp2_with fail
              go_roundw
              case rel =>
                refine ⟨kk + 1, jj, s9, ms, by omega, by go_num, rfl, ?_, by omega⟩
                have h := HR10.out
                rw [HMM.out] at h
                exact h
              case measure => simp [intOf]; omega
        · have s1' : decide ((X.size : Int) ≤ 5865) = false := by simp; omega
          clear hno
          go_wp2_with fail
          refine hw4.mono ?_
          rintro e w5 ⟨⟨av5, cv5, rfl⟩, hb5⟩
          have HSB : Hid (Sb w5 sb X C A) := HSB4.out.keep (KeepT.ofBelow hb5)
          have cX5 := HSB.out.c0
          have cA5 := HSB.out.c2
          have HREC : Hid (Rec wa.heap.size wa w5 p s4 ps t4 k4 0 u7 BB) := ⟨HGO4.out.later hb5, HH4.out, by rw [HQ.out]; exact row_later HR74.out hb5, by rw [HLG4.out]; omega⟩
          clear hw4 hb5
          obtain ⟨ms, hms⟩ : ∃ ms, ps = ms := ⟨_, rfl⟩
          rw [hms] at HREC
          clear hms
          obtain ⟨P0, hP0, hkP⟩ : ∃ P : Nat, P ≤ 3 ∧ wrap64 ((IntKind.u64.wrap A).tmod 4) = (P : Int) := by simpa using k_mod A 3 (by omega)
          obtain ⟨M, hM⟩ : ∃ M, ms.length = M := ⟨_, rfl⟩
          have HMM : Hid (ms.length = M) := hM
          have hMle : M ≤ 2048 := by rw [← hM]; exact HREC.out.hs.cnt.2
          obtain ⟨am, capm, em⟩ := row_spell HREC.out.row
          subst em
          rw [hM]
          clear hM
          go_wp2_with fail
          rw [hkP]
          go_loopw [13] (fun x wy => ∃ (P : Nat) (sy : St) (ty : ByteArray) (ky jy : Nat), P ≤ 600 ∧ x = .int .i64 (P : Int) ∧ Rec wa.heap.size wa wy p sy ms ty ky jy (.slice am ms.length capm) BB) (fun x _ => 600 - (intOf x).toNat)
          case atStart => exact ⟨P0, _, _, _, _, by omega, rfl, HREC.out⟩
          case round =>
            obtain ⟨P, sy, ty, ky, jy, hP, rfl, hrec⟩ := hrel
            have hup2 := rec_up hrec (P : Int) (by omega) (by omega)
            clear hrec
            go_wp2_with fail
            refine hup2.mono ?_
            rintro e w8 ⟨rfl, hrec8⟩
            have hop8 := rec_open hrec8 hBB
            clear hup2 hrec8
            go_wp2_with fail
            refine hop8.mono ?_
            rintro e w9 (⟨rfl, hnm, s9, j9, hrec9⟩ | ⟨jj, a9, cap9, s9, rfl, hR9, hl9, hrd9⟩)
            · have hP2 : P ≤ 254 := by
                have : ¬ (254 < (P : Int)) := fun h => hnm (.inr h)
                omega
              have HREC9 : Hid (Rec wa.heap.size wa w9 p s9 ms ty ky j9 (.slice am ms.length capm) BB) := hrec9
              have y1 : IntKind.i64.wrap ((P : Int) + 1) = ((P + 1 : Nat) : Int) := by rw [Bt.wrap_fit _ (by omega) (by omega)]; omega
              have y2 : decide (600 < ((P + 1 : Nat) : Int)) = false := by simp; omega
              obtain ⟨P1, hP1⟩ : ∃ P1, ((P + 1 : Nat) : Int) = P1 := ⟨_, rfl⟩
              have HP1 : Hid (((P + 1 : Nat) : Int) = P1) := hP1
              rw [hP1] at y1 y2
              clear hop8 hrec9 hnm hP1
              go_wp2_with fail
              go_roundw
              case rel => exact ⟨P + 1, _, _, _, _, by omega, by rw [HP1.out], HREC9.out⟩
              case measure => simp [intOf, ← HP1.out]; omega
            · have HR9 : Hid (Run wa.heap.size wa w9 p jj s9 ms (.slice am ms.length capm)) := hR9
              have hsm := same_any a9 am cap9 capm ms w9 (by rw [HMM.out]; omega) hrd9 (RwS.rd hR9.r7)
              rw [HMM.out] at hsm ⊢
              clear hop8 hR9 hrd9
              go_wp2_with fail
              refine hsm.mono ?_
              rintro e w10 ⟨rfl, hb10⟩
              have HR10 : Hid (Run wa.heap.size wa w10 p jj s9 ms (.slice am ms.length capm)) := HR9.out.later hb10
              clear hsm hb10
              go_wp2_with fail
              go_roundw
              case rel =>
                refine ⟨kk + 1, jj, s9, ms, by omega, by go_num, rfl, ?_, by omega⟩
                have h := HR10.out
                rw [HMM.out] at h
                exact h
              case measure => simp [intOf]; omega
    · have i2 : decide ((kk : Int) < (n : Int)) = false := by simp; omega
      have hrec := run_rec hR
      have hup2 := rec_up hrec (-1) (by omega) (by omega)
      have hlgB : s.log.length ≤ 4294967296 := by omega
      clear hR hbw hrec
      go_wp2_with fail
      refine hup2.mono ?_
      rintro e w8 ⟨rfl, hrec8⟩
      have hop8 := rec_open hrec8 hlgB
      clear hup2 hrec8
      go_wp2_with fail
      refine hop8.mono ?_
      rintro e w9 (⟨rfl, hnm, s9, j9, hrec9⟩ | ⟨jj, a9, cap9, s9, rfl, hR9, hl9, hrd9⟩)
      · exact (hnm (by first | exact .inl rfl | exact .inl trivial)).elim
      · obtain ⟨am, capm, em⟩ := row_spell hR9.r7
        subst em
        obtain ⟨M, hM⟩ : ∃ M, ps.length = M := ⟨_, rfl⟩
        have HMM : Hid (ps.length = M) := hM
        have hsm := same_any a9 am cap9 capm ps w9 (by omega) hrd9 (RwS.rd hR9.r7)
        have HG9 : Hid (Go1 wa.heap.size wa w9 p s9) := hR9.go
        rw [hM] at hsm ⊢
        clear hop8 hR9 hrd9 hM
        go_wp2_with fail
        refine hsm.mono ?_
        rintro e w10 ⟨rfl, hb10⟩
        have HG10 : Hid (Go1 wa.heap.size wa w10 p s9) := HG9.out.later hb10
        clear hsm hb10
        go_wp2_with fail
        go_ret
        exact ⟨ret_bool (by simp), HBA.out.trans (HG10.out.below.mono HBA.out.size)⟩
theorem own : ownKnob Try.prog.godebug = none := by kernel_rfl
theorem laidOut : laidOutB Try.prog = true := by kernel_rfl
set_option maxRecDepth 100000 in
theorem contract (H : Type) (enc : TypeId × Value → H) (W : World) (base : Nat) (args : Array Value) (ds gs : List (DataW H)) (before : List MemPlace)
    (hval : ∀ (j : Nat) t v, Try.f6.params[j]? = some t → args[j]? = some v → Value.okWide Try.prog W .any base t v)
    (hW : DataW.Whole enc Try.prog Try.f6.params.toList Rows.journalHistorySpec.vars false W args.toList ds gs before) (hk : Rows.uptoSmall H (ds ++ gs) = true) :
    Calls Try.prog 6 args W fun e W' => ∃ v, e = .returned v ∧ Rows.journalHistorySpec.post enc Try.prog Try.f6 false true false false W args v W' := by
  have hW' := hW
  obtain ⟨p, q, hA0, hV, rfl, hfz, hnd⟩ := hW
  have hA : DataW.TrodAll enc Try.prog W 0 (fun _ => true) true Try.f6.params.toList args.toList ds p := hA0
  rw [Try.params6] at hA hval
  obtain ⟨v0, vs0, d0, ds0, p0, q0, hargs, rfl, rfl, h0, r0⟩ := trodAll_cons hA
  obtain ⟨rfl, rfl, rfl⟩ := trodAll_nil r0
  obtain rfl : args = #[v0] := by cases args; simp_all
  obtain ⟨rfl, rfl⟩ := trodVars_none hV
  have hk2 : Rows.uptoSmall H [d0] = true := by simpa using hk
  have hb : Rows.uptoBulkAll [d0] ≤ 1048576 := of_decide_eq_true hk2
  simp only [Rows.uptoBulkAll] at hb
  have k0 := h0
  have lt0 : ∀ x ∈ p0, x.block < W.heap.size := by obtain ⟨m, hm⟩ := k0; exact DataW.trod_lt m _ _ _ hm
  obtain ⟨a0, c0, l0, rfl, rd0, hl0, hn0, hg0⟩ := steps_of (by omega) (okWide_slice Try.underlying64 (hval 0 64 v0 rfl rfl)) h0
  clear hA0
  refine (walk a0 c0 l0 W rd0 hl0 hn0 hg0).mono fun e W' ⟨he, bel⟩ => ?_
  subst he
  exact ⟨_, rfl, _, _, _, [], _, [], hW', trodAll_mk1 (shut_bool Try.underlying4 _), (trodAll_cons_mk (Below.trod laidOut (by kernel_rfl) (of_decide_eq_true (by kernel_rfl)) k0 bel lt0) trodAll_mk0), rfl, bel.frame _, fun h => by cases h⟩
set_option maxRecDepth 100000 in
theorem lifted (os : Os) (started : os.Started) (H : Type) (enc : TypeId × Value → H) (F : Stop.Interp) :
    ReturnsInHanded {} Try.checked os 6 .any ((Rows.OpenSpec.upto Rows.journalHistorySpec).pre6 enc Try.prog Try.f6 Rows.journalHistoryUptoRow.domain false) (((Rows.OpenSpec.upto Rows.journalHistorySpec).at F).post enc Try.prog Try.f6 false true false false) := by
  refine returnsInHanded_of_cond (C := Try.checked) (s := Rows.OpenSpec.upto Rows.journalHistorySpec) (k := Rows.uptoSmall) rfl own started (by kernel_rfl) Try.func6
    (OpenSpec.witness (enc := enc) (C := Try.checked) (s := Rows.OpenSpec.upto Rows.journalHistorySpec) (k := Rows.uptoSmall) rfl false ⟨#[], #[.slice none 0 0], []⟩ 8 (by kernel_rfl) (by kernel_rfl) (by kernel_rfl)
      (x := ([.nil], [], [])) (by kernel_rfl) rfl (by kernel_rfl)) ?_
  intro W base args ds gs before hval hW _ hk _
  exact contract H enc W base args ds gs before hval hW hk
theorem over : Rows.journalHistoryUptoRow.holds Try.pinned (Rows.OpenSpec.upto Rows.journalHistorySpec) :=
  OpenClaim.holds_of_cond 6 Try.f6 rfl rfl rfl rfl rfl rfl rfl ⟨rfl, rfl, rfl, rfl, rfl⟩ rfl rfl rfl rfl rfl (by kernel_rfl) Try.func6 (by kernel_rfl)
    (of_decide_eq_true (by kernel_rfl)) (by unfold Func.isWrapper; first | (rw [if_pos (by decide +kernel)]; kernel_rfl) | (rw [if_neg (by decide +kernel)]; exact ⟨rfl, rfl⟩))
    (fun os started H enc _ F => lifted os started H enc F)
end Go.Proofs.Ytohgflimdoebiaa.Dk.journalHistory
namespace Go.Proofs.Ytohgflimdoebiaa
theorem journalHistory_holds : Rows.JournalHistoryUptoSaid := Dk.journalHistory.over
#print axioms journalHistory_holds
end Go.Proofs.Ytohgflimdoebiaa
