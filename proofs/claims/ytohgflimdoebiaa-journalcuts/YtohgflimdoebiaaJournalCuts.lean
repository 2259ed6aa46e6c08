/- For every list of payloads and every number: a cut disk has just the records whose blocks were all written, and then no other block. No conditions. -/
import Derived.Test.YtohgflimdoebiaaRows
import Derived.Test.YtohgflimdoebiaaJnK
import Derived.Test.YtohgflimdoebiaaJnU
import Derived.Test.YtohgflimdoebiaaOpenDk
import Derived.Laws.OwnMore
import Derived.OpenShut
import Derived.SizedLaws
import Derived.ChangeMaps5
namespace Go.Proofs.Ytohgflimdoebiaa.Dk.journalCuts
open Go.ChangeShapes Go.WideShapes Go.ChangeAt Go.RowKit Go.Maps
set_option linter.unusedVariables false
set_option linter.unusedSimpArgs false

theorem infoI : (Try.prog.info? 3).map (fun i => (i.zero, i.size, i.bytes)) = some (some (.int .i64 0), 1, 8) := by kernel_rfl
theorem cutS_ap9 {ps : List ByteArray} {t : ByteArray} (h : Hs (cutS ps) ps ⟨#[]⟩ 0 0) (e : apE (cutS ps) ps.length (recs 1 ps).length false t ≠ 0) : apS (cutS ps) ps.length (recs 1 ps).length false t = cutS ps ∧ ((apE (cutS ps) ps.length (recs 1 ps).length false t = 9 ∧ 5865 < t.size) ∨ (apE (cutS ps) ps.length (recs 1 ps).length false t = 10 ∧ t.size ≤ 5865)) := by
  have ha := h.appended t
  obtain ⟨h1, h2, h3⟩ := ha.not e (ha.free rfl).1
  refine ⟨h1, ?_⟩
  rcases h3 with h3 | h3
  · exact .inl h3
  · exact .inr ⟨h3.1, h3.2.1⟩
/- What goes on while payloads are appended. -/
structure Run (N : Nat) (w0 w : World) (p j : Nat) (ps : List ByteArray) (v9 v10 : Value) : Prop where
  go : Go1 N w0 w p (cutS ps)
  hs : Hs (cutS ps) ps ⟨#[]⟩ 0 0
  jn : Jn w j p ps.length (recs 1 ps).length false
  jN : N ≤ j
  r9 : w.ownsRow N 9 1 v9 ps.length (cellsS ps)
  r10 : w.ownsRow N 3 1 v10 ps.length (cellsI (endsL ps))
theorem Run.keep {N : Nat} {w0 w w' : World} {p j : Nat} {ps : List ByteArray} {v9 v10 : Value} (h : Run N w0 w p j ps v9 v10) (hg : Go1 N w0 w' p (cutS ps)) (hj : Jn w' j p ps.length (recs 1 ps).length false) (hk : KeepT w w') : Run N w0 w' p j ps v9 v10 :=
  ⟨hg, h.hs, hj, h.jN, hk.row h.r9 (by decide) (by decide) (by decide), hk.row h.r10 (by decide) (by decide) (by decide)⟩
/- An Append in the row: refused, or a record more. -/
theorem run_append {N : Nat} {w0 w : World} {p j : Nat} {ps : List ByteArray} {v9 v10 : Value} (h : Run N w0 w p j ps v9 v10) (t : ByteArray) (ht : t.size ≤ 9223372036854775807) :
    Calls Try.prog 26 #[.pointer (some ⟨j, 0, none⟩), .string t] w fun e w' =>
      (e = .returned (.int .i64 9) ∧ 5865 < t.size ∧ Run N w0 w' p j ps v9 v10) ∨ (e = .returned (.int .i64 10) ∧ t.size ≤ 5865 ∧ Run N w0 w' p j ps v9 v10) ∨
      (e = .returned (.int .i64 0) ∧ t.size ≤ 5865 ∧ Hs (cutS (ps ++ [t])) (ps ++ [t]) ⟨#[]⟩ 0 0 ∧ Go1 N w0 w' p (cutS (ps ++ [t])) ∧ Jn w' j p (ps ++ [t]).length (recs 1 (ps ++ [t])).length false ∧ w'.ownsRow N 9 1 v9 ps.length (cellsS ps) ∧ w'.ownsRow N 3 1 v10 ps.length (cellsI (endsL ps)) ∧ (recs 1 (ps ++ [t])).length = (recs 1 ps).length + np t.size) := by
  have hfit := h.hs.fit
  refine (append_k h.go h.jn h.jN t (by omega) ht (by rw [cutS_log]; omega)).mono ?_
  rintro e w' ⟨he, hg, hj, hk⟩
  by_cases h0 : apE (cutS ps) ps.length (recs 1 ps).length false t = 0
  · right; right
    obtain ⟨o1, o2, o3, o4⟩ := (h.hs.appended t).ok h0
    have hst := cutS_step h.hs h0
    rw [hst] at o2 hg
    have hlen : (recs 1 (ps ++ [t])).length = (recs 1 ps).length + np t.size := by rw [recs_add, List.length_append, blks_length]
    have hC : apC (cutS ps) ps.length (recs 1 ps).length false t = (ps ++ [t]).length := by unfold apC; rw [if_pos h0]; simp
    have hA : apA (cutS ps) ps.length (recs 1 ps).length false t = (recs 1 (ps ++ [t])).length := by unfold apA; rw [if_pos h0, hlen]
    have hD : apD (cutS ps) ps.length (recs 1 ps).length false t = false := by unfold apD; rw [h0, if_neg (by decide)]
    rw [hC, hA, hD] at hj
    rw [h0] at he
    exact ⟨he, o1, o2, hg, hj, hk.row h.r9 (by decide) (by decide) (by decide), hk.row h.r10 (by decide) (by decide) (by decide), hlen⟩
  · obtain ⟨e1, e2⟩ := cutS_ap9 h.hs h0
    have hC : apC (cutS ps) ps.length (recs 1 ps).length false t = ps.length := by unfold apC; rw [if_neg h0]
    have hA : apA (cutS ps) ps.length (recs 1 ps).length false t = (recs 1 ps).length := by unfold apA; rw [if_neg h0]
    have hD : apD (cutS ps) ps.length (recs 1 ps).length false t = false := by
      unfold apD
      rcases e2 with ⟨e2, -⟩ | ⟨e2, -⟩ <;> rw [e2, if_neg (by decide)]
    rw [hC, hA, hD] at hj
    rw [e1] at hg
    rcases e2 with ⟨e2, e3⟩ | ⟨e2, e3⟩
    · rw [e2] at he
      exact .inl ⟨he, e3, h.keep hg hj hk⟩
    · rw [e2] at he
      exact .inr (.inl ⟨he, e3, h.keep hg hj hk⟩)
/- The disk that was cut, opened, opened again. -/
structure Cutd (N : Nat) (w0 w : World) (p : Nat) (s : St) (fs : List ByteArray) (z kk : Nat) : Prop where
  go : Go1 N w0 w p s
  log : s.log.length + z = 2 * kk
  img : (im s.bl).length = z
theorem cut_open {N : Nat} {w0 w : World} {p : Nat} {ps : List ByteArray} {i kk : Nat} {s : St} {t : ByteArray} (hg : Go1 N w0 w p s) (hl : s.left = -1) (hlog : s.log.length = kk) (hH : Hs s (ps.take i) t (kk - lenR ps i) 0) (hz : lenR ps i ≤ kk) (hk : kk ≤ 2048) :
    Calls Try.prog 25 #[.pointer (some ⟨p, 0, none⟩)] w fun e w' => ∃ j v s', e = .returned (.tuple #[.pointer (some ⟨j, 0, none⟩), v, .int .i64 0]) ∧ RwS w' w.heap.size v (ps.take i) ∧ KeepT w w' ∧ Go1 N w0 w' p s' ∧ s'.log.length + lenR ps i = 2 * kk ∧ s'.left ≠ 0 ∧ ∃ k', Hs s' (ps.take i) t k' k' := by
  have ho := hH.opened
  have hb := ho.much (.inl hl)
  obtain ⟨y1, y2, y3⟩ := ho.yes hb
  refine (open_k hg (by omega)).mono ?_
  rintro e w' ⟨g1, g2, g3⟩
  rcases g2 with ⟨g2, -⟩ | ⟨-, j, v, e1, e2, e3, e4⟩
  · rw [hb] at g2; cases g2
  · rw [ho.found] at e4
    exact ⟨j, v, _, e1, e4, g3, g1, by rw [y3, hlog]; omega, y2, _, y1⟩
theorem cut_again {N : Nat} {w0 w : World} {p : Nat} {fs : List ByteArray} {s : St} {t : ByteArray} {k : Nat} (hg : Go1 N w0 w p s) (h0 : s.left ≠ 0) (hlog : s.log.length ≤ 4096) (hH : Hs s fs t k k) :
    Calls Try.prog 25 #[.pointer (some ⟨p, 0, none⟩)] w fun e w' => ∃ j v, e = .returned (.tuple #[.pointer (some ⟨j, 0, none⟩), v, .int .i64 0]) ∧ RwS w' w.heap.size v fs ∧ KeepT w w' ∧ Go1 N w0 w' p s := by
  obtain ⟨a1, a2⟩ := hH.again h0
  refine (open_k hg (by omega)).mono ?_
  rintro e w' ⟨g1, g2, g3⟩
  rw [a1] at g1
  rcases g2 with ⟨g2, -⟩ | ⟨-, j, v, e1, e2, e3, e4⟩
  · rw [a2] at g2; cases g2
  · rw [hH.scan.1] at e4
    exact ⟨j, v, e1, e4, g3, g1⟩
theorem img_len {s : St} {fs : List ByteArray} {t : ByteArray} {k : Nat} (hH : Hs s fs t k k) : (im s.bl).length = (recs 1 fs).length := by
  rw [hH.image, if_neg (by omega), List.append_nil]
theorem row_cap {w : World} {B e z m cap : Nat} {a : Option Addr} {xs : List Value} (h : w.ownsRow B e z (.slice a m cap) m xs) : m ≤ cap ∧ (0 < m → ∃ g, a = some ⟨g, 0, none⟩) ∧ (a = none → cap = 0) ∧ (∀ ad, a = some ad → ∃ g, ad = ⟨g, 0, none⟩) := by
  rcases h.2 with ⟨h0, h1⟩ | ⟨g', cap', cur, hv, hb, hh, h1, _⟩
  · cases h0; exact ⟨Nat.le_refl _, fun h => absurd h (by omega), fun _ => rfl, fun ad h => by cases h⟩
  · cases hv; exact ⟨h1, fun _ => ⟨g', rfl⟩, fun h => (by cases h), fun ad h => (by cases h; exact ⟨g', rfl⟩)⟩
set_option maxHeartbeats 8000000 in
set_option maxRecDepth 100000 in
theorem walk (a0 : Option Addr) (c0 : Nat) (l0 : List ByteArray) (a1 : Int) (w : World) (rd0 : RdS w a0 l0) (hl0 : l0.length * 16 ≤ 140737488351232) (hn0 : a0 = none → c0 = 0) (hg0 : ∀ t ∈ l0, t.size ≤ 9223372036854775807) (w1 : (Lit.int .i64 a1).wf = true) :
    Calls Try.prog 5 #[.slice a0 l0.length c0, .int .i64 a1] w fun e w' => e = .returned (.bool true) ∧ Below w.heap.size w w' := by
  obtain ⟨i0, hi, hz0, hz1, hz2⟩ := info_parts infoS
  obtain ⟨i1, gi, gz0, gz1, gz2⟩ := info_parts infoI
  have HRD : Hid (RdS w a0 l0) := rd0
  have HG0 : Hid (∀ t ∈ l0, t.size ≤ 9223372036854775807) := hg0
  obtain ⟨n, hn⟩ : ∃ n, l0.length = n := ⟨_, rfl⟩
  have HLN : Hid (l0.length = n) := hn
  rw [hn] at hl0 ⊢
  clear rd0 hn0 hg0 hn
  have HN := Hs.new
  obtain ⟨o1, o2⟩ := HN.again (by decide)
  obtain ⟨sc1, sc2⟩ := HN.scan
  have HOP : Hid (∀ (w0 w : World) (p : Nat), Go1 w0.heap.size w0 w p nu → Calls Try.prog 25 #[.pointer (some ⟨p, 0, none⟩)] w fun e w' => ∃ j v, e = .returned (.tuple #[.pointer (some ⟨j, 0, none⟩), v, .int .i64 0]) ∧ Run w0.heap.size w0 w' p j [] (.slice none 0 0) (.slice none 0 0)) := fun w0 w p h => (open_k h (by decide)).mono fun e w' h9 => by
    obtain ⟨g1, g2, g3⟩ := h9
    rw [o1] at g1
    rcases g2 with ⟨g2, -⟩ | ⟨-, j, v, e1, e2, e3, e4⟩
    · rw [o2] at g2; cases g2
    · rw [sc1, sc2] at e3
      exact ⟨j, v, e1, g1, HN, e3, Nat.le_trans h.size e2, World.ownsRow_nil _ _ _ _, World.ownsRow_nil _ _ _ _⟩
  clear HN o1 o2 sc1 sc2
  go_enter Try.func5, Try.ntmps5
  go_wp2_with fail
  refine (lives_any _).mono ?_
  rintro e wa ⟨rfl, hba⟩
  have HBA : Hid (Below w.heap.size w wa) := hba
  clear hba
  go_wp2_with fail
  refine (new_go wa).mono ?_
  rintro e wb ⟨p, rfl, hgb⟩
  have hop := HOP.out wa wb p hgb
  clear hgb
  go_wp2_with fail
  refine hop.mono ?_
  rintro e wc ⟨j, vj, rfl, hRc⟩
  have HRC : Hid (Run wa.heap.size wa wc p j [] (.slice none 0 0) (.slice none 0 0)) := hRc
  clear hop hRc
  go_wp2_with fail
  go_loopw [9, 10, 11, 39] (fun v9 v10 x i wr => ∃ (k : Nat) (ps : List ByteArray), k ≤ n ∧ i = .int .i64 (k : Int) ∧ x = .int .i64 ((recs 1 ps).length : Int) ∧ Run wa.heap.size wa wr p j ps v9 v10) (fun _ _ _ i _ => n - (intOf i).toNat)
  case atStart => exact ⟨0, [], by omega, rfl, rfl, HRC.out⟩
  case round =>
    obtain ⟨k, ps, hk, rfl, rfl, hR⟩ := hrel
    have HR : Hid (Run wa.heap.size wa wr p j ps u9 u10) := hR
    have hfit := hR.hs.fit
    have hcnt := hR.hs.cnt.2
    have hbw : Below wa.heap.size wa wr := hR.go.below
    have hsz := hR.go.size
    by_cases hkn : k < n
    · obtain ⟨b, o, ea, cX⟩ := (HRD.out.later (HBA.out.trans (hbw.mono HBA.out.size))) k (by rw [HLN.out]; exact hkn)
      subst ea
      have hX := HG0.out (l0.getD k ⟨#[]⟩) (by rw [getD_yes _ _ (by rw [HLN.out]; exact hkn)]; exact List.getElem_mem _)
      have hap := run_append hR (l0.getD k ⟨#[]⟩) hX
      obtain ⟨X, hXX⟩ : ∃ X, l0.getD k ⟨#[]⟩ = X := ⟨_, rfl⟩
      rw [hXX] at hap cX hX
      have j1 : (0 : Int) ≤ (k : Int) := by omega
      have j2 : (k : Int) < (n : Int) := by omega
      clear hXX hbw hR
      go_wp2_with fail
      refine hap.mono ?_
      rintro e w2 (⟨rfl, hs, hR2⟩ | ⟨rfl, hs, hR2⟩ | ⟨rfl, hs, hhs, hgo, hjn, hr9, hr10, hlen⟩)
      · have HR2 : Hid (Run wa.heap.size wa w2 p j ps u9 u10) := hR2
        have s1 : decide (5865 < (X.size : Int)) = true := by simp; omega
        clear hR2 hap cX
        go_wp2_with fail
        go_roundw
        case rel => exact ⟨k + 1, ps, by omega, by go_num, rfl, HR2.out⟩
        case measure => simp [intOf]; omega
      · have HR2 : Hid (Run wa.heap.size wa w2 p j ps u9 u10) := hR2
        have s1 : decide (5865 < (X.size : Int)) = false := by simp; omega
        clear hR2 hap cX
        go_wp2_with fail
        go_roundw
        case rel => exact ⟨k + 1, ps, by omega, by go_num, rfl, HR2.out⟩
        case measure => simp [intOf]; omega
      · have s1 : decide (5865 < (X.size : Int)) = false := by simp; omega
        have hpt := rParts_any (X.size : Int) w2
        obtain ⟨n1, n2, n3, -, -⟩ := np_spec X.size hs
        rw [n1] at hpt
        have HHS : Hid (Hs (cutS (ps ++ [X])) (ps ++ [X]) ⟨#[]⟩ 0 0) := hhs
        have HGO : Hid (Go1 wa.heap.size wa w2 p (cutS (ps ++ [X]))) := hgo
        have HJN : Hid (Jn w2 j p (ps ++ [X]).length (recs 1 (ps ++ [X])).length false) := hjn
        have HR9 : Hid (w2.ownsRow wa.heap.size 9 1 u9 ps.length (cellsS ps)) := hr9
        have HR10 : Hid (w2.ownsRow wa.heap.size 3 1 u10 ps.length (cellsI (endsL ps))) := hr10
        have HLE : Hid ((recs 1 (ps ++ [X])).length = (recs 1 ps).length + np X.size) := hlen
        have hf2 := hhs.fit
        rw [hlen] at hf2
        obtain ⟨m, hm⟩ : ∃ m, np X.size = m := ⟨_, rfl⟩
        obtain ⟨E, hE⟩ : ∃ E, (recs 1 ps).length = E := ⟨_, rfl⟩
        obtain ⟨q, hq⟩ : ∃ q, ps.length = q := ⟨_, rfl⟩
        rw [hm] at hpt n2 n3
        rw [hE, hm] at HLE hf2
        rw [hE]
        have HQ : Hid (ps.length = q) := hq
        rw [hq] at hcnt HR9 HR10
        have m1 : IntKind.i64.wrap ((E : Int) + (m : Int)) = ((E + m : Nat) : Int) := by rw [← Int.natCast_add]; exact Bt.wrap_fit _ (by omega) (by omega)
        have hs2 := hgo.size
        have hfit2 : E + m ≤ 2048 := by omega
        obtain ⟨EM, hEM⟩ : ∃ EM, ((E + m : Nat) : Int) = EM := ⟨_, rfl⟩
        have HEM : Hid (((E + m : Nat) : Int) = EM) := hEM
        rw [hEM] at m1
        clear hhs hgo hjn hr9 hr10 hlen hap cX n1 hm hE hq hfit hf2 hEM
        go_wp2_with fail
        refine hpt.mono ?_
        rintro e w3 ⟨rfl, rfl⟩
        go_wp2_with (first
          | (at_builtin; refine wpList_append_lies _ rfl _ _ _ rfl wa.heap.size 9 i0 _ 1 16 Try.underlying22 hi hz0 hz1 hz2 rfl (by omega) _ q (cellsS ps) rfl (HR9.out.alloc _) ⟨w3.heap.size, 0, none⟩ 1 1 [.string X] rfl rfl (cell_one_at _ _ _ _ rfl) (by simp [Value.oneCell']) (by omega) (by unfold maxLen; omega) (by omega) (by simp; omega) (w3.heap.size + 1) (by simp) ?_; intro g4 cap4 w4 hown4 hgrow4 hat4 hlt4; have HG4 : Hid ((w3.alloc (.cells #[.string X] 9)).grownBy w4 u9.ownBlock) := hgrow4; have HO4 : Hid (w4.ownsRow wa.heap.size 9 1 (.slice (some ⟨g4, 0, none⟩) (q + 1) cap4) (q + 1) (cellsS ps ++ [.string X])) := hown4; have HRT : Hid (w4.ownsRow wa.heap.size 3 1 u10 q (cellsI (endsL ps))) := row_apart (HR10.out.alloc _) (HR9.out.alloc _) (by decide) hgrow4; have hsz4 : w3.heap.size ≤ w4.heap.size := (by have := hgrow4.size; simp at this; omega); clear hown4 hgrow4 hat4 hlt4)
          | (at_builtin; refine wpList_append_lies _ rfl _ _ _ rfl wa.heap.size 3 i1 _ 1 8 Try.underlying58 gi gz0 gz1 gz2 rfl (by omega) _ q (cellsI (endsL ps)) rfl (HRT.out.alloc _) ⟨w4.heap.size, 0, none⟩ 1 1 [.int .i64 EM] rfl rfl (cell_one_at _ _ _ _ rfl) (by simp [Value.oneCell']) (by omega) (by unfold maxLen; omega) (by omega) (by simp; omega) (w4.heap.size + 1) (by simp) ?_; intro g5 cap5 w5 hown5 hgrow5 hat5 hlt5; have HG5 : Hid ((w4.alloc (.cells #[.int .i64 EM] 3)).grownBy w5 u10.ownBlock) := hgrow5; have HO5 : Hid (w5.ownsRow wa.heap.size 3 1 (.slice (some ⟨g5, 0, none⟩) (q + 1) cap5) (q + 1) (cellsI (endsL ps) ++ [.int .i64 EM])) := hown5; clear hown5 hgrow5 hat5 hlt5))
        go_roundw
        case rel =>
          have hq1 : (ps ++ [X]).length = q + 1 := by rw [List.length_append, HQ.out]; rfl
          have hG4 : Go1 wa.heap.size wa w4 p (cutS (ps ++ [X])) := (HGO.out.later (below1 _ _)).grown (HR9.out.alloc _) (by decide) (by decide) HG4.out
          have hJ4 := (HJN.out.later (below1 _ _)).grown (HR9.out.alloc _) (by decide) HG4.out
          refine ⟨k + 1, ps ++ [X], by omega, by go_num, by rw [HLE.out, HEM.out], ⟨(hG4.later (below1 _ _)).grown (HRT.out.alloc _) (by decide) (by decide) HG5.out, HHS.out, (hJ4.later (below1 _ _)).grown (HRT.out.alloc _) (by decide) HG5.out, HR.out.jN, ?_, ?_⟩⟩
          · rw [hq1]
            have e : cellsS (ps ++ [X]) = cellsS ps ++ [.string X] := by simp [cellsS]
            rw [e]
            exact row_apart (HO4.out.alloc _) (HRT.out.alloc _) (by decide) HG5.out
          · rw [hq1, endsL_snoc, cellsI_snoc, HLE.out, HEM.out]
            exact HO5.out
        case measure => simp [intOf]; omega
    · have i2 : decide ((k : Int) < (n : Int)) = false := by simp; omega
      have hjn := hR.jn
      have hgo := hR.go
      have HBW : Hid (Below w.heap.size w wr) := HBA.out.trans (hbw.mono HBA.out.size)
      have hrw9 := hR.r9
      have hrw10 := hR.r10
      obtain ⟨a9, cap9, e9⟩ := row_spell hrw9
      obtain ⟨a10, cap10, e10⟩ := row_spell hrw10
      subst e9 e10
      have hen := end_any wr j p _ _ false hjn
      have hct := count_any wr j p _ _ false hjn
      have hwr := writes_k hgo (by rw [cutS_log]; omega)
      rw [cutS_log] at hwr
      have HHS : Hid (Hs (cutS ps) ps ⟨#[]⟩ 0 0) := hR.hs
      have HGO : Hid (Go1 wa.heap.size wa wr p (cutS ps)) := hgo
      have HR9 : Hid (wr.ownsRow wa.heap.size 9 1 (.slice a9 ps.length cap9) ps.length (cellsS ps)) := hrw9
      have HR10 : Hid (wr.ownsRow wa.heap.size 3 1 (.slice a10 ps.length cap10) ps.length (cellsI (endsL ps))) := hrw10
      obtain ⟨E, hE⟩ : ∃ E, (recs 1 ps).length = E := ⟨_, rfl⟩
      obtain ⟨q, hq⟩ : ∃ q, ps.length = q := ⟨_, rfl⟩
      have HE : Hid ((recs 1 ps).length = E) := hE
      have HQ : Hid (ps.length = q) := hq
      rw [hE] at hen hwr hfit ⊢
      rw [hq] at hct hcnt HR9 HR10 ⊢
      obtain ⟨kk, hkk, hk'⟩ := k_mod a1 E (by omega)
      have m1 : IntKind.i64.wrap ((E : Int) + 1) = (E : Int) + 1 := Bt.wrap_fit _ (by omega) (by omega)
      have m2 : IntKind.u64.wrap ((E : Int) + 1) = (E : Int) + 1 := by rw [IntKind.wrap_u64]; omega
      clear hR hbw hjn hgo hrw9 hrw10 hE hq
      go_wp2_with fail
      refine hen.mono ?_
      rintro e ws ⟨rfl, rfl⟩
      go_wp2_with fail
      refine hct.mono ?_
      rintro e wt ⟨rfl, rfl⟩
      go_wp2_with fail
      refine hwr.mono ?_
      rintro e wu ⟨⟨av, cv, rfl⟩, hbu⟩
      have HBU : Hid (Below wt.heap.size wt wu) := hbu
      clear hen hct hwr hbu
      go_wp2_with fail
      rw [hk']
      go_loopw [16] (fun x ww => ∃ i : Nat, i ≤ q ∧ x = .int .i64 (i : Int) ∧ lenR ps i ≤ kk ∧ ww = wu) (fun x _ => q - (intOf x).toNat)
      case atStart => exact ⟨0, by omega, rfl, by rw [lenR_zero]; omega, rfl⟩
      case round =>
        obtain ⟨i, hi1, rfl, hlr, rfl⟩ := hrel
        by_cases hiq : i < q
        · obtain ⟨g10, e10⟩ := (row_cap HR10.out).2.1 (by omega)
          subst e10
          have cE : wr.cell? ⟨g10, i, none⟩ = some (.int .i64 (lenR ps (i + 1) : Nat)) := by
            have h1 := row_later HR10.out HBU.out
            rw [h1.cellAt i (by omega)]
            simp only [cellsI, List.getElem?_map]
            have h2 : i < (endsL ps).length := by rw [endsL_length, HQ.out]; exact hiq
            have h3 := endsL_get ps i (by rw [HQ.out]; exact hiq)
            rw [List.getElem?_eq_getElem h2]
            rw [List.getD_eq_getElem?_getD, List.getElem?_eq_getElem h2] at h3
            simp at h3 ⊢
            rw [h3]
          have j1 : (0 : Int) ≤ (i : Int) := by omega
          have j2 : (i : Int) < (q : Int) := by omega
          by_cases hle : lenR ps (i + 1) ≤ kk
          · have j3 : decide (((lenR ps (i + 1) : Nat) : Int) ≤ (kk : Int)) = true := by simp; omega
            obtain ⟨z1, hz1'⟩ : ∃ z1, ((lenR ps (i + 1) : Nat) : Int) = z1 := ⟨_, rfl⟩
            rw [hz1'] at j3 cE
            clear hz1'
            go_wp2_with fail
            go_roundw
            case rel => exact ⟨i + 1, by omega, by go_num, hle, by first | rfl | trivial⟩
            case measure => simp [intOf]; omega
          · have j3 : decide (((lenR ps (i + 1) : Nat) : Int) ≤ (kk : Int)) = false := by simp; omega
            have hstop : i < q → kk < lenR ps (i + 1) := fun _ => by omega
            obtain ⟨z1, hz1'⟩ : ∃ z1, ((lenR ps (i + 1) : Nat) : Int) = z1 := ⟨_, rfl⟩
            rw [hz1'] at j3 cE
            clear hz1' hle
            obtain ⟨t, hH⟩ := cut_hs HHS.out (k := kk) (i := i) (by rw [HQ.out]; exact hi1) hlr (by rw [HQ.out]; exact hstop) (by rw [HE.out]; exact hkk)
            have HH : Hid (Hs (ct (cutS ps) kk) (ps.take i) t (kk - lenR ps i) 0) := hH
            have hcu := cut_k (HGO.out.later HBU.out) (by rw [cutS_log, HE.out]; omega) (kk : Int) (wf_of (by omega) (by omega))
            have hzle : lenR ps i ≤ kk := hlr
            have HLT : Hid ((ps.take i).length = i) := by show _ = _; rw [List.length_take, HQ.out]; omega
            clear hH
            go_wp2_with fail
            refine hcu.mono ?_
            rintro e wd ⟨p2, rfl, hgd, hbd⟩
            rw [Int.toNat_natCast] at hgd
            have HBD : Hid (Below wt.heap.size wt wd) := thenB HBU.out hbd
            have hopn := cut_open (ps := ps) (i := i) (kk := kk) hgd rfl (by show (List.take _ _).length = _; rw [List.length_take, show (cutS ps).log.length = _ from cutS_log ps, HE.out]; omega) HH.out hzle (by omega)
            have HSD : Hid (wa.heap.size ≤ wd.heap.size) := hgd.size
            clear hcu hgd hbd
            go_wp2_with fail
            refine hopn.mono ?_
            rintro e we ⟨j2, v2, s2, rfl, hr2, hkt2, hg2, hlog2, hl2, k2, hH2⟩
            obtain ⟨a2, cap2, e2⟩ := row_spell hr2
            subst e2
            rw [HLT.out]
            have HR2 : Hid (RwS we wd.heap.size (.slice a2 (ps.take i).length cap2) (ps.take i)) := hr2
            have hr9e : we.ownsRow wa.heap.size 9 1 (.slice a9 q cap9) q (cellsS ps) := hkt2.row (row_later HR9.out HBD.out) (by decide) (by decide) (by decide)
            have HR9E : Hid (we.ownsRow wa.heap.size 9 1 (.slice a9 q cap9) q (cellsS ps)) := hr9e
            have HRT9 : Hid (RdS we a9 (ps.take i)) := RdS.take (RwS.rd (l := ps) (n := q) (cap := cap9) (by unfold RwS; rw [HQ.out]; exact hr9e)) i
            have hr10e := hkt2.row (row_later HR10.out HBD.out) (by decide) (by decide) (by decide)
            have HG2 : Hid (Go1 wa.heap.size wa we p2 s2) := hg2
            have HH2 : Hid (Hs s2 (ps.take i) t k2 k2) := hH2
            have hsm := same_any a2 a9 cap2 cap9 (ps.take i) we (by rw [HLT.out]; omega) (RwS.rd hr2) HRT9.out
            rw [HLT.out] at hsm
            obtain ⟨q1, q2, q3, q4⟩ := row_cap hr9e
            have x1 : (0 : Int) ≤ (i : Int) := by omega
            have x2 : (i : Int) ≤ (cap9 : Int) := by omega
            have x3 : i ≤ cap9 := by omega
            have HW2 : Hid (s2.log.length + lenR ps i = 2 * kk ∧ s2.left ≠ 0) := ⟨hlog2, hl2⟩
            obtain ⟨L2, hL2⟩ : ∃ L2, s2.log.length = L2 := ⟨_, rfl⟩
            have HL2 : Hid (s2.log.length = L2) := hL2
            rw [hL2] at hlog2
            obtain ⟨z, hz⟩ : ∃ z, lenR ps i = z := ⟨_, rfl⟩
            have HZ : Hid (lenR ps i = z) := hz
            rw [hz] at hlog2 hzle
            have HCE : Hid (0 < i → ∃ g, g = g10 ∧ ∀ W, Below we.heap.size we W → W.cell? ⟨g, i - 1, none⟩ = some (.int .i64 (z : Int))) := fun h0 => by
              obtain ⟨g, eg⟩ := (row_cap hr10e).2.1 (by omega)
              refine ⟨g, (by cases eg; rfl), fun W hW => ?_⟩
              rw [eg] at hr10e
              have h1 := row_later hr10e hW
              rw [h1.cellAt (i - 1) (by omega)]
              simp only [cellsI, List.getElem?_map]
              have h2 : i - 1 < (endsL ps).length := by rw [endsL_length, HQ.out]; omega
              have h3 := endsL_get ps (i - 1) (by rw [HQ.out]; omega)
              rw [Nat.sub_add_cancel h0, HZ.out] at h3
              rw [List.getElem?_eq_getElem h2]
              rw [List.getD_eq_getElem?_getD, List.getElem?_eq_getElem h2] at h3
              simp at h3 ⊢
              rw [h3]
            have hwr2 := fun W (hW : Below we.heap.size we W) => writes_k (HG2.out.later hW) (by rw [HL2.out]; omega)
            simp only [HL2.out] at hwr2
            have HWR2 : Hid (∀ W, Below we.heap.size we W → Calls Try.prog 22 #[.pointer (some ⟨p2, 0, none⟩)] W fun e w' => (∃ a c, e = .returned (.slice a L2 c)) ∧ Below W.heap.size W w') := hwr2
            have hop3 := fun W (hW : Below we.heap.size we W) => cut_again (HG2.out.later hW) HW2.out.2 (by rw [HL2.out]; omega) HH2.out
            have HOP3 : Hid (∀ W, Below we.heap.size we W → Calls Try.prog 25 #[.pointer (some ⟨p2, 0, none⟩)] W fun e w' => ∃ j v, e = .returned (.tuple #[.pointer (some ⟨j, 0, none⟩), v, .int .i64 0]) ∧ RwS w' W.heap.size v (ps.take i) ∧ KeepT W w' ∧ Go1 wa.heap.size wa w' p2 s2) := hop3
            have HIL : Hid ((im s2.bl).length = z) := by show _ = _; rw [img_len HH2.out]; exact HZ.out
            clear hr2 hkt2 hg2 hH2 hopn hL2 hr9e hz q2 q3 q4 hwr2 hop3 hr10e
            go_wp2_with fail
            refine hsm.mono ?_
            rintro e wf ⟨rfl, hbf⟩
            have HBF : Hid (Below we.heap.size we wf) := hbf
            clear hsm hbf
            by_cases hi0 : 0 < i
            · obtain ⟨g, eg, hce⟩ := HCE.out hi0
              have cE := hce wf HBF.out
              have d0 : decide (0 < (i : Int)) = true := by simp; omega
              have y1 : IntKind.i64.wrap ((i : Int) - 1) = ((i - 1 : Nat) : Int) := by rw [Bt.wrap_fit _ (by omega) (by omega)]; omega
              have y2 : (0 : Int) ≤ ((i - 1 : Nat) : Int) := by omega
              have y3 : ((i - 1 : Nat) : Int) < (q : Int) := by omega
              have y4 : (((i - 1 : Nat) : Int)).toNat = i - 1 := by omega
              obtain ⟨im1, him1⟩ : ∃ im1, i - 1 = im1 := ⟨_, rfl⟩
              rw [him1] at y1 y2 y3 y4 cE
              subst eg
              clear him1 hce
              go_wp2_with fail
              refine (HWR2.out wf HBF.out).mono ?_
              rintro e wg ⟨⟨av2, cv2, rfl⟩, hbg⟩
              have HBG : Hid (Below we.heap.size we wg) := thenB HBF.out hbg
              clear hbg
              go_wp2_with fail
              refine (HOP3.out wg HBG.out).mono ?_
              rintro e wh ⟨j3, v3, rfl, hr3, hkt3, hg3⟩
              obtain ⟨a3, cap3, e3⟩ := row_spell hr3
              subst e3
              rw [HLT.out]
              have hsm3 := same_any a3 a9 cap3 cap9 (ps.take i) wh (by rw [HLT.out]; omega) (RwS.rd hr3) (RdS.take (RwS.rd (l := ps) (n := q) (cap := cap9) (by unfold RwS; rw [HQ.out]; exact hkt3.row (row_later HR9E.out HBG.out) (by decide) (by decide) (by decide))) i)
              rw [HLT.out] at hsm3
              have HG3 : Hid (Go1 wa.heap.size wa wh p2 s2) := hg3
              have r1 : IntKind.i64.wrap (2 * (kk : Int)) = 2 * (kk : Int) := Bt.wrap_fit _ (by omega) (by omega)
              have r2 : IntKind.i64.wrap (2 * (kk : Int) - (z : Int)) = 2 * (kk : Int) - (z : Int) := Bt.wrap_fit _ (by omega) (by omega)
              have r3 : ((L2 : Int) == 2 * (kk : Int) - (z : Int)) = true := by simp; omega
              clear hr3 hkt3 hg3
              go_wp2_with fail
              refine hsm3.mono ?_
              rintro e wi ⟨rfl, hbi⟩
              have HGI : Hid (Go1 wa.heap.size wa wi p2 s2) := HG3.out.later hbi
              have himg := image_k HGI.out (by rw [HL2.out]; omega)
              rw [HIL.out] at himg
              clear hsm3 hbi
              go_wp2_with fail
              refine himg.mono ?_
              rintro e wj ⟨⟨aj, cj, rfl⟩, hbj⟩
              have HGJ : Hid (Go1 wa.heap.size wa wj p2 s2) := HGI.out.later hbj
              have hwr4 := writes_k HGJ.out (by rw [HL2.out]; omega)
              rw [HL2.out] at hwr4
              clear himg hbj
              go_wp2_with fail
              refine hwr4.mono ?_
              rintro e wk ⟨⟨ak, ck, rfl⟩, hbk⟩
              have HGK : Hid (Go1 wa.heap.size wa wk p2 s2) := HGJ.out.later hbk
              clear hwr4 hbk
              go_wp2_with fail
              go_ret
              exact ⟨ret_bool (by first | (simp [r3]; done) | (simp; omega)), HBA.out.trans (HGK.out.below.mono HBA.out.size)⟩
            · have d0 : decide (0 < (i : Int)) = false := by simp; omega
              have z0 : z = 0 := by rw [← HZ.out, show i = 0 by omega, lenR_zero]
              clear HCE
              go_wp2_with fail
              rw [show (Value.int .i64 0) = Value.int .i64 (z : Int) by rw [z0]; rfl]
              refine (HWR2.out wf HBF.out).mono ?_
              rintro e wg ⟨⟨av2, cv2, rfl⟩, hbg⟩
              have HBG : Hid (Below we.heap.size we wg) := thenB HBF.out hbg
              clear hbg
              go_wp2_with fail
              refine (HOP3.out wg HBG.out).mono ?_
              rintro e wh ⟨j3, v3, rfl, hr3, hkt3, hg3⟩
              obtain ⟨a3, cap3, e3⟩ := row_spell hr3
              subst e3
              rw [HLT.out]
              have hsm3 := same_any a3 a9 cap3 cap9 (ps.take i) wh (by rw [HLT.out]; omega) (RwS.rd hr3) (RdS.take (RwS.rd (l := ps) (n := q) (cap := cap9) (by unfold RwS; rw [HQ.out]; exact hkt3.row (row_later HR9E.out HBG.out) (by decide) (by decide) (by decide))) i)
              rw [HLT.out] at hsm3
              have HG3 : Hid (Go1 wa.heap.size wa wh p2 s2) := hg3
              have r1 : IntKind.i64.wrap (2 * (kk : Int)) = 2 * (kk : Int) := Bt.wrap_fit _ (by omega) (by omega)
              have r2 : IntKind.i64.wrap (2 * (kk : Int) - (z : Int)) = 2 * (kk : Int) - (z : Int) := Bt.wrap_fit _ (by omega) (by omega)
              have r3 : ((L2 : Int) == 2 * (kk : Int) - (z : Int)) = true := by simp; omega
              clear hr3 hkt3 hg3
              go_wp2_with fail
              refine hsm3.mono ?_
              rintro e wi ⟨rfl, hbi⟩
              have HGI : Hid (Go1 wa.heap.size wa wi p2 s2) := HG3.out.later hbi
              have himg := image_k HGI.out (by rw [HL2.out]; omega)
              rw [HIL.out] at himg
              clear hsm3 hbi
              go_wp2_with fail
              refine himg.mono ?_
              rintro e wj ⟨⟨aj, cj, rfl⟩, hbj⟩
              have HGJ : Hid (Go1 wa.heap.size wa wj p2 s2) := HGI.out.later hbj
              have hwr4 := writes_k HGJ.out (by rw [HL2.out]; omega)
              rw [HL2.out] at hwr4
              clear himg hbj
              go_wp2_with fail
              refine hwr4.mono ?_
              rintro e wk ⟨⟨ak, ck, rfl⟩, hbk⟩
              have HGK : Hid (Go1 wa.heap.size wa wk p2 s2) := HGJ.out.later hbk
              clear hwr4 hbk
              go_wp2_with fail
              go_ret
              exact ⟨ret_bool (by first | (simp [r3]; done) | (simp; omega)), HBA.out.trans (HGK.out.below.mono HBA.out.size)⟩
        · have j2 : decide ((i : Int) < (q : Int)) = false := by simp; omega
          have hstop : i < q → kk < lenR ps (i + 1) := fun h => absurd h hiq
          obtain ⟨t, hH⟩ := cut_hs HHS.out (k := kk) (i := i) (by rw [HQ.out]; exact hi1) hlr (by rw [HQ.out]; exact hstop) (by rw [HE.out]; exact hkk)
          have HH : Hid (Hs (ct (cutS ps) kk) (ps.take i) t (kk - lenR ps i) 0) := hH
          have hcu := cut_k (HGO.out.later HBU.out) (by rw [cutS_log, HE.out]; omega) (kk : Int) (wf_of (by omega) (by omega))
          have hzle : lenR ps i ≤ kk := hlr
          have HLT : Hid ((ps.take i).length = i) := by show _ = _; rw [List.length_take, HQ.out]; omega
          clear hH
          go_wp2_with fail
          refine hcu.mono ?_
          rintro e wd ⟨p2, rfl, hgd, hbd⟩
          rw [Int.toNat_natCast] at hgd
          have HBD : Hid (Below wt.heap.size wt wd) := thenB HBU.out hbd
          have hopn := cut_open (ps := ps) (i := i) (kk := kk) hgd rfl (by show (List.take _ _).length = _; rw [List.length_take, show (cutS ps).log.length = _ from cutS_log ps, HE.out]; omega) HH.out hzle (by omega)
          have HSD : Hid (wa.heap.size ≤ wd.heap.size) := hgd.size
          clear hcu hgd hbd
          go_wp2_with fail
          refine hopn.mono ?_
          rintro e we ⟨j2, v2, s2, rfl, hr2, hkt2, hg2, hlog2, hl2, k2, hH2⟩
          obtain ⟨a2, cap2, e2⟩ := row_spell hr2
          subst e2
          rw [HLT.out]
          have HR2 : Hid (RwS we wd.heap.size (.slice a2 (ps.take i).length cap2) (ps.take i)) := hr2
          have hr9e : we.ownsRow wa.heap.size 9 1 (.slice a9 q cap9) q (cellsS ps) := hkt2.row (row_later HR9.out HBD.out) (by decide) (by decide) (by decide)
          have HR9E : Hid (we.ownsRow wa.heap.size 9 1 (.slice a9 q cap9) q (cellsS ps)) := hr9e
          have HRT9 : Hid (RdS we a9 (ps.take i)) := RdS.take (RwS.rd (l := ps) (n := q) (cap := cap9) (by unfold RwS; rw [HQ.out]; exact hr9e)) i
          have hr10e := hkt2.row (row_later HR10.out HBD.out) (by decide) (by decide) (by decide)
          have HG2 : Hid (Go1 wa.heap.size wa we p2 s2) := hg2
          have HH2 : Hid (Hs s2 (ps.take i) t k2 k2) := hH2
          have hsm := same_any a2 a9 cap2 cap9 (ps.take i) we (by rw [HLT.out]; omega) (RwS.rd hr2) HRT9.out
          rw [HLT.out] at hsm
          obtain ⟨q1, q2, q3, q4⟩ := row_cap hr9e
          have x1 : (0 : Int) ≤ (i : Int) := by omega
          have x2 : (i : Int) ≤ (cap9 : Int) := by omega
          have x3 : i ≤ cap9 := by omega
          have HW2 : Hid (s2.log.length + lenR ps i = 2 * kk ∧ s2.left ≠ 0) := ⟨hlog2, hl2⟩
          obtain ⟨L2, hL2⟩ : ∃ L2, s2.log.length = L2 := ⟨_, rfl⟩
          have HL2 : Hid (s2.log.length = L2) := hL2
          rw [hL2] at hlog2
          obtain ⟨z, hz⟩ : ∃ z, lenR ps i = z := ⟨_, rfl⟩
          have HZ : Hid (lenR ps i = z) := hz
          rw [hz] at hlog2 hzle
          have HCE : Hid (0 < i → ∃ g, a10 = some ⟨g, 0, none⟩ ∧ ∀ W, Below we.heap.size we W → W.cell? ⟨g, i - 1, none⟩ = some (.int .i64 (z : Int))) := fun h0 => by
            obtain ⟨g, eg⟩ := (row_cap hr10e).2.1 (by omega)
            refine ⟨g, eg, fun W hW => ?_⟩
            rw [eg] at hr10e
            have h1 := row_later hr10e hW
            rw [h1.cellAt (i - 1) (by omega)]
            simp only [cellsI, List.getElem?_map]
            have h2 : i - 1 < (endsL ps).length := by rw [endsL_length, HQ.out]; omega
            have h3 := endsL_get ps (i - 1) (by rw [HQ.out]; omega)
            rw [Nat.sub_add_cancel h0, HZ.out] at h3
            rw [List.getElem?_eq_getElem h2]
            rw [List.getD_eq_getElem?_getD, List.getElem?_eq_getElem h2] at h3
            simp at h3 ⊢
            rw [h3]
          have hwr2 := fun W (hW : Below we.heap.size we W) => writes_k (HG2.out.later hW) (by rw [HL2.out]; omega)
          simp only [HL2.out] at hwr2
          have HWR2 : Hid (∀ W, Below we.heap.size we W → Calls Try.prog 22 #[.pointer (some ⟨p2, 0, none⟩)] W fun e w' => (∃ a c, e = .returned (.slice a L2 c)) ∧ Below W.heap.size W w') := hwr2
          have hop3 := fun W (hW : Below we.heap.size we W) => cut_again (HG2.out.later hW) HW2.out.2 (by rw [HL2.out]; omega) HH2.out
          have HOP3 : Hid (∀ W, Below we.heap.size we W → Calls Try.prog 25 #[.pointer (some ⟨p2, 0, none⟩)] W fun e w' => ∃ j v, e = .returned (.tuple #[.pointer (some ⟨j, 0, none⟩), v, .int .i64 0]) ∧ RwS w' W.heap.size v (ps.take i) ∧ KeepT W w' ∧ Go1 wa.heap.size wa w' p2 s2) := hop3
          have HIL : Hid ((im s2.bl).length = z) := by show _ = _; rw [img_len HH2.out]; exact HZ.out
          clear hr2 hkt2 hg2 hH2 hopn hL2 hr9e hz q2 q3 q4 hwr2 hop3 hr10e
          go_wp2_with fail
          refine hsm.mono ?_
          rintro e wf ⟨rfl, hbf⟩
          have HBF : Hid (Below we.heap.size we wf) := hbf
          clear hsm hbf
          by_cases hi0 : 0 < i
          · obtain ⟨g, eg, hce⟩ := HCE.out hi0
            have cE := hce wf HBF.out
            have d0 : decide (0 < (i : Int)) = true := by simp; omega
            have y1 : IntKind.i64.wrap ((i : Int) - 1) = ((i - 1 : Nat) : Int) := by rw [Bt.wrap_fit _ (by omega) (by omega)]; omega
            have y2 : (0 : Int) ≤ ((i - 1 : Nat) : Int) := by omega
            have y3 : ((i - 1 : Nat) : Int) < (q : Int) := by omega
            have y4 : (((i - 1 : Nat) : Int)).toNat = i - 1 := by omega
            obtain ⟨im1, him1⟩ : ∃ im1, i - 1 = im1 := ⟨_, rfl⟩
            rw [him1] at y1 y2 y3 y4 cE
            subst eg
            clear him1 hce
            go_wp2_with fail
            refine (HWR2.out wf HBF.out).mono ?_
            rintro e wg ⟨⟨av2, cv2, rfl⟩, hbg⟩
            have HBG : Hid (Below we.heap.size we wg) := thenB HBF.out hbg
            clear hbg
            go_wp2_with fail
            refine (HOP3.out wg HBG.out).mono ?_
            rintro e wh ⟨j3, v3, rfl, hr3, hkt3, hg3⟩
            obtain ⟨a3, cap3, e3⟩ := row_spell hr3
            subst e3
            rw [HLT.out]
            have hsm3 := same_any a3 a9 cap3 cap9 (ps.take i) wh (by rw [HLT.out]; omega) (RwS.rd hr3) (RdS.take (RwS.rd (l := ps) (n := q) (cap := cap9) (by unfold RwS; rw [HQ.out]; exact hkt3.row (row_later HR9E.out HBG.out) (by decide) (by decide) (by decide))) i)
            rw [HLT.out] at hsm3
            have HG3 : Hid (Go1 wa.heap.size wa wh p2 s2) := hg3
            have r1 : IntKind.i64.wrap (2 * (kk : Int)) = 2 * (kk : Int) := Bt.wrap_fit _ (by omega) (by omega)
            have r2 : IntKind.i64.wrap (2 * (kk : Int) - (z : Int)) = 2 * (kk : Int) - (z : Int) := Bt.wrap_fit _ (by omega) (by omega)
            have r3 : ((L2 : Int) == 2 * (kk : Int) - (z : Int)) = true := by simp; omega
            clear hr3 hkt3 hg3
            go_wp2_with fail
            refine hsm3.mono ?_
            rintro e wi ⟨rfl, hbi⟩
            have HGI : Hid (Go1 wa.heap.size wa wi p2 s2) := HG3.out.later hbi
            have himg := image_k HGI.out (by rw [HL2.out]; omega)
            rw [HIL.out] at himg
            clear hsm3 hbi
            go_wp2_with fail
            refine himg.mono ?_
            rintro e wj ⟨⟨aj, cj, rfl⟩, hbj⟩
            have HGJ : Hid (Go1 wa.heap.size wa wj p2 s2) := HGI.out.later hbj
            have hwr4 := writes_k HGJ.out (by rw [HL2.out]; omega)
            rw [HL2.out] at hwr4
            clear himg hbj
            go_wp2_with fail
            refine hwr4.mono ?_
            rintro e wk ⟨⟨ak, ck, rfl⟩, hbk⟩
            have HGK : Hid (Go1 wa.heap.size wa wk p2 s2) := HGJ.out.later hbk
            clear hwr4 hbk
            go_wp2_with fail
            go_ret
            exact ⟨ret_bool (by first | (simp [r3]; done) | (simp; omega)), HBA.out.trans (HGK.out.below.mono HBA.out.size)⟩
          · have d0 : decide (0 < (i : Int)) = false := by simp; omega
            have z0 : z = 0 := by rw [← HZ.out, show i = 0 by omega, lenR_zero]
            clear HCE
            go_wp2_with fail
            rw [show (Value.int .i64 0) = Value.int .i64 (z : Int) by rw [z0]; rfl]
            refine (HWR2.out wf HBF.out).mono ?_
            rintro e wg ⟨⟨av2, cv2, rfl⟩, hbg⟩
            have HBG : Hid (Below we.heap.size we wg) := thenB HBF.out hbg
            clear hbg
            go_wp2_with fail
            refine (HOP3.out wg HBG.out).mono ?_
            rintro e wh ⟨j3, v3, rfl, hr3, hkt3, hg3⟩
            obtain ⟨a3, cap3, e3⟩ := row_spell hr3
            subst e3
            rw [HLT.out]
            have hsm3 := same_any a3 a9 cap3 cap9 (ps.take i) wh (by rw [HLT.out]; omega) (RwS.rd hr3) (RdS.take (RwS.rd (l := ps) (n := q) (cap := cap9) (by unfold RwS; rw [HQ.out]; exact hkt3.row (row_later HR9E.out HBG.out) (by decide) (by decide) (by decide))) i)
            rw [HLT.out] at hsm3
            have HG3 : Hid (Go1 wa.heap.size wa wh p2 s2) := hg3
            have r1 : IntKind.i64.wrap (2 * (kk : Int)) = 2 * (kk : Int) := Bt.wrap_fit _ (by omega) (by omega)
            have r2 : IntKind.i64.wrap (2 * (kk : Int) - (z : Int)) = 2 * (kk : Int) - (z : Int) := Bt.wrap_fit _ (by omega) (by omega)
            have r3 : ((L2 : Int) == 2 * (kk : Int) - (z : Int)) = true := by simp; omega
            clear hr3 hkt3 hg3
            go_wp2_with fail
            refine hsm3.mono ?_
            rintro e wi ⟨rfl, hbi⟩
            have HGI : Hid (Go1 wa.heap.size wa wi p2 s2) := HG3.out.later hbi
            have himg := image_k HGI.out (by rw [HL2.out]; omega)
            rw [HIL.out] at himg
            clear hsm3 hbi
            go_wp2_with fail
            refine himg.mono ?_
            rintro e wj ⟨⟨aj, cj, rfl⟩, hbj⟩
            have HGJ : Hid (Go1 wa.heap.size wa wj p2 s2) := HGI.out.later hbj
            have hwr4 := writes_k HGJ.out (by rw [HL2.out]; omega)
            rw [HL2.out] at hwr4
            clear himg hbj
            go_wp2_with fail
            refine hwr4.mono ?_
            rintro e wk ⟨⟨ak, ck, rfl⟩, hbk⟩
            have HGK : Hid (Go1 wa.heap.size wa wk p2 s2) := HGJ.out.later hbk
            clear hwr4 hbk
            go_wp2_with fail
            go_ret
            exact ⟨ret_bool (by first | (simp [r3]; done) | (simp; omega)), HBA.out.trans (HGK.out.below.mono HBA.out.size)⟩
theorem own : ownKnob Try.prog.godebug = none := by kernel_rfl
theorem laidOut : laidOutB Try.prog = true := by kernel_rfl
set_option maxRecDepth 100000 in
theorem lifted (os : Os) (started : os.Started) (H : Type) (enc : TypeId × Value → H) :
    ReturnsInHanded {} Try.checked os 5 .any (Rows.journalCutsSpec.pre6 enc Try.prog Try.f5 Rows.journalCutsRow.domain false) (Rows.journalCutsSpec.post enc Try.prog Try.f5 false true false false) := by
  refine returnsInHanded_of_change_sized (C := Try.checked) own started (by kernel_rfl) Try.func5
    (ChangeSpec.witness6 (enc := enc) (C := Try.checked) false ⟨#[], #[.slice none 0 0, .int .i64 0], []⟩ 8 (by kernel_rfl) (by kernel_rfl) (by kernel_rfl) (by kernel_rfl)) ?_
  intro W base args ds gs before hval0 hW hcnd hsz0 _
  have hsz : (DataW.weightsEach Try.prog (Try.f5.params.toList ++ Rows.journalCutsSpec.plain.varTypes Try.prog) (ds ++ gs)).all (· ≤ reachBytes) = true := hsz0
  clear hsz0
  have hval : ∀ (j : Nat) t v, Try.f5.params[j]? = some t → args[j]? = some v → Value.okWide Try.prog W .any base t v := hval0
  have hW' := hW
  obtain ⟨p, q, hA0, hV, rfl, hfz, hnd⟩ := hW
  have hA : DataW.TrodAll enc Try.prog W 0 (fun _ => true) true Try.f5.params.toList args.toList ds p := hA0
  rw [Try.params5] at hA hval hsz
  obtain ⟨v0, vs0, d0, ds0, p0, q0, hargs, rfl, rfl, h0, r0⟩ := trodAll_cons hA
  obtain ⟨v1, vs1, d1, ds1, p1, q1, rfl, rfl, rfl, h1, r1⟩ := trodAll_cons r0
  obtain ⟨rfl, rfl, rfl⟩ := trodAll_nil r1
  obtain rfl : args = #[v0, v1] := by cases args; simp_all
  obtain ⟨rfl, rfl⟩ := trodVars_none hV
  have k0 := h0
  have lt0 : ∀ x ∈ p0, x.block < W.heap.size := by obtain ⟨m, hm⟩ := k0; exact DataW.trod_lt m _ _ _ hm
  obtain ⟨a0, c0, l0, rfl, rd0, hl0, hn0, hg0⟩ := strs_of (fun es sp e => by subst e; have h := sized_slice hsz (j := 0) (t := 22) (e := 9) rfl rfl Try.underlying22; rw [bytesS] at h; exact h) (okWide_slice Try.underlying22 (hval 0 22 v0 rfl rfl)) h0
  obtain ⟨a1, rfl, rfl, rfl, w1⟩ := open_int Try.underlying3 (hval 1 3 v1 rfl rfl) h1
  clear hA0 hval0
  refine (walk a0 c0 l0 a1 W rd0 hl0 hn0 hg0 w1).mono fun e W' ⟨he, bel⟩ => ?_
  subst he
  exact ⟨_, rfl, _, _, _, [], _, [], hW', trodAll_mk1 (shut_bool Try.underlying4 _), (trodAll_cons_mk (Below.trod laidOut (by kernel_rfl) (of_decide_eq_true (by kernel_rfl)) k0 bel lt0) (trodAll_cons_mk (shut_int Try.underlying3 w1) trodAll_mk0)), rfl, bel.frame _, fun h => by cases h⟩
theorem over : Rows.journalCutsRow.holds Try.pinned (OpenSpec.ofChange Rows.journalCutsSpec) :=
  OpenClaim.holds_of_wide 5 Try.f5 rfl rfl rfl rfl rfl rfl rfl ⟨rfl, rfl, rfl, rfl, rfl⟩ rfl rfl rfl rfl rfl (by kernel_rfl) Try.func5 (by kernel_rfl)
    (of_decide_eq_true (by kernel_rfl)) (by unfold Func.isWrapper; first | (rw [if_pos (by decide +kernel)]; kernel_rfl) | (rw [if_neg (by decide +kernel)]; exact ⟨rfl, rfl⟩))
    (fun os started H enc _ => lifted os started H enc)
end Go.Proofs.Ytohgflimdoebiaa.Dk.journalCuts
namespace Go.Proofs.Ytohgflimdoebiaa
theorem journalCuts_holds : Rows.JournalCutsSaid := Dk.journalCuts.over
#print axioms journalCuts_holds
end Go.Proofs.Ytohgflimdoebiaa
