/- FrX, FrX2, joined. -/
import Derived.Test.YtohgflimdoebiaaFrMJ
import Derived.Test.YtohgflimdoebiaaFrW
import Derived.Test.YtohgflimdoebiaaFrF
import Derived.Test.YtohgflimdoebiaaFrY
import Derived.Deep.AppendLies
import Derived.Laws.OwnMore
import Derived.BigQuiet
/- Contracts: the document's due and Scan. -/
namespace Go.Proofs.Ytohgflimdoebiaa
open Go.RowKit Go.Maps
set_option linter.unusedVariables false
set_option maxRecDepth 4000
set_option linter.unusedSimpArgs false

theorem std_first {l : List ByteArray} {q : Int} {s : ByteArray} (h : Std l q s) : (fpc (l.getD 0 ⟨#[]⟩)).q = q ∧ (fpc (l.getD 0 ⟨#[]⟩)).p = 0 ∧ fn l ≤ l.length ∧ Ub (l.getD 0 ⟨#[]⟩) := by
  refine ⟨?_, ?_, h.fro.fit, h.fro.each 0 h.fro.one⟩
  · rw [h.at' 0 h.pos, fpc_bl _ _ _ _ (piece_right q s h.num h.len 0 h.pos)]
  · rw [h.at' 0 h.pos, fpc_bl _ _ _ _ (piece_right q s h.num h.len 0 h.pos)]; rfl
theorem drop_getD (l : List ByteArray) (k i : Nat) : (l.drop k).getD i ⟨#[]⟩ = l.getD (k + i) ⟨#[]⟩ := by
  simp [List.getD_eq_getElem?_getD, List.getElem?_drop]
theorem four_cells (w : World) (x y z u : Value) (t : TypeId) : (w.alloc (.cells #[x, y, z, u] t)).cell? ⟨w.heap.size, 2, none⟩ = some z := by
  have := cell_four_at w x y z u t w.heap.size rfl 2 z rfl
  rw [add_plain] at this
  exact this
def DueP (l : List ByteArray) (k : Nat) (q : Int) (e : Ending) : Prop := e = .returned (.tuple #[.string (sdS (l.drop k) q), .int .i64 (sdN (l.drop k) q : Nat)])
theorem DueP.no {l : List ByteArray} {k : Nat} {q : Int} (h : sd (l.drop k) q = none) : DueP l k q (.returned (.tuple #[.string ⟨#[]⟩, .int .i64 0])) := by
  unfold DueP; rw [sdS_none h, sdN_none h]; rfl
theorem due_end (a : Option Addr) (cap : Nat) (l : List ByteArray) (k : Nat) (q : Int) (w : World) (hk : l.length ≤ k) :
    Calls Try.prog 30 #[.slice a l.length cap, .int .i64 (k : Int), .int .i64 q] w fun e w' => DueP l k q e ∧ Below w.heap.size w w' := by
  have HN : Hid (DueP l k q (.returned (.tuple #[.string ⟨#[]⟩, .int .i64 0]))) := DueP.no (sd_no fun s h => by have := h.fit; have := h.pos; rw [List.length_drop] at *; omega)
  obtain ⟨n, hn⟩ : ∃ n, l.length = n := ⟨_, rfl⟩
  rw [hn] at hk ⊢
  clear hn
  have hk2 : decide ((n : Int) ≤ (k : Int)) = true := by simp; omega
  go_enter Try.func30, Try.ntmps30
  go_wp2_with fail
  go_ret2
  exact ⟨HN.out, Below.refl _ _⟩
theorem due_bad (a : Option Addr) (cap : Nat) (l : List ByteArray) (k : Nat) (q : Int) (w : World) (hl : l.length ≤ 8796093022208) (hk : k < l.length) (hrd : RdS w a l) (hu : ¬ Ub (l.getD k ⟨#[]⟩)) :
    Calls Try.prog 30 #[.slice a l.length cap, .int .i64 (k : Int), .int .i64 q] w fun e w' => DueP l k q e ∧ Below w.heap.size w w' := by
  have HN : Hid (DueP l k q (.returned (.tuple #[.string ⟨#[]⟩, .int .i64 0]))) := DueP.no (sd_no fun s h => by
    have := (std_first h).2.2.2
    rw [drop_getD] at this
    exact hu this)
  obtain ⟨i0, hi, hz0, hz1, hz2⟩ := info_parts infoP
  obtain ⟨n, hn⟩ : ∃ n, l.length = n := ⟨_, rfl⟩
  have HLN : Hid (l.length = n) := hn
  have HRD : Hid (RdS w a l) := hrd
  obtain ⟨b, o, ea, c0⟩ := hrd k hk
  subst ea
  rw [hn] at hk hl ⊢
  have j1 : (0 : Int) ≤ (k : Int) := by omega
  have j2 : (k : Int) < (n : Int) := by omega
  have hk2 : decide ((n : Int) ≤ (k : Int)) = false := by simp; omega
  have hc := rUnblock_no _ w hu
  obtain ⟨X, hX⟩ : ∃ X, l.getD k ⟨#[]⟩ = X := ⟨_, rfl⟩
  rw [hX] at hc c0
  clear hu hX hn
  go_enter Try.func30, Try.ntmps30
  go_wp2_with fail
  refine hc.mono ?_
  rintro e w1 ⟨rfl, hb1⟩
  have HB1 : Hid (Below w.heap.size w w1) := hb1
  clear hb1 hc c0
  go_wp2_with fail
  go_ret2
  exact ⟨HN.out, Below.more HB1.out _⟩
theorem due_wrong (a : Option Addr) (cap : Nat) (l : List ByteArray) (k : Nat) (q : Int) (w : World) (hl : l.length ≤ 8796093022208) (hk : k < l.length) (hrd : RdS w a l) (hu : Ub (l.getD k ⟨#[]⟩)) (hw : ¬ ((fpc (l.getD k ⟨#[]⟩)).q = q ∧ (fpc (l.getD k ⟨#[]⟩)).p = 0 ∧ bt (l.getD k ⟨#[]⟩) 3 ≤ l.length - k)) :
    Calls Try.prog 30 #[.slice a l.length cap, .int .i64 (k : Int), .int .i64 q] w fun e w' => DueP l k q e ∧ Below w.heap.size w w' := by
  have HN : Hid (DueP l k q (.returned (.tuple #[.string ⟨#[]⟩, .int .i64 0]))) := DueP.no (sd_no fun s h => by
    obtain ⟨h1, h2, h3, h4⟩ := std_first h
    unfold fn at h3
    rw [drop_getD] at h1 h2 h3
    rw [List.length_drop] at h3
    exact hw ⟨h1, h2, h3⟩)
  obtain ⟨i0, hi, hz0, hz1, hz2⟩ := info_parts infoP
  obtain ⟨n, hn⟩ : ∃ n, l.length = n := ⟨_, rfl⟩
  have HLN : Hid (l.length = n) := hn
  have HRD : Hid (RdS w a l) := hrd
  obtain ⟨b, o, ea, c0⟩ := hrd k hk
  subst ea
  rw [hn] at hk hl ⊢
  have j1 : (0 : Int) ≤ (k : Int) := by omega
  have j2 : (k : Int) < (n : Int) := by omega
  have hk2 : decide ((n : Int) ≤ (k : Int)) = false := by simp; omega
  have hc : Calls Try.prog 46 #[.string (l.getD k ⟨#[]⟩)] w fun e w' => e = .returned (.tuple #[.agg #[.int .i64 (fpc (l.getD k ⟨#[]⟩)).q, .int .i64 (fpc (l.getD k ⟨#[]⟩)).p, .int .i64 (bt (l.getD k ⟨#[]⟩) 3 : Nat), .string (fpc (l.getD k ⟨#[]⟩)).d], .int .i64 0]) ∧ Below w.heap.size w w' := rUnblock_yes _ w hu
  obtain ⟨F, hF⟩ : ∃ F, bt (l.getD k ⟨#[]⟩) 3 = F := ⟨_, rfl⟩
  obtain ⟨q1, hq1⟩ : ∃ q1, (fpc (l.getD k ⟨#[]⟩)).q = q1 := ⟨_, rfl⟩
  obtain ⟨p1, hp1⟩ : ∃ p1, (fpc (l.getD k ⟨#[]⟩)).p = p1 := ⟨_, rfl⟩
  obtain ⟨d1, hd1⟩ : ∃ d1, (fpc (l.getD k ⟨#[]⟩)).d = d1 := ⟨_, rfl⟩
  obtain ⟨X, hX⟩ : ∃ X, l.getD k ⟨#[]⟩ = X := ⟨_, rfl⟩
  rw [hF, hq1, hp1, hd1, hX] at hc
  rw [hF, hq1, hp1, hn] at hw
  rw [hX] at c0
  clear hu hX hn hF hq1 hp1 hd1
  go_enter Try.func30, Try.ntmps30
  go_wp2_with fail
  refine hc.mono ?_
  rintro e w1 ⟨rfl, hb1⟩
  have HB1 : Hid (Below w.heap.size w w1) := hb1
  clear hb1 hc c0
  by_cases hq : q1 = q
  · have hqb : (q1 != q) = false := by simp [hq]
    by_cases hp : p1 = 0
    · have hpb : (p1 != 0) = false := by simp [hp]
      have hnb : decide ((n : Int) - (k : Int) < (F : Int)) = true := by
        simp
        have : ¬ F ≤ n - k := fun h => hw ⟨hq, hp, h⟩
        omega
      clear hq hp hw
      go_wp2_with fail
      go_ret2
      exact ⟨HN.out, Below.more HB1.out _⟩
    · have hpb : (p1 != 0) = true := by simp [hp]
      clear hq hp hw
      go_wp2_with fail
      go_ret2
      exact ⟨HN.out, Below.more HB1.out _⟩
  · have hqb : (q1 != q) = true := by simp [hq]
    clear hq hw
    go_wp2_with fail
    go_ret2
    exact ⟨HN.out, Below.more HB1.out _⟩
set_option maxHeartbeats 4000000 in
theorem due_go (a : Option Addr) (cap : Nat) (l : List ByteArray) (k : Nat) (q : Int) (w : World) (hl : l.length ≤ 8796093022208) (hk : k < l.length) (hrd : RdS w a l) (hu : Ub (l.getD k ⟨#[]⟩)) (hw : (fpc (l.getD k ⟨#[]⟩)).q = q ∧ (fpc (l.getD k ⟨#[]⟩)).p = 0 ∧ bt (l.getD k ⟨#[]⟩) 3 ≤ l.length - k) :
    Calls Try.prog 30 #[.slice a l.length cap, .int .i64 (k : Int), .int .i64 q] w fun e w' => DueP l k q e ∧ Below w.heap.size w w' := by
  obtain ⟨i0, hi, hz0, hz1, hz2⟩ := info_parts infoP
  obtain ⟨n, hn⟩ : ∃ n, l.length = n := ⟨_, rfl⟩
  have HLN : Hid (l.length = n) := hn
  have HRD : Hid (RdS w a l) := hrd
  obtain ⟨b, o, ea, c0⟩ := hrd k hk
  subst ea
  rw [hn] at hk hl ⊢
  have j1 : (0 : Int) ≤ (k : Int) := by omega
  have j2 : (k : Int) < (n : Int) := by omega
  have hk2 : decide ((n : Int) ≤ (k : Int)) = false := by simp; omega
  have hc : Calls Try.prog 46 #[.string (l.getD k ⟨#[]⟩)] w fun e w' => e = .returned (.tuple #[.agg #[.int .i64 (fpc (l.getD k ⟨#[]⟩)).q, .int .i64 (fpc (l.getD k ⟨#[]⟩)).p, .int .i64 (bt (l.getD k ⟨#[]⟩) 3 : Nat), .string (fpc (l.getD k ⟨#[]⟩)).d], .int .i64 0]) ∧ Below w.heap.size w w' := rUnblock_yes _ w hu
  have hFn : fn (l.drop k) = bt (l.getD k ⟨#[]⟩) 3 := by unfold fn; rw [drop_getD]; rfl
  obtain ⟨hF1, hF2⟩ := ub_n hu
  obtain ⟨F, hF⟩ : ∃ F, bt (l.getD k ⟨#[]⟩) 3 = F := ⟨_, rfl⟩
  obtain ⟨q1, hq1⟩ : ∃ q1, (fpc (l.getD k ⟨#[]⟩)).q = q1 := ⟨_, rfl⟩
  obtain ⟨p1, hp1⟩ : ∃ p1, (fpc (l.getD k ⟨#[]⟩)).p = p1 := ⟨_, rfl⟩
  obtain ⟨d1, hd1⟩ : ∃ d1, (fpc (l.getD k ⟨#[]⟩)).d = d1 := ⟨_, rfl⟩
  obtain ⟨X, hX⟩ : ∃ X, l.getD k ⟨#[]⟩ = X := ⟨_, rfl⟩
  rw [hF, hq1, hp1, hd1, hX] at hc
  rw [hF, hq1, hp1, hn] at hw
  rw [hF] at hF1 hF2 hFn
  rw [hX] at c0
  obtain ⟨hq, hp, hfit⟩ := hw
  have HFN : Hid (fn (l.drop k) = F) := hFn
  have hqb : (q1 != q) = false := by simp [hq]
  have hpb : (p1 != 0) = false := by simp [hp]
  have hnb : decide ((n : Int) - (k : Int) < (F : Int)) = false := by simp; omega
  have HNF : Hid (¬ Fro (l.drop k) → DueP l k q (.returned (.tuple #[.string ⟨#[]⟩, .int .i64 0]))) := fun h => DueP.no (sd_nofro h)
  clear hu hX hn hF hq1 hp1 hd1 hq hp hFn
  go_enter Try.func30, Try.ntmps30
  go_wp2_with fail
  refine hc.mono ?_
  rintro e w1 ⟨rfl, hb1⟩
  have HB1 : Hid (Below w.heap.size w w1) := hb1
  clear hb1 hc c0
  go_wp2_with fail
  obtain ⟨w2, hw2⟩ : ∃ w2, w1.alloc (.cells #[.int .i64 q1, .int .i64 p1, .int .i64 (F : Int), .string d1] 93) = w2 := ⟨_, rfl⟩
  have HC2 : Hid (w2.cell? ⟨w1.heap.size, 2, none⟩ = some (.int .i64 (F : Int))) := by rw [← hw2]; exact four_cells _ _ _ _ _ _
  have HB2 : Hid (Below w.heap.size w w2) := by rw [← hw2]; exact Below.more HB1.out _
  rw [hw2]
  have hs1 : w.heap.size ≤ w1.heap.size := HB1.out.size
  clear hw2
  go_loopw [10, 11] (fun v i wr => ∃ j : Nat, j ≤ F ∧ i = .int .i64 (j : Int) ∧ wr.ownsRow w2.heap.size 93 4 v j (cellsP (((l.drop k).take j).map fpc)) ∧ Below w2.heap.size w2 wr ∧ (∀ i, i < j → Ub ((l.drop k).getD i ⟨#[]⟩))) (fun _ i _ => F - (intOf i).toNat)
  case atStart => exact ⟨0, by omega, rfl, World.ownsRow_nil _ _ _ _, Below.refl _ _, fun i hi => by omega⟩
  case round =>
    obtain ⟨j, hj, rfl, hrow, hb, hub⟩ := hrel
    have HROW : Hid (wr.ownsRow w2.heap.size 93 4 u10 j (cellsP (((l.drop k).take j).map fpc))) := hrow
    have HB : Hid (Below w.heap.size w wr) := Below.then HB2.out hb
    have HBB : Hid (Below w2.heap.size w2 wr) := hb
    have HUB : Hid (∀ i, i < j → Ub ((l.drop k).getD i ⟨#[]⟩)) := hub
    have cF : wr.cell? ⟨w1.heap.size, 2, none⟩ = some (.int .i64 (F : Int)) := cell_later hb HC2.out
    clear hrow hub
    by_cases hjF : j < F
    · obtain ⟨b', o', ea, c0⟩ := (HRD.out.later HB.out) (k + j) (by rw [HLN.out]; omega)
      cases ea
      have j3 : decide ((j : Int) < (F : Int)) = true := by simp; omega
      have j4 : IntKind.i64.wrap ((k : Int) + (j : Int)) = ((k + j : Nat) : Int) := by rw [← Int.natCast_add]; exact Bt.wrap_fit _ (by omega) (by omega)
      have j5 : (0 : Int) ≤ ((k + j : Nat) : Int) := by omega
      have j6 : ((k + j : Nat) : Int) < (n : Int) := by omega
      have hlj : j < (l.drop k).length := by rw [List.length_drop, HLN.out]; omega
      by_cases hu : Ub (l.getD (k + j) ⟨#[]⟩)
      · have hc : ∀ W, Calls Try.prog 46 #[.string (l.getD (k + j) ⟨#[]⟩)] W fun e w' => e = .returned (.tuple #[.agg #[.int .i64 (fpc (l.getD (k + j) ⟨#[]⟩)).q, .int .i64 (fpc (l.getD (k + j) ⟨#[]⟩)).p, .int .i64 (fpc (l.getD (k + j) ⟨#[]⟩)).n, .string (fpc (l.getD (k + j) ⟨#[]⟩)).d], .int .i64 0]) ∧ Below W.heap.size W w' := fun W => rUnblock_yes _ W hu
        have HS : Hid (((l.drop k).take (j + 1)).map fpc = ((l.drop k).take j).map fpc ++ [fpc (l.getD (k + j) ⟨#[]⟩)]) := by
          show _ = _
          rw [take_snoc (l.drop k) j ⟨#[]⟩ hlj, List.map_append, drop_getD]; rfl
        have HU : Hid (Ub (l.getD (k + j) ⟨#[]⟩)) := hu
        obtain ⟨x, hx⟩ : ∃ x, fpc (l.getD (k + j) ⟨#[]⟩) = x := ⟨_, rfl⟩
        obtain ⟨X, hX⟩ : ∃ X, l.getD (k + j) ⟨#[]⟩ = X := ⟨_, rfl⟩
        simp only [hx] at hc
        simp only [hX] at hc c0
        rw [hx] at HS
        clear hx hu hb hlj
        obtain ⟨q3, p3, m3, d3⟩ := x
        go_wp2_with fail
        refine (hc _).mono ?_
        rintro e w3 ⟨rfl, hb3⟩
        have HROW3 : Hid (w3.ownsRow w2.heap.size 93 4 u10 j (cellsP (((l.drop k).take j).map fpc))) := row_later HROW.out hb3
        have HB3 : Hid (Below w.heap.size w w3) := Below.then HB.out hb3
        have HBB3 : Hid (Below w2.heap.size w2 w3) := Below.then HBB.out hb3
        have hs3 : w2.heap.size ≤ w3.heap.size := HBB3.out.size
        clear hb3 hc c0 cF
        go_wp2_with (at_builtin; refine wpList_append_lies _ rfl _ _ _ rfl w2.heap.size 93 i0 _ 4 40 Try.underlying96 hi hz0 hz1 hz2 rfl (by omega) _ j _ rfl ((HROW3.out.alloc _).alloc _) ⟨w3.heap.size + 1, 0, none⟩ 1 1 [.int .i64 q3, .int .i64 p3, .int .i64 m3, .string d3] rfl rfl (cell_four_at _ _ _ _ _ _ _ (by simp)) (by simp [Value.oneCell']) (by omega) (by unfold maxLen; omega) (by omega) (by simp; omega) (w3.heap.size + 2) (by simp) ?_; intro g4 cap4 w4 hown4 hgrow4 hat4 hlt4; have HG4 : Hid _ := hgrow4; have hown5 : w4.ownsRow w2.heap.size 93 4 (.slice (some ⟨g4, 0, none⟩) (j + 1) cap4) (j + 1) (cellsP (((l.drop k).take j).map fpc ++ [⟨q3, p3, m3, d3⟩])) := (by rw [cellsP_append]; exact hown4); have HO4 : Hid (w4.ownsRow w2.heap.size 93 4 (.slice (some ⟨g4, 0, none⟩) (j + 1) cap4) (j + 1) (cellsP (((l.drop k).take j).map fpc ++ [⟨q3, p3, m3, d3⟩]))) := hown5; clear hown4 hown5 hgrow4 hat4 hlt4)
        go_roundw
        case rel =>
          refine ⟨j + 1, by omega, by go_num, ?_, ?_, ?_⟩
          · rw [HS.out]; exact HO4.out
          · exact (Below.more (Below.more HBB3.out _) _).grown HG4.out (by simp; omega) (fun j hj => (HROW3.out.lt j hj).1)
          · intro i hi
            by_cases e : i = j
            · subst e; rw [drop_getD]; exact HU.out
            · exact HUB.out i (by omega)
        case measure => simp [intOf]; omega
      · have hc := rUnblock_no (l.getD (k + j) ⟨#[]⟩)
        have HNU : Hid (¬ Ub (l.getD (k + j) ⟨#[]⟩)) := hu
        obtain ⟨X, hX⟩ : ∃ X, l.getD (k + j) ⟨#[]⟩ = X := ⟨_, rfl⟩
        rw [hX] at hc c0 hu
        clear hb hlj
        go_wp2_with fail
        refine (hc _ hu).mono ?_
        rintro e w3 ⟨rfl, hb3⟩
        have HB3 : Hid (Below w.heap.size w w3) := Below.then HB.out hb3
        clear hb3 hc c0
        go_wp2_with fail
        go_ret2
        refine ⟨HNF.out fun hf => HNU.out ?_, Below.more HB3.out _⟩
        have := hf.each j (by rw [HFN.out]; exact hjF)
        rwa [drop_getD] at this
    · have j3 : decide ((j : Int) < (F : Int)) = false := by simp; omega
      obtain rfl : j = F := by omega
      have hf : Fro (l.drop k) := ⟨fun e => by have := congrArg List.length e; rw [List.length_drop, HLN.out] at this; simp at this; omega, by rw [HFN.out]; exact hF1, by rw [HFN.out, List.length_drop, HLN.out]; exact hfit, fun i hi => HUB.out i (by rw [HFN.out] at hi; exact hi)⟩
      have hP : frp (l.drop k) = ((l.drop k).take j).map fpc := by unfold frp; rw [HFN.out]
      have hlen : (frp (l.drop k)).length = j := by rw [hf.len, HFN.out]
      have HT : Hid (Wh (frp (l.drop k)) → sd (l.drop k) ((frp (l.drop k)).getD 0 pc0).q = some ⟨(ct (frp (l.drop k))).toArray⟩ ∧ np (⟨(ct (frp (l.drop k))).toArray⟩ : ByteArray).size = j) := fun h => ⟨sd_yes hf h rfl, by have := h.total.2; rw [hlen] at this; simpa [ByteArray.size] using this⟩
      have HNW : Hid (¬ Wh (frp (l.drop k)) → sd (l.drop k) q = none) := fun h => sd_nowh h
      have HNQ : Hid (((frp (l.drop k)).getD 0 pc0).q ≠ q → sd (l.drop k) q = none) := fun h => sd_noq h
      have hrow := HROW.out
      rw [← hP] at hrow
      obtain ⟨a1, cap1, e1⟩ := row_spell hrow
      subst e1
      have hwh := fun W (hW : Below wr.heap.size wr W) => rWhole_any a1 cap1 (frp (l.drop k)) W ((RwP.rd (l := frp (l.drop k)) (by unfold RwP; rw [hlen]; exact hrow)).later hW)
      rw [hlen] at hwh
      obtain ⟨P, hP2⟩ : ∃ P, frp (l.drop k) = P := ⟨_, rfl⟩
      rw [hP2] at hwh HT HNW HNQ
      clear hP2 hP hlen hf hrow
      go_wp2_with fail
      refine (hwh _ (Below.refl _ _)).mono ?_
      rintro e w4 ⟨hP4, hb4⟩
      have HB4 : Hid (Below w.heap.size w w4) := Below.then HB.out hb4
      have cF4 : w4.cell? ⟨w1.heap.size, 2, none⟩ = some (.int .i64 (j : Int)) := cell_later hb4 cF
      clear hb4 hwh cF hb
      rcases hP4 with ⟨h1, rfl⟩ | ⟨h1, rfl⟩
      · obtain ⟨e1, e2⟩ := HT.out h1
        unfold wA
        by_cases hq : (P.getD 0 pc0).q = q
        · have HE : Hid (DueP l k q (.returned (.tuple #[.string ⟨(ct P).toArray⟩, .int .i64 (j : Int)]))) := by
            show DueP _ _ _ _
            rw [hq] at e1
            unfold DueP
            rw [sdS_some e1, sdN_some e1, e2]
          have hq2 : ((P.getD 0 pc0).q != q) = false := by rw [hq]; simp
          obtain ⟨Q, hQ⟩ : ∃ Q, (P.getD 0 pc0).q = Q := ⟨_, rfl⟩
          obtain ⟨C, hC⟩ : ∃ C : ByteArray, ⟨(ct P).toArray⟩ = C := ⟨_, rfl⟩
          rw [hQ] at hq2 ⊢
          rw [hC] at HE ⊢
          clear hq e1 e2 hC hQ
          go_wp2_with fail
          go_quiet (fail)
          go_wp2_with fail
          go_ret2
          exact ⟨HE.out, ⟨HB4.out.os, HB4.out.tape, HB4.out.output, HB4.out.size, HB4.out.block⟩⟩
        · have HE : Hid (DueP l k q (.returned (.tuple #[.string ⟨#[]⟩, .int .i64 0]))) := DueP.no (HNQ.out hq)
          have hq2 : ((P.getD 0 pc0).q != q) = true := by simpa using hq
          obtain ⟨Q, hQ⟩ : ∃ Q, (P.getD 0 pc0).q = Q := ⟨_, rfl⟩
          obtain ⟨C, hC⟩ : ∃ C : ByteArray, ⟨(ct P).toArray⟩ = C := ⟨_, rfl⟩
          rw [hQ] at hq2 ⊢
          rw [hC]
          clear hq e1 e2 hC hQ
          go_wp2_with fail
          go_ret2
          exact ⟨HE.out, HB4.out⟩
      · have HE : Hid (DueP l k q (.returned (.tuple #[.string ⟨#[]⟩, .int .i64 0]))) := DueP.no (HNW.out h1)
        unfold wB
        clear h1
        go_wp2_with fail
        go_ret2
        exact ⟨HE.out, HB4.out⟩
theorem due_any (a : Option Addr) (cap : Nat) (l : List ByteArray) (k : Nat) (q : Int) (w : World) (hl : l.length ≤ 8796093022208) (hrd : RdS w a l) :
    Calls Try.prog 30 #[.slice a l.length cap, .int .i64 (k : Int), .int .i64 q] w fun e w' => DueP l k q e ∧ Below w.heap.size w w' := by
  by_cases hk : k < l.length
  · by_cases hu : Ub (l.getD k ⟨#[]⟩)
    · by_cases hw : (fpc (l.getD k ⟨#[]⟩)).q = q ∧ (fpc (l.getD k ⟨#[]⟩)).p = 0 ∧ bt (l.getD k ⟨#[]⟩) 3 ≤ l.length - k
      · exact due_go a cap l k q w hl hk hrd hu hw
      · exact due_wrong a cap l k q w hl hk hrd hu hw
    · exact due_bad a cap l k q w hl hk hrd hu
  · exact due_end a cap l k q w (by omega)
end Go.Proofs.Ytohgflimdoebiaa
/- Contract: the document's Scan. -/
namespace Go.Proofs.Ytohgflimdoebiaa
open Go.RowKit Go.Maps
set_option linter.unusedVariables false
set_option maxRecDepth 4000
set_option linter.unusedSimpArgs false

/- What has come, and what is still to come. -/
structure Mids (l : List ByteArray) (k a : Nat) (ps : List ByteArray) : Prop where
  k1 : k ≤ 65535
  len : ps.length = k
  p1 : ps ++ (sc (65535 - k) (l.drop a) (k + 1)).1 = (sc 65535 l 1).1
  p2 : a + (sc (65535 - k) (l.drop a) (k + 1)).2 = (sc 65535 l 1).2
theorem Mids.start (l : List ByteArray) : Mids l 0 0 [] := ⟨by omega, rfl, by simp, by simp⟩
theorem Mids.step {l : List ByteArray} {k a : Nat} {ps : List ByteArray} (h : Mids l k a ps) (hk : k < 65535) {s : ByteArray} (hs : sd (l.drop a) ((k + 1 : Nat) : Int) = some s) : Mids l (k + 1) (a + np s.size) (ps ++ [s]) := by
  have h1 := h.p1
  have h2 := h.p2
  rw [show 65535 - k = (65535 - (k + 1)) + 1 by omega, sc_some hs, List.drop_drop] at h1 h2
  exact ⟨by omega, by simp [h.len], by rw [List.append_assoc]; exact h1, by rw [← h2]; simp only [Nat.add_assoc]⟩
theorem Mids.stop {l : List ByteArray} {k a : Nat} {ps : List ByteArray} (h : Mids l k a ps) (hs : sd (l.drop a) ((k + 1 : Nat) : Int) = none) : ps = (sc 65535 l 1).1 ∧ a = (sc 65535 l 1).2 := by
  have h1 := h.p1
  have h2 := h.p2
  rw [sc_none hs] at h1 h2
  exact ⟨by simpa using h1, by simpa using h2⟩
theorem Mids.full {l : List ByteArray} {a : Nat} {ps : List ByteArray} (h : Mids l 65535 a ps) : ps = (sc 65535 l 1).1 ∧ a = (sc 65535 l 1).2 := by
  have h1 := h.p1
  have h2 := h.p2
  rw [Nat.sub_self, sc] at h1 h2
  exact ⟨by simpa using h1, by simpa using h2⟩
theorem Mids.at' {l : List ByteArray} {k a : Nat} {ps : List ByteArray} (h : Mids l k a ps) : a ≤ l.length := by
  have := h.p2
  have := (sc_len 65535 l 1).2.1
  omega
def ScanP (l : List ByteArray) (w w' : World) (e : Ending) : Prop := ∃ v, e = .returned (.tuple #[v, .int .i64 ((sc 65535 l 1).2 : Nat)]) ∧ RwS w' w.heap.size v (sc 65535 l 1).1
theorem scanP_of {l : List ByteArray} {w w' : World} {v : Value} {k a : Nat} {ps : List ByteArray} (hk : ps.length = k) (h : ps = (sc 65535 l 1).1 ∧ a = (sc 65535 l 1).2) (hr : w'.ownsRow w.heap.size 9 1 v k (cellsS ps)) : ScanP l w w' (.returned (.tuple #[v, .int .i64 (a : Int)])) := by
  subst hk
  obtain ⟨rfl, rfl⟩ := h
  exact ⟨v, rfl, hr⟩
set_option maxHeartbeats 2000000 in
theorem rScan_any (a : Option Addr) (cap : Nat) (l : List ByteArray) (w : World) (hl : l.length ≤ 8796093022208) (hrd : RdS w a l) :
    Calls Try.prog 8 #[.slice a l.length cap] w fun e w' => ScanP l w w' e ∧ Below w.heap.size w w' := by
  obtain ⟨i0, hi, hz0, hz1, hz2⟩ := info_parts infoS
  have HRD : Hid (RdS w a l) := hrd
  have HDUE : Hid (∀ (k : Nat) (q : Int) (W : World), RdS W a l → Calls Try.prog 30 #[.slice a l.length cap, .int .i64 (k : Int), .int .i64 q] W fun e w' => DueP l k q e ∧ Below W.heap.size W w') := fun k q W h => due_any a cap l k q W hl h
  obtain ⟨n, hn⟩ : ∃ n, l.length = n := ⟨_, rfl⟩
  have HLN : Hid (l.length = n) := hn
  rw [hn] at hl HDUE ⊢
  clear hn hrd
  go_enter Try.func8, Try.ntmps8
  go_wp2_with fail
  go_loopw [4, 5, 6] (fun v x i wr => ∃ (k p : Nat) (ps : List ByteArray), Mids l k p ps ∧ x = .int .i64 (p : Int) ∧ i = .int .i64 ((k + 1 : Nat) : Int) ∧ wr.ownsRow w.heap.size 9 1 v k (cellsS ps) ∧ Below w.heap.size w wr) (fun _ _ i _ => 65536 - (intOf i).toNat)
  case atStart => exact ⟨0, 0, [], Mids.start l, rfl, rfl, World.ownsRow_nil _ _ _ _, Below.refl _ _⟩
  case round =>
    obtain ⟨k, p, ps, hM, rfl, rfl, hrow, hb⟩ := hrel
    have HM : Hid (Mids l k p ps) := hM
    have HROW : Hid (wr.ownsRow w.heap.size 9 1 u4 k (cellsS ps)) := hrow
    have HB : Hid (Below w.heap.size w wr) := hb
    have hk1 := hM.k1
    have hpn : p ≤ n := by rw [← HLN.out]; exact hM.at'
    clear hrow hM
    by_cases hk : k < 65535
    · have j1 : decide (((k + 1 : Nat) : Int) ≤ 65535) = true := by simp; omega
      have hd := HDUE.out p ((k + 1 : Nat) : Int) wr (HRD.out.later hb)
      have j2 : IntKind.i64.wrap (((k + 1 : Nat) : Int) + 1) = ((k + 1 + 1 : Nat) : Int) := by rw [Bt.wrap_fit _ (by omega) (by omega)]; omega
      clear hb
      obtain ⟨K, hK⟩ : ∃ K, ((k + 1 : Nat) : Int) = K := ⟨_, rfl⟩
      have HK : Hid (((k + 1 : Nat) : Int) = K) := hK
      rw [hK] at j1 j2 hd ⊢
      clear hK
      go_wp2_with fail
      refine hd.mono ?_
      rintro e w3 ⟨hP, hb3⟩
      unfold DueP at hP
      subst hP
      have HROW3 : Hid (w3.ownsRow w.heap.size 9 1 u4 k (cellsS ps)) := row_later HROW.out hb3
      have HB3 : Hid (Below w.heap.size w w3) := Below.then HB.out hb3
      have hs3 : w.heap.size ≤ w3.heap.size := HB3.out.size
      clear hb3 hd
      cases hsd : sd (l.drop p) K with
      | none =>
        have HE : Hid (ps = (sc 65535 l 1).1 ∧ p = (sc 65535 l 1).2) := HM.out.stop (by rw [HK.out]; exact hsd)
        rw [sdS_none hsd, sdN_none hsd]
        clear hsd
        go_wp2_with fail
        go_ret2
        exact ⟨scanP_of HM.out.len HE.out HROW3.out, HB3.out⟩
      | some s =>
        have HM' : Hid (Mids l (k + 1) (p + np s.size) (ps ++ [s])) := HM.out.step hk (by rw [HK.out]; exact hsd)
        have hpos := (sd_std hsd).pos
        have hat := HM'.out.at'
        rw [HLN.out] at hat
        rw [sdS_some hsd, sdN_some hsd]
        obtain ⟨m, hm⟩ : ∃ m, np s.size = m := ⟨_, rfl⟩
        rw [hm] at HM' hpos hat ⊢
        have m0 : ((m : Int) == 0) = false := by simp; omega
        have m1 : IntKind.i64.wrap ((p : Int) + (m : Int)) = ((p + m : Nat) : Int) := by rw [← Int.natCast_add]; exact Bt.wrap_fit _ (by omega) (by omega)
        clear hsd hm
        go_wp2_with (at_builtin; refine wpList_append_lies _ rfl _ _ _ rfl w.heap.size 9 i0 _ 1 16 Try.underlying22 hi hz0 hz1 hz2 rfl (by omega) _ k (cellsS ps) rfl (HROW3.out.alloc _) ⟨w3.heap.size, 0, none⟩ 1 1 [.string s] rfl rfl (cell_one_at _ _ _ _ rfl) (by simp [Value.oneCell']) (by omega) (by unfold maxLen; omega) (by omega) (by simp; omega) (w3.heap.size + 1) (by simp) ?_; intro g4 cap4 w4 hown4 hgrow4 hat4 hlt4; have HG4 : Hid _ := hgrow4; have HO4 : Hid (w4.ownsRow w.heap.size 9 1 (.slice (some ⟨g4, 0, none⟩) (k + 1) cap4) (k + 1) (cellsS ps ++ [.string s])) := hown4; clear hown4 hgrow4 hat4 hlt4)
        go_roundw
        case rel =>
          refine ⟨k + 1, p + m, ps ++ [s], HM'.out, rfl, rfl, ?_, ?_⟩
          · rw [cellsS_append]; exact HO4.out
          · exact (Below.more HB3.out _).grown HG4.out (by simp; omega) (fun j hj => (HROW3.out.lt j hj).1)
        case measure => simp [intOf, ← HK.out]; omega
    · have j1 : decide (((k + 1 : Nat) : Int) ≤ 65535) = false := by simp; omega
      obtain rfl : k = 65535 := by omega
      clear hb
      go_wp2_with fail
      go_ret2
      exact ⟨scanP_of HM.out.len HM.out.full HROW.out, HB.out⟩
end Go.Proofs.Ytohgflimdoebiaa
