/- For every list of writes and every number: DiskPower answers true. No condition but the form's own reach. -/
import Derived.Test.YtifjihdanbbhkaaRows
import Derived.Test.YtifjihdanbbhkaaDkL
import Derived.Test.YtifjihdanbbhkaaOpenDk
namespace Go.Proofs.Ytifjihdanbbhkaa.diskPower
open Go.ChangeShapes Go.WideShapes Go.ChangeAt Go.RowKit
set_option linter.unusedVariables false
set_option linter.unusedSimpArgs false

theorem belowK {a b c : World} {F : Nat → Prop} (h : Below a.heap.size a b) (k : Kept F b c) (hF : ∀ i, F i → a.heap.size ≤ i) : Below a.heap.size a c :=
  ⟨k.os.trans h.os, k.tape.trans h.tape, k.output.trans h.output, Nat.le_trans h.size k.size, fun i hi => (k.block i (Nat.lt_of_lt_of_le hi h.size) (fun e => by have := hF i e; omega)).trans (h.block i hi)⟩
theorem k9 (a : Int) : ∃ k : Nat, k ≤ 8 ∧ wrap64 ((IntKind.u64.wrap a).tmod 9) = (k : Int) := by
  have h0 : 0 ≤ IntKind.u64.wrap a := by rw [IntKind.wrap_u64]; omega
  rw [Int.tmod_eq_emod_of_nonneg h0]
  have h1 := Int.emod_nonneg (IntKind.u64.wrap a) (show (9 : Int) ≠ 0 by decide)
  have h2 := Int.emod_lt_of_pos (IntKind.u64.wrap a) (show (0 : Int) < 9 by decide)
  generalize IntKind.u64.wrap a % 9 = z at h1 h2
  refine ⟨z.toNat, by omega, ?_⟩
  unfold wrap64
  omega
theorem zz : Gp (0, ⟨#[122]⟩) := ⟨by decide, by decide, by decide⟩
set_option maxHeartbeats 4000000 in
set_option maxRecDepth 100000 in
theorem walk (a0 : Option Addr) (c0 : Nat) (l0 : List (Int × ByteArray)) (a1 : Int) (w : World) (rd0 : RdW w a0 l0) (hl0 : l0.length * 24 ≤ 140737488351232) (hn0 : a0 = none → c0 = 0) (hg0 : ∀ p ∈ l0, (Lit.int .i64 p.1).wf = true ∧ p.2.size ≤ 9223372036854775807) (w1 : (Lit.int .i64 a1).wf = true) :
    Calls Try.prog 5 #[.slice a0 l0.length c0, .int .i64 a1] w fun e w' => e = .returned (.bool true) ∧ Below w.heap.size w w' := by
  obtain ⟨n, hn⟩ : ∃ n, l0.length = n := ⟨_, rfl⟩
  have HN : Hid (l0.length = n) := hn
  have HRD : Hid (RdW w a0 l0) := rd0
  have HG : Hid (∀ p ∈ l0, (Lit.int .i64 p.1).wf = true ∧ p.2.size ≤ 9223372036854775807) := hg0
  rw [hn] at hl0 ⊢
  clear hn rd0 hg0 hn0
  go_enter Try.func5, Try.ntmps5
  go_wp2_with fail
  refine (lives_any _).mono ?_
  rintro e wl ⟨rfl, hbl⟩
  have HBL : Hid (Below w.heap.size w wl) := hbl
  clear hbl
  go_wp2_with fail
  obtain ⟨k, hk8, hk⟩ := k9 a1
  rw [hk]
  clear hk
  refine (new_any wl).mono ?_
  rintro e w2 ⟨p, b, m, x, rfl, hd2, hb2⟩
  have HD2 : Hid (Dk wl.heap.size w2 p nu b m x) := hd2
  have HB2 : Hid (Below wl.heap.size wl w2) := hb2
  clear hd2 hb2
  go_wp2_with fail
  refine (up_any wl.heap.size w2 p nu b m x HD2.out (k : Int) (by omega)).mono ?_
  rintro e w3 ⟨rfl, hd3, hk3⟩
  have hmx : max (k : Int) (-1) = (k : Int) := by omega
  rw [hmx] at hd3
  have HD3 : Hid (Dk wl.heap.size w3 p ⟨[], [], (k : Int)⟩ b m x) := hd3
  have HB3 : Hid (Below wl.heap.size wl w3) := belowK HB2.out hk3 (fun i hi => (HD2.out.inHeap i hi).2)
  clear hd3 hk3 hmx
  go_wp2_with fail
  go_loopw [7, 25] (fun dv i wr => ∃ j c : Nat, j ≤ n ∧ c ≤ k ∧ i = .int .i64 (j : Int) ∧ dv = .int .i64 (c : Int) ∧ (∃ L x, L.length = c ∧ Dk wl.heap.size wr p ⟨[], L, (k : Int) - (c : Int)⟩ b m x) ∧ Below wl.heap.size wl wr) (fun _ i _ => n - (intOf i).toNat)
  case atStart => exact ⟨0, 0, by omega, by omega, rfl, rfl, ⟨[], x, rfl, by simpa using HD3.out⟩, HB3.out⟩
  case round =>
    obtain ⟨j, c, hj, hck, rfl, rfl, ⟨L, xj, hL, hdj⟩, hbj⟩ := hrel
    have HL : Hid (L.length = c) := hL
    have HDJ : Hid (Dk wl.heap.size wr p ⟨[], L, (k : Int) - (c : Int)⟩ b m xj) := hdj
    have HBJ : Hid (Below wl.heap.size wl wr) := hbj
    clear hL hdj hbj
    by_cases hjn : j < n
    · obtain ⟨g, o, ea, hcs⟩ := HRD.out.spot (by intro e; have := HN.out; rw [e] at this; simp at this; omega)
      obtain ⟨y0, y1⟩ := hcs j (by rw [HN.out]; exact hjn)
      have x0 := cell_later (thenB HBL.out HBJ.out) (Nat.le_refl _) y0
      have x1 := cell_later (thenB HBL.out HBJ.out) (Nat.le_refl _) y1
      have hgj := HG.out (l0.getD j (0, ⟨#[]⟩)) (by rw [getD_yes _ _ (by rw [HN.out]; exact hjn)]; exact List.getElem_mem _)
      obtain ⟨at', t, eat⟩ : ∃ at' t, l0.getD j (0, ⟨#[]⟩) = (at', t) := ⟨_, _, rfl⟩
      rw [eat] at x0 x1 hgj
      subst ea
      have hb1 := below1 wr (.cells #[.int .i64 at', .string t] 49)
      have HDA : Hid _ := HDJ.out.later hb1
      have HBA : Hid _ := thenB HBJ.out hb1
      have hW := write_any wl.heap.size _ p _ b m xj HDA.out at' t hgj.1 hgj.2 (by show L.length + 1 ≤ _; rw [HL.out]; omega) HBA.out.size
      have j1 : (0 : Int) ≤ (j : Int) := by omega
      have j2 : (j : Int) < (n : Int) := by omega
      clear y0 y1 hcs eat hb1
      by_cases hc : c = k
      · have ewe : we ((k : Int) - (c : Int)) at' t = 11 := by simp [we, hc]
        have enx : nx ⟨[], L, (k : Int) - (c : Int)⟩ at' t = ⟨[], L, (k : Int) - (c : Int)⟩ := by unfold nx; rw [if_neg (by show we ((k : Int) - (c : Int)) at' t ≠ 0; rw [ewe]; decide)]
        rw [enx] at hW
        have hW' : Calls Try.prog 22 #[.pointer (some ⟨p, 0, none⟩), .int .i64 at', .string t] (wr.alloc (.cells #[.int .i64 at', .string t] 49)) fun e w' => e = .returned (.int .i64 11) ∧ Wrote wl.heap.size (wr.alloc (.cells #[.int .i64 at', .string t] 49)) p ⟨[], L, (k : Int) - (c : Int)⟩ b m xj w' := by rw [← ewe]; exact hW
        have d1 : decide ((c : Int) ≥ (k : Int)) = true := by simp; omega
        have d2 : decide ((c : Int) < (k : Int)) = false := by simp; omega
        have d3 : decide (c < k) = false := by simp; omega
        have d4 : decide (k ≤ c) = true := by simp; omega
        have HC : Hid (c = k) := hc
        clear hW ewe enx hc
        go_wp2_with fail
        refine hW'.mono ?_
        rintro e w5 ⟨rfl, x5, hd5, hk5, _⟩
        have HD5 : Hid (Dk wl.heap.size w5 p ⟨[], L, (k : Int) - (c : Int)⟩ b m x5) := hd5
        have HB5 : Hid (Below wl.heap.size wl w5) := belowK HBA.out hk5 (fun i hi => (HDA.out.inHeap i hi).2)
        clear hd5 hk5 hW'
        have hon := on_any wl.heap.size w5 p _ b m x5 HD5.out
        rw [show decide ((St.mk [] L ((k : Int) - (c : Int))).left ≠ 0) = false from by simp; have := HC.out; omega] at hon
        go_wp2_with fail
        refine hon.mono ?_
        rintro e w6 ⟨rfl, rfl⟩
        clear hon
        go_wp2
        go_roundw
        case rel => exact ⟨j + 1, c, by omega, hck, by go_num, rfl, ⟨L, x5, HL.out, HD5.out⟩, HB5.out⟩
        case measure => simp [intOf]; omega
      · have hne : (k : Int) - (c : Int) ≠ 0 := by omega
        have d1 : decide ((c : Int) ≥ (k : Int)) = false := by simp; omega
        have d2 : decide ((c : Int) < (k : Int)) = true := by simp; omega
        have d3 : decide (c < k) = true := by simp; omega
        have d4 : decide (k ≤ c) = false := by simp; omega
        by_cases hv0 : we ((k : Int) - (c : Int)) at' t = 0
        · have enl : nl ((k : Int) - (c : Int)) = (k : Int) - ((c + 1 : Nat) : Int) := by unfold nl; rw [if_neg (by omega)]; omega
          have enx : nx ⟨[], L, (k : Int) - (c : Int)⟩ at' t = ⟨[], L ++ [(at', t)], (k : Int) - ((c + 1 : Nat) : Int)⟩ := by unfold nx; rw [if_pos hv0]; simp only [enl]
          rw [enx] at hW
          have hW' : Calls Try.prog 22 #[.pointer (some ⟨p, 0, none⟩), .int .i64 at', .string t] (wr.alloc (.cells #[.int .i64 at', .string t] 49)) fun e w' => e = .returned (.int .i64 0) ∧ Wrote wl.heap.size (wr.alloc (.cells #[.int .i64 at', .string t] 49)) p ⟨[], L ++ [(at', t)], (k : Int) - ((c + 1 : Nat) : Int)⟩ b m xj w' := by rw [← hv0]; exact hW
          clear hW enx enl hne hv0
          go_wp2_with fail
          refine hW'.mono ?_
          rintro e w5 ⟨rfl, x5, hd5, hk5, _⟩
          have HD5 : Hid (Dk wl.heap.size w5 p ⟨[], L ++ [(at', t)], (k : Int) - ((c + 1 : Nat) : Int)⟩ b m x5) := hd5
          have HB5 : Hid (Below wl.heap.size wl w5) := belowK HBA.out hk5 (fun i hi => (HDA.out.inHeap i hi).2)
          clear hd5 hk5 hW'
          have hon := on_any wl.heap.size w5 p _ b m x5 HD5.out
          have hc1 : c + 1 ≤ k := by omega
          by_cases hc2 : c + 1 = k
          · rw [show decide ((St.mk [] (L ++ [(at', t)]) ((k : Int) - ((c + 1 : Nat) : Int))).left ≠ 0) = false from by simp; omega] at hon
            have d5 : decide ((c : Int) + 1 < (k : Int)) = false := by simp; omega
            have d6 : decide (((c + 1 : Nat) : Int) < (k : Int)) = false := by simp; omega
            go_wp2_with fail
            refine hon.mono ?_
            rintro e w6 ⟨rfl, rfl⟩
            clear hon
            go_wp2
            go_roundw
            case rel => exact ⟨j + 1, c + 1, by omega, hc1, by go_num, by go_num, ⟨_, x5, by simp [HL.out], HD5.out⟩, HB5.out⟩
            case measure => simp [intOf]; omega
          · rw [show decide ((St.mk [] (L ++ [(at', t)]) ((k : Int) - ((c + 1 : Nat) : Int))).left ≠ 0) = true from by simp; omega] at hon
            have d5 : decide ((c : Int) + 1 < (k : Int)) = true := by simp; omega
            have d6 : decide (((c + 1 : Nat) : Int) < (k : Int)) = true := by simp; omega
            go_wp2_with fail
            refine hon.mono ?_
            rintro e w6 ⟨rfl, rfl⟩
            clear hon
            go_wp2
            go_roundw
            case rel => exact ⟨j + 1, c + 1, by omega, hc1, by go_num, by go_num, ⟨_, x5, by simp [HL.out], HD5.out⟩, HB5.out⟩
            case measure => simp [intOf]; omega
        · have enx : nx ⟨[], L, (k : Int) - (c : Int)⟩ at' t = ⟨[], L, (k : Int) - (c : Int)⟩ := by unfold nx; rw [if_neg hv0]
          have hv11 : we ((k : Int) - (c : Int)) at' t ≠ 11 := by
            unfold we
            rw [if_neg hne]
            split
            · decide
            · split <;> decide
          rw [enx] at hW
          obtain ⟨v, ev⟩ : ∃ v, we ((k : Int) - (c : Int)) at' t = v := ⟨_, rfl⟩
          rw [ev] at hv0 hv11
          have hW' : Calls Try.prog 22 #[.pointer (some ⟨p, 0, none⟩), .int .i64 at', .string t] (wr.alloc (.cells #[.int .i64 at', .string t] 49)) fun e w' => e = .returned (.int .i64 v) ∧ Wrote wl.heap.size (wr.alloc (.cells #[.int .i64 at', .string t] 49)) p ⟨[], L, (k : Int) - (c : Int)⟩ b m xj w' := by rw [← ev]; exact hW
          have b0 : (v == 0) = false := by simpa using hv0
          have b11 : (v == 11) = false := by simpa using hv11
          clear hW enx ev
          go_wp2_with fail
          refine hW'.mono ?_
          rintro e w5 ⟨rfl, x5, hd5, hk5, _⟩
          have HD5 : Hid (Dk wl.heap.size w5 p ⟨[], L, (k : Int) - (c : Int)⟩ b m x5) := hd5
          have HB5 : Hid (Below wl.heap.size wl w5) := belowK HBA.out hk5 (fun i hi => (HDA.out.inHeap i hi).2)
          clear hd5 hk5 hW'
          have hon := on_any wl.heap.size w5 p _ b m x5 HD5.out
          rw [show decide ((St.mk [] L ((k : Int) - (c : Int))).left ≠ 0) = true from by simp; omega] at hon
          go_wp2_with fail
          refine hon.mono ?_
          rintro e w6 ⟨rfl, rfl⟩
          clear hon
          go_wp2
          go_roundw
          case rel => exact ⟨j + 1, c, by omega, hck, by go_num, rfl, ⟨L, x5, HL.out, HD5.out⟩, HB5.out⟩
          case measure => simp [intOf]; omega
    · have hjk' : decide ((j : Int) < (n : Int)) = false := by simp; omega
      have hwr := writes_any wl.heap.size wr p _ b m xj HDJ.out (by show L.length ≤ _; rw [HL.out]; omega)
      go_wp2_with fail
      refine hwr.mono ?_
      rintro e w5 ⟨v5, rfl, hr5, hb5⟩
      obtain ⟨a5, cap5, e5⟩ := row_spell hr5
      have e5' : v5 = .slice a5 L.length cap5 := e5
      rw [HL.out] at e5'
      subst e5'
      have HD5 : Hid (Dk wl.heap.size w5 p ⟨[], L, (k : Int) - (c : Int)⟩ b m xj) := HDJ.out.later hb5
      have HB5 : Hid (Below wl.heap.size wl w5) := thenB HBJ.out hb5
      have hrd := read_any wl.heap.size w5 p _ b m xj HD5.out 0 (by decide)
      obtain ⟨u, eu⟩ : ∃ u, rd (St.mk [] L ((k : Int) - (c : Int))) 0 = u := ⟨_, rfl⟩
      rw [eu] at hrd
      clear hr5 hb5 e5 hwr eu
      by_cases hc : c = k
      · have er : rf (St.mk [] L ((k : Int) - (c : Int))).left 0 = 11 := by simp [rf, hc]
        rw [er] at hrd
        have d2 : decide ((c : Int) < (k : Int)) = false := by simp; omega
        have d3 : decide (c < k) = false := by simp; omega
        clear er
        go_wp2_with fail
        refine hrd.mono ?_
        rintro e w6 ⟨rfl, rfl⟩
        clear hrd
        go_wp2_with fail
        refine (up_any wl.heap.size _ p _ b m xj HD5.out (-1) (by decide)).mono ?_
        rintro e w7 ⟨rfl, hd7, hk7⟩
        have HD7 : Hid (Dk wl.heap.size w7 p ⟨[], L, -1⟩ b m xj) := hd7
        have HB7 : Hid (Below wl.heap.size wl w7) := belowK HB5.out hk7 (fun i hi => (HD5.out.inHeap i hi).2)
        clear hd7 hk7
        have hon := on_any wl.heap.size w7 p _ b m xj HD7.out
        have hW := write_any wl.heap.size w7 p _ b m xj HD7.out 0 ⟨#[122]⟩ (by decide) (by decide) (by show L.length + 1 ≤ _; rw [HL.out]; omega) HB7.out.size
        rw [show we (St.mk [] L (-1)).left 0 ⟨#[122]⟩ = 0 from we_good (by show (-1 : Int) ≠ 0; decide) zz] at hW
        rw [show decide ((St.mk [] L (-1)).left ≠ 0) = true from rfl] at hon
        go_wp2_with fail
        refine hon.mono ?_
        rintro e w8 ⟨rfl, rfl⟩
        clear hon
        go_wp2_with fail
        refine hW.mono ?_
        rintro e w9 ⟨rfl, x9, hd9, hk9, _⟩
        have enx : nx (St.mk [] L (-1)) 0 ⟨#[122]⟩ = ⟨[], L ++ [(0, ⟨#[122]⟩)], -1⟩ := by unfold nx; rw [if_pos (we_good (by show (-1 : Int) ≠ 0; decide) zz)]; rfl
        rw [enx] at hd9
        have hon := on_any wl.heap.size w9 p _ b m x9 hd9
        rw [show decide ((St.mk [] (L ++ [(0, ⟨#[122]⟩)]) (-1)).left ≠ 0) = true from rfl] at hon
        have HB9 : Hid (Below wl.heap.size wl w9) := belowK HB7.out hk9 (fun i hi => (HD7.out.inHeap i hi).2)
        clear hd9 hk9 enx hW
        go_wp2_with fail
        refine hon.mono ?_
        rintro e w10 ⟨rfl, rfl⟩
        go_wp2
        go_ret
        exact ⟨rfl, thenB HBL.out HB9.out⟩
      · have er : rf (St.mk [] L ((k : Int) - (c : Int))).left 0 = 0 := by simp [rf]; omega
        rw [er] at hrd
        have d2 : decide ((c : Int) < (k : Int)) = true := by simp; omega
        have d3 : decide (c < k) = true := by simp; omega
        clear er
        go_wp2_with fail
        refine hrd.mono ?_
        rintro e w6 ⟨rfl, rfl⟩
        clear hrd
        go_wp2_with fail
        refine (up_any wl.heap.size _ p _ b m xj HD5.out (-1) (by decide)).mono ?_
        rintro e w7 ⟨rfl, hd7, hk7⟩
        have HD7 : Hid (Dk wl.heap.size w7 p ⟨[], L, -1⟩ b m xj) := hd7
        have HB7 : Hid (Below wl.heap.size wl w7) := belowK HB5.out hk7 (fun i hi => (HD5.out.inHeap i hi).2)
        clear hd7 hk7
        have hon := on_any wl.heap.size w7 p _ b m xj HD7.out
        have hW := write_any wl.heap.size w7 p _ b m xj HD7.out 0 ⟨#[122]⟩ (by decide) (by decide) (by show L.length + 1 ≤ _; rw [HL.out]; omega) HB7.out.size
        rw [show we (St.mk [] L (-1)).left 0 ⟨#[122]⟩ = 0 from we_good (by show (-1 : Int) ≠ 0; decide) zz] at hW
        rw [show decide ((St.mk [] L (-1)).left ≠ 0) = true from rfl] at hon
        go_wp2_with fail
        refine hon.mono ?_
        rintro e w8 ⟨rfl, rfl⟩
        clear hon
        go_wp2_with fail
        refine hW.mono ?_
        rintro e w9 ⟨rfl, x9, hd9, hk9, _⟩
        have enx : nx (St.mk [] L (-1)) 0 ⟨#[122]⟩ = ⟨[], L ++ [(0, ⟨#[122]⟩)], -1⟩ := by unfold nx; rw [if_pos (we_good (by show (-1 : Int) ≠ 0; decide) zz)]; rfl
        rw [enx] at hd9
        have hon := on_any wl.heap.size w9 p _ b m x9 hd9
        rw [show decide ((St.mk [] (L ++ [(0, ⟨#[122]⟩)]) (-1)).left ≠ 0) = true from rfl] at hon
        have HB9 : Hid (Below wl.heap.size wl w9) := belowK HB7.out hk9 (fun i hi => (HD7.out.inHeap i hi).2)
        clear hd9 hk9 enx hW
        go_wp2_with fail
        refine hon.mono ?_
        rintro e w10 ⟨rfl, rfl⟩
        go_wp2
        go_ret
        exact ⟨rfl, thenB HBL.out HB9.out⟩
theorem own : ownKnob Try.prog.godebug = none := by kernel_rfl
theorem laidOut : laidOutB Try.prog = true := by kernel_rfl
set_option maxRecDepth 100000 in
theorem lifted (os : Os) (started : os.Started) (H : Type) (enc : TypeId × Value → H) :
    ReturnsInHanded {} Try.checked os 5 .any (Rows.diskPowerSpec.pre6 enc Try.prog Try.f5 Rows.diskPowerRow.domain false) (Rows.diskPowerSpec.post enc Try.prog Try.f5 false true false false) := by
  refine returnsInHanded_of_change_sized (C := Try.checked) own started (by kernel_rfl) Try.func5
    (ChangeSpec.witness6 (enc := enc) (C := Try.checked) false ⟨#[], #[.slice none 0 0, .int .i64 0], []⟩ 8 (by kernel_rfl) (by kernel_rfl) (by kernel_rfl) (by kernel_rfl)) ?_
  intro W base args ds gs before hval0 hW hcnd hsz0 _
  have hsz : (DataW.weightsEach Try.prog (Try.f5.params.toList ++ Rows.diskPowerSpec.plain.varTypes Try.prog) (ds ++ gs)).all (· ≤ reachBytes) = true := hsz0
  clear hsz0
  have hval : ∀ (j : Nat) t v, Try.f5.params[j]? = some t → args[j]? = some v → Value.okWide Try.prog W .any base t v := hval0
  have hW' := hW
  obtain ⟨p, q, hA0, hV, rfl, hfz, hnd⟩ := hW
  have hA : DataW.TrodAll enc Try.prog W 0 (fun _ => true) true Try.f5.params.toList args.toList ds p := hA0
  rw [Try.params5] at hA hval hsz
  obtain ⟨v0, vs0, d0, ds0, p0, q0, hargs, rfl, rfl, h0, r0⟩ := trodAll_cons hA
  obtain ⟨v1, vs1, d1, ds1, p1, q1, rfl, rfl, rfl, h1, r1⟩ := trodAll_cons r0
  obtain ⟨rfl, rfl, rfl⟩ := trodAll_nil r1
  obtain rfl : args = #[v0, v1] := by cases args; simp_all
  obtain ⟨rfl, rfl⟩ := trodVars_none hV
  have k0 := h0
  have lt0 : ∀ x ∈ p0, x.block < W.heap.size := by obtain ⟨m, hm⟩ := k0; exact DataW.trod_lt m _ _ _ hm
  obtain ⟨a0, c0, l0, rfl, rd0, hl0, hn0, hg0⟩ := writes_of (fun es sp e => by subst e; have h := sized_slice hsz (j := 0) (t := 42) (e := 49) rfl rfl Try.underlying42; rw [bytesW] at h; exact h) (okWide_slice Try.underlying42 (hval 0 42 v0 rfl rfl)) h0
  obtain ⟨a1, rfl, rfl, rfl, w1⟩ := open_int Try.underlying3 (hval 1 3 v1 rfl rfl) h1
  clear hA0 hval0
  refine (walk a0 c0 l0 a1 W rd0 hl0 hn0 hg0 w1).mono fun e W' ⟨he, bel⟩ => ?_
  subst he
  exact ⟨_, rfl, _, _, _, [], _, [], hW', trodAll_mk1 (shut_bool Try.underlying4 _), (trodAll_cons_mk (Below.trod laidOut (by kernel_rfl) (of_decide_eq_true (by kernel_rfl)) k0 bel lt0) (trodAll_cons_mk (shut_int Try.underlying3 w1) trodAll_mk0)), rfl, bel.frame _, fun h => by cases h⟩
theorem over : Rows.diskPowerRow.holds Try.pinned (OpenSpec.ofChange Rows.diskPowerSpec) :=
  OpenClaim.holds_of_wide 5 Try.f5 rfl rfl rfl rfl rfl rfl rfl ⟨rfl, rfl, rfl, rfl, rfl⟩ rfl rfl rfl rfl rfl (by kernel_rfl) Try.func5 (by kernel_rfl)
    (of_decide_eq_true (by kernel_rfl)) (by unfold Func.isWrapper; first | (rw [if_pos (by decide +kernel)]; kernel_rfl) | (rw [if_neg (by decide +kernel)]; exact ⟨rfl, rfl⟩))
    (fun os started H enc _ => lifted os started H enc)
end Go.Proofs.Ytifjihdanbbhkaa.diskPower
namespace Go.Proofs.Ytifjihdanbbhkaa
theorem diskPower_holds : Rows.DiskPowerSaid := diskPower.over
#print axioms diskPower_holds
end Go.Proofs.Ytifjihdanbbhkaa
