/- MbG, MbH, MbI, MbJ, joined. -/
import Derived.Test.YtdghibimelhgjaaMbJ1
import Derived.Test.YtdghibimelhgjaaKeyJ
import Derived.Test.YtdghibimelhgjaaWiJ2
import Derived.LoopTactic
import Derived.Test.YtdghibimelhgjaaPlJ6
import Derived.Laws.BitsAllLaws
import Derived.Deep.RegionHeld3
/- Contracts: open (the first item that gives a node from another one). -/
namespace Go.Proofs.Ytdghibimelhgjaa.Mb
open Go.RowKit Go.Maps
open Rt (Ky zK gd gv Gd pcs KyAt)
open Wi (gR gE gW gS gI gB gK ldM stM rd_guard ra_of th_of ra_later RdV itl stl)
set_option linter.unusedVariables false
set_option linter.unusedSimpArgs false

def isI (i : Im) (v f : Int) : Bool := decide (i.1.1 = v) && decide (i.1.2 = f)
theorem fst_none {I : List Im} {v f : Int} (h : ∀ (j : Nat) (hj : j < I.length), isI I[j] v f = false) : fstI I v f = none := by
  unfold fstI
  rw [Option.map_eq_none_iff, List.find?_eq_none]
  intro x hx
  obtain ⟨j, hj, e⟩ := List.mem_iff_getElem.1 hx
  have := h j hj
  rw [e] at this
  unfold isI at this
  rw [this]
  decide
theorem fst_some {I : List Im} {v f : Int} {n : Nat} (hn : n < I.length) (h : ∀ (j : Nat) (hj : j < n), isI (I[j]'(by omega)) v f = false) (h2 : isI I[n] v f = true) : fstI I v f = some I[n].2 := by
  unfold fstI
  have : I.find? (fun i => decide (i.1.1 = v) && decide (i.1.2 = f)) = some I[n] := by
    rw [List.find?_eq_some_iff_getElem]
    refine ⟨h2, n, hn, rfl, fun j hj => ?_⟩
    have := h j hj
    unfold isI at this
    rw [this]
    rfl
  rw [this]
  rfl
def opP (I : List Im) (v f : Int) (k : Ky) : Int × Ky := match fstI I v f with
  | some b => if opn b k then (0, ldK b) else (5, zK)
  | none => (23, zK)
theorem op_some {I : List Im} {v f : Int} {k : Ky} {b : (Int × Int) × (Int × Int)} (h : fstI I v f = some b) : opP I v f k = if opn b k then (0, ldK b) else (5, zK) := by unfold opP; rw [h]
theorem op_none {I : List Im} {v f : Int} {k : Ky} (h : fstI I v f = none) : opP I v f k = (23, zK) := by unfold opP; rw [h]
theorem fo_op (I : List Im) (v below : Int) (old k : Ky) : foP I true v below old k = opP I v below k := by unfold foP opP; rw [if_pos rfl]; cases fstI I v below <;> rfl
theorem en_op (I : List Im) (v leaf below : Int) (lf k : Ky) : enP I v leaf below lf k = if (opP I v leaf lf).1 = 23 then opP I v below k else opP I v leaf lf := by
  unfold enP
  cases h : fstI I v leaf with
  | none => rw [op_none h]; rfl
  | some b =>
    rw [op_some h]
    dsimp only
    by_cases ho : opn b lf = true
    · rw [if_pos ho]; rfl
    · rw [if_neg ho]; rfl
theorem op_good {I : List Im} (hI : I.all gI = true) {v f : Int} {k : Ky} (h : (opP I v f k).1 = 0) : gk (opP I v f k).2 = true := by
  cases e : fstI I v f with
  | none => rw [op_none e] at h; cases h
  | some b =>
    rw [op_some e] at h ⊢
    by_cases ho : opn b k = true
    · rw [if_pos ho]; exact ld_good hI e
    · rw [if_neg ho] at h; cases h
def OpA (I : List Im) (v f : Int) (k : Ky) : Ending := .returned (.tuple #[.agg #[.int .i64 (opP I v f k).2.bas, .int .i64 (opP I v f k).2.stp], .int .i64 (opP I v f k).1])
theorem OpA.none {I : List Im} {v f : Int} {k : Ky} (h : fstI I v f = none) : Ending.returned (.tuple #[.agg #[.int .i64 zK.bas, .int .i64 zK.stp], .int .i64 23]) = OpA I v f k := by unfold OpA; rw [op_none h]
theorem OpA.off {I : List Im} {v f : Int} {k : Ky} {b : (Int × Int) × (Int × Int)} (h : fstI I v f = some b) (h2 : opn b k = false) : Ending.returned (.tuple #[.agg #[.int .i64 zK.bas, .int .i64 zK.stp], .int .i64 5]) = OpA I v f k := by unfold OpA; rw [op_some h, if_neg (by rw [h2]; decide)]
theorem OpA.yes {I : List Im} {v f : Int} {k : Ky} {b : (Int × Int) × (Int × Int)} (h : fstI I v f = some b) (h2 : opn b k = true) : Ending.returned (.tuple #[.agg #[.int .i64 (ldK b).bas, .int .i64 (ldK b).stp], .int .i64 0]) = OpA I v f k := by unfold OpA; rw [op_some h, if_pos h2]
structure SO (w W : World) (B K : Nat) (k : Ky) : Prop where
  ky : KyAt W B k
  re : KyAt W K zK
  bel : Below w.heap.size w W
  ge : w.heap.size ≤ K
theorem SO.later {w W W' : World} {B K : Nat} {k : Ky} (h : SO w W B K k) (hb : Below W.heap.size W W') : SO w W' B K k := ⟨h.ky.later hb, h.re.later hb, h.bel.trans (hb.mono h.bel.size), h.ge⟩
theorem SO.new (w : World) (k : Ky) : SO w ((w.alloc (.cells #[.int .i64 k.bas, .int .i64 k.stp] 23)).alloc (.cells #[.int .i64 0, .int .i64 0] 23)) w.heap.size (w.heap.size + 1) k := by
  have h2 := KyAt.new (w.alloc (.cells #[.int .i64 k.bas, .int .i64 k.stp] 23)) zK
  rw [World.size_alloc] at h2
  exact ⟨(KyAt.new w k).later (below_alloc _ _), h2, Wi.Below.plus (below_alloc _ _) _, by omega⟩
theorem gk_Gd {k : Ky} (h : gk k = true) : Gd k.bas k.stp := Rt.gd_iff.1 h
set_option maxRecDepth 100000 in
set_option maxHeartbeats 2000000 in
theorem open_any (a : Option Addr) (c : Nat) (I : List Im) (v f : Int) (k : Ky) (w : World) (rd : RdV itl 6 w a I) (hl : I.length < 4611686018427387904) (hI : I.all gI = true) (hk : gk k = true) :
    Calls Try.prog 45 #[.slice a I.length c, .int .i64 v, .int .i64 f, .agg #[.int .i64 k.bas, .int .i64 k.stp] ] w fun e w' => e = OpA I v f k ∧ Below w.heap.size w w' := by
  have hS := SO.new w k
  obtain ⟨n, hn⟩ : ∃ n, I.length = n := ⟨_, rfl⟩
  have HN : Hid (I.length = n) := hn
  rw [hn] at hl
  rw [hn]
  have HI : Hid (I.all gI = true) := hI
  have HGK : Hid (gk k = true) := hk
  clear hn hI hk
  go_enter Try.func45, Try.ntmps45
  go_upto_region 1 with (fail)
  generalize (w.alloc (.cells #[.int .i64 k.bas, .int .i64 k.stp] 23)).alloc (.cells #[.int .i64 0, .int .i64 0] 23) = w1 at *
  obtain ⟨K, hK⟩ : ∃ K, w.heap.size + 1 = K := ⟨_, rfl⟩
  obtain ⟨B, hB⟩ : ∃ B, w.heap.size = B := ⟨_, rfl⟩
  rw [hK, hB] at hS ⊢
  clear hK hB
  go_wp2_with fail
  go_loopw [14] (fun i wx => ∃ j : Nat, j ≤ n ∧ i = .int .i64 (j : Int) ∧ (∀ (q : Nat) (hq : q < I.length), q < j → isI I[q] v f = false) ∧ SO w wx B K k) (fun i _ => n - (intOf i).toNat)
  case atStart => exact ⟨0, by omega, rfl, fun q _ hq => by omega, hS⟩
  case round =>
    obtain ⟨j, hj, rfl, hno, hSr⟩ := hrel
    have HNO : Hid (∀ (q : Nat) (hq : q < I.length), q < j → isI I[q] v f = false) := hno
    clear hno hS
    by_cases hjn : j < n
    · have hjl : j < I.length := by rw [HN.out]; exact hjn
      obtain ⟨b, o, rfl, hr⟩ := rd j hjl
      have hr := ra_later hr hSr.bel
      unfold Wi.itl at hr
      have i1 : (0 : Int) ≤ (j : Int) := by omega
      have i2 : (j : Int) < (n : Int) := by omega
      have HGI := Wi.gI_iff.1 (List.all_eq_true.1 HI.out _ (List.getElem_mem hjl))
      have HIS : Hid (isI I[j] v f = (decide (I[j].1.1 = v) && decide (I[j].1.2 = f))) := rfl
      have HFS : Hid (isI I[j] v f = true → fstI I v f = some I[j].2) := fun h => fst_some hjl (fun q hq => HNO.out q (by omega) hq) h
      have HNX : Hid (isI I[j] v f = false → ∀ (q : Nat) (hq : q < I.length), q < j + 1 → isI I[q] v f = false) := fun h q hq hq2 => by
        rcases Nat.lt_or_ge q j with h1 | h1
        · exact HNO.out q hq h1
        · obtain rfl : q = j := by omega
          exact h
      obtain ⟨_, _, g1, g2⟩ := HGI
      have HG : Hid (gK I[j].2.1 = true ∧ gK I[j].2.2 = true) := ⟨g1, g2⟩
      clear g1 g2
      generalize I[j] = p at *
      obtain ⟨⟨p1, p2⟩, ⟨⟨p3, p4⟩, p5, p6⟩⟩ := p
      dsimp only at hr HIS HFS HG
      have hS2 := hSr.later (below_alloc wr (.cells #[.int .i64 p1, .int .i64 p2, .int .i64 p3, .int .i64 p4, .int .i64 p5, .int .i64 p6] 97))
      by_cases h1 : p1 = v
      · have d1 : (p1 == v) = true := by simpa using h1
        by_cases h2 : p2 = f
        · have d2 : (p2 == f) = true := by simpa using h2
          have HF : Hid (fstI I v f = some ((p3, p4), (p5, p6))) := HFS.out (by rw [HIS.out, decide_eq_true h1, decide_eq_true h2]; rfl)
          obtain ⟨kb, ks⟩ := k
          cases hgv : gv kb ks p3 p4 with
          | true =>
            have hop := Rt.open_yes p3 p4 p5 p6 kb ks (Rt.gd_iff.1 HG.out.1) (Rt.gd_iff.1 HG.out.2) (Rt.gd_iff.1 HGK.out) hgv
            have HA : Hid _ := OpA.yes HF.out (k := ⟨kb, ks⟩) hgv
            clear h1 h2 hgv HFS HIS HNX
            obtain ⟨k0, k1⟩ := hS2.ky.cells
            go_wp2_with (refine ldM hr Try.underlying97 rfl Wi.szItem _ rfl rfl rfl ?_)
            refine (hop _).mono ?_
            rintro r w2 ⟨rfl, hb2⟩
            have hS3 := hS2.later hb2
            have hre := hS3.re
            clear hb2 hop hS2 hSr hr k0 k1
            go_wp2_with (refine stKy hre ⟨p5, p6⟩ rfl _ _ rfl rfl rfl ?_)
            refine bodyPost_ret (results_ky2 (p := 8) (t := 9) rfl _ _ K ⟨p5, p6⟩ rfl (KyAt.row hre ⟨p5, p6⟩)) rfl ?_
            exact ⟨HA.out, Rt.setRow_below hS3.ge hS3.bel _⟩
          | false =>
            have hop := Rt.open_off p3 p4 p5 p6 kb ks (Rt.gd_iff.1 HG.out.1) (Rt.gd_iff.1 HG.out.2) (Rt.gd_iff.1 HGK.out) hgv
            have HA : Hid _ := OpA.off HF.out (k := ⟨kb, ks⟩) hgv
            clear h1 h2 hgv HFS HIS HNX
            obtain ⟨k0, k1⟩ := hS2.ky.cells
            go_wp2_with (refine ldM hr Try.underlying97 rfl Wi.szItem _ rfl rfl rfl ?_)
            refine (hop _).mono ?_
            rintro r w2 ⟨rfl, hb2⟩
            have hS3 := hS2.later hb2
            have hre := hS3.re
            clear hb2 hop hS2 hSr hr k0 k1
            go_wp2_with (refine stKy hre zK rfl _ _ rfl rfl rfl ?_)
            refine bodyPost_ret (results_ky2 (p := 8) (t := 9) rfl _ _ K zK rfl (KyAt.row hre _)) rfl ?_
            exact ⟨HA.out, Rt.setRow_below hS3.ge hS3.bel _⟩
        · have d2 : (p2 == f) = false := by simpa using h2
          have HX := HNX.out (by rw [HIS.out, decide_eq_false h2, Bool.and_false])
          have HXX : Hid (∀ (q : Nat) (hq : q < I.length), q < j + 1 → isI I[q] v f = false) := HX
          clear h1 h2 HX HFS HNX HIS
          go_wp2_with (refine ldM hr Try.underlying97 rfl Wi.szItem _ rfl rfl rfl ?_)
          go_roundw
          case rel => exact ⟨j + 1, by omega, by go_num, HXX.out, hS2⟩
          case measure => simp [intOf]; omega
      · have d1 : (p1 == v) = false := by simpa using h1
        have HX := HNX.out (by rw [HIS.out, decide_eq_false h1, Bool.false_and])
        have HXX : Hid (∀ (q : Nat) (hq : q < I.length), q < j + 1 → isI I[q] v f = false) := HX
        clear h1 HX HFS HNX HIS
        go_wp2_with (refine ldM hr Try.underlying97 rfl Wi.szItem _ rfl rfl rfl ?_)
        go_roundw
        case rel => exact ⟨j + 1, by omega, by go_num, HXX.out, hS2⟩
        case measure => simp [intOf]; omega
    · have hjn' : decide ((j : Int) < (n : Int)) = false := by simp; omega
      have HA : Hid _ := OpA.none (k := k) (fst_none fun q hq => HNO.out q hq (by have := HN.out; omega))
      have hre := hSr.re
      go_wp2_with (refine stKy hre zK rfl _ _ rfl rfl rfl ?_)
      refine bodyPost_ret (results_ky2 (p := 8) (t := 9) rfl _ _ K zK rfl (KyAt.row hre _)) rfl ?_
      exact ⟨HA.out, Rt.setRow_below hSr.ge hSr.bel _⟩
end Go.Proofs.Ytdghibimelhgjaa.Mb
/- Contracts: replacedBy; the two closures that find a path's key. -/
namespace Go.Proofs.Ytdghibimelhgjaa.Mb
open Go.RowKit Go.Maps
open Rt (Ky zK gd gv Gd pcs KyAt)
open Rs (sl put)
open Sh (msk lef abvTo)
open Wi (gR gE gW gS gI gB gK ldM stM rd_guard ra_of th_of ra_later RdV itl stl)
set_option linter.unusedVariables false
set_option linter.unusedSimpArgs false

theorem msk_leaf : ∀ k : Fin 64, msk (21 + (k.val : Int)) = ((2 ^ k.val : Nat) : Int) := by decide +kernel
theorem or_step (s : Nat) (hs : s < 18446744073709551616) (y x : Int) : bits .or .u64 (s : Int) (msk (lef x)) = ((sw1 s (y, x) : Nat) : Int) := by
  unfold sw1
  dsimp only
  cases h : sl x with
  | false =>
    rw [Sh.lef_no (Rs.sl_not h), Sh.msk_no (by omega), if_neg (by decide)]
    have := u64_or_nat s 0 hs (by omega)
    rw [Nat.or_zero] at this
    exact this
  | true =>
    obtain ⟨k, hk, h2⟩ := Rs.sl_nat h
    rw [hk, Sh.lef_yes (by omega) (by omega), msk_leaf ⟨k, h2⟩, if_pos rfl, Int.toNat_natCast]
    have hp : (2 : Nat) ^ k < 18446744073709551616 := Nat.pow_lt_pow_right (by omega) (show k < 64 from h2)
    exact u64_or_nat s (2 ^ k) hs hp
set_option maxRecDepth 100000 in
set_option maxHeartbeats 1000000 in
theorem replacedBy_any (a : Option Addr) (c : Nat) (L : List (Int × Int)) (w : World) (rd : RdV stl 2 w a L) (hl : L.length < 4611686018427387904) :
    Calls Try.prog 77 #[.slice a L.length c] w fun e w' => e = .returned (.int .u32 ((rp L : Nat) : Int)) ∧ Below w.heap.size w w' := by
  obtain ⟨n, hn⟩ : ∃ n, L.length = n := ⟨_, rfl⟩
  have HN : Hid (L.length = n) := hn
  rw [hn] at hl
  rw [hn]
  clear hn
  have HE : Hid (abvTo ((sw L : Nat) : Int) 21 = ((rp L : Nat) : Int)) := abv_rp L
  go_enter Try.func77, Try.ntmps77
  go_wp2_with fail
  go_loopw [3, 8] (fun s i wx => ∃ j : Nat, j ≤ n ∧ i = .int .i64 (j : Int) ∧ s = .int .u64 ((sw (L.take j) : Nat) : Int) ∧ Below w.heap.size w wx) (fun _ i _ => n - (intOf i).toNat)
  case atStart => exact ⟨0, by omega, rfl, rfl, Below.refl _ _⟩
  case round =>
    obtain ⟨j, hj, rfl, rfl, hb⟩ := hrel
    have HB : Hid (Below w.heap.size w wr) := hb
    clear hb
    by_cases hjn : j < n
    · have hjl : j < L.length := by rw [HN.out]; exact hjn
      obtain ⟨b, o, rfl, hr⟩ := rd j hjl
      have hr := ra_later hr HB.out
      unfold Wi.stl at hr
      have i1 : (0 : Int) ≤ (j : Int) := by omega
      have i2 : (j : Int) < (n : Int) := by omega
      have HT : Hid (sw (L.take (j + 1)) = sw1 (sw (L.take j)) L[j]) := by unfold Hid; rw [List.take_succ_eq_append_getElem hjl, sw_snoc]
      have hlt := sw_lt (L.take j)
      generalize L[j] = p at *
      obtain ⟨y, x⟩ := p
      dsimp only at hr
      have hor := or_step (sw (L.take j)) hlt y x
      obtain ⟨s, hs⟩ : ∃ s, sw (L.take j) = s := ⟨_, rfl⟩
      rw [hs] at hor HT ⊢
      have h1 := Sh.leaf_any x
      have h2 := Sh.mask_any (lef x)
      obtain ⟨v, hv⟩ : ∃ v, lef x = v := ⟨_, rfl⟩
      rw [hv] at hor h1 h2
      obtain ⟨u, hu⟩ : ∃ u, msk v = u := ⟨_, rfl⟩
      rw [hu] at hor h2
      have HB2 : Hid (Below w.heap.size w (wr.alloc (.cells #[.int .i64 y, .int .i64 x] 86))) := Wi.Below.plus HB.out _
      obtain ⟨q, hq⟩ : ∃ q, sw1 s (y, x) = q := ⟨_, rfl⟩
      rw [hq] at hor HT
      clear hs hv hu hlt hq
      go_wp2_with (first | (refine ldM hr Try.underlying86 rfl Wi.szSeat _ rfl rfl rfl ?_) | (go_at_call 46; refine (h1 _).mono ?_; rintro r w' ⟨rfl, rfl⟩) | (go_at_call 87; refine (h2 _).mono ?_; rintro r w' ⟨rfl, rfl⟩))
      go_roundw
      case rel => exact ⟨j + 1, by omega, by go_num, by rw [HT.out], HB2.out⟩
      case measure => simp [intOf]; omega
    · have hjn' : decide ((j : Int) < (n : Int)) = false := by simp; omega
      have e1 : L.take j = L := by rw [List.take_of_length_le]; have := HN.out; omega
      rw [e1]
      have hsl := sw_lt L
      have h3 := Sh.above_any ((sw L : Nat) : Int) (by omega) (by omega)
      rw [HE.out] at h3
      clear e1 hsl
      go_wp2_with (go_at_call 88; refine (h3 _).mono ?_; rintro r w' ⟨rfl, rfl⟩)
      go_ret
      exact ⟨rfl, HB.out⟩
/- What the closures read: the message and the state, boxed. -/
def RK (w : World) (B : Nat) (r : Rk) (aL aJ aI : Option Addr) (cL cJ cI : Nat) : Prop := w.heap[B]? = some (.cells #[.int .i64 r.1, .slice aL r.2.1.length cL, .slice aJ r.2.2.1.length cJ, .slice aI r.2.2.2.length cI] 42 (0, 0))
section
variable {w w' W W' : World} {B D C : Nat} {r : Rk} {aL aJ aI : Option Addr} {cL cJ cI : Nat} {m : Mb}
theorem RK.later (h : RK w B r aL aJ aI cL cJ cI) (hb : Below w.heap.size w w') : RK w' B r aL aJ aI cL cJ cI := row_later h hb
theorem RK.cells (h : RK w B r aL aJ aI cL cJ cI) : w.cell? ⟨B, 0, none⟩ = some (.int .i64 r.1) ∧ w.cell? ⟨B, 1, none⟩ = some (.slice aL r.2.1.length cL) ∧ w.cell? ⟨B, 2, none⟩ = some (.slice aJ r.2.2.1.length cJ) ∧ w.cell? ⟨B, 3, none⟩ = some (.slice aI r.2.2.2.length cI) :=
  ⟨cell_of_row w B 0 _ _ _ h, cell_of_row w B 1 _ _ _ h, cell_of_row w B 2 _ _ _ h, cell_of_row w B 3 _ _ _ h⟩
/- The lists of a message can be read. -/
structure RL (w : World) (r : Rk) (aL aJ aI : Option Addr) : Prop where
  l : RdV stl 2 w aL r.2.1
  j : RdV stl 2 w aJ r.2.2.1
  i : RdV itl 6 w aI r.2.2.2
theorem RL.later (h : RL w r aL aJ aI) (hb : Below w.heap.size w w') : RL w' r aL aJ aI := ⟨h.l.later hb, h.j.later hb, h.i.later hb⟩
/- Both boxed, the lists there. -/
structure CV (w : World) (D B : Nat) (r : Rk) (aL aJ aI : Option Addr) (cL cJ cI : Nat) (m : Mb) : Prop where
  rk : RK w D r aL aJ aI cL cJ cI
  mb : MA w B m
  rd : RL w r aL aJ aI
theorem CV.later (h : CV w D B r aL aJ aI cL cJ cI m) (hb : Below w.heap.size w w') : CV w' D B r aL aJ aI cL cJ cI m := ⟨h.rk.later hb, h.mb.later hb, h.rd.later hb⟩
end
theorem gR_len {r : Rk} (h : gR r = true) : r.2.1.length ≤ 64 ∧ r.2.2.1.length ≤ 64 ∧ r.2.2.2.length ≤ 1536 := by
  unfold Wi.gR at h
  simp only [Bool.and_eq_true, decide_eq_true_eq] at h
  exact ⟨h.2.1.1, h.2.2.1.1, h.2.2.2.1⟩
end Go.Proofs.Ytdghibimelhgjaa.Mb
/- Contracts: the two closures that find a path's key. -/
namespace Go.Proofs.Ytdghibimelhgjaa.Mb
open Go.RowKit Go.Maps
open Rt (Ky zK gd gv Gd pcs KyAt)
open Rs (sl put)
open Sh (msk lef abvTo)
open Wi (gR gE gW gS gI gB gK ldM stM rd_guard ra_of th_of ra_later RdV itl stl)
set_option linter.unusedVariables false
set_option linter.unusedSimpArgs false

def KyR (x : Int × Ky) : Ending := .returned (.tuple #[.agg #[.int .i64 x.2.bas, .int .i64 x.2.stp], .int .i64 x.1])
theorem OpA_R (I : List Im) (v f : Int) (k : Ky) : OpA I v f k = KyR (opP I v f k) := rfl
def pth (m : Mb) (i : Nat) : Ky := if i = 0 then m.p0 else if i = 1 then m.p1 else m.p2
theorem MA.at {w : World} {B : Nat} {m : Mb} (h : MA w B m) (i : Nat) (hi : i < 3) : w.cell? ⟨B, 5 + i * 2, none⟩ = some (.int .i64 (pth m i).bas) ∧ w.cell? ⟨B, 5 + i * 2 + 1, none⟩ = some (.int .i64 (pth m i).stp) := by
  obtain ⟨h0, h1, h2⟩ := h.key
  match i, hi with
  | 0, _ => exact h0
  | 1, _ => exact h1
  | 2, _ => exact h2
structure CR (w W : World) (A K : Nat) (k : Ky) : Prop where
  ky : KyAt W A k
  re : KyAt W K zK
  bel : Below w.heap.size w W
  ge : w.heap.size ≤ K
theorem CR.later {w W W' : World} {A K : Nat} {k : Ky} (h : CR w W A K k) (hb : Below W.heap.size W W') : CR w W' A K k := ⟨h.ky.later hb, h.re.later hb, h.bel.trans (hb.mono h.bel.size), h.ge⟩
theorem CR.new (w : World) (k : Ky) : CR w ((w.alloc (.cells #[.int .i64 k.bas, .int .i64 k.stp] 23)).alloc (.cells #[.int .i64 0, .int .i64 0] 23)) w.heap.size (w.heap.size + 1) k := by
  have h := SO.new w k
  exact ⟨h.ky, h.re, h.bel, h.ge⟩
theorem fo_no {I : List Im} {v below : Int} {old k : Ky} : foP I false v below old k = if advB old then (0, adv old) else (4, zK) := by unfold foP; rw [if_neg (by decide)]
set_option maxRecDepth 100000 in
set_option maxHeartbeats 2000000 in
theorem follow1_any (i : Nat) (hi : i < 3) (v : Nat) (hv : v < 21) (below : Int) (k : Ky) (hk : gk k = true) (w : World) (X D B : Nat) {r : Rk} {aL aJ aI : Option Addr} {cL cJ cI : Nat} {m : Mb} (hC : CV w D B r aL aJ aI cL cJ cI m) (hg : gR r = true) (hp : gk (pth m i) = true)
    (hX : w.cell? ⟨X, 0, none⟩ = some (.int .u32 ((rp r.2.1 : Nat) : Int))) :
    Calls Try.prog 78 #[.int .i64 (i : Int), .int .i64 (v : Int), .int .i64 below, .agg #[.int .i64 k.bas, .int .i64 k.stp], .pointer (some ⟨X, 0, none⟩), .pointer (some ⟨D, 0, none⟩), .pointer (some ⟨B, 0, none⟩)] w fun e w' => e = KyR (foP r.2.2.2 (rpl r.2.1 v) (v : Int) below (pth m i) k) ∧ Below w.heap.size w w' := by
  have hS := CR.new w k
  have hb0 : Below w.heap.size w ((w.alloc (.cells #[.int .i64 k.bas, .int .i64 k.stp] 23)).alloc (.cells #[.int .i64 0, .int .i64 0] 23)) := Wi.Below.plus (below_alloc _ _) _
  have hC1 := hC.later hb0
  have hX1 := Rs.cell_later hb0 hX
  have HL := gR_len hg
  have HI := gR_items hg
  have hop := fun W (hW : RL W r aL aJ aI) => open_any aI cI r.2.2.2 (v : Int) below k W hW.i (by omega) HI hk
  simp only [OpA_R] at hop
  have hand := Rt.and1 (rp r.2.1) v (by have := rp_lt r.2.1; omega)
  rw [rp_bit _ hv] at hand
  have v1 : IntKind.u64.wrap (v : Int) = (v : Int) := Rs.u64_fit _ (by omega) (by omega)
  have v0 : (0 : Int) ≤ (v : Int) := by omega
  clear hb0 hC hX HL HI hg hk
  obtain ⟨b, hb⟩ : ∃ b, rpl r.2.1 v = b := ⟨_, rfl⟩
  rw [hb] at hand
  rw [hb]
  clear hb
  go_enter Try.func78, Try.ntmps78
  go_upto_region 1 with (fail)
  generalize (w.alloc (.cells #[.int .i64 k.bas, .int .i64 k.stp] 23)).alloc (.cells #[.int .i64 0, .int .i64 0] 23) = w1 at *
  obtain ⟨K, hK⟩ : ∃ K, w.heap.size + 1 = K := ⟨_, rfl⟩
  obtain ⟨A, hA⟩ : ∃ B, w.heap.size = B := ⟨_, rfl⟩
  rw [hK, hA] at hS ⊢
  clear hK hA
  cases b with
  | true =>
    have HE : Hid (foP r.2.2.2 true (v : Int) below (pth m i) k = opP r.2.2.2 (v : Int) below k) := fo_op _ _ _ _ _
    obtain ⟨_, _, _, c3⟩ := hC1.rk.cells
    obtain ⟨k0, k1⟩ := hS.ky.cells
    have ho := hop w1 hC1.rd
    obtain ⟨x, hx⟩ : ∃ x, opP r.2.2.2 (v : Int) below k = x := ⟨_, rfl⟩
    rw [hx] at HE ho
    unfold KyR at ho
    clear hx hop
    go_wp2_with fail
    refine ho.mono ?_
    rintro e w2 ⟨rfl, hb2⟩
    have hS2 := hS.later hb2
    have hre := hS2.re
    clear ho hb2 hC1 hX1 hS c3 k0 k1
    go_wp2_with (refine stKy hre x.2 rfl _ _ rfl rfl rfl ?_)
    refine bodyPost_ret (results_ky2 (p := 11) (t := 12) rfl _ _ K x.2 rfl (KyAt.row hre x.2)) rfl ?_
    exact ⟨by rw [HE.out]; rfl, Rt.setRow_below hS2.ge hS2.bel _⟩
  | false =>
    have i0 : (0 : Int) ≤ (i : Int) := by omega
    have i1 : (i : Int) < 3 := by omega
    obtain ⟨c0, c1⟩ := hC1.mb.at i hi
    obtain ⟨y, hy⟩ : ∃ y, pth m i = y := ⟨_, rfl⟩
    rw [hy] at c0 c1 hp
    have HY : Hid (pth m i = y) := hy
    clear hy hop
    by_cases hs : y.stp < 255
    · have hah := Rt.ahead_yes y.bas y.stp 1 (gk_Gd hp) (by omega) (by omega)
      have HE : Hid (foP r.2.2.2 false (v : Int) below (pth m i) k = (0, adv y)) := by unfold Hid; rw [fo_no, HY.out, if_pos (by unfold advB; rw [hp, decide_eq_true hs]; rfl)]
      clear hs
      go_wp2_with fail
      refine (hah _).mono ?_
      rintro e w2 ⟨rfl, hb2⟩
      have hS2 := hS.later hb2
      have hre := hS2.re
      clear hah hb2 hC1 hX1 hS c0 c1
      go_wp2_with (refine stKy hre (adv y) rfl _ _ rfl rfl rfl ?_)
      refine bodyPost_ret (results_ky2 (p := 11) (t := 12) rfl _ _ K (adv y) rfl (KyAt.row hre (adv y))) rfl ?_
      exact ⟨by rw [HE.out]; rfl, Rt.setRow_below hS2.ge hS2.bel _⟩
    · have hah := Rt.ahead_far y.bas y.stp 1 (gk_Gd hp) (.inr (by omega))
      have HE : Hid (foP r.2.2.2 false (v : Int) below (pth m i) k = (4, zK)) := by unfold Hid; rw [fo_no, HY.out, if_neg (by unfold advB; rw [decide_eq_false hs]; simp)]
      clear hs
      go_wp2_with fail
      refine (hah _).mono ?_
      rintro e w2 ⟨rfl, hb2⟩
      have hS2 := hS.later hb2
      have hre := hS2.re
      clear hah hb2 hC1 hX1 hS c0 c1
      go_wp2_with (refine stKy hre zK rfl _ _ rfl rfl rfl ?_)
      refine bodyPost_ret (results_ky2 (p := 11) (t := 12) rfl _ _ K zK rfl (KyAt.row hre zK)) rfl ?_
      exact ⟨by rw [HE.out]; rfl, Rt.setRow_below hS2.ge hS2.bel _⟩
end Go.Proofs.Ytdghibimelhgjaa.Mb
/- Contract: the closure that finds an entry's key. -/
namespace Go.Proofs.Ytdghibimelhgjaa.Mb
open Go.RowKit Go.Maps
open Rt (Ky zK gd gv Gd pcs KyAt)
open Sh (msk lef abvTo)
open Wi (gR gE gW gS gI gB gK ldM stM rd_guard ra_of th_of ra_later RdV itl stl)
set_option linter.unusedVariables false
set_option linter.unusedSimpArgs false

structure EN (w W : World) (A K D B : Nat) (k : Ky) (r : Rk) (aL aJ aI : Option Addr) (cL cJ cI : Nat) (m : Mb) : Prop where
  c : CR w W A K k
  v : CV W D B r aL aJ aI cL cJ cI m
theorem EN.later {w W W' : World} {A K D B : Nat} {k : Ky} {r : Rk} {aL aJ aI : Option Addr} {cL cJ cI : Nat} {m : Mb} (h : EN w W A K D B k r aL aJ aI cL cJ cI m) (hb : Below W.heap.size W W') : EN w W' A K D B k r aL aJ aI cL cJ cI m := ⟨h.c.later hb, h.v.later hb⟩
theorem rd_set {α : Type} {f : α → List Value} {n : Nat} {w : World} {a : Option Addr} {l : List α} (h : RdV f n w a l) {A : Nat} (hA : ∀ b o, a = some ⟨b, o, none⟩ → b ≠ A) (k : Nat) (v : Value) : RdV f n (w.setCell ⟨A, k, none⟩ v) a l := fun i hi => by
  obtain ⟨b, o, e, r⟩ := h i hi
  refine ⟨b, o, e, fun j u hu => ?_⟩
  have := r j u hu
  rw [← this]
  have hb := hA b o e
  simp only [World.cell?, World.setCell, Array.getElem?_modify]
  rw [if_neg (fun e => hb e.symm)]
theorem below_set {W : World} {A n : Nat} (hA : n ≤ A) (k : Nat) (v : Value) : Below n W (W.setCell ⟨A, k, none⟩ v) := (Below.refl n W).setCell (p := ⟨A, k, none⟩) hA v
/- What lies below n stays, whatever is written from n on. -/
structure EB (w0 w W : World) (A K D B : Nat) (k : Ky) (r : Rk) (aL aJ aI : Option Addr) (cL cJ cI : Nat) (m : Mb) : Prop where
  e : EN w w0 A K D B k r aL aJ aI cL cJ cI m
  b : Below w0.heap.size w0 W
theorem EB.en {w0 w W : World} {A K D B : Nat} {k : Ky} {r : Rk} {aL aJ aI : Option Addr} {cL cJ cI : Nat} {m : Mb} (h : EB w0 w W A K D B k r aL aJ aI cL cJ cI m) : EN w W A K D B k r aL aJ aI cL cJ cI m := h.e.later h.b
theorem EB.later {w0 w W W' : World} {A K D B : Nat} {k : Ky} {r : Rk} {aL aJ aI : Option Addr} {cL cJ cI : Nat} {m : Mb} (h : EB w0 w W A K D B k r aL aJ aI cL cJ cI m) (hb : Below W.heap.size W W') : EB w0 w W' A K D B k r aL aJ aI cL cJ cI m := ⟨h.e, h.b.trans (hb.mono h.b.size)⟩
theorem EB.two {w0 w W : World} {A K D B : Nat} {k : Ky} {r : Rk} {aL aJ aI : Option Addr} {cL cJ cI : Nat} {m : Mb} (h : EB w0 w W A K D B k r aL aJ aI cL cJ cI m) {Z : Nat} (hZ : w0.heap.size ≤ Z) (x y : Int) : EB w0 w ((W.setCell ⟨Z, 0, none⟩ (.int .i64 x)).setCell ⟨Z, 1, none⟩ (.int .i64 y)) A K D B k r aL aJ aI cL cJ cI m :=
  ⟨h.e, Rt.set2_below h.b hZ _ _ _ _⟩
set_option maxRecDepth 100000 in
set_option maxHeartbeats 2000000 in
theorem enter1_any (i : Int) (v below : Int) (k : Ky) (hk : gk k = true) (w : World) (D B : Nat) {r : Rk} {aL aJ aI : Option Addr} {cL cJ cI : Nat} {m : Mb} (hC : CV w D B r aL aJ aI cL cJ cI m) (hg : gR r = true) (hlf : gk m.lf = true) (hs0 : 0 ≤ m.slt) (hs1 : m.slt < 64) :
    Calls Try.prog 44 #[.int .i64 i, .int .i64 v, .int .i64 below, .agg #[.int .i64 k.bas, .int .i64 k.stp], .pointer (some ⟨D, 0, none⟩), .pointer (some ⟨B, 0, none⟩)] w fun e w' => e = KyR (enP r.2.2.2 v (21 + m.slt) below m.lf k) ∧ Below w.heap.size w w' := by
  have hS := CR.new w k
  have hb0 : Below w.heap.size w ((w.alloc (.cells #[.int .i64 k.bas, .int .i64 k.stp] 23)).alloc (.cells #[.int .i64 0, .int .i64 0] 23)) := Wi.Below.plus (below_alloc _ _) _
  have hC1 := hC.later hb0
  have HL := gR_len hg
  have HI := gR_items hg
  have hop := fun W (hW : RL W r aL aJ aI) => open_any aI cI r.2.2.2 v (21 + m.slt) m.lf W hW.i (by omega) HI hlf
  have hop2 := fun W (hW : RL W r aL aJ aI) => open_any aI cI r.2.2.2 v below k W hW.i (by omega) HI hk
  simp only [OpA_R] at hop hop2
  have HE : Hid (enP r.2.2.2 v (21 + m.slt) below m.lf k = if (opP r.2.2.2 v (21 + m.slt) m.lf).1 = 23 then opP r.2.2.2 v below k else opP r.2.2.2 v (21 + m.slt) m.lf) := en_op _ _ _ _ _ _
  obtain ⟨x, hx⟩ : ∃ x, opP r.2.2.2 v (21 + m.slt) m.lf = x := ⟨_, rfl⟩
  obtain ⟨y, hy⟩ : ∃ x, opP r.2.2.2 v below k = x := ⟨_, rfl⟩
  simp only [hx] at hop
  simp only [hy] at hop2
  rw [hx, hy] at HE
  unfold KyR at hop hop2
  have hl := Sh.leaf_any m.slt
  rw [Sh.lef_yes hs0 hs1] at hl
  obtain ⟨q, hq⟩ : ∃ q, 21 + m.slt = q := ⟨_, rfl⟩
  rw [hq] at hl HE
  rw [hq]
  simp only [hq] at hop
  clear hb0 hC HL HI hg hk hlf hs0 hs1 hq hx hy
  go_enter Try.func44, Try.ntmps44
  go_upto_region 1 with (fail)
  generalize (w.alloc (.cells #[.int .i64 k.bas, .int .i64 k.stp] 23)).alloc (.cells #[.int .i64 0, .int .i64 0] 23) = w1 at *
  obtain ⟨K, hK⟩ : ∃ K, w.heap.size + 1 = K := ⟨_, rfl⟩
  obtain ⟨A, hA⟩ : ∃ B, w.heap.size = B := ⟨_, rfl⟩
  rw [hK, hA] at hS ⊢
  clear hK hA
  go_cut [12, 13] (fun s12 s13 wx => ∃ Z, s12 = .pointer (some ⟨Z, 0, none⟩) ∧ s13 = .int .i64 x.1 ∧ EB w1 w wx A K D B k r aL aJ aI cL cJ cI m ∧ KyAt wx Z x.2)
  case first =>
    have hS0 : EB w1 w w1.drew A K D B k r aL aJ aI cL cJ cI m := ⟨⟨hS, hC1⟩, drew_below _⟩
    have HZ : Hid (w1.heap.size ≤ w1.drew.heap.size) := Nat.le_refl _
    clear hS hC1 hop2 HE
    refine wp_region_held_drew (S := fun W => EB w1 w W A K D B k r aL aJ aI cL cJ cI m) (by kernel_rfl) hS0 (fun hHeld => ?_)
    clear hS0
    generalize w1.drew = wd at *
    refine wpAnyH_take (i := 0) (oi := { dst := some 15, op := Op.fieldAddr 42 (Operand.tmp 4) 3, type := _, pos := _, after := _, guard := none }) (v := .pointer (some ⟨D, 3, none⟩)) rfl (by kernel_rfl) (by kernel_rfl) (by kernel_rfl) (fun _ _ _ h => h) (Or.inl ⟨by rfl, fun w hSw => by (try dsimp only at hSw); go_simp⟩) (by assumption) ?_
    simp only [Act.put, List.setIfInBounds_toArray, List.set_cons_zero, List.set_cons_succ]
    refine wpAnyH_take (i := 1) (oi := { dst := some 16, op := Op.load 40 (Operand.tmp 15), type := _, pos := _, after := _, guard := none }) (v := .slice aI r.2.2.2.length cI) rfl (by kernel_rfl) (by kernel_rfl) (by kernel_rfl) (fun _ _ _ h => h) (Or.inl ⟨by rfl, fun w hSw => by obtain ⟨_, _, _, c3⟩ := hSw.en.v.rk.cells; clear hSw; go_simp⟩) (by assumption) ?_
    simp only [Act.put, List.setIfInBounds_toArray, List.set_cons_zero, List.set_cons_succ]
    refine wpAnyH_take (i := 2) (oi := { dst := some 17, op := Op.move (Operand.tmp 1), type := _, pos := _, after := _, guard := none }) (v := .int .i64 v) rfl (by kernel_rfl) (by kernel_rfl) (by kernel_rfl) (fun _ _ _ h => h) (Or.inl ⟨by rfl, fun w hSw => by (try dsimp only at hSw); go_simp⟩) (by assumption) ?_
    simp only [Act.put, List.setIfInBounds_toArray, List.set_cons_zero, List.set_cons_succ]
    refine wpAnyH_take (i := 3) (oi := { dst := some 18, op := Op.fieldAddr 49 (Operand.tmp 5) 1, type := _, pos := _, after := _, guard := none }) (v := .pointer (some ⟨B, 1, none⟩)) rfl (by kernel_rfl) (by kernel_rfl) (by kernel_rfl) (fun _ _ _ h => h) (Or.inl ⟨by rfl, fun w hSw => by (try dsimp only at hSw); go_simp⟩) (by assumption) ?_
    simp only [Act.put, List.setIfInBounds_toArray, List.set_cons_zero, List.set_cons_succ]
    refine wpAnyH_take (i := 4) (oi := { dst := some 19, op := Op.load 3 (Operand.tmp 18), type := _, pos := _, after := _, guard := none }) (v := .int .i64 m.slt) rfl (by kernel_rfl) (by kernel_rfl) (by kernel_rfl) (fun _ _ _ h => h) (Or.inl ⟨by rfl, fun w hSw => by have c3 := hSw.en.v.mb.slt; clear hSw; go_simp⟩) (by assumption) ?_
    simp only [Act.put, List.setIfInBounds_toArray, List.set_cons_zero, List.set_cons_succ]
    refine wpAnyH_take (i := 6) (oi := { dst := some 21, op := Op.fieldAddr 49 (Operand.tmp 5) 3, type := _, pos := _, after := _, guard := none }) (v := .pointer (some ⟨B, 3, none⟩)) rfl (by kernel_rfl) (by kernel_rfl) (by kernel_rfl) (fun _ _ _ h => h) (Or.inl ⟨by rfl, fun w hSw => by (try dsimp only at hSw); go_simp⟩) (by assumption) ?_
    simp only [Act.put, List.setIfInBounds_toArray, List.set_cons_zero, List.set_cons_succ]
    refine wpAnyH_take (i := 7) (oi := { dst := some 22, op := Op.load 23 (Operand.tmp 21), type := _, pos := _, after := _, guard := none }) (v := .agg #[.int .i64 m.lf.bas, .int .i64 m.lf.stp]) rfl (by kernel_rfl) (by kernel_rfl) (by kernel_rfl) (fun _ _ _ h => h) (Or.inl ⟨by rfl, fun w hSw => by obtain ⟨c0, c1⟩ := hSw.en.v.mb.leaf; clear hSw; go_simp⟩) (by assumption) ?_
    simp only [Act.put, List.setIfInBounds_toArray, List.set_cons_zero, List.set_cons_succ]
    refine wpAnyH_ready (rs := [5, 12]) (by kernel_rfl) (by simp) ?_
    refine (AllReadyH.cons rfl (fun K hK => ?_) (AllReadyH.cons rfl (fun K hK => ?_) AllReadyH.nil))
    · go_simp
      refine (hl _).mono ?_
      rintro e wd ⟨rfl, rfl⟩
      go_wp2_with fail
      refine hK.out _ _ hHeld (fun hHd1 => ?_)
      clear hHeld
      clear hK K
      try simp only [Act.put, List.setIfInBounds_toArray, List.set_cons_zero, List.set_cons_succ]
      refine wpAnyH_ready (rs := [8, 12]) (by kernel_rfl) (by simp) ?_
      refine (AllReadyH.cons rfl (fun K hK => ?_) (AllReadyH.cons rfl (fun K hK => ?_) AllReadyH.nil))
      · go_simp
        refine (hop _ hHd1.en.v.rd).mono ?_
        rintro e w5 ⟨rfl, hb5⟩
        go_wp2_with fail
        refine hK.out _ _ (hHd1.later hb5) (fun hHd2 => ?_)
        clear hHd1 hb5
        clear hK K
        try simp only [Act.put, List.setIfInBounds_toArray, List.set_cons_zero, List.set_cons_succ]
        refine wpAnyH_take (i := 9) (oi := { dst := some 14, op := Op.move (Operand.tmp 23), type := _, pos := _, after := _, guard := none }) (v := .tuple #[.agg #[.int .i64 x.2.bas, .int .i64 x.2.stp], .int .i64 x.1]) rfl (by kernel_rfl) (by kernel_rfl) (by kernel_rfl) (fun _ _ _ h => h) (Or.inl ⟨by rfl, fun w hSw => by (try dsimp only at hSw); go_simp⟩) (by assumption) ?_
        simp only [Act.put, List.setIfInBounds_toArray, List.set_cons_zero, List.set_cons_succ]
        refine wpAnyH_take (i := 10) (oi := { dst := some 24, op := Op.extract (Operand.tmp 14) 0, type := _, pos := _, after := _, guard := none }) (v := .agg #[.int .i64 x.2.bas, .int .i64 x.2.stp]) rfl (by kernel_rfl) (by kernel_rfl) (by kernel_rfl) (fun _ _ _ h => h) (Or.inl ⟨by rfl, fun w hSw => by (try dsimp only at hSw); go_simp⟩) (by assumption) ?_
        simp only [Act.put, List.setIfInBounds_toArray, List.set_cons_zero, List.set_cons_succ]
        refine wpAnyH_take (i := 11) (oi := { dst := some 25, op := Op.extract (Operand.tmp 14) 1, type := _, pos := _, after := _, guard := none }) (v := .int .i64 x.1) rfl (by kernel_rfl) (by kernel_rfl) (by kernel_rfl) (fun _ _ _ h => h) (Or.inl ⟨by rfl, fun w hSw => by (try dsimp only at hSw); go_simp⟩) (by assumption) ?_
        simp only [Act.put, List.setIfInBounds_toArray, List.set_cons_zero, List.set_cons_succ]
        refine wpAnyH_ready (rs := [12]) (by kernel_rfl) (by simp) ?_
        refine AllReadyH.cons rfl (fun K hK => ?_) AllReadyH.nil
        go_simp
        have hpre := hHd2
        refine hK.out _ _ (hHd2.later (below_alloc _ _)) (fun hHd3 => ?_)
        clear hK K
        try simp only [Act.put, List.setIfInBounds_toArray, List.set_cons_zero, List.set_cons_succ]
        refine wpAnyH_ready (rs := [13]) (by kernel_rfl) (by simp) ?_
        refine AllReadyH.cons rfl (fun K hK => ?_) AllReadyH.nil
        go_simp
        first | (refine hK.out _ _ (hpre.later (below_alloc _ _)) (fun hHd4 => ?_); have hkyZ := KyAt.new w5 x.2) | (refine hK.out _ _ (hHd3.two HZ.out _ _) (fun hHd4 => ?_); have hkyZ := KyAt.set hky2 x.2.bas x.2.stp)
        clear hK K
        try simp only [Act.put, List.setIfInBounds_toArray, List.set_cons_zero, List.set_cons_succ]
        refine wpAnyH_take (i := 14) (oi := { dst := some 13, op := Op.assign (Operand.tmp 25), type := _, pos := _, after := _, guard := none }) (v := .int .i64 x.1) rfl (by kernel_rfl) (by kernel_rfl) (by kernel_rfl) (fun _ _ _ h => h) (Or.inl ⟨by rfl, fun w hSw => by (try dsimp only at hSw); go_simp⟩) (by assumption) ?_
        simp only [Act.put, List.setIfInBounds_toArray, List.set_cons_zero, List.set_cons_succ]
        refine wpAnyH_done (by kernel_rfl) ?_ _
        go_wp2_with fail
        go_meet
        case rel => exact ⟨_, rfl, rfl, hHd4, hkyZ⟩
      · go_simp
        have hky : KyAt (wd.alloc (.cells #[.int .i64 0, .int .i64 0] 23)) wd.heap.size zK := KyAt.new wd zK
        refine hK.out _ _ (hHd1.later (below_alloc _ _)) (fun hHd2 => ?_)
        clear hHd1
        clear hK K
        try simp only [Act.put, List.setIfInBounds_toArray, List.set_cons_zero, List.set_cons_succ]
        refine wpAnyH_ready (rs := [8]) (by kernel_rfl) (by simp) ?_
        refine AllReadyH.cons rfl (fun K hK => ?_) AllReadyH.nil
        go_simp
        refine (hop _ hHd2.en.v.rd).mono ?_
        rintro e w5 ⟨rfl, hb5⟩
        go_wp2_with fail
        have hky2 := hky.later hb5
        obtain ⟨k0, k1⟩ := hky2.cells
        have f0 := Rt.row_frozen hky2 0
        have f1 := Rt.row_frozen hky2 1
        refine hK.out _ _ (hHd2.later hb5) (fun hHd3 => ?_)
        clear hHd2 hb5 hky
        clear hK K
        try simp only [Act.put, List.setIfInBounds_toArray, List.set_cons_zero, List.set_cons_succ]
        refine wpAnyH_take (i := 9) (oi := { dst := some 14, op := Op.move (Operand.tmp 23), type := _, pos := _, after := _, guard := none }) (v := .tuple #[.agg #[.int .i64 x.2.bas, .int .i64 x.2.stp], .int .i64 x.1]) rfl (by kernel_rfl) (by kernel_rfl) (by kernel_rfl) (fun _ _ _ h => h) (Or.inl ⟨by rfl, fun w hSw => by (try dsimp only at hSw); go_simp⟩) (by assumption) ?_
        simp only [Act.put, List.setIfInBounds_toArray, List.set_cons_zero, List.set_cons_succ]
        refine wpAnyH_take (i := 10) (oi := { dst := some 24, op := Op.extract (Operand.tmp 14) 0, type := _, pos := _, after := _, guard := none }) (v := .agg #[.int .i64 x.2.bas, .int .i64 x.2.stp]) rfl (by kernel_rfl) (by kernel_rfl) (by kernel_rfl) (fun _ _ _ h => h) (Or.inl ⟨by rfl, fun w hSw => by (try dsimp only at hSw); go_simp⟩) (by assumption) ?_
        simp only [Act.put, List.setIfInBounds_toArray, List.set_cons_zero, List.set_cons_succ]
        refine wpAnyH_take (i := 11) (oi := { dst := some 25, op := Op.extract (Operand.tmp 14) 1, type := _, pos := _, after := _, guard := none }) (v := .int .i64 x.1) rfl (by kernel_rfl) (by kernel_rfl) (by kernel_rfl) (fun _ _ _ h => h) (Or.inl ⟨by rfl, fun w hSw => by (try dsimp only at hSw); go_simp⟩) (by assumption) ?_
        simp only [Act.put, List.setIfInBounds_toArray, List.set_cons_zero, List.set_cons_succ]
        refine wpAnyH_ready (rs := [13]) (by kernel_rfl) (by simp) ?_
        refine AllReadyH.cons rfl (fun K hK => ?_) AllReadyH.nil
        go_simp
        first | (refine hK.out _ _ (hpre.later (below_alloc _ _)) (fun hHd4 => ?_); have hkyZ := KyAt.new w5 x.2) | (refine hK.out _ _ (hHd3.two HZ.out _ _) (fun hHd4 => ?_); have hkyZ := KyAt.set hky2 x.2.bas x.2.stp)
        clear hK K
        try simp only [Act.put, List.setIfInBounds_toArray, List.set_cons_zero, List.set_cons_succ]
        refine wpAnyH_take (i := 14) (oi := { dst := some 13, op := Op.assign (Operand.tmp 25), type := _, pos := _, after := _, guard := none }) (v := .int .i64 x.1) rfl (by kernel_rfl) (by kernel_rfl) (by kernel_rfl) (fun _ _ _ h => h) (Or.inl ⟨by rfl, fun w hSw => by (try dsimp only at hSw); go_simp⟩) (by assumption) ?_
        simp only [Act.put, List.setIfInBounds_toArray, List.set_cons_zero, List.set_cons_succ]
        refine wpAnyH_done (by kernel_rfl) ?_ _
        go_wp2_with fail
        go_meet
        case rel => exact ⟨_, rfl, rfl, hHd4, hkyZ⟩
    · go_simp
      have hky : KyAt (wd.alloc (.cells #[.int .i64 0, .int .i64 0] 23)) wd.heap.size zK := KyAt.new wd zK
      refine hK.out _ _ (hHeld.later (below_alloc _ _)) (fun hHd1 => ?_)
      clear hHeld
      clear hK K
      try simp only [Act.put, List.setIfInBounds_toArray, List.set_cons_zero, List.set_cons_succ]
      refine wpAnyH_ready (rs := [5]) (by kernel_rfl) (by simp) ?_
      refine AllReadyH.cons rfl (fun K hK => ?_) AllReadyH.nil
      go_simp
      refine (hl _).mono ?_
      rintro e wd ⟨rfl, rfl⟩
      go_wp2_with fail
      refine hK.out _ _ hHd1 (fun hHd2 => ?_)
      clear hHd1
      clear hK K
      try simp only [Act.put, List.setIfInBounds_toArray, List.set_cons_zero, List.set_cons_succ]
      refine wpAnyH_ready (rs := [8]) (by kernel_rfl) (by simp) ?_
      refine AllReadyH.cons rfl (fun K hK => ?_) AllReadyH.nil
      go_simp
      refine (hop _ hHd2.en.v.rd).mono ?_
      rintro e w5 ⟨rfl, hb5⟩
      go_wp2_with fail
      have hky2 := hky.later hb5
      obtain ⟨k0, k1⟩ := hky2.cells
      have f0 := Rt.row_frozen hky2 0
      have f1 := Rt.row_frozen hky2 1
      refine hK.out _ _ (hHd2.later hb5) (fun hHd3 => ?_)
      clear hHd2 hb5 hky
      clear hK K
      try simp only [Act.put, List.setIfInBounds_toArray, List.set_cons_zero, List.set_cons_succ]
      refine wpAnyH_take (i := 9) (oi := { dst := some 14, op := Op.move (Operand.tmp 23), type := _, pos := _, after := _, guard := none }) (v := .tuple #[.agg #[.int .i64 x.2.bas, .int .i64 x.2.stp], .int .i64 x.1]) rfl (by kernel_rfl) (by kernel_rfl) (by kernel_rfl) (fun _ _ _ h => h) (Or.inl ⟨by rfl, fun w hSw => by (try dsimp only at hSw); go_simp⟩) (by assumption) ?_
      simp only [Act.put, List.setIfInBounds_toArray, List.set_cons_zero, List.set_cons_succ]
      refine wpAnyH_take (i := 10) (oi := { dst := some 24, op := Op.extract (Operand.tmp 14) 0, type := _, pos := _, after := _, guard := none }) (v := .agg #[.int .i64 x.2.bas, .int .i64 x.2.stp]) rfl (by kernel_rfl) (by kernel_rfl) (by kernel_rfl) (fun _ _ _ h => h) (Or.inl ⟨by rfl, fun w hSw => by (try dsimp only at hSw); go_simp⟩) (by assumption) ?_
      simp only [Act.put, List.setIfInBounds_toArray, List.set_cons_zero, List.set_cons_succ]
      refine wpAnyH_take (i := 11) (oi := { dst := some 25, op := Op.extract (Operand.tmp 14) 1, type := _, pos := _, after := _, guard := none }) (v := .int .i64 x.1) rfl (by kernel_rfl) (by kernel_rfl) (by kernel_rfl) (fun _ _ _ h => h) (Or.inl ⟨by rfl, fun w hSw => by (try dsimp only at hSw); go_simp⟩) (by assumption) ?_
      simp only [Act.put, List.setIfInBounds_toArray, List.set_cons_zero, List.set_cons_succ]
      refine wpAnyH_ready (rs := [13]) (by kernel_rfl) (by simp) ?_
      refine AllReadyH.cons rfl (fun K hK => ?_) AllReadyH.nil
      go_simp
      first | (refine hK.out _ _ (hpre.later (below_alloc _ _)) (fun hHd4 => ?_); have hkyZ := KyAt.new w5 x.2) | (refine hK.out _ _ (hHd3.two HZ.out _ _) (fun hHd4 => ?_); have hkyZ := KyAt.set hky2 x.2.bas x.2.stp)
      clear hK K
      try simp only [Act.put, List.setIfInBounds_toArray, List.set_cons_zero, List.set_cons_succ]
      refine wpAnyH_take (i := 14) (oi := { dst := some 13, op := Op.assign (Operand.tmp 25), type := _, pos := _, after := _, guard := none }) (v := .int .i64 x.1) rfl (by kernel_rfl) (by kernel_rfl) (by kernel_rfl) (fun _ _ _ h => h) (Or.inl ⟨by rfl, fun w hSw => by (try dsimp only at hSw); go_simp⟩) (by assumption) ?_
      simp only [Act.put, List.setIfInBounds_toArray, List.set_cons_zero, List.set_cons_succ]
      refine wpAnyH_done (by kernel_rfl) ?_ _
      go_wp2_with fail
      go_meet
      case rel => exact ⟨_, rfl, rfl, hHd4, hkyZ⟩
  case rest =>
    obtain ⟨Z, rfl, rfl, hE9, hky9⟩ := hcut
    have hN := hE9.en
    clear hop hl hE9 hS hC1
    by_cases h23 : x.1 = 23
    · have HF : Hid (enP r.2.2.2 v q below m.lf k = y) := by unfold Hid; rw [HE.out, if_pos h23]
      have d23 : (x.1 == 23) = true := by simpa using h23
      obtain ⟨e, he⟩ : ∃ e, x.1 = e := ⟨_, rfl⟩
      rw [he] at d23 ⊢
      obtain ⟨_, _, _, c3⟩ := hN.v.rk.cells
      obtain ⟨k0, k1⟩ := hN.c.ky.cells
      have ho := hop2 wc hN.v.rd
      clear he h23 hop2 HE
      go_wp2_with fail
      refine ho.mono ?_
      rintro e2 w2 ⟨rfl, hb2⟩
      have hS2 := hN.c.later hb2
      have hre := hS2.re
      clear ho hb2 hN c3 k0 k1 hky9
      go_wp2_with (refine stKy hre y.2 rfl _ _ rfl rfl rfl ?_)
      refine bodyPost_ret (results_ky2 (p := 10) (t := 11) rfl _ _ K y.2 rfl (KyAt.row hre y.2)) rfl ?_
      exact ⟨by rw [HF.out]; rfl, Rt.setRow_below hS2.ge hS2.bel _⟩
    · have HF : Hid (enP r.2.2.2 v q below m.lf k = x) := by unfold Hid; rw [HE.out, if_neg h23]
      have d23 : (x.1 == 23) = false := by simpa using h23
      have hre := hN.c.re
      obtain ⟨k0, k1⟩ := hky9.cells
      clear h23 hop2 HE
      go_wp2_with (refine stKy hre x.2 rfl _ _ rfl rfl rfl ?_)
      refine bodyPost_ret (results_ky2 (p := 10) (t := 11) rfl _ _ K x.2 rfl (KyAt.row hre x.2)) rfl ?_
      exact ⟨by rw [HF.out]; rfl, Rt.setRow_below hN.c.ge hN.c.bel _⟩
end Go.Proofs.Ytdghibimelhgjaa.Mb
