/- Contracts: Follow of both. -/
import Derived.Test.YtgfegolignhefaaRtP
import Derived.Test.YtgfegolignhefaaRtG
namespace Go.Proofs.Ytgfegolignhefaa
open Go.RowKit
set_option linter.unusedVariables false
set_option linter.unusedSimpArgs false

def kgd (k : Ky) : Bool := gd k.bas k.stp
def far1 (n : Int) (k : Ky) : Bool := decide (n < 0) || decide (255 - k.stp < n)
def flG (p : Nat → Ky) : Bool := (List.range 3).all fun i => kgd (p i)
def flF (p : Nat → Ky) (n : Int) : Bool := (List.range 3).any fun i => far1 n (p i)
def flE (p : Nat → Ky) (n : Int) : Int := if flG p then (if flF p n then 4 else 0) else 3
def flK (p : Nat → Ky) (n : Int) (i : Nat) : Ky := ⟨(p i).bas, (p i).stp + n⟩
def flA (p : Nat → Ky) (n : Int) : Nat → Ky := if flE p n = 0 then flK p n else fun _ => zK
def flS (g p : Nat → Ky) (n : Int) (j : Nat) : Nat → Ky := fun v => if v < j then flK p n v else g v
theorem flS_zero (g p : Nat → Ky) (n : Int) : pcs (flS g p n 0) = pcs g := pcs_congr fun i _ => if_neg (by omega)
theorem flS_all (g p : Nat → Ky) (n : Int) : pcs (flS g p n 3) = pcs (flK p n) := pcs_congr fun i hi => if_pos hi
theorem flS_at (g p : Nat → Ky) (n : Int) (j : Nat) : flS g p n j j = g j := if_neg (by omega)
theorem flS_step (g p : Nat → Ky) (n : Int) (j : Nat) : flS g p n (j + 1) = kup (flS g p n j) j (flK p n j) := by
  funext v
  show (if v < j + 1 then flK p n v else g v) = if v = j then flK p n j else (if v < j then flK p n v else g v)
  by_cases h : v = j
  · subst h
    rw [if_pos (by omega), if_pos rfl]
  · rw [if_neg h]
    by_cases c : v < j
    · rw [if_pos (by omega), if_pos c]
    · rw [if_neg (by omega), if_neg c]
theorem flG_yes {p : Nat → Ky} (h : ∀ i, i < 3 → kgd (p i) = true) : flG p = true := by
  unfold flG
  rw [List.all_eq_true]
  exact fun i hi => h i (List.mem_range.1 hi)
theorem flG_at {p : Nat → Ky} (h : flG p = true) {i : Nat} (hi : i < 3) : kgd (p i) = true := by
  unfold flG at h
  rw [List.all_eq_true] at h
  exact h i (List.mem_range.2 hi)
theorem flG_no {p : Nat → Ky} {i : Nat} (hi : i < 3) (h : kgd (p i) = false) : flG p = false := by
  rw [Bool.eq_false_iff]
  intro hc
  rw [flG_at hc hi] at h
  cases h
theorem flF_yes {p : Nat → Ky} {n : Int} {i : Nat} (hi : i < 3) (h : far1 n (p i) = true) : flF p n = true := by
  unfold flF
  rw [List.any_eq_true]
  exact ⟨i, List.mem_range.2 hi, h⟩
theorem flF_no {p : Nat → Ky} {n : Int} (h : ∀ i, i < 3 → far1 n (p i) = false) : flF p n = false := by
  rw [Bool.eq_false_iff]
  intro hc
  unfold flF at hc
  rw [List.any_eq_true] at hc
  obtain ⟨i, hi, h2⟩ := hc
  rw [h i (List.mem_range.1 hi)] at h2
  cases h2
theorem flE_bad {p : Nat → Ky} {n : Int} (h : flG p = false) : flE p n = 3 := by unfold flE; rw [h]; rfl
theorem flE_far {p : Nat → Ky} {n : Int} (h : flG p = true) (h2 : flF p n = true) : flE p n = 4 := by unfold flE; rw [h, h2]; rfl
theorem flE_ok {p : Nat → Ky} {n : Int} (h : flG p = true) (h2 : flF p n = false) : flE p n = 0 := by unfold flE; rw [h, h2]; rfl
def FollowA (p : Nat → Ky) (n : Int) : Ending := .returned (.tuple #[.agg (pcs (flA p n)), .int .i64 (flE p n)])
theorem FollowA.no {p : Nat → Ky} {n x : Int} (h : flE p n = x) (hx : x ≠ 0) : Ending.returned (.tuple #[.agg (pcs fun _ => zK), .int .i64 x]) = FollowA p n := by
  unfold FollowA flA
  rw [h, if_neg hx]
theorem FollowA.yes {p : Nat → Ky} {n : Int} (h : flE p n = 0) : Ending.returned (.tuple #[.agg (pcs (flK p n)), .int .i64 0]) = FollowA p n := by
  unfold FollowA flA
  rw [h, if_pos rfl]
theorem far1_yes {n : Int} {k : Ky} (h : far1 n k = true) : n < 0 ∨ 255 - k.stp < n := by
  unfold far1 at h
  simpa using h
theorem far1_no {n : Int} {k : Ky} (h : far1 n k = false) : 0 ≤ n ∧ n ≤ 255 - k.stp := by
  unfold far1 at h
  simp at h
  omega
theorem results_pa2 {fn : Func} {p t : Tmp} (hf : fn.results = #[.cell p 40, .tmp t]) (tmps : Array Value) (W : World) (B : Nat) (f : Nat → Ky) (hp : tmps[p]? = some (.pointer (some ⟨B, 0, none⟩))) (hb : PaAt W B f) :
    (results fn tmps).run Try.prog W = .ok (.tuple #[.agg (pcs f), tmps.getD t undef]) W := by
  have h := run_loadVar_row W B _ 40 _ _ _ hb Try.underlying40 rfl (by rw [pcs_size]; exact infoP)
  simp [results, hf, hp, asAddr, h]
structure FP (w W : World) (p : Nat → Ky) : Prop where
  pa : PaAt W w.heap.size p
  ze : PaAt W (w.heap.size + 1) (fun _ => zK)
  bel : Below w.heap.size w W
theorem FP.later {w W W' : World} {p : Nat → Ky} (h : FP w W p) (hb : Below W.heap.size W W') : FP w W' p := ⟨h.pa.later hb, h.ze.later hb, h.bel.trans (hb.mono h.bel.size)⟩
theorem FP.new (w : World) (p : Nat → Ky) : FP w ((w.alloc (.cells (pcs p) 40)).alloc (.cells (pcs fun _ => zK) 40)) p := by
  have b2 := alloc_pa (w.alloc (.cells (pcs p) 40)) (fun _ => zK)
  have h2 := PaAt.new (w.alloc (.cells (pcs p) 40)) (fun _ => zK)
  rw [World.size_alloc] at h2
  exact ⟨(PaAt.new w p).later b2, h2, (alloc_pa w p).trans (b2.mono (by simp))⟩
theorem FP.set {w W : World} {g : Nat → Ky} (h : FP w W g) (k : Nat) (hk : k < 3) (a b : Int) : FP w ((W.setCell ⟨w.heap.size, k * 2, none⟩ (.int .i64 a)).setCell ⟨w.heap.size, k * 2 + 1, none⟩ (.int .i64 b)) (kup g k ⟨a, b⟩) :=
  ⟨h.pa.set2 k hk a b, (set2_other (by omega) _ _ _ _).trans h.ze, set2_below h.bel (Nat.le_refl _) _ _ _ _⟩
structure FL (w W : World) (p : Nat → Ky) (B : Nat) (g : Nat → Ky) : Prop where
  fp : FP w W p
  nx : PaAt W B g
  far : w.heap.size + 2 ≤ B
theorem FL.later {w W W' : World} {p g : Nat → Ky} {B : Nat} (h : FL w W p B g) (hb : Below W.heap.size W W') : FL w W' p B g := ⟨h.fp.later hb, h.nx.later hb, h.far⟩
theorem FL.set {w W : World} {p g : Nat → Ky} {B : Nat} (h : FL w W p B g) (k : Nat) (hk : k < 3) (a b : Int) : FL w ((W.setCell ⟨B, k * 2, none⟩ (.int .i64 a)).setCell ⟨B, k * 2 + 1, none⟩ (.int .i64 b)) p B (kup g k ⟨a, b⟩) := by
  have hf := h.far
  exact ⟨⟨(set2_other (by omega) _ _ _ _).trans h.fp.pa, (set2_other (by omega) _ _ _ _).trans h.fp.ze, set2_below h.fp.bel (by omega) _ _ _ _⟩, h.nx.set2 k hk a b, hf⟩
set_option maxRecDepth 100000 in
set_option maxHeartbeats 2000000 in
theorem follow_any (p : Nat → Ky) (n : Int) (w : World) :
    Calls Try.prog 17 #[.agg (pcs p), .int .i64 n] w fun e w' => e = FollowA p n ∧ Below w.heap.size w w' := by
  have hF := FP.new w p
  go_enter Try.func17, Try.ntmps17
  go_upto_region 1 with (fail)
  rw [zero6]
  generalize (w.alloc (.cells (pcs p) 40)).alloc (.cells (pcs fun _ => zK) 40) = w1 at *
  refine wp_region_lit ?_
  refine ldP hF.pa rfl _ rfl rfl ?_
  obtain ⟨cp, hcp⟩ : ∃ cp, pcs p = cp := ⟨_, rfl⟩
  rw [hcp]
  have HC : Hid (pcs p = cp) := hcp
  have HF : Hid (FP w w1 p) := hF
  clear hcp hF
  go_wp2_with fail
  go_loopw [14] (fun i wx => ∃ k : Nat, k ≤ 3 ∧ i = .int .i64 (k : Int) ∧ FP w wx p ∧ ∀ j, j < k → kgd (p j) = true) (fun i _ => 3 - (intOf i).toNat)
  case atStart => exact ⟨0, by omega, rfl, HF.out, fun j hj => by omega⟩
  case round =>
    obtain ⟨k, hk, rfl, hF, hg⟩ := hrel
    clear HF
    have HF : Hid (FP w wr p) := hF
    have HGD : Hid (∀ j, j < k → kgd (p j) = true) := hg
    clear hF hg
    by_cases hk8 : k < 3
    · have k8 : (k : Int) < 3 := by omega
      have k0 : (0 : Int) ≤ (k : Int) := by omega
      have hi := idxP p k hk8
      rw [HC.out] at hi
      have hgo := good_any (p k).bas (p k).stp (wr.alloc (.cells #[.int .i64 (p k).bas, .int .i64 (p k).stp] 23))
      have hF2 := (HF.out.later (alloc_ky wr (p k))).later (below_alloc _ (.cells #[.int .i64 (p k).bas, .int .i64 (p k).stp] 23))
      have HKG : Hid (kgd (p k) = gd (p k).bas (p k).stp) := rfl
      obtain ⟨e, he⟩ : ∃ e, p k = e := ⟨_, rfl⟩
      rw [he] at hi hgo hF2 HKG
      have HE : Hid (p k = e) := he
      have HF2 : Hid (FP w ((wr.alloc (.cells #[.int .i64 e.bas, .int .i64 e.stp] 23)).alloc (.cells #[.int .i64 e.bas, .int .i64 e.stp] 23)) p) := hF2
      clear he hF2
      cases hgd : gd e.bas e.stp with
      | false =>
        rw [hgd] at hgo
        have hF3 := HF2.out
        go_wp2_with fail
        refine hgo.mono ?_
        rintro r w3 ⟨rfl, rfl⟩
        go_wp2_with (refine stP (g := fun _ => zK) hF3.ze rfl _ _ rfl rfl zero6' ?_)
        refine bodyPost_ret (results_pa2 (p := 4) (t := 5) rfl _ _ (w.heap.size + 1) (fun _ => zK) rfl (hF3.ze.row _)) rfl ?_
        exact ⟨FollowA.no (flE_bad (flG_no hk8 (by rw [HE.out, HKG.out]; exact hgd))) (by decide), setRow_below (by omega) hF3.bel _⟩
      | true =>
        rw [hgd] at hgo
        go_wp2_with fail
        refine hgo.mono ?_
        rintro r w3 ⟨rfl, rfl⟩
        go_wp2_with fail
        go_roundw
        case rel =>
          refine ⟨k + 1, by omega, by go_num, HF2.out, fun j hj => ?_⟩
          rcases Nat.lt_or_ge j k with h | h
          · exact HGD.out j h
          · obtain rfl : j = k := by omega
            rw [HE.out, HKG.out]
            exact hgd
        case measure => simp [intOf]; omega
    · obtain rfl : k = 3 := by omega
      rw [show ((3 : Nat) : Int) = 3 from rfl]
      have hG : flG p = true := flG_yes HGD.out
      clear HGD hk hk8
      go_upto_region 8 with (fail)
      rw [zero6]
      have hL : FL w (wr.alloc (.cells (pcs fun _ => zK) 40)) p wr.heap.size (flS (fun _ => zK) p n 0) := ⟨HF.out.later (alloc_pa _ _), (PaAt.new _ _).congr (flS_zero _ _ _).symm, HF.out.ze.lt⟩
      clear HF
      generalize wr.alloc (.cells (pcs fun _ => zK) 40) = w4 at *
      generalize wr.heap.size = Bn at *
      refine wp_region_lit ?_
      refine ldP hL.fp.pa rfl _ rfl rfl ?_
      rw [HC.out]
      have HL : Hid (FL w w4 p Bn (flS (fun _ => zK) p n 0)) := hL
      clear hL
      go_wp2_with fail
      go_loopw [23] (fun i wx => ∃ k : Nat, k ≤ 3 ∧ i = .int .i64 (k : Int) ∧ FL w wx p Bn (flS (fun _ => zK) p n k) ∧ ∀ j, j < k → far1 n (p j) = false) (fun i _ => 3 - (intOf i).toNat)
      case atStart => exact ⟨0, by omega, rfl, HL.out, fun j hj => by omega⟩
      case round =>
        obtain ⟨k, hk, rfl, hF, hg⟩ := hrel
        clear HL
        have HL : Hid (FL w wr p Bn (flS (fun _ => zK) p n k)) := hF
        have HFR : Hid (∀ j, j < k → far1 n (p j) = false) := hg
        clear hF hg
        by_cases hk8 : k < 3
        · have k8 : (k : Int) < 3 := by omega
          have k0 : (0 : Int) ≤ (k : Int) := by omega
          have hi := idxP p k hk8
          rw [HC.out] at hi
          have hL2 := HL.out.later (alloc_ky wr (p k))
          have hgk := gd_iff.1 (show gd (p k).bas (p k).stp = true from flG_at hG hk8)
          have HFE : Hid (flK p n k = ⟨(p k).bas, (p k).stp + n⟩) := rfl
          obtain ⟨e, he⟩ : ∃ e, p k = e := ⟨_, rfl⟩
          rw [he] at hi hL2 hgk HFE
          have HE : Hid (p k = e) := he
          have HL2 : Hid (FL w (wr.alloc (.cells #[.int .i64 e.bas, .int .i64 e.stp] 23)) p Bn (flS (fun _ => zK) p n k)) := hL2
          have HTS : Hid (flS (fun _ => zK) p n (k + 1) = kup (flS (fun _ => zK) p n k) k (flK p n k)) := flS_step _ _ _ _
          clear he hL2
          cases hfr : far1 n e with
          | true =>
            have ha := ahead_far e.bas e.stp n hgk (far1_yes hfr) (wr.alloc (.cells #[.int .i64 e.bas, .int .i64 e.stp] 23))
            go_wp2_with fail
            refine ha.mono ?_
            rintro r w5 ⟨rfl, hb5⟩
            have hF6 := ((HL2.out.later hb5).later (below_alloc w5 (.cells #[.int .i64 0, .int .i64 0] 23))).fp
            clear ha hb5
            go_wp2_with (refine stP (g := fun _ => zK) hF6.ze rfl _ _ rfl rfl zero6' ?_)
            refine bodyPost_ret (results_pa2 (p := 4) (t := 5) rfl _ _ (w.heap.size + 1) (fun _ => zK) rfl (hF6.ze.row _)) rfl ?_
            exact ⟨FollowA.no (flE_far hG (flF_yes hk8 (by rw [HE.out]; exact hfr))) (by decide), setRow_below (by omega) hF6.bel _⟩
          | false =>
            obtain ⟨q1, q2⟩ := far1_no hfr
            have ha := ahead_yes e.bas e.stp n hgk q1 q2 (wr.alloc (.cells #[.int .i64 e.bas, .int .i64 e.stp] 23))
            clear q1 q2
            go_wp2_with fail
            refine ha.mono ?_
            rintro r w5 ⟨rfl, hb5⟩
            have hL6 := (HL2.out.later hb5).later (below_alloc w5 (.cells #[.int .i64 e.bas, .int .i64 (e.stp + n)] 23))
            obtain ⟨c0, c1⟩ := hL6.nx.cells k hk8
            have f0 := row_frozen hL6.nx (k * 2)
            have f1 := row_frozen hL6.nx (k * 2 + 1)
            have HL7 : Hid (FL w (((w5.alloc (.cells #[.int .i64 e.bas, .int .i64 (e.stp + n)] 23)).setCell ⟨Bn, k * 2, none⟩ (.int .i64 e.bas)).setCell ⟨Bn, k * 2 + 1, none⟩ (.int .i64 (e.stp + n))) p Bn (kup (flS (fun _ => zK) p n k) k ⟨e.bas, e.stp + n⟩)) := hL6.set k hk8 e.bas (e.stp + n)
            clear ha hb5 hL6
            go_wp2_with fail
            go_roundw
            case rel =>
              refine ⟨k + 1, by omega, by go_num, ?_, fun j hj => ?_⟩
              · rw [HTS.out, HFE.out]
                exact HL7.out
              · rcases Nat.lt_or_ge j k with h | h
                · exact HFR.out j h
                · obtain rfl : j = k := by omega
                  rw [HE.out]
                  exact hfr
            case measure => simp [intOf]; omega
        · obtain rfl : k = 3 := by omega
          have HE0 : Hid (flE p n = 0) := flE_ok hG (flF_no HFR.out)
          have hN := HL.out.nx.congr (flS_all _ _ _)
          go_upto_region 16 with (fail)
          refine wp_region_lit ?_
          refine ldP hN rfl _ rfl rfl ?_
          go_wp2_with (refine stP (g := flK p n) HL.out.fp.ze rfl _ _ rfl rfl rfl ?_)
          refine bodyPost_ret (results_pa2 (p := 4) (t := 5) rfl _ _ (w.heap.size + 1) (flK p n) rfl (HL.out.fp.ze.row _)) rfl ?_
          refine ⟨?_, setRow_below (by omega) HL.out.fp.bel _⟩
          rw [← FollowA.yes HE0.out]
          rfl
set_option maxRecDepth 100000 in
set_option maxHeartbeats 2000000 in
theorem rFollow_any (p : Nat → Ky) (n : Int) (w : World) :
    Calls Try.prog 18 #[.agg (pcs p), .int .i64 n] w fun e w' => e = FollowA p n ∧ Below w.heap.size w w' := by
  have hF := FP.new w p
  go_enter Try.func18, Try.ntmps18
  go_upto_region 1 with (fail)
  rw [zero6]
  generalize (w.alloc (.cells (pcs p) 40)).alloc (.cells (pcs fun _ => zK) 40) = w1 at *
  obtain ⟨cp, hcp⟩ : ∃ cp, pcs p = cp := ⟨_, rfl⟩
  rw [hcp]
  have HF : Hid (FP w w1 p) := hF
  clear hcp hF
  go_wp2_with fail
  go_loopw [6] (fun i wx => ∃ k : Nat, k ≤ 3 ∧ i = .int .i64 (k : Int) ∧ FP w wx p ∧ ∀ j, j < k → kgd (p j) = true) (fun i _ => 3 - (intOf i).toNat)
  case atStart => exact ⟨0, by omega, rfl, HF.out, fun j hj => by omega⟩
  case round =>
    obtain ⟨k, hk, rfl, hF, hg⟩ := hrel
    clear HF
    have HF : Hid (FP w wr p) := hF
    have HGD : Hid (∀ j, j < k → kgd (p j) = true) := hg
    clear hF hg
    by_cases hk8 : k < 3
    · have k8 : (k : Int) < 3 := by omega
      have k0 : (0 : Int) ≤ (k : Int) := by omega
      obtain ⟨c0, c1⟩ := HF.out.pa.cells k hk8
      have hgo := rGood_any (p k).bas (p k).stp wr
      have hF2 := HF.out.later (below_alloc wr (.cells #[.int .i64 (p k).bas, .int .i64 (p k).stp] 23))
      have HKG : Hid (kgd (p k) = gd (p k).bas (p k).stp) := rfl
      obtain ⟨e, he⟩ : ∃ e, p k = e := ⟨_, rfl⟩
      rw [he] at c0 c1 hgo hF2 HKG
      have HE : Hid (p k = e) := he
      have HF2 : Hid (FP w (wr.alloc (.cells #[.int .i64 e.bas, .int .i64 e.stp] 23)) p) := hF2
      clear he hF2
      cases hgd : gd e.bas e.stp with
      | false =>
        rw [hgd] at hgo
        have hF3 := HF2.out
        go_wp2_with fail
        refine hgo.mono ?_
        rintro r w3 ⟨rfl, rfl⟩
        go_wp2_with (refine stP (g := fun _ => zK) hF3.ze rfl _ _ rfl rfl zero6' ?_)
        refine bodyPost_ret (results_pa2 (p := 4) (t := 5) rfl _ _ (w.heap.size + 1) (fun _ => zK) rfl (hF3.ze.row _)) rfl ?_
        exact ⟨FollowA.no (flE_bad (flG_no hk8 (by rw [HE.out, HKG.out]; exact hgd))) (by decide), setRow_below (by omega) hF3.bel _⟩
      | true =>
        rw [hgd] at hgo
        go_wp2_with fail
        refine hgo.mono ?_
        rintro r w3 ⟨rfl, rfl⟩
        go_wp2_with fail
        go_roundw
        case rel =>
          refine ⟨k + 1, by omega, by go_num, HF2.out, fun j hj => ?_⟩
          rcases Nat.lt_or_ge j k with h | h
          · exact HGD.out j h
          · obtain rfl : j = k := by omega
            rw [HE.out, HKG.out]
            exact hgd
        case measure => simp [intOf]; omega
    · obtain rfl : k = 3 := by omega
      rw [show ((3 : Nat) : Int) = 3 from rfl]
      have hG : flG p = true := flG_yes HGD.out
      have HL : Hid (FP w wr (flS p p n 0)) := by have e : pcs (flS p p n 0) = pcs p := flS_zero _ _ _; exact ⟨HF.out.pa.congr e.symm, HF.out.ze, HF.out.bel⟩
      clear HGD hk hk8 HF
      go_wp2_with fail
      go_loopw [7] (fun i wx => ∃ k : Nat, k ≤ 3 ∧ i = .int .i64 (k : Int) ∧ FP w wx (flS p p n k) ∧ ∀ j, j < k → far1 n (p j) = false) (fun i _ => 3 - (intOf i).toNat)
      case atStart => exact ⟨0, by omega, rfl, HL.out, fun j hj => by omega⟩
      case round =>
        obtain ⟨k, hk, rfl, hF, hg⟩ := hrel
        clear HL
        have HL : Hid (FP w wr (flS p p n k)) := hF
        have HFR : Hid (∀ j, j < k → far1 n (p j) = false) := hg
        clear hF hg
        by_cases hk8 : k < 3
        · have k8 : (k : Int) < 3 := by omega
          have k0 : (0 : Int) ≤ (k : Int) := by omega
          obtain ⟨c0, c1⟩ := HL.out.pa.cells k hk8
          rw [flS_at] at c0 c1
          have hgk := gd_iff.1 (show gd (p k).bas (p k).stp = true from flG_at hG hk8)
          have HFE : Hid (flK p n k = ⟨(p k).bas, (p k).stp + n⟩) := rfl
          obtain ⟨e, he⟩ : ∃ e, p k = e := ⟨_, rfl⟩
          rw [he] at c0 c1 hgk HFE
          have HE : Hid (p k = e) := he
          have HTS : Hid (flS p p n (k + 1) = kup (flS p p n k) k (flK p n k)) := flS_step _ _ _ _
          clear he
          cases hfr : far1 n e with
          | true =>
            have ha := rAhead_far e.bas e.stp n hgk (far1_yes hfr) wr
            go_wp2_with fail
            refine ha.mono ?_
            rintro r w5 ⟨rfl, hb5⟩
            have hF6 := (HL.out.later hb5).later (below_alloc w5 (.cells #[.int .i64 0, .int .i64 0] 23))
            clear ha hb5 c0 c1
            go_wp2_with (refine stP (g := fun _ => zK) hF6.ze rfl _ _ rfl rfl zero6' ?_)
            refine bodyPost_ret (results_pa2 (p := 4) (t := 5) rfl _ _ (w.heap.size + 1) (fun _ => zK) rfl (hF6.ze.row _)) rfl ?_
            exact ⟨FollowA.no (flE_far hG (flF_yes hk8 (by rw [HE.out]; exact hfr))) (by decide), setRow_below (by omega) hF6.bel _⟩
          | false =>
            obtain ⟨q1, q2⟩ := far1_no hfr
            have ha := rAhead_yes e.bas e.stp n hgk q1 q2 wr
            clear q1 q2
            go_wp2_with fail
            refine ha.mono ?_
            rintro r w5 ⟨rfl, hb5⟩
            clear c0 c1
            have hL6 := (HL.out.later hb5).later (below_alloc w5 (.cells #[.int .i64 e.bas, .int .i64 (e.stp + n)] 23))
            obtain ⟨c0, c1⟩ := hL6.pa.cells k hk8
            have f0 := row_frozen hL6.pa (k * 2)
            have f1 := row_frozen hL6.pa (k * 2 + 1)
            have HL7 : Hid (FP w (((w5.alloc (.cells #[.int .i64 e.bas, .int .i64 (e.stp + n)] 23)).setCell ⟨w.heap.size, k * 2, none⟩ (.int .i64 e.bas)).setCell ⟨w.heap.size, k * 2 + 1, none⟩ (.int .i64 (e.stp + n))) (kup (flS p p n k) k ⟨e.bas, e.stp + n⟩)) := hL6.set k hk8 e.bas (e.stp + n)
            clear ha hb5 hL6
            go_wp2_with fail
            go_roundw
            case rel =>
              refine ⟨k + 1, by omega, by go_num, ?_, fun j hj => ?_⟩
              · rw [HTS.out, HFE.out]
                exact HL7.out
              · rcases Nat.lt_or_ge j k with h | h
                · exact HFR.out j h
                · obtain rfl : j = k := by omega
                  rw [HE.out]
                  exact hfr
            case measure => simp [intOf]; omega
        · obtain rfl : k = 3 := by omega
          have HE0 : Hid (flE p n = 0) := flE_ok hG (flF_no HFR.out)
          have hN := HL.out.pa.congr (flS_all _ _ _)
          go_upto_region 13 with (fail)
          refine wp_region_lit ?_
          refine ldP hN rfl _ rfl rfl ?_
          go_wp2_with (refine stP (g := flK p n) HL.out.ze rfl _ _ rfl rfl rfl ?_)
          refine bodyPost_ret (results_pa2 (p := 4) (t := 5) rfl _ _ (w.heap.size + 1) (flK p n) rfl (HL.out.ze.row _)) rfl ?_
          refine ⟨?_, setRow_below (by omega) HL.out.bel _⟩
          rw [← FollowA.yes HE0.out]
          rfl
end Go.Proofs.Ytgfegolignhefaa
