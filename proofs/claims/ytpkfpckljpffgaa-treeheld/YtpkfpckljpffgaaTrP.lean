/- Contracts: PathOf of both. -/
import Derived.Test.YtpkfpckljpffgaaTrD
import Derived.Test.YtpkfpckljpffgaaRtP
import Derived.Test.YtpkfpckljpffgaaShpF
namespace Go.Proofs.Ytpkfpckljpffgaa
open Go.RowKit
open Rt (Ky zK kcs KsAt KyAt pcs PaAt)
open Rs (En zE rcs RoAt EnAt)
set_option linter.unusedVariables false
set_option linter.unusedSimpArgs false

def PathA (t : Tr) (s : Int) : Ending := .returned (.tuple #[.agg (pcs (poP t s)), .int .i64 (poE t s)])
theorem PathA.no {t : Tr} {s x : Int} (h : poE t s = x) (hx : x ≠ 0) : Ending.returned (.tuple #[.agg (pcs fun _ => zK), .int .i64 x]) = PathA t s := by
  unfold PathA
  rw [h, show poP t s = fun _ => zK from funext fun i => poP_no (by rw [h]; exact hx) i]
theorem PathA.yes {t : Tr} {s : Nat} (h : tck t = true) (hs : s < 64) {f : Nat → Ky} (hf : ∀ i, i < 3 → f i = t.ks (pn s i)) : Ending.returned (.tuple #[.agg (pcs f), .int .i64 0]) = PathA t s := by
  unfold PathA
  rw [poE_ok h hs, Rt.pcs_congr (f := poP t s) (g := f) fun i hi => by rw [hf i hi]; exact poP_ok h hs i]
theorem results_pa2 {fn : Func} {p t : Tmp} (hf : fn.results = #[.cell p 39, .tmp t]) (tmps : Array Value) (W : World) (B : Nat) (f : Nat → Ky) (hp : tmps[p]? = some (.pointer (some ⟨B, 0, none⟩))) (hb : PaAt W B f) :
    (results fn tmps).run Try.prog W = .ok (.tuple #[.agg (pcs f), tmps.getD t undef]) W := by
  have h := run_loadVar_row W B _ 39 _ _ _ hb Try.underlying39 rfl (by rw [Rt.pcs_size]; exact Rt.infoP)
  simp [results, hf, hp, asAddr, h]
/- The path's nodes. -/
def ncs (s : Nat) : Array Value := #[.int .i64 ((pn s 0 : Nat) : Int), .int .i64 ((pn s 1 : Nat) : Int), .int .i64 ((pn s 2 : Nat) : Int)]
theorem nidx0 (x y z : Value) (w : World) : (Instr.index 54 (.agg #[x, y, z]) (.int .i64 0)).run Try.prog w = .ok x w := by kernel_rfl
theorem nidx1 (x y z : Value) (w : World) : (Instr.index 54 (.agg #[x, y, z]) (.int .i64 1)).run Try.prog w = .ok y w := by kernel_rfl
theorem nidx2 (x y z : Value) (w : World) : (Instr.index 54 (.agg #[x, y, z]) (.int .i64 2)).run Try.prog w = .ok z w := by kernel_rfl
theorem idxN (s k : Nat) (hk : k < 3) (W : World) : (Instr.index 54 (.agg (ncs s)) (.int .i64 (k : Int))).run Try.prog W = .ok (.int .i64 ((pn s k : Nat) : Int)) W := by
  match k, hk with
  | 0, _ => exact nidx0 _ _ _ W
  | 1, _ => exact nidx1 _ _ _ W
  | 2, _ => exact nidx2 _ _ _ W
theorem cellN {w : World} {N s : Nat} (h : w.heap[N]? = some (.cells (ncs s) 54 (0, 0))) {k : Nat} (hk : k < 3) : w.cell? ⟨N, k, none⟩ = some (.int .i64 ((pn s k : Nat) : Int)) := by
  match k, hk with
  | 0, _ => exact cell_of_row w N 0 _ _ _ h
  | 1, _ => exact cell_of_row w N 1 _ _ _ h
  | 2, _ => exact cell_of_row w N 2 _ _ _ h
theorem path_is (s : Nat) (hs : s < 64) (w : World) : Calls Try.prog 38 #[.int .i64 (s : Int)] w fun e w' => e = .returned (.tuple #[.agg (ncs s), .bool true]) ∧ Below w.heap.size w w' := by
  have h := Sh.path_yes (s : Int) (by omega) (by omega) w
  rw [show (5 + (s : Int) / 4) = ((pn s 0 : Nat) : Int) from by simp [pn], show (1 + (s : Int) / 16) = ((pn s 1 : Nat) : Int) from by simp [pn]] at h
  exact h
theorem rPath_is (s : Nat) (hs : s < 64) (w : World) : Calls Try.prog 23 #[.int .i64 (s : Int)] w fun e w' => e = .returned (.tuple #[.agg (ncs s), .bool true]) ∧ Below w.heap.size w w' := by
  have h := Sh.rPath_yes (s : Int) (by omega) (by omega) w
  rw [show (5 + (s : Int) / 4) = ((pn s 0 : Nat) : Int) from by simp [pn], show (1 + (s : Int) / 16) = ((pn s 1 : Nat) : Int) from by simp [pn]] at h
  exact h
/- What stands: the tree, the answer's block, and the path that is being made. -/
structure SQ (w W : World) (B K : Nat) (t : Tr) : Prop where
  tr : TrAt W B t
  ze : PaAt W K (fun _ => zK)
  bel : Below w.heap.size w W
  ne : B ≠ K
  ge : w.heap.size ≤ K
theorem SQ.later {w W W' : World} {B K : Nat} {t : Tr} (h : SQ w W B K t) (hb : Below W.heap.size W W') : SQ w W' B K t := ⟨h.tr.later hb, h.ze.later hb, h.bel.trans (hb.mono h.bel.size), h.ne, h.ge⟩
theorem SQ.new (w : World) (t : Tr) : SQ w ((w.alloc (.cells (tcs t) 31)).alloc (.cells (pcs fun _ => zK) 39)) w.heap.size (w.heap.size + 1) t := by
  have h1 := TrAt.new w t
  have hb1 := alloc_tr w t
  have h2 := PaAt.new (w.alloc (.cells (tcs t) 31)) (fun _ => zK)
  have hb2 := Rt.alloc_pa (w.alloc (.cells (tcs t) 31)) (fun _ => zK)
  rw [World.size_alloc] at h2
  exact ⟨h1.later hb2, h2, hb1.trans (hb2.mono hb1.size), by omega, by omega⟩
def psS (t : Tr) (s k : Nat) : Nat → Ky := fun i => if i < k then t.ks (pn s i) else zK
theorem psS_zero (t : Tr) (s : Nat) : pcs (psS t s 0) = pcs fun _ => zK := Rt.pcs_congr fun i _ => by unfold psS; exact if_neg (by omega)
theorem psS_all (t : Tr) (s i : Nat) (h : i < 3) : psS t s 3 i = t.ks (pn s i) := by unfold psS; exact if_pos h
theorem psS_step (t : Tr) (s k : Nat) : psS t s (k + 1) = Rt.kup (psS t s k) k (t.ks (pn s k)) := by
  funext v
  show (if v < k + 1 then t.ks (pn s v) else zK) = if v = k then t.ks (pn s k) else (if v < k then t.ks (pn s v) else zK)
  by_cases h : v = k
  · subst h
    rw [if_pos (by omega), if_pos rfl]
  · rw [if_neg h]
    by_cases c : v < k
    · rw [if_pos (by omega), if_pos c]
    · rw [if_neg (by omega), if_neg c]
structure SP (w W : World) (B K P : Nat) (t : Tr) (f : Nat → Ky) : Prop where
  sq : SQ w W B K t
  pa : PaAt W P f
  n1 : B ≠ P
  n2 : K ≠ P
  gp : w.heap.size ≤ P
theorem SP.later {w W W' : World} {B K P : Nat} {t : Tr} {f : Nat → Ky} (h : SP w W B K P t f) (hb : Below W.heap.size W W') : SP w W' B K P t f := ⟨h.sq.later hb, h.pa.later hb, h.n1, h.n2, h.gp⟩
theorem SP.congr {w W : World} {B K P : Nat} {t : Tr} {f g : Nat → Ky} (h : SP w W B K P t f) (e : pcs f = pcs g) : SP w W B K P t g := ⟨h.sq, h.pa.congr e, h.n1, h.n2, h.gp⟩
theorem SP.new {w W : World} {B K : Nat} {t : Tr} (h : SQ w W B K t) (f : Nat → Ky) : SP w (W.alloc (.cells (pcs f) 39)) B K W.heap.size t f :=
  ⟨h.later (Rt.alloc_pa _ _), PaAt.new _ _, by have := h.tr.lt; omega, by have := h.ze.lt; omega, h.bel.size⟩
theorem SP.set {w W : World} {B K P : Nat} {t : Tr} {f : Nat → Ky} (h : SP w W B K P t f) (k : Nat) (hk : k < 3) (e : Ky) : SP w ((W.setCell ⟨P, k * 2, none⟩ (.int .i64 e.bas)).setCell ⟨P, k * 2 + 1, none⟩ (.int .i64 e.stp)) B K P t (Rt.kup f k e) :=
  ⟨⟨(Rt.set2_other h.n1 _ _ _ _).trans h.sq.tr, (Rt.set2_other h.n2 _ _ _ _).trans h.sq.ze, Rt.set2_below h.sq.bel h.gp _ _ _ _, h.sq.ne, h.sq.ge⟩, h.pa.set2 k hk _ _, h.n1, h.n2, h.gp⟩
theorem slot_cases (s : Int) : (slb s = false ∧ (s < 0 ∨ 64 ≤ s)) ∨ ∃ k : Nat, s = (k : Int) ∧ k < 64 := by
  by_cases h : 0 ≤ s ∧ s < 64
  · exact Or.inr ⟨s.toNat, by omega, by omega⟩
  · exact Or.inl ⟨by simp [slb]; omega, by omega⟩
set_option maxRecDepth 100000 in
set_option maxHeartbeats 1000000 in
theorem pathOf_any (t : Tr) (sl : Int) (w : World) : Calls Try.prog 14 #[.agg (tcs t), .int .i64 sl] w fun e w' => e = PathA t sl ∧ Below w.heap.size w w' := by
  have hS := SQ.new w t
  have h1 := check_any t
  obtain ⟨ct, hct⟩ : ∃ c, tcs t = c := ⟨_, rfl⟩
  simp only [hct] at h1
  have HT : Hid (tcs t = ct) := hct
  clear hct
  go_enter Try.func14, Try.ntmps14
  go_upto_region 1 with (fail)
  rw [Rt.zero6]
  generalize (w.alloc (.cells (tcs t) 31)).alloc (.cells (pcs fun _ => zK) 39) = w1 at *
  rw [HT.out]
  have hT1 := hS.tr
  obtain ⟨K, hK⟩ : ∃ K, w.heap.size + 1 = K := ⟨_, rfl⟩
  rw [hK] at hS ⊢
  obtain ⟨B, hB⟩ : ∃ B, w.heap.size = B := ⟨_, rfl⟩
  rw [hB] at hS hT1 ⊢
  clear hK hB
  go_wp2_with (refine rdT hT1 HT.out _ rfl rfl rfl ?_)
  refine (h1 _).mono ?_
  rintro r w2 ⟨rfl, hb2⟩
  have hS2 := hS.later hb2
  clear h1 hS hT1 hb2
  cases hck : tck t with
  | false =>
    rw [tckE_ff hck]
    go_wp2_with (refine Rt.stP (g := fun _ => zK) hS2.ze rfl _ _ rfl rfl Rt.zero6' ?_)
    refine bodyPost_ret (results_pa2 (p := 4) (t := 5) rfl _ _ K (fun _ => zK) rfl (hS2.ze.row _)) rfl ?_
    exact ⟨PathA.no (poE_bad hck) (by decide), Rt.setRow_below hS2.ge hS2.bel _⟩
  | true =>
    rw [tckE_tt hck]
    rcases slot_cases sl with ⟨hs, hs2⟩ | ⟨s, rfl, hs8⟩
    · have hp := Sh.path_no sl hs2
      clear hs2
      go_wp2_with fail
      refine (hp _).mono ?_
      rintro r w3 ⟨rfl, hb3⟩
      have hS3 := hS2.later hb3
      have hS4 := hS3.later (below_alloc w3 (.cells #[.int .i64 0, .int .i64 0, .int .i64 0] 54))
      clear hp hS2 hb3 hS3
      go_wp2_with (refine Rt.stP (g := fun _ => zK) hS4.ze rfl _ _ rfl rfl Rt.zero6' ?_)
      refine bodyPost_ret (results_pa2 (p := 4) (t := 5) rfl _ _ K (fun _ => zK) rfl (hS4.ze.row _)) rfl ?_
      exact ⟨PathA.no (poE_slot hck hs) (by decide), Rt.setRow_below hS4.ge hS4.bel _⟩
    · have hp := path_is s hs8
      unfold ncs at hp
      go_wp2_with fail
      refine (hp _).mono ?_
      rintro r w3 ⟨rfl, hb3⟩
      have hS3 := hS2.later hb3
      have hb4 := below_alloc w3 (.cells (ncs s) 54)
      have hS4 := hS3.later hb4
      have hN4 := heap_alloc_last w3 (.cells (ncs s) 54)
      have HN : Hid (ncs s = ncs s) := rfl
      have hi := idxN s
      clear hp hS2 hb3 hS3 hb4
      go_upto_region 7 with (fail)
      rw [show (#[.int .i64 ((pn s 0 : Nat) : Int), .int .i64 ((pn s 1 : Nat) : Int), .int .i64 ((pn s 2 : Nat) : Int)] : Array Value) = ncs s from rfl]
      generalize w3.alloc (.cells (ncs s) 54) = w4 at *
      generalize w3.heap.size = N at *
      go_upto_region 8 with (fail)
      rw [Rt.zero6]
      have hP := (SP.new hS4 (fun _ => zK)).congr (psS_zero t s).symm
      have hN5 := ((below_alloc w4 (.cells (pcs fun _ => zK) 39)).block N (Array.getElem?_eq_some_iff.1 hN4).1).trans hN4
      clear hS4 hN4
      generalize w4.alloc (.cells (pcs fun _ => zK) 39) = w5 at *
      generalize w4.heap.size = P at *
      have l0 : (Instr.loadAt 54 (.pointer (some ⟨N, 0, none⟩))).run Try.prog w5 = .ok (.agg (ncs s)) w5 := part_run hN5 Try.underlying54 rfl (n := 3) (by kernel_rfl) 0 rfl fun j hj => by rw [Nat.zero_add]
      obtain ⟨cn, hcn⟩ : ∃ c, ncs s = c := ⟨_, rfl⟩
      rw [hcn] at hi l0 ⊢
      have HP : Hid (SP w w5 B K P t (psS t s 0)) := hP
      clear hP hcn hN5 HN
      go_wp2_with (refine rd_guard (v := .agg cn) (by rfl) (ld_exec l0 rfl rfl) ?_)
      clear l0
      go_loopw [27] (fun i wx => ∃ k : Nat, k ≤ 3 ∧ i = .int .i64 (k : Int) ∧ SP w wx B K P t (psS t s k)) (fun i _ => 3 - (intOf i).toNat)
      case atStart => exact ⟨0, by omega, rfl, HP.out⟩
      case round =>
        obtain ⟨k, hk, rfl, hP⟩ := hrel
        clear HP
        by_cases hk8 : k < 3
        · have k8 : (k : Int) < 3 := by omega
          have k0 : (0 : Int) ≤ (k : Int) := by omega
          have hik := hi k hk8
          have hnl := pn_lt hs8 k
          have HPS : Hid (SP w ((wr.setCell ⟨P, k * 2, none⟩ (.int .i64 (t.ks (pn s k)).bas)).setCell ⟨P, k * 2 + 1, none⟩ (.int .i64 (t.ks (pn s k)).stp)) B K P t (psS t s (k + 1))) := by rw [psS_step]; exact hP.set k hk8 _
          obtain ⟨c0, c1⟩ := hP.sq.tr.key (pn s k) hnl
          obtain ⟨p0, p1⟩ := hP.pa.cells k hk8
          have f0 := Rt.row_frozen hP.pa (k * 2)
          have f1 := Rt.row_frozen hP.pa (k * 2 + 1)
          generalize psS t s k k = pk at *
          generalize t.ks (pn s k) = e at *
          generalize pn s k = n at *
          have n0 : (0 : Int) ≤ (n : Int) := by omega
          have n1 : (n : Int) < 21 := by omega
          clear hP hi
          go_wp2_with fail
          go_roundw
          case rel => exact ⟨k + 1, by omega, by go_num, HPS.out⟩
          case measure => simp [intOf]; omega
        · obtain rfl : k = 3 := by omega
          go_upto_region 13 with (fail)
          refine wp_region_lit ?_
          refine Rt.ldP hP.pa rfl _ rfl rfl ?_
          go_wp2_with (refine Rt.stP (g := psS t s 3) hP.sq.ze rfl _ _ rfl rfl rfl ?_)
          refine bodyPost_ret (results_pa2 (p := 4) (t := 5) rfl _ _ K (psS t s 3) rfl (hP.sq.ze.row _)) rfl ?_
          exact ⟨PathA.yes hck hs8 (psS_all t s), Rt.setRow_below hP.sq.ge hP.sq.bel _⟩
theorem SP.two (w : World) (t : Tr) : SP w (((w.alloc (.cells (tcs t) 31)).alloc (.cells (pcs fun _ => zK) 39)).alloc (.cells (pcs fun _ => zK) 39)) w.heap.size (w.heap.size + 1) (w.heap.size + 2) t (fun _ => zK) := by
  have h := SP.new (SQ.new w t) (fun _ => zK)
  rw [World.size_alloc, World.size_alloc] at h
  exact h
set_option maxRecDepth 100000 in
set_option maxHeartbeats 1000000 in
theorem rPathOf_any (t : Tr) (sl : Int) (w : World) : Calls Try.prog 15 #[.agg (tcs t), .int .i64 sl] w fun e w' => e = PathA t sl ∧ Below w.heap.size w w' := by
  have hS := SP.two w t
  have h1 := rCheck_any t
  obtain ⟨ct, hct⟩ : ∃ c, tcs t = c := ⟨_, rfl⟩
  simp only [hct] at h1
  have HT : Hid (tcs t = ct) := hct
  clear hct
  go_enter Try.func15, Try.ntmps15
  go_upto_region 2 with (fail)
  rw [Rt.zero6]
  generalize ((w.alloc (.cells (tcs t) 31)).alloc (.cells (pcs fun _ => zK) 39)).alloc (.cells (pcs fun _ => zK) 39) = w1 at *
  rw [HT.out]
  have hT1 := hS.sq.tr
  obtain ⟨P, hP⟩ : ∃ P, w.heap.size + 2 = P := ⟨_, rfl⟩
  obtain ⟨K, hK⟩ : ∃ K, w.heap.size + 1 = K := ⟨_, rfl⟩
  try rw [show w.heap.size + 1 + 1 = w.heap.size + 2 from rfl]
  rw [hK, hP] at hS ⊢
  obtain ⟨B, hB⟩ : ∃ B, w.heap.size = B := ⟨_, rfl⟩
  rw [hB] at hS hT1 ⊢
  clear hK hB hP
  go_wp2_with (refine rdT hT1 HT.out _ rfl rfl rfl ?_)
  refine (h1 _).mono ?_
  rintro r w2 ⟨rfl, hb2⟩
  have hS2 := hS.later hb2
  clear h1 hS hT1 hb2
  cases hck : tck t with
  | false =>
    rw [tckE_ff hck]
    go_upto_region 3 with (fail)
    refine wp_region_lit ?_
    refine Rt.ldP hS2.pa rfl _ rfl rfl ?_
    go_wp2_with (refine Rt.stP (g := fun _ => zK) hS2.sq.ze rfl _ _ rfl rfl rfl ?_)
    refine bodyPost_ret (results_pa2 (p := 4) (t := 5) rfl _ _ K (fun _ => zK) rfl (hS2.sq.ze.row _)) rfl ?_
    exact ⟨PathA.no (poE_bad hck) (by decide), Rt.setRow_below hS2.sq.ge hS2.sq.bel _⟩
  | true =>
    rw [tckE_tt hck]
    rcases slot_cases sl with ⟨hs, hs2⟩ | ⟨s, rfl, hs8⟩
    · have hp := Sh.rPath_no sl hs2
      clear hs2
      go_wp2_with fail
      refine (hp _).mono ?_
      rintro r w3 ⟨rfl, hb3⟩
      have hS3 := hS2.later hb3
      have hS4 := hS3.later (below_alloc w3 (.cells #[.int .i64 0, .int .i64 0, .int .i64 0] 54))
      clear hp hS2 hb3 hS3
      go_upto_region 6 with (fail)
      refine wp_region_lit ?_
      refine Rt.ldP hS4.pa rfl _ rfl rfl ?_
      go_wp2_with (refine Rt.stP (g := fun _ => zK) hS4.sq.ze rfl _ _ rfl rfl rfl ?_)
      refine bodyPost_ret (results_pa2 (p := 4) (t := 5) rfl _ _ K (fun _ => zK) rfl (hS4.sq.ze.row _)) rfl ?_
      exact ⟨PathA.no (poE_slot hck hs) (by decide), Rt.setRow_below hS4.sq.ge hS4.sq.bel _⟩
    · have hp := rPath_is s hs8
      unfold ncs at hp
      go_wp2_with fail
      refine (hp _).mono ?_
      rintro r w3 ⟨rfl, hb3⟩
      have hS3 := hS2.later hb3
      have hb4 := below_alloc w3 (.cells (ncs s) 54)
      have hS4 := (hS3.later hb4).congr (psS_zero t s).symm
      have hN4 := heap_alloc_last w3 (.cells (ncs s) 54)
      have HNP : Hid (w3.heap.size ≠ P) := Nat.ne_of_gt hS3.pa.lt
      clear hp hS2 hb3 hS3 hb4
      go_upto_region 7 with (fail)
      rw [show (#[.int .i64 ((pn s 0 : Nat) : Int), .int .i64 ((pn s 1 : Nat) : Int), .int .i64 ((pn s 2 : Nat) : Int)] : Array Value) = ncs s from rfl]
      generalize w3.alloc (.cells (ncs s) 54) = w5 at *
      generalize w3.heap.size = N at *
      have HP : Hid (SP w w5 B K P t (psS t s 0)) := hS4
      have HN : Hid (w5.heap[N]? = some (.cells (ncs s) 54 (0, 0))) := hN4
      obtain ⟨cn, hcn⟩ : ∃ c, ncs s = c := ⟨_, rfl⟩
      rw [hcn]
      clear hcn hS4 hN4
      go_wp2_with fail
      go_loopw [9] (fun i wx => ∃ k : Nat, k ≤ 3 ∧ i = .int .i64 (k : Int) ∧ SP w wx B K P t (psS t s k) ∧ wx.heap[N]? = some (.cells (ncs s) 54 (0, 0))) (fun i _ => 3 - (intOf i).toNat)
      case atStart => exact ⟨0, by omega, rfl, HP.out, HN.out⟩
      case round =>
        obtain ⟨k, hk, rfl, hP, hN⟩ := hrel
        clear HP HN
        by_cases hk8 : k < 3
        · have k8 : (k : Int) < 3 := by omega
          have k0 : (0 : Int) ≤ (k : Int) := by omega
          have cN := cellN hN hk8
          have hnl := pn_lt hs8 k
          have HPS : Hid (SP w ((wr.setCell ⟨P, k * 2, none⟩ (.int .i64 (t.ks (pn s k)).bas)).setCell ⟨P, k * 2 + 1, none⟩ (.int .i64 (t.ks (pn s k)).stp)) B K P t (psS t s (k + 1))) := by rw [psS_step]; exact hP.set k hk8 _
          have HNS : Hid (((wr.setCell ⟨P, k * 2, none⟩ (.int .i64 (t.ks (pn s k)).bas)).setCell ⟨P, k * 2 + 1, none⟩ (.int .i64 (t.ks (pn s k)).stp)).heap[N]? = some (.cells (ncs s) 54 (0, 0))) := (Rt.set2_other HNP.out _ _ _ _).trans hN
          obtain ⟨c0, c1⟩ := hP.sq.tr.key (pn s k) hnl
          obtain ⟨p0, p1⟩ := hP.pa.cells k hk8
          have f0 := Rt.row_frozen hP.pa (k * 2)
          have f1 := Rt.row_frozen hP.pa (k * 2 + 1)
          generalize psS t s k k = pk at *
          generalize t.ks (pn s k) = e at *
          generalize pn s k = n at *
          have n0 : (0 : Int) ≤ (n : Int) := by omega
          have n1 : (n : Int) < 21 := by omega
          clear hP hN
          go_wp2_with fail
          go_roundw
          case rel => exact ⟨k + 1, by omega, by go_num, HPS.out, HNS.out⟩
          case measure => simp [intOf]; omega
        · obtain rfl : k = 3 := by omega
          clear hN
          go_upto_region 11 with (fail)
          refine wp_region_lit ?_
          refine Rt.ldP hP.pa rfl _ rfl rfl ?_
          go_wp2_with (refine Rt.stP (g := psS t s 3) hP.sq.ze rfl _ _ rfl rfl rfl ?_)
          refine bodyPost_ret (results_pa2 (p := 4) (t := 5) rfl _ _ K (psS t s 3) rfl (hP.sq.ze.row _)) rfl ?_
          exact ⟨PathA.yes hck hs8 (psS_all t s), Rt.setRow_below hP.sq.ge hP.sq.bel _⟩
end Go.Proofs.Ytpkfpckljpffgaa
