/- TrP, TrK, TrM, joined. -/
import Derived.Test.YtpimbpfefhkojabGreatDoorTrD
import Derived.Test.YtpimbpfefhkojabGreatDoorRtK
import Derived.Test.YtpimbpfefhkojabGreatDoorShK
import Derived.Test.YtpimbpfefhkojabGreatDoorTrJ
namespace Go.Proofs.YtpimbpfefhkojabGreatDoor
open Go.RowKit
open Rt (Ky zK kcs KsAt KyAt pcs PaAt)
open Rs (En zE rcs RoAt EnAt)
set_option linter.unusedVariables false
set_option linter.unusedSimpArgs false

def PathA (t : Tr) (s : Int) : Ending := .returned (.tuple #[.agg (pcs (poP t s)), .int .i64 (poE t s)])
theorem PathA.no {t : Tr} {s x : Int} (h : poE t s = x) (hx : x ≠ 0) : Ending.returned (.tuple #[.agg (pcs fun _ => zK), .int .i64 x]) = PathA t s := by
  unfold PathA
  rw [h, show poP t s = fun _ => zK from funext fun i => poP_no (by rw [h]; exact hx) i]
theorem PathA.yes {t : Tr} {s : Nat} (h : tck t = true) (hs : s < 64) {f : Nat → Ky} (hf : ∀ i, i < 3 → f i = t.ks (pn s i)) : Ending.returned (.tuple #[.agg (pcs f), .int .i64 0]) = PathA t s := by
  unfold PathA
  rw [poE_ok h hs, Rt.pcs_congr (f := poP t s) (g := f) fun i hi => by rw [hf i hi]; exact poP_ok h hs i]
theorem results_pa2 {fn : Func} {p t : Tmp} (hf : fn.results = #[.cell p 72, .tmp t]) (tmps : Array Value) (W : World) (B : Nat) (f : Nat → Ky) (hp : tmps[p]? = some (.pointer (some ⟨B, 0, none⟩))) (hb : PaAt W B f) :
    (results fn tmps).run Tryz.prog W = .ok (.tuple #[.agg (pcs f), tmps.getD t undef]) W := by
  have h := run_loadVar_row W B _ 72 _ _ _ hb Tryz.underlying72 rfl (by rw [Rt.pcs_size]; exact Rt.infoP)
  simp [results, hf, hp, asAddr, h]
/- The path's nodes. -/
def ncs (s : Nat) : Array Value := #[.int .i64 ((pn s 0 : Nat) : Int), .int .i64 ((pn s 1 : Nat) : Int), .int .i64 ((pn s 2 : Nat) : Int)]
theorem nidx0 (x y z : Value) (w : World) : (Instr.index 132 (.agg #[x, y, z]) (.int .i64 0)).run Tryz.prog w = .ok x w := by kernel_rfl
theorem nidx1 (x y z : Value) (w : World) : (Instr.index 132 (.agg #[x, y, z]) (.int .i64 1)).run Tryz.prog w = .ok y w := by kernel_rfl
theorem nidx2 (x y z : Value) (w : World) : (Instr.index 132 (.agg #[x, y, z]) (.int .i64 2)).run Tryz.prog w = .ok z w := by kernel_rfl
theorem idxN (s k : Nat) (hk : k < 3) (W : World) : (Instr.index 132 (.agg (ncs s)) (.int .i64 (k : Int))).run Tryz.prog W = .ok (.int .i64 ((pn s k : Nat) : Int)) W := by
  match k, hk with
  | 0, _ => exact nidx0 _ _ _ W
  | 1, _ => exact nidx1 _ _ _ W
  | 2, _ => exact nidx2 _ _ _ W
theorem cellN {w : World} {N s : Nat} (h : w.heap[N]? = some (.cells (ncs s) 132 (0, 0))) {k : Nat} (hk : k < 3) : w.cell? ⟨N, k, none⟩ = some (.int .i64 ((pn s k : Nat) : Int)) := by
  match k, hk with
  | 0, _ => exact cell_of_row w N 0 _ _ _ h
  | 1, _ => exact cell_of_row w N 1 _ _ _ h
  | 2, _ => exact cell_of_row w N 2 _ _ _ h
theorem path_is (s : Nat) (hs : s < 64) (w : World) : Calls Tryz.prog 64 #[.int .i64 (s : Int)] w fun e w' => e = .returned (.tuple #[.agg (ncs s), .bool true]) ∧ Below w.heap.size w w' := by
  have h := Sh.path_yes (s : Int) (by omega) (by omega) w
  rw [show (5 + (s : Int) / 4) = ((pn s 0 : Nat) : Int) from by simp [pn], show (1 + (s : Int) / 16) = ((pn s 1 : Nat) : Int) from by simp [pn]] at h
  exact h
theorem rPath_is (s : Nat) (hs : s < 64) (w : World) : Calls Tryz.prog 83 #[.int .i64 (s : Int)] w fun e w' => e = .returned (.tuple #[.agg (ncs s), .bool true]) ∧ Below w.heap.size w w' := by
  have h := Sh.rPath_yes (s : Int) (by omega) (by omega) w
  rw [show (5 + (s : Int) / 4) = ((pn s 0 : Nat) : Int) from by simp [pn], show (1 + (s : Int) / 16) = ((pn s 1 : Nat) : Int) from by simp [pn]] at h
  exact h
/- What stands: the tree, the answer's block, and the path that is being made. -/
structure SQ (w W : World) (B K : Nat) (t : Tr) : Prop where
  tr : TrAt W B t
  ze : PaAt W K (fun _ => zK)
  bel : Below w.heap.size w W
  ne : B ≠ K
  ge : w.heap.size ≤ K
theorem SQ.later {w W W' : World} {B K : Nat} {t : Tr} (h : SQ w W B K t) (hb : Below W.heap.size W W') : SQ w W' B K t := ⟨h.tr.later hb, h.ze.later hb, h.bel.trans (hb.mono h.bel.size), h.ne, h.ge⟩
theorem SQ.new (w : World) (t : Tr) : SQ w ((w.alloc (.cells (tcs t) 47)).alloc (.cells (pcs fun _ => zK) 72)) w.heap.size (w.heap.size + 1) t := by
  have h1 := TrAt.new w t
  have hb1 := alloc_tr w t
  have h2 := PaAt.new (w.alloc (.cells (tcs t) 47)) (fun _ => zK)
  have hb2 := Rt.alloc_pa (w.alloc (.cells (tcs t) 47)) (fun _ => zK)
  rw [World.size_alloc] at h2
  exact ⟨h1.later hb2, h2, hb1.trans (hb2.mono hb1.size), by omega, by omega⟩
def psS (t : Tr) (s k : Nat) : Nat → Ky := fun i => if i < k then t.ks (pn s i) else zK
theorem psS_zero (t : Tr) (s : Nat) : pcs (psS t s 0) = pcs fun _ => zK := Rt.pcs_congr fun i _ => by unfold psS; exact if_neg (by omega)
theorem psS_all (t : Tr) (s i : Nat) (h : i < 3) : psS t s 3 i = t.ks (pn s i) := by unfold psS; exact if_pos h
theorem psS_step (t : Tr) (s k : Nat) : psS t s (k + 1) = Rt.kup (psS t s k) k (t.ks (pn s k)) := by
  funext v
  show (if v < k + 1 then t.ks (pn s v) else zK) = if v = k then t.ks (pn s k) else (if v < k then t.ks (pn s v) else zK)
  by_cases h : v = k
  · subst h
    rw [if_pos (by omega), if_pos rfl]
  · rw [if_neg h]
    by_cases c : v < k
    · rw [if_pos (by omega), if_pos c]
    · rw [if_neg (by omega), if_neg c]
structure SP (w W : World) (B K P : Nat) (t : Tr) (f : Nat → Ky) : Prop where
  sq : SQ w W B K t
  pa : PaAt W P f
  n1 : B ≠ P
  n2 : K ≠ P
  gp : w.heap.size ≤ P
theorem SP.later {w W W' : World} {B K P : Nat} {t : Tr} {f : Nat → Ky} (h : SP w W B K P t f) (hb : Below W.heap.size W W') : SP w W' B K P t f := ⟨h.sq.later hb, h.pa.later hb, h.n1, h.n2, h.gp⟩
theorem SP.congr {w W : World} {B K P : Nat} {t : Tr} {f g : Nat → Ky} (h : SP w W B K P t f) (e : pcs f = pcs g) : SP w W B K P t g := ⟨h.sq, h.pa.congr e, h.n1, h.n2, h.gp⟩
theorem SP.new {w W : World} {B K : Nat} {t : Tr} (h : SQ w W B K t) (f : Nat → Ky) : SP w (W.alloc (.cells (pcs f) 72)) B K W.heap.size t f :=
  ⟨h.later (Rt.alloc_pa _ _), PaAt.new _ _, by have := h.tr.lt; omega, by have := h.ze.lt; omega, h.bel.size⟩
theorem SP.set {w W : World} {B K P : Nat} {t : Tr} {f : Nat → Ky} (h : SP w W B K P t f) (k : Nat) (hk : k < 3) (e : Ky) : SP w ((W.setCell ⟨P, k * 2, none⟩ (.int .i64 e.bas)).setCell ⟨P, k * 2 + 1, none⟩ (.int .i64 e.stp)) B K P t (Rt.kup f k e) :=
  ⟨⟨(Rt.set2_other h.n1 _ _ _ _).trans h.sq.tr, (Rt.set2_other h.n2 _ _ _ _).trans h.sq.ze, Rt.set2_below h.sq.bel h.gp _ _ _ _, h.sq.ne, h.sq.ge⟩, h.pa.set2 k hk _ _, h.n1, h.n2, h.gp⟩
theorem slot_cases (s : Int) : (slb s = false ∧ (s < 0 ∨ 64 ≤ s)) ∨ ∃ k : Nat, s = (k : Int) ∧ k < 64 := by
  by_cases h : 0 ≤ s ∧ s < 64
  · exact Or.inr ⟨s.toNat, by omega, by omega⟩
  · exact Or.inl ⟨by simp [slb]; omega, by omega⟩
set_option maxRecDepth 100000 in
set_option maxHeartbeats 1000000 in
theorem pathOf_any (t : Tr) (sl : Int) (w : World) : Calls Tryz.prog 34 #[.agg (tcs t), .int .i64 sl] w fun e w' => e = PathA t sl ∧ Below w.heap.size w w' := by
  have hS := SQ.new w t
  have h1 := check_any t
  obtain ⟨ct, hct⟩ : ∃ c, tcs t = c := ⟨_, rfl⟩
  simp only [hct] at h1
  have HT : Hid (tcs t = ct) := hct
  clear hct
  go_enter Tryz.func34, Tryz.ntmps34
  go_upto_region 1 with (fail)
  rw [Rt.zero6]
  generalize (w.alloc (.cells (tcs t) 47)).alloc (.cells (pcs fun _ => zK) 72) = w1 at *
  rw [HT.out]
  have hT1 := hS.tr
  obtain ⟨K, hK⟩ : ∃ K, w.heap.size + 1 = K := ⟨_, rfl⟩
  rw [hK] at hS ⊢
  obtain ⟨B, hB⟩ : ∃ B, w.heap.size = B := ⟨_, rfl⟩
  rw [hB] at hS hT1 ⊢
  clear hK hB
  go_wp2_with (refine rdT hT1 HT.out _ rfl rfl rfl ?_)
  refine (h1 _).mono ?_
  rintro r w2 ⟨rfl, hb2⟩
  have hS2 := hS.later hb2
  clear h1 hS hT1 hb2
  cases hck : tck t with
  | false =>
    rw [tckE_ff hck]
    go_wp2_with (refine Rt.stP (g := fun _ => zK) hS2.ze rfl _ _ rfl rfl Rt.zero6' ?_)
    refine bodyPost_ret (results_pa2 (p := 4) (t := 5) rfl _ _ K (fun _ => zK) rfl (hS2.ze.row _)) rfl ?_
    exact ⟨PathA.no (poE_bad hck) (by decide), Rt.setRow_below hS2.ge hS2.bel _⟩
  | true =>
    rw [tckE_tt hck]
    rcases slot_cases sl with ⟨hs, hs2⟩ | ⟨s, rfl, hs8⟩
    · have hp := Sh.path_no sl hs2
      clear hs2
      go_wp2_with fail
      refine (hp _).mono ?_
      rintro r w3 ⟨rfl, hb3⟩
      have hS3 := hS2.later hb3
      have hS4 := hS3.later (below_alloc w3 (.cells #[.int .i64 0, .int .i64 0, .int .i64 0] 132))
      clear hp hS2 hb3 hS3
      go_wp2_with (refine Rt.stP (g := fun _ => zK) hS4.ze rfl _ _ rfl rfl Rt.zero6' ?_)
      refine bodyPost_ret (results_pa2 (p := 4) (t := 5) rfl _ _ K (fun _ => zK) rfl (hS4.ze.row _)) rfl ?_
      exact ⟨PathA.no (poE_slot hck hs) (by decide), Rt.setRow_below hS4.ge hS4.bel _⟩
    · have hp := path_is s hs8
      unfold ncs at hp
      go_wp2_with fail
      refine (hp _).mono ?_
      rintro r w3 ⟨rfl, hb3⟩
      have hS3 := hS2.later hb3
      have hb4 := below_alloc w3 (.cells (ncs s) 132)
      have hS4 := hS3.later hb4
      have hN4 := heap_alloc_last w3 (.cells (ncs s) 132)
      have HN : Hid (ncs s = ncs s) := rfl
      have hi := idxN s
      clear hp hS2 hb3 hS3 hb4
      go_upto_region 7 with (fail)
      rw [show (#[.int .i64 ((pn s 0 : Nat) : Int), .int .i64 ((pn s 1 : Nat) : Int), .int .i64 ((pn s 2 : Nat) : Int)] : Array Value) = ncs s from rfl]
      generalize w3.alloc (.cells (ncs s) 132) = w4 at *
      generalize w3.heap.size = N at *
      go_upto_region 8 with (fail)
      rw [Rt.zero6]
      have hP := (SP.new hS4 (fun _ => zK)).congr (psS_zero t s).symm
      have hN5 := ((below_alloc w4 (.cells (pcs fun _ => zK) 72)).block N (Array.getElem?_eq_some_iff.1 hN4).1).trans hN4
      clear hS4 hN4
      generalize w4.alloc (.cells (pcs fun _ => zK) 72) = w5 at *
      generalize w4.heap.size = P at *
      have l0 : (Instr.loadAt 132 (.pointer (some ⟨N, 0, none⟩))).run Tryz.prog w5 = .ok (.agg (ncs s)) w5 := part_run hN5 Tryz.underlying132 rfl (n := 3) (by kernel_rfl) 0 rfl fun j hj => by rw [Nat.zero_add]
      obtain ⟨cn, hcn⟩ : ∃ c, ncs s = c := ⟨_, rfl⟩
      rw [hcn] at hi l0 ⊢
      have HP : Hid (SP w w5 B K P t (psS t s 0)) := hP
      clear hP hcn hN5 HN
      go_wp2_with (refine rd_guard (v := .agg cn) (by rfl) (ld_exec l0 rfl rfl) ?_)
      clear l0
      go_loopw [27] (fun i wx => ∃ k : Nat, k ≤ 3 ∧ i = .int .i64 (k : Int) ∧ SP w wx B K P t (psS t s k)) (fun i _ => 3 - (intOf i).toNat)
      case atStart => exact ⟨0, by omega, rfl, HP.out⟩
      case round =>
        obtain ⟨k, hk, rfl, hP⟩ := hrel
        clear HP
        by_cases hk8 : k < 3
        · have k8 : (k : Int) < 3 := by omega
          have k0 : (0 : Int) ≤ (k : Int) := by omega
          have hik := hi k hk8
          have hnl := pn_lt hs8 k
          have HPS : Hid (SP w ((wr.setCell ⟨P, k * 2, none⟩ (.int .i64 (t.ks (pn s k)).bas)).setCell ⟨P, k * 2 + 1, none⟩ (.int .i64 (t.ks (pn s k)).stp)) B K P t (psS t s (k + 1))) := by rw [psS_step]; exact hP.set k hk8 _
          obtain ⟨c0, c1⟩ := hP.sq.tr.key (pn s k) hnl
          obtain ⟨p0, p1⟩ := hP.pa.cells k hk8
          have f0 := Rt.row_frozen hP.pa (k * 2)
          have f1 := Rt.row_frozen hP.pa (k * 2 + 1)
          generalize psS t s k k = pk at *
          generalize t.ks (pn s k) = e at *
          generalize pn s k = n at *
          have n0 : (0 : Int) ≤ (n : Int) := by omega
          have n1 : (n : Int) < 21 := by omega
          clear hP hi
          go_wp2_with fail
          go_roundw
          case rel => exact ⟨k + 1, by omega, by go_num, HPS.out⟩
          case measure => simp [intOf]; omega
        · obtain rfl : k = 3 := by omega
          go_upto_region 13 with (fail)
          refine wp_region_lit ?_
          refine Rt.ldP hP.pa rfl _ rfl rfl ?_
          go_wp2_with (refine Rt.stP (g := psS t s 3) hP.sq.ze rfl _ _ rfl rfl rfl ?_)
          refine bodyPost_ret (results_pa2 (p := 4) (t := 5) rfl _ _ K (psS t s 3) rfl (hP.sq.ze.row _)) rfl ?_
          exact ⟨PathA.yes hck hs8 (psS_all t s), Rt.setRow_below hP.sq.ge hP.sq.bel _⟩
theorem SP.two (w : World) (t : Tr) : SP w (((w.alloc (.cells (tcs t) 47)).alloc (.cells (pcs fun _ => zK) 72)).alloc (.cells (pcs fun _ => zK) 72)) w.heap.size (w.heap.size + 1) (w.heap.size + 2) t (fun _ => zK) := by
  have h := SP.new (SQ.new w t) (fun _ => zK)
  rw [World.size_alloc, World.size_alloc] at h
  exact h
set_option maxRecDepth 100000 in
set_option maxHeartbeats 1000000 in
theorem rPathOf_any (t : Tr) (sl : Int) (w : World) : Calls Tryz.prog 44 #[.agg (tcs t), .int .i64 sl] w fun e w' => e = PathA t sl ∧ Below w.heap.size w w' := by
  have hS := SP.two w t
  have h1 := rCheck_any t
  obtain ⟨ct, hct⟩ : ∃ c, tcs t = c := ⟨_, rfl⟩
  simp only [hct] at h1
  have HT : Hid (tcs t = ct) := hct
  clear hct
  go_enter Tryz.func44, Tryz.ntmps44
  go_upto_region 2 with (fail)
  rw [Rt.zero6]
  generalize ((w.alloc (.cells (tcs t) 47)).alloc (.cells (pcs fun _ => zK) 72)).alloc (.cells (pcs fun _ => zK) 72) = w1 at *
  rw [HT.out]
  have hT1 := hS.sq.tr
  obtain ⟨P, hP⟩ : ∃ P, w.heap.size + 2 = P := ⟨_, rfl⟩
  obtain ⟨K, hK⟩ : ∃ K, w.heap.size + 1 = K := ⟨_, rfl⟩
  try rw [show w.heap.size + 1 + 1 = w.heap.size + 2 from rfl]
  rw [hK, hP] at hS ⊢
  obtain ⟨B, hB⟩ : ∃ B, w.heap.size = B := ⟨_, rfl⟩
  rw [hB] at hS hT1 ⊢
  clear hK hB hP
  go_wp2_with (refine rdT hT1 HT.out _ rfl rfl rfl ?_)
  refine (h1 _).mono ?_
  rintro r w2 ⟨rfl, hb2⟩
  have hS2 := hS.later hb2
  clear h1 hS hT1 hb2
  cases hck : tck t with
  | false =>
    rw [tckE_ff hck]
    go_upto_region 3 with (fail)
    refine wp_region_lit ?_
    refine Rt.ldP hS2.pa rfl _ rfl rfl ?_
    go_wp2_with (refine Rt.stP (g := fun _ => zK) hS2.sq.ze rfl _ _ rfl rfl rfl ?_)
    refine bodyPost_ret (results_pa2 (p := 4) (t := 5) rfl _ _ K (fun _ => zK) rfl (hS2.sq.ze.row _)) rfl ?_
    exact ⟨PathA.no (poE_bad hck) (by decide), Rt.setRow_below hS2.sq.ge hS2.sq.bel _⟩
  | true =>
    rw [tckE_tt hck]
    rcases slot_cases sl with ⟨hs, hs2⟩ | ⟨s, rfl, hs8⟩
    · have hp := Sh.rPath_no sl hs2
      clear hs2
      go_wp2_with fail
      refine (hp _).mono ?_
      rintro r w3 ⟨rfl, hb3⟩
      have hS3 := hS2.later hb3
      have hS4 := hS3.later (below_alloc w3 (.cells #[.int .i64 0, .int .i64 0, .int .i64 0] 132))
      clear hp hS2 hb3 hS3
      go_upto_region 6 with (fail)
      refine wp_region_lit ?_
      refine Rt.ldP hS4.pa rfl _ rfl rfl ?_
      go_wp2_with (refine Rt.stP (g := fun _ => zK) hS4.sq.ze rfl _ _ rfl rfl rfl ?_)
      refine bodyPost_ret (results_pa2 (p := 4) (t := 5) rfl _ _ K (fun _ => zK) rfl (hS4.sq.ze.row _)) rfl ?_
      exact ⟨PathA.no (poE_slot hck hs) (by decide), Rt.setRow_below hS4.sq.ge hS4.sq.bel _⟩
    · have hp := rPath_is s hs8
      unfold ncs at hp
      go_wp2_with fail
      refine (hp _).mono ?_
      rintro r w3 ⟨rfl, hb3⟩
      have hS3 := hS2.later hb3
      have hb4 := below_alloc w3 (.cells (ncs s) 132)
      have hS4 := (hS3.later hb4).congr (psS_zero t s).symm
      have hN4 := heap_alloc_last w3 (.cells (ncs s) 132)
      have HNP : Hid (w3.heap.size ≠ P) := Nat.ne_of_gt hS3.pa.lt
      clear hp hS2 hb3 hS3 hb4
      go_upto_region 7 with (fail)
      rw [show (#[.int .i64 ((pn s 0 : Nat) : Int), .int .i64 ((pn s 1 : Nat) : Int), .int .i64 ((pn s 2 : Nat) : Int)] : Array Value) = ncs s from rfl]
      generalize w3.alloc (.cells (ncs s) 132) = w5 at *
      generalize w3.heap.size = N at *
      have HP : Hid (SP w w5 B K P t (psS t s 0)) := hS4
      have HN : Hid (w5.heap[N]? = some (.cells (ncs s) 132 (0, 0))) := hN4
      obtain ⟨cn, hcn⟩ : ∃ c, ncs s = c := ⟨_, rfl⟩
      rw [hcn]
      clear hcn hS4 hN4
      go_wp2_with fail
      go_loopw [9] (fun i wx => ∃ k : Nat, k ≤ 3 ∧ i = .int .i64 (k : Int) ∧ SP w wx B K P t (psS t s k) ∧ wx.heap[N]? = some (.cells (ncs s) 132 (0, 0))) (fun i _ => 3 - (intOf i).toNat)
      case atStart => exact ⟨0, by omega, rfl, HP.out, HN.out⟩
      case round =>
        obtain ⟨k, hk, rfl, hP, hN⟩ := hrel
        clear HP HN
        by_cases hk8 : k < 3
        · have k8 : (k : Int) < 3 := by omega
          have k0 : (0 : Int) ≤ (k : Int) := by omega
          have cN := cellN hN hk8
          have hnl := pn_lt hs8 k
          have HPS : Hid (SP w ((wr.setCell ⟨P, k * 2, none⟩ (.int .i64 (t.ks (pn s k)).bas)).setCell ⟨P, k * 2 + 1, none⟩ (.int .i64 (t.ks (pn s k)).stp)) B K P t (psS t s (k + 1))) := by rw [psS_step]; exact hP.set k hk8 _
          have HNS : Hid (((wr.setCell ⟨P, k * 2, none⟩ (.int .i64 (t.ks (pn s k)).bas)).setCell ⟨P, k * 2 + 1, none⟩ (.int .i64 (t.ks (pn s k)).stp)).heap[N]? = some (.cells (ncs s) 132 (0, 0))) := (Rt.set2_other HNP.out _ _ _ _).trans hN
          obtain ⟨c0, c1⟩ := hP.sq.tr.key (pn s k) hnl
          obtain ⟨p0, p1⟩ := hP.pa.cells k hk8
          have f0 := Rt.row_frozen hP.pa (k * 2)
          have f1 := Rt.row_frozen hP.pa (k * 2 + 1)
          generalize psS t s k k = pk at *
          generalize t.ks (pn s k) = e at *
          generalize pn s k = n at *
          have n0 : (0 : Int) ≤ (n : Int) := by omega
          have n1 : (n : Int) < 21 := by omega
          clear hP hN
          go_wp2_with fail
          go_roundw
          case rel => exact ⟨k + 1, by omega, by go_num, HPS.out, HNS.out⟩
          case measure => simp [intOf]; omega
        · obtain rfl : k = 3 := by omega
          clear hN
          go_upto_region 11 with (fail)
          refine wp_region_lit ?_
          refine Rt.ldP hP.pa rfl _ rfl rfl ?_
          go_wp2_with (refine Rt.stP (g := psS t s 3) hP.sq.ze rfl _ _ rfl rfl rfl ?_)
          refine bodyPost_ret (results_pa2 (p := 4) (t := 5) rfl _ _ K (psS t s 3) rfl (hP.sq.ze.row _)) rfl ?_
          exact ⟨PathA.yes hck hs8 (psS_all t s), Rt.setRow_below hP.sq.ge hP.sq.bel _⟩
open Rt (Ky zK kcs KyAt pcs PaAt)
open Rs (En zE rcs RoAt EnAt tkn fnd)

/- A whole row, stored and answered. -/
theorem stRow {T : TypeId} {n : Nat} (hi : (Tryz.prog.info? T).map (·.size) = some n) {ops : Array Oper} {rest : List Oper} {o : Oper} {a : Act} {w : World} {Q : Exit → Act → World → Prop} {B : Nat} {cs : Array Value} (hs : cs.size = n) (h : w.heap[B]? = some (.cells cs T (0, 0))) (ds : Array Value) (hd : ds.size = n) (h1 : ds.all (·.oneCell') = true)
    (hgd : o.guard = none) (x y : Operand) (ho : o.op = .store T x y) (hx : a.eval x = .pointer (some ⟨B, 0, none⟩)) (hy : a.eval y = .agg ds) (k : wpList Tryz.prog ops Q rest (a.put o.dst undef) (w.setRow B ds)) : wpList Tryz.prog ops Q (o :: rest) a w :=
  wpList_store_row hgd T x y ho B ds hx hy T cs h (by rw [hd]; exact hi) (by rw [hs, hd]) h1 k
theorem resRow {T : TypeId} {fn : Func} {p t : Tmp} (hf : fn.results = #[.cell p T, .tmp t]) (tmps : Array Value) (W : World) (B : Nat) (cs : Array Value) (hp : tmps[p]? = some (.pointer (some ⟨B, 0, none⟩))) (h : (loadVar T ⟨B, 0, none⟩).run Tryz.prog W = .ok (.agg cs) W) :
    (results fn tmps).run Tryz.prog W = .ok (.tuple #[.agg cs, tmps.getD t undef]) W := by
  simp [results, hf, hp, asAddr, h]
theorem infoCd : (Tryz.prog.info? 97).map (·.size) = some 5 := by kernel_rfl
theorem infoMb : (Tryz.prog.info? 74).map (·.size) = some 14 := by kernel_rfl
def ccs (W S P : Int) (k : Ky) : Array Value := #[.int .i64 W, .int .i64 S, .int .i64 P, .int .i64 k.bas, .int .i64 k.stp]
def mcs (W S P : Int) (k p q r : Ky) (h : Bool) : Array Value := #[.int .i64 W, .int .i64 S, .int .i64 P, .int .i64 k.bas, .int .i64 k.stp, .int .i64 p.bas, .int .i64 p.stp, .int .i64 q.bas, .int .i64 q.stp, .int .i64 r.bas, .int .i64 r.stp, .bool h, .bool false, .int .i64 0]
theorem ccs_one (W S P : Int) (k : Ky) : (ccs W S P k).all (·.oneCell') = true := by simp [ccs, Value.oneCell']
theorem mcs_one (W S P : Int) (k p q r : Ky) (h : Bool) : (mcs W S P k p q r h).all (·.oneCell') = true := by simp [mcs, Value.oneCell']
def CdAt (w : World) (B : Nat) (W S P : Int) (k : Ky) : Prop := w.heap[B]? = some (.cells (ccs W S P k) 97 (0, 0))
def MbAt (w : World) (B : Nat) (W S P : Int) (k p q r : Ky) (h : Bool) : Prop := w.heap[B]? = some (.cells (mcs W S P k p q r h) 74 (0, 0))
theorem CdAt.var {w : World} {B : Nat} {W S P : Int} {k : Ky} (h : CdAt w B W S P k) : (loadVar 97 ⟨B, 0, none⟩).run Tryz.prog w = .ok (.agg (ccs W S P k)) w := run_loadVar_row w B _ 97 _ _ _ h Tryz.underlying97 rfl infoCd
theorem MbAt.var {w : World} {B : Nat} {W S P : Int} {k p q r : Ky} {b : Bool} (h : MbAt w B W S P k p q r b) : (loadVar 74 ⟨B, 0, none⟩).run Tryz.prog w = .ok (.agg (mcs W S P k p q r b)) w := run_loadVar_row w B _ 74 _ _ _ h Tryz.underlying74 rfl infoMb
theorem CdAt.row {w : World} {B : Nat} {W S P : Int} {k : Ky} (h : CdAt w B W S P k) (W' S' P' : Int) (k' : Ky) : CdAt (w.setRow B (ccs W' S' P' k')) B W' S' P' k' := Rt.heap_setRow_same h _
theorem MbAt.row {w : World} {B : Nat} {W S P : Int} {k p q r : Ky} {b : Bool} (h : MbAt w B W S P k p q r b) (W' S' P' : Int) (k' p' q' r' : Ky) (b' : Bool) : MbAt (w.setRow B (mcs W' S' P' k' p' q' r' b')) B W' S' P' k' p' q' r' b' := Rt.heap_setRow_same h _
theorem row_later {w w' : World} {B : Nat} {o : Obj} (h : w.heap[B]? = some o) (hb : Below w.heap.size w w') : w'.heap[B]? = some o := (hb.block B (Array.getElem?_eq_some_iff.1 h).1).trans h
def CardA (t : Tr) (x : Int) : Ending := .returned (.tuple #[.agg (ccs (caW t x) (caS t x) (caP t x) (caK t x)), .int .i64 (caE t x)])
theorem CardA.no {t : Tr} {x e : Int} (h : caE t x = e) (he : e ≠ 0) : Ending.returned (.tuple #[.agg (ccs 0 0 0 zK), .int .i64 e]) = CardA t x := by
  unfold CardA caW caS caP caK
  rw [h, if_neg he, if_neg he, if_neg he, if_neg he]
theorem CardA.yes {t : Tr} {x : Int} {s : Nat} (h : tck t = true) (h2 : fnd t.ro x = (s : Int)) : Ending.returned (.tuple #[.agg (ccs x s t.ep (koK t (21 + (s : Int)))), .int .i64 0]) = CardA t x := by
  unfold CardA caW caS caP caK
  rw [caE_ok h h2, if_pos rfl, if_pos rfl, if_pos rfl, if_pos rfl, h2]
/- A found person's leaf. -/
theorem found {t : Tr} {x : Int} {s : Nat} (h : tck t = true) (hs : s < 64) (ht : tkn (t.ro s) = true) : koE t (21 + (s : Int)) = 0 := (koE_leaf h hs).trans ((tck_right h).leaf hs ht)
structure SC (w W : World) (B K : Nat) (t : Tr) : Prop where
  tr : TrAt W B t
  cd : CdAt W K 0 0 0 zK
  bel : Below w.heap.size w W
  ne : B ≠ K
  ge : w.heap.size ≤ K
theorem SC.later {w W W' : World} {B K : Nat} {t : Tr} (h : SC w W B K t) (hb : Below W.heap.size W W') : SC w W' B K t := ⟨h.tr.later hb, row_later h.cd hb, h.bel.trans (hb.mono h.bel.size), h.ne, h.ge⟩
theorem SC.two {w W : World} {B K : Nat} {t : Tr} (h : SC w W B K t) {A : Nat} (h1 : B ≠ A) (h2 : K ≠ A) (h3 : w.heap.size ≤ A) (a b : Int) : SC w ((W.setCell ⟨A, 0, none⟩ (.int .i64 a)).setCell ⟨A, 1, none⟩ (.int .i64 b)) B K t :=
  ⟨(Rt.set2_other h1 _ _ _ _).trans h.tr, (Rt.set2_other h2 _ _ _ _).trans h.cd, Rt.set2_below h.bel h3 _ _ _ _, h.ne, h.ge⟩
theorem SC.new (w : World) (t : Tr) : SC w ((w.alloc (.cells (tcs t) 47)).alloc (.cells #[.int .i64 0, .int .i64 0, .int .i64 0, .int .i64 0, .int .i64 0] 97)) w.heap.size (w.heap.size + 1) t := by
  have h1 := TrAt.new w t
  have hb1 := alloc_tr w t
  have h2 := heap_alloc_last (w.alloc (.cells (tcs t) 47)) (.cells #[.int .i64 0, .int .i64 0, .int .i64 0, .int .i64 0, .int .i64 0] 97)
  have hb2 := below_alloc (w.alloc (.cells (tcs t) 47)) (.cells #[.int .i64 0, .int .i64 0, .int .i64 0, .int .i64 0, .int .i64 0] 97)
  rw [World.size_alloc] at h2
  exact ⟨h1.later hb2, h2, hb1.trans (hb2.mono hb1.size), by omega, by omega⟩
set_option maxRecDepth 100000 in
set_option maxHeartbeats 2000000 in
theorem card_any (t : Tr) (x : Int) (w : World) : Calls Tryz.prog 33 #[.agg (tcs t), .int .i64 x] w fun e w' => e = CardA t x ∧ Below w.heap.size w w' := by
  have hS := SC.new w t
  have h1 := check_any t
  have h2 := Rs.find_any t.ro x
  have h3 := fun v => keyOf_any t v
  unfold KeyA at h3
  obtain ⟨ct, hct⟩ : ∃ c, tcs t = c := ⟨_, rfl⟩
  obtain ⟨cr, hcr⟩ : ∃ c, rcs t.ro = c := ⟨_, rfl⟩
  simp only [hct] at h1 h3
  simp only [hcr] at h2
  have HT : Hid (tcs t = ct) := hct
  have HR : Hid (rcs t.ro = cr) := hcr
  clear hct hcr
  go_enter Tryz.func33, Tryz.ntmps33
  go_upto_region 1 with (fail)
  generalize (w.alloc (.cells (tcs t) 47)).alloc (.cells #[.int .i64 0, .int .i64 0, .int .i64 0, .int .i64 0, .int .i64 0] 97) = w1 at *
  rw [HT.out]
  have hT1 := hS.tr
  obtain ⟨K, hK⟩ : ∃ K, w.heap.size + 1 = K := ⟨_, rfl⟩
  rw [hK] at hS ⊢
  obtain ⟨B, hB⟩ : ∃ B, w.heap.size = B := ⟨_, rfl⟩
  rw [hB] at hS hT1 ⊢
  clear hK hB
  go_wp2_with (refine rdT hT1 HT.out _ rfl rfl rfl ?_)
  refine (h1 _).mono ?_
  rintro r w2 ⟨rfl, hb2⟩
  have hS2 := hS.later hb2
  clear h1 hS hT1 hb2
  cases hck : tck t with
  | false =>
    rw [tckE_ff hck]
    go_wp2_with (refine stRow infoCd (cs := ccs 0 0 0 zK) rfl hS2.cd (ccs 0 0 0 zK) rfl (ccs_one _ _ _ _) rfl _ _ rfl rfl rfl ?_)
    refine bodyPost_ret (resRow (p := 4) (t := 5) rfl _ _ K (ccs 0 0 0 zK) rfl (CdAt.row hS2.cd 0 0 0 zK).var) rfl ?_
    exact ⟨CardA.no (caE_bad hck) (by decide), Rt.setRow_below hS2.ge hS2.bel _⟩
  | true =>
    rw [tckE_tt hck]
    have hT2 := hS2.tr
    go_wp2_with (refine rdR hT2 HR.out _ rfl rfl rfl ?_)
    refine (h2 _).mono ?_
    rintro r w3 ⟨rfl, hb3⟩
    have hS3 := hS2.later hb3
    clear h2 hS2 hT2 hb3
    rcases fnd_at t.ro x with hf | ⟨s, hs8, hf, ht, hw⟩
    · rw [hf]
      go_wp2_with (refine stRow infoCd (cs := ccs 0 0 0 zK) rfl hS3.cd (ccs 0 0 0 zK) rfl (ccs_one _ _ _ _) rfl _ _ rfl rfl rfl ?_)
      refine bodyPost_ret (resRow (p := 4) (t := 5) rfl _ _ K (ccs 0 0 0 zK) rfl (CdAt.row hS3.cd 0 0 0 zK).var) rfl ?_
      exact ⟨CardA.no (caE_off hck hf) (by decide), Rt.setRow_below hS3.ge hS3.bel _⟩
    · rw [hf]
      have h4 := h3 (21 + (s : Int))
      rw [found (x := x) hck hs8 ht] at h4
      have hl := Sh.leaf_any (s : Int)
      rw [Sh.lef_yes (by omega) (by omega)] at hl
      have HA := CardA.yes (x := x) hck hf
      obtain ⟨e, he⟩ : ∃ e, koK t (21 + (s : Int)) = e := ⟨_, rfl⟩
      rw [he] at h4 HA
      have HA2 : Hid (Ending.returned (.tuple #[.agg (ccs x s t.ep e), .int .i64 0]) = CardA t x) := HA
      clear he HA hw ht hf h3
      have s2 : decide ((s : Int) < 0) = false := decide_eq_false (by omega)
      obtain ⟨v, hv⟩ : ∃ v, 21 + (s : Int) = v := ⟨_, rfl⟩
      rw [hv] at hl h4
      clear hv
      go_upto_region 7 with (fail)
      go_cut [8, 9] (fun s8 s9 wx => ∃ A, s8 = .pointer (some ⟨A, 0, none⟩) ∧ s9 = .int .i64 0 ∧ SC w wx B K t ∧ KyAt wx A e)
      case first =>
        have hS0 : SC w w3.drew B K t := hS3.later (drew_below _)
        have hB3 : B ≠ w3.heap.size := Nat.ne_of_lt hS3.tr.lt
        have hK3 : K ≠ w3.heap.size := Nat.ne_of_lt (Array.getElem?_eq_some_iff.1 hS3.cd).1
        have hW3 : w.heap.size ≤ w3.heap.size := hS3.bel.size
        have HN : Hid (B ≠ w3.heap.size ∧ K ≠ w3.heap.size ∧ w.heap.size ≤ w3.heap.size) := ⟨hB3, hK3, hW3⟩
        clear hS3 s2 hB3 hK3 hW3
        refine wp_region_held_drew (S := fun W => SC w W B K t) (by kernel_rfl) hS0 (fun hHeld => ?_)
        refine wpAnyH_take (i := 0) (oi := { dst := some 24, op := Op.load 47 (Operand.tmp 2), type := _, pos := _, after := _, guard := none }) (v := .agg ct) rfl (by kernel_rfl) (by kernel_rfl) (by kernel_rfl) (fun _ _ _ h => h) (Or.inl ⟨by rfl, fun w hSw => ld_exec (HT.out ▸ hSw.tr.whole) rfl rfl⟩) (by assumption) ?_
        simp only [Act.put, List.setIfInBounds_toArray, List.set_cons_zero, List.set_cons_succ]
        refine wpAnyH_take (i := 1) (oi := { dst := some 25, op := Op.move (Operand.tmp 7), type := _, pos := _, after := _, guard := none }) (v := .int .i64 (s : Int)) rfl (by kernel_rfl) (by kernel_rfl) (by kernel_rfl) (fun _ _ _ h => h) (Or.inl ⟨by rfl, fun w hSw => by (try dsimp only at hSw); go_simp⟩) (by assumption) ?_
        simp only [Act.put, List.setIfInBounds_toArray, List.set_cons_zero, List.set_cons_succ]
        refine wpAnyH_ready (rs := [2, 7]) (by kernel_rfl) (by simp) ?_
        refine (AllReadyH.cons rfl (fun K hK => ?_) (AllReadyH.cons rfl (fun K hK => ?_) AllReadyH.nil))
        · go_simp
          refine (hl _).mono ?_
          rintro r w4 ⟨rfl, rfl⟩
          go_wp2_with fail
          refine hK.out _ _ hHeld (fun hHd1 => ?_)
          clear hHeld
          clear hK K
          try simp only [Act.put, List.setIfInBounds_toArray, List.set_cons_zero, List.set_cons_succ]
          refine wpAnyH_ready (rs := [3, 7]) (by kernel_rfl) (by simp) ?_
          refine (AllReadyH.cons rfl (fun K hK => ?_) (AllReadyH.cons rfl (fun K hK => ?_) AllReadyH.nil))
          · go_simp
            refine (h4 _).mono ?_
            rintro r w5 ⟨rfl, hb5⟩
            go_wp2_with fail
            refine hK.out _ _ (hHd1.later hb5) (fun hHd2 => ?_)
            clear hHd1 hb5
            clear hK K
            try simp only [Act.put, List.setIfInBounds_toArray, List.set_cons_zero, List.set_cons_succ]
            refine wpAnyH_take (i := 4) (oi := { dst := some 23, op := Op.move (Operand.tmp 27), type := _, pos := _, after := _, guard := none }) (v := .tuple #[.agg #[.int .i64 e.bas, .int .i64 e.stp], .int .i64 0]) rfl (by kernel_rfl) (by kernel_rfl) (by kernel_rfl) (fun _ _ _ h => h) (Or.inl ⟨by rfl, fun w hSw => by (try dsimp only at hSw); go_simp⟩) (by assumption) ?_
            simp only [Act.put, List.setIfInBounds_toArray, List.set_cons_zero, List.set_cons_succ]
            refine wpAnyH_take (i := 5) (oi := { dst := some 28, op := Op.extract (Operand.tmp 23) 0, type := _, pos := _, after := _, guard := none }) (v := .agg #[.int .i64 e.bas, .int .i64 e.stp]) rfl (by kernel_rfl) (by kernel_rfl) (by kernel_rfl) (fun _ _ _ h => h) (Or.inl ⟨by rfl, fun w hSw => by (try dsimp only at hSw); go_simp⟩) (by assumption) ?_
            simp only [Act.put, List.setIfInBounds_toArray, List.set_cons_zero, List.set_cons_succ]
            refine wpAnyH_take (i := 6) (oi := { dst := some 29, op := Op.extract (Operand.tmp 23) 1, type := _, pos := _, after := _, guard := none }) (v := .int .i64 0) rfl (by kernel_rfl) (by kernel_rfl) (by kernel_rfl) (fun _ _ _ h => h) (Or.inl ⟨by rfl, fun w hSw => by (try dsimp only at hSw); go_simp⟩) (by assumption) ?_
            simp only [Act.put, List.setIfInBounds_toArray, List.set_cons_zero, List.set_cons_succ]
            refine wpAnyH_ready (rs := [7]) (by kernel_rfl) (by simp) ?_
            refine AllReadyH.cons rfl (fun K hK => ?_) AllReadyH.nil
            go_simp
            have hpre := hHd2
            refine hK.out _ _ (hHd2.later (below_alloc _ _)) (fun hHd3 => ?_)
            clear hK K
            try simp only [Act.put, List.setIfInBounds_toArray, List.set_cons_zero, List.set_cons_succ]
            refine wpAnyH_ready (rs := [8]) (by kernel_rfl) (by simp) ?_
            refine AllReadyH.cons rfl (fun K hK => ?_) AllReadyH.nil
            go_simp
            first | (refine hK.out _ _ (hpre.later (below_alloc _ _)) (fun hHd4 => ?_); have hkyZ := KyAt.new w5 e) | (refine hK.out _ _ (hHd3.two HN.out.1 HN.out.2.1 HN.out.2.2 _ _) (fun hHd4 => ?_); have hkyZ := KyAt.set hky2 e.bas e.stp)
            clear hK K
            try simp only [Act.put, List.setIfInBounds_toArray, List.set_cons_zero, List.set_cons_succ]
            refine wpAnyH_take (i := 9) (oi := { dst := some 9, op := Op.assign (Operand.tmp 29), type := _, pos := _, after := _, guard := none }) (v := .int .i64 0) rfl (by kernel_rfl) (by kernel_rfl) (by kernel_rfl) (fun _ _ _ h => h) (Or.inl ⟨by rfl, fun w hSw => by (try dsimp only at hSw); go_simp⟩) (by assumption) ?_
            simp only [Act.put, List.setIfInBounds_toArray, List.set_cons_zero, List.set_cons_succ]
            refine wpAnyH_done (by kernel_rfl) ?_ _
            go_wp2_with fail
            go_meet
            case rel => exact ⟨_, rfl, rfl, hHd4, hkyZ⟩
          · go_simp
            have hky : KyAt (w3.drew.alloc (.cells #[.int .i64 0, .int .i64 0] 31)) w3.heap.size zK := KyAt.new w3.drew zK
            refine hK.out _ _ (hHd1.later (below_alloc _ _)) (fun hHd2 => ?_)
            clear hHd1
            clear hK K
            try simp only [Act.put, List.setIfInBounds_toArray, List.set_cons_zero, List.set_cons_succ]
            refine wpAnyH_ready (rs := [3]) (by kernel_rfl) (by simp) ?_
            refine AllReadyH.cons rfl (fun K hK => ?_) AllReadyH.nil
            go_simp
            refine (h4 _).mono ?_
            rintro r w5 ⟨rfl, hb5⟩
            go_wp2_with fail
            have hky2 := hky.later hb5
            obtain ⟨k0, k1⟩ := hky2.cells
            have f0 := Rt.row_frozen hky2 0
            have f1 := Rt.row_frozen hky2 1
            refine hK.out _ _ (hHd2.later hb5) (fun hHd3 => ?_)
            clear hHd2 hb5 hky
            clear hK K
            try simp only [Act.put, List.setIfInBounds_toArray, List.set_cons_zero, List.set_cons_succ]
            refine wpAnyH_take (i := 4) (oi := { dst := some 23, op := Op.move (Operand.tmp 27), type := _, pos := _, after := _, guard := none }) (v := .tuple #[.agg #[.int .i64 e.bas, .int .i64 e.stp], .int .i64 0]) rfl (by kernel_rfl) (by kernel_rfl) (by kernel_rfl) (fun _ _ _ h => h) (Or.inl ⟨by rfl, fun w hSw => by (try dsimp only at hSw); go_simp⟩) (by assumption) ?_
            simp only [Act.put, List.setIfInBounds_toArray, List.set_cons_zero, List.set_cons_succ]
            refine wpAnyH_take (i := 5) (oi := { dst := some 28, op := Op.extract (Operand.tmp 23) 0, type := _, pos := _, after := _, guard := none }) (v := .agg #[.int .i64 e.bas, .int .i64 e.stp]) rfl (by kernel_rfl) (by kernel_rfl) (by kernel_rfl) (fun _ _ _ h => h) (Or.inl ⟨by rfl, fun w hSw => by (try dsimp only at hSw); go_simp⟩) (by assumption) ?_
            simp only [Act.put, List.setIfInBounds_toArray, List.set_cons_zero, List.set_cons_succ]
            refine wpAnyH_take (i := 6) (oi := { dst := some 29, op := Op.extract (Operand.tmp 23) 1, type := _, pos := _, after := _, guard := none }) (v := .int .i64 0) rfl (by kernel_rfl) (by kernel_rfl) (by kernel_rfl) (fun _ _ _ h => h) (Or.inl ⟨by rfl, fun w hSw => by (try dsimp only at hSw); go_simp⟩) (by assumption) ?_
            simp only [Act.put, List.setIfInBounds_toArray, List.set_cons_zero, List.set_cons_succ]
            refine wpAnyH_ready (rs := [8]) (by kernel_rfl) (by simp) ?_
            refine AllReadyH.cons rfl (fun K hK => ?_) AllReadyH.nil
            go_simp
            first | (refine hK.out _ _ (hpre.later (below_alloc _ _)) (fun hHd4 => ?_); have hkyZ := KyAt.new w5 e) | (refine hK.out _ _ (hHd3.two HN.out.1 HN.out.2.1 HN.out.2.2 _ _) (fun hHd4 => ?_); have hkyZ := KyAt.set hky2 e.bas e.stp)
            clear hK K
            try simp only [Act.put, List.setIfInBounds_toArray, List.set_cons_zero, List.set_cons_succ]
            refine wpAnyH_take (i := 9) (oi := { dst := some 9, op := Op.assign (Operand.tmp 29), type := _, pos := _, after := _, guard := none }) (v := .int .i64 0) rfl (by kernel_rfl) (by kernel_rfl) (by kernel_rfl) (fun _ _ _ h => h) (Or.inl ⟨by rfl, fun w hSw => by (try dsimp only at hSw); go_simp⟩) (by assumption) ?_
            simp only [Act.put, List.setIfInBounds_toArray, List.set_cons_zero, List.set_cons_succ]
            refine wpAnyH_done (by kernel_rfl) ?_ _
            go_wp2_with fail
            go_meet
            case rel => exact ⟨_, rfl, rfl, hHd4, hkyZ⟩
        · go_simp
          have hky : KyAt (w3.drew.alloc (.cells #[.int .i64 0, .int .i64 0] 31)) w3.heap.size zK := KyAt.new w3.drew zK
          refine hK.out _ _ (hHeld.later (below_alloc _ _)) (fun hHd1 => ?_)
          clear hHeld
          clear hK K
          try simp only [Act.put, List.setIfInBounds_toArray, List.set_cons_zero, List.set_cons_succ]
          refine wpAnyH_ready (rs := [2]) (by kernel_rfl) (by simp) ?_
          refine AllReadyH.cons rfl (fun K hK => ?_) AllReadyH.nil
          go_simp
          refine (hl _).mono ?_
          rintro r w4 ⟨rfl, rfl⟩
          go_wp2_with fail
          refine hK.out _ _ hHd1 (fun hHd2 => ?_)
          clear hHd1
          clear hK K
          try simp only [Act.put, List.setIfInBounds_toArray, List.set_cons_zero, List.set_cons_succ]
          refine wpAnyH_ready (rs := [3]) (by kernel_rfl) (by simp) ?_
          refine AllReadyH.cons rfl (fun K hK => ?_) AllReadyH.nil
          go_simp
          refine (h4 _).mono ?_
          rintro r w5 ⟨rfl, hb5⟩
          go_wp2_with fail
          have hky2 := hky.later hb5
          obtain ⟨k0, k1⟩ := hky2.cells
          have f0 := Rt.row_frozen hky2 0
          have f1 := Rt.row_frozen hky2 1
          refine hK.out _ _ (hHd2.later hb5) (fun hHd3 => ?_)
          clear hHd2 hb5 hky
          clear hK K
          try simp only [Act.put, List.setIfInBounds_toArray, List.set_cons_zero, List.set_cons_succ]
          refine wpAnyH_take (i := 4) (oi := { dst := some 23, op := Op.move (Operand.tmp 27), type := _, pos := _, after := _, guard := none }) (v := .tuple #[.agg #[.int .i64 e.bas, .int .i64 e.stp], .int .i64 0]) rfl (by kernel_rfl) (by kernel_rfl) (by kernel_rfl) (fun _ _ _ h => h) (Or.inl ⟨by rfl, fun w hSw => by (try dsimp only at hSw); go_simp⟩) (by assumption) ?_
          simp only [Act.put, List.setIfInBounds_toArray, List.set_cons_zero, List.set_cons_succ]
          refine wpAnyH_take (i := 5) (oi := { dst := some 28, op := Op.extract (Operand.tmp 23) 0, type := _, pos := _, after := _, guard := none }) (v := .agg #[.int .i64 e.bas, .int .i64 e.stp]) rfl (by kernel_rfl) (by kernel_rfl) (by kernel_rfl) (fun _ _ _ h => h) (Or.inl ⟨by rfl, fun w hSw => by (try dsimp only at hSw); go_simp⟩) (by assumption) ?_
          simp only [Act.put, List.setIfInBounds_toArray, List.set_cons_zero, List.set_cons_succ]
          refine wpAnyH_take (i := 6) (oi := { dst := some 29, op := Op.extract (Operand.tmp 23) 1, type := _, pos := _, after := _, guard := none }) (v := .int .i64 0) rfl (by kernel_rfl) (by kernel_rfl) (by kernel_rfl) (fun _ _ _ h => h) (Or.inl ⟨by rfl, fun w hSw => by (try dsimp only at hSw); go_simp⟩) (by assumption) ?_
          simp only [Act.put, List.setIfInBounds_toArray, List.set_cons_zero, List.set_cons_succ]
          refine wpAnyH_ready (rs := [8]) (by kernel_rfl) (by simp) ?_
          refine AllReadyH.cons rfl (fun K hK => ?_) AllReadyH.nil
          go_simp
          first | (refine hK.out _ _ (hpre.later (below_alloc _ _)) (fun hHd4 => ?_); have hkyZ := KyAt.new w5 e) | (refine hK.out _ _ (hHd3.two HN.out.1 HN.out.2.1 HN.out.2.2 _ _) (fun hHd4 => ?_); have hkyZ := KyAt.set hky2 e.bas e.stp)
          clear hK K
          try simp only [Act.put, List.setIfInBounds_toArray, List.set_cons_zero, List.set_cons_succ]
          refine wpAnyH_take (i := 9) (oi := { dst := some 9, op := Op.assign (Operand.tmp 29), type := _, pos := _, after := _, guard := none }) (v := .int .i64 0) rfl (by kernel_rfl) (by kernel_rfl) (by kernel_rfl) (fun _ _ _ h => h) (Or.inl ⟨by rfl, fun w hSw => by (try dsimp only at hSw); go_simp⟩) (by assumption) ?_
          simp only [Act.put, List.setIfInBounds_toArray, List.set_cons_zero, List.set_cons_succ]
          refine wpAnyH_done (by kernel_rfl) ?_ _
          go_wp2_with fail
          go_meet
          case rel => exact ⟨_, rfl, rfl, hHd4, hkyZ⟩
      case rest =>
        obtain ⟨A, rfl, rfl, hS9, hky9⟩ := hcut
        obtain ⟨c0, c1⟩ := hS9.tr.cells
        obtain ⟨k0, k1⟩ := hky9.cells
        go_wp2_with (refine stRow infoCd (cs := ccs 0 0 0 zK) rfl hS9.cd (ccs x s t.ep e) rfl (ccs_one _ _ _ _) rfl _ _ rfl rfl rfl ?_)
        refine bodyPost_ret (resRow (p := 4) (t := 5) rfl _ _ K (ccs x s t.ep e) rfl (CdAt.row hS9.cd x s t.ep e).var) rfl ?_
        exact ⟨HA2.out, Rt.setRow_below hS9.ge hS9.bel _⟩

def caQ (t : Tr) (x : Int) (i : Nat) : Ky := if caE t x = 0 then t.ks (pn (fnd t.ro x).toNat i) else zK
def StandA (t : Tr) (x : Int) : Ending := .returned (.tuple #[.agg (mcs (caW t x) (caS t x) (caP t x) (caK t x) (caQ t x 0) (caQ t x 1) (caQ t x 2) (decide (caE t x = 0))), .int .i64 (caE t x)])
theorem StandA.no {t : Tr} {x e : Int} (h : caE t x = e) (he : e ≠ 0) : Ending.returned (.tuple #[.agg (mcs 0 0 0 zK zK zK zK false), .int .i64 e]) = StandA t x := by
  unfold StandA caW caS caP caK caQ
  rw [h, if_neg he, if_neg he, if_neg he, if_neg he, if_neg he, if_neg he, if_neg he, decide_eq_false he]
theorem StandA.yes {t : Tr} {x : Int} {s : Nat} (h : tck t = true) (h2 : fnd t.ro x = (s : Int)) : Ending.returned (.tuple #[.agg (mcs x s t.ep (koK t (21 + (s : Int))) (t.ks (pn s 0)) (t.ks (pn s 1)) (t.ks (pn s 2)) true), .int .i64 0]) = StandA t x := by
  unfold StandA caW caS caP caK caQ
  rw [caE_ok h h2, if_pos rfl, if_pos rfl, if_pos rfl, if_pos rfl, if_pos rfl, if_pos rfl, if_pos rfl, h2, Int.toNat_natCast]
  rfl
theorem pcs6 (f : Nat → Ky) : pcs f = #[.int .i64 (f 0).bas, .int .i64 (f 0).stp, .int .i64 (f 1).bas, .int .i64 (f 1).stp, .int .i64 (f 2).bas, .int .i64 (f 2).stp] := by kernel_rfl
theorem path_lit {t : Tr} {s : Nat} (h : tck t = true) (hs : s < 64) : PathA t s = .returned (.tuple #[.agg #[.int .i64 (t.ks (pn s 0)).bas, .int .i64 (t.ks (pn s 0)).stp, .int .i64 (t.ks (pn s 1)).bas, .int .i64 (t.ks (pn s 1)).stp, .int .i64 (t.ks (pn s 2)).bas, .int .i64 (t.ks (pn s 2)).stp], .int .i64 0]) := by
  rw [← PathA.yes h hs (f := fun i => t.ks (pn s i)) (fun _ _ => rfl), pcs6]
structure SM (w W : World) (B K : Nat) (t : Tr) : Prop where
  tr : TrAt W B t
  mb : MbAt W K 0 0 0 zK zK zK zK false
  bel : Below w.heap.size w W
  ne : B ≠ K
  ge : w.heap.size ≤ K
theorem SM.later {w W W' : World} {B K : Nat} {t : Tr} (h : SM w W B K t) (hb : Below W.heap.size W W') : SM w W' B K t := ⟨h.tr.later hb, row_later h.mb hb, h.bel.trans (hb.mono h.bel.size), h.ne, h.ge⟩
theorem SM.two {w W : World} {B K : Nat} {t : Tr} (h : SM w W B K t) {A : Nat} (h1 : B ≠ A) (h2 : K ≠ A) (h3 : w.heap.size ≤ A) (a b : Int) : SM w ((W.setCell ⟨A, 0, none⟩ (.int .i64 a)).setCell ⟨A, 1, none⟩ (.int .i64 b)) B K t :=
  ⟨(Rt.set2_other h1 _ _ _ _).trans h.tr, (Rt.set2_other h2 _ _ _ _).trans h.mb, Rt.set2_below h.bel h3 _ _ _ _, h.ne, h.ge⟩
def zM : Array Value := #[.int .i64 0, .int .i64 0, .int .i64 0, .int .i64 0, .int .i64 0, .int .i64 0, .int .i64 0, .int .i64 0, .int .i64 0, .int .i64 0, .int .i64 0, .bool false, .bool false, .int .i64 0]
theorem SM.new (w : World) (t : Tr) : SM w ((w.alloc (.cells (tcs t) 47)).alloc (.cells zM 74)) w.heap.size (w.heap.size + 1) t := by
  have h1 := TrAt.new w t
  have hb1 := alloc_tr w t
  have h2 := heap_alloc_last (w.alloc (.cells (tcs t) 47)) (.cells zM 74)
  have hb2 := below_alloc (w.alloc (.cells (tcs t) 47)) (.cells zM 74)
  rw [World.size_alloc] at h2
  exact ⟨h1.later hb2, h2, hb1.trans (hb2.mono hb1.size), by omega, by omega⟩
theorem CdAt.cells {w : World} {B : Nat} {W S P : Int} {k : Ky} (h : CdAt w B W S P k) : w.cell? ⟨B, 0, none⟩ = some (.int .i64 W) ∧ w.cell? ⟨B, 1, none⟩ = some (.int .i64 S) ∧ w.cell? ⟨B, 2, none⟩ = some (.int .i64 P) ∧ w.cell? ⟨B, 3, none⟩ = some (.int .i64 k.bas) ∧ w.cell? ⟨B, 4, none⟩ = some (.int .i64 k.stp) :=
  ⟨cell_of_row w B 0 _ _ _ h, cell_of_row w B 1 _ _ _ h, cell_of_row w B 2 _ _ _ h, cell_of_row w B 3 _ _ _ h, cell_of_row w B 4 _ _ _ h⟩
theorem MbAt.cells {w : World} {B : Nat} {W S P : Int} {k p q r : Ky} {b : Bool} (h : MbAt w B W S P k p q r b) : w.cell? ⟨B, 0, none⟩ = some (.int .i64 W) ∧ w.cell? ⟨B, 1, none⟩ = some (.int .i64 S) ∧ w.cell? ⟨B, 2, none⟩ = some (.int .i64 P) ∧ w.cell? ⟨B, 3, none⟩ = some (.int .i64 k.bas) ∧ w.cell? ⟨B, 4, none⟩ = some (.int .i64 k.stp) :=
  ⟨cell_of_row w B 0 _ _ _ h, cell_of_row w B 1 _ _ _ h, cell_of_row w B 2 _ _ _ h, cell_of_row w B 3 _ _ _ h, cell_of_row w B 4 _ _ _ h⟩
def p6 (p q r : Ky) : Array Value := #[.int .i64 p.bas, .int .i64 p.stp, .int .i64 q.bas, .int .i64 q.stp, .int .i64 r.bas, .int .i64 r.stp]
def P6At (w : World) (B : Nat) (p q r : Ky) : Prop := w.heap[B]? = some (.cells (p6 p q r) 72 (0, 0))
theorem P6At.cells {w : World} {B : Nat} {p q r : Ky} (h : P6At w B p q r) : w.cell? ⟨B, 0, none⟩ = some (.int .i64 p.bas) ∧ w.cell? ⟨B, 1, none⟩ = some (.int .i64 p.stp) ∧ w.cell? ⟨B, 2, none⟩ = some (.int .i64 q.bas) ∧ w.cell? ⟨B, 3, none⟩ = some (.int .i64 q.stp) ∧ w.cell? ⟨B, 4, none⟩ = some (.int .i64 r.bas) ∧ w.cell? ⟨B, 5, none⟩ = some (.int .i64 r.stp) :=
  ⟨cell_of_row w B 0 _ _ _ h, cell_of_row w B 1 _ _ _ h, cell_of_row w B 2 _ _ _ h, cell_of_row w B 3 _ _ _ h, cell_of_row w B 4 _ _ _ h, cell_of_row w B 5 _ _ _ h⟩
set_option maxRecDepth 100000 in
set_option maxHeartbeats 2000000 in
theorem stand_any (t : Tr) (x : Int) (w : World) : Calls Tryz.prog 16 #[.agg (tcs t), .int .i64 x] w fun e w' => e = StandA t x ∧ Below w.heap.size w w' := by
  have hS := SM.new w t
  have h1 := card_any t x
  have h2 := fun s => pathOf_any t s
  obtain ⟨ct, hct⟩ : ∃ c, tcs t = c := ⟨_, rfl⟩
  simp only [hct] at h1 h2
  have HT : Hid (tcs t = ct) := hct
  clear hct
  unfold zM at hS
  go_enter Tryz.func16, Tryz.ntmps16
  go_upto_region 1 with (fail)
  generalize (w.alloc (.cells (tcs t) 47)).alloc (.cells #[.int .i64 0, .int .i64 0, .int .i64 0, .int .i64 0, .int .i64 0, .int .i64 0, .int .i64 0, .int .i64 0, .int .i64 0, .int .i64 0, .int .i64 0, .bool false, .bool false, .int .i64 0] 74) = w1 at *
  rw [HT.out]
  have hT1 := hS.tr
  obtain ⟨K, hK⟩ : ∃ K, w.heap.size + 1 = K := ⟨_, rfl⟩
  rw [hK] at hS ⊢
  obtain ⟨B, hB⟩ : ∃ B, w.heap.size = B := ⟨_, rfl⟩
  rw [hB] at hS hT1 ⊢
  clear hK hB
  cases hck : tck t with
  | false =>
    have HE : Hid (caE t x = 31) := caE_bad hck
    rw [← CardA.no (caE_bad hck) (by decide)] at h1
    unfold ccs at h1
    go_wp2_with (refine rdT hT1 HT.out _ rfl rfl rfl ?_)
    refine (h1 _).mono ?_
    rintro r w2 ⟨rfl, hb2⟩
    have hS2 := (hS.later hb2).later (below_alloc w2 (.cells #[.int .i64 0, .int .i64 0, .int .i64 0, .int .i64 0, .int .i64 0] 97))
    clear h1 h2 hS hT1 hb2
    go_wp2_with (refine stRow infoMb (cs := mcs 0 0 0 zK zK zK zK false) rfl hS2.mb (mcs 0 0 0 zK zK zK zK false) rfl (mcs_one _ _ _ _ _ _ _ _) rfl _ _ rfl rfl rfl ?_)
    refine bodyPost_ret (resRow (p := 4) (t := 5) rfl _ _ K (mcs 0 0 0 zK zK zK zK false) rfl (MbAt.row hS2.mb 0 0 0 zK zK zK zK false).var) rfl ?_
    exact ⟨StandA.no HE.out (by decide), Rt.setRow_below hS2.ge hS2.bel _⟩
  | true =>
    rcases fnd_at t.ro x with hf | ⟨s, hs8, hf, ht, hw⟩
    · have HE : Hid (caE t x = 16) := caE_off hck hf
      rw [← CardA.no (caE_off hck hf) (by decide)] at h1
      unfold ccs at h1
      go_wp2_with (refine rdT hT1 HT.out _ rfl rfl rfl ?_)
      refine (h1 _).mono ?_
      rintro r w2 ⟨rfl, hb2⟩
      have hS2 := (hS.later hb2).later (below_alloc w2 (.cells #[.int .i64 0, .int .i64 0, .int .i64 0, .int .i64 0, .int .i64 0] 97))
      clear h1 h2 hS hT1 hb2
      go_wp2_with (refine stRow infoMb (cs := mcs 0 0 0 zK zK zK zK false) rfl hS2.mb (mcs 0 0 0 zK zK zK zK false) rfl (mcs_one _ _ _ _ _ _ _ _) rfl _ _ rfl rfl rfl ?_)
      refine bodyPost_ret (resRow (p := 4) (t := 5) rfl _ _ K (mcs 0 0 0 zK zK zK zK false) rfl (MbAt.row hS2.mb 0 0 0 zK zK zK zK false).var) rfl ?_
      exact ⟨StandA.no HE.out (by decide), Rt.setRow_below hS2.ge hS2.bel _⟩
    · rw [← CardA.yes hck hf] at h1
      have h3 := h2 (s : Int)
      rw [path_lit hck hs8] at h3
      have HA := StandA.yes (x := x) hck hf
      obtain ⟨e, he⟩ : ∃ e, koK t (21 + (s : Int)) = e := ⟨_, rfl⟩
      obtain ⟨p, hp⟩ : ∃ e, t.ks (pn s 0) = e := ⟨_, rfl⟩
      obtain ⟨q, hq⟩ : ∃ e, t.ks (pn s 1) = e := ⟨_, rfl⟩
      obtain ⟨r, hr⟩ : ∃ e, t.ks (pn s 2) = e := ⟨_, rfl⟩
      rw [he, hp, hq, hr] at HA
      rw [he] at h1
      rw [hp, hq, hr] at h3
      have HA2 : Hid (Ending.returned (.tuple #[.agg (mcs x s t.ep e p q r true), .int .i64 0]) = StandA t x) := HA
      clear HA he hp hq hr hw ht hf h2 hck
      unfold ccs at h1
      go_wp2_with (refine rdT hT1 HT.out _ rfl rfl rfl ?_)
      refine (h1 _).mono ?_
      rintro r2 w2 ⟨rfl, hb2⟩
      have hS2 := (hS.later hb2).later (below_alloc w2 (.cells (ccs x s t.ep e) 97))
      have hC2 : CdAt (w2.alloc (.cells (ccs x s t.ep e) 97)) w2.heap.size x s t.ep e := heap_alloc_last w2 _
      unfold ccs at hS2 hC2
      clear h1 hS hT1 hb2
      go_upto_region 2 with (fail)
      generalize w2.alloc (.cells #[.int .i64 x, .int .i64 (s : Int), .int .i64 t.ep, .int .i64 e.bas, .int .i64 e.stp] 97) = w3 at *
      generalize w2.heap.size = C at *
      obtain ⟨c0, c1, c2, c3, c4⟩ := hC2.cells
      have hT3 := hS2.tr
      go_wp2_with (refine rdT hT3 HT.out _ rfl rfl rfl ?_)
      refine (h3 _).mono ?_
      rintro r2 w4 ⟨rfl, hb4⟩
      have hb5 := hb4.trans ((below_alloc w4 (.cells (p6 p q r) 72)).mono hb4.size)
      have hS5 := hS2.later hb5
      have hC5 : CdAt (w4.alloc (.cells (p6 p q r) 72)) C x s t.ep e := row_later hC2 hb5
      have hP5 : P6At (w4.alloc (.cells (p6 p q r) 72)) w4.heap.size p q r := heap_alloc_last w4 _
      unfold p6 at hS5 hC5 hP5
      clear h3 hS2 hC2 hT3 hb4 hb5 c0 c1 c2 c3 c4
      go_upto_region 5 with (fail)
      generalize w4.alloc (.cells #[.int .i64 p.bas, .int .i64 p.stp, .int .i64 q.bas, .int .i64 q.stp, .int .i64 r.bas, .int .i64 r.stp] 72) = w6 at *
      generalize w4.heap.size = P at *
      obtain ⟨c0, c1, c2, c3, c4⟩ := hC5.cells
      obtain ⟨p0, p1, p2, p3, p4, p5⟩ := hP5.cells
      go_wp2_with (refine stRow infoMb (cs := mcs 0 0 0 zK zK zK zK false) rfl hS5.mb (mcs x s t.ep e p q r true) rfl (mcs_one _ _ _ _ _ _ _ _) rfl _ _ rfl rfl rfl ?_)
      refine bodyPost_ret (resRow (p := 4) (t := 5) rfl _ _ K (mcs x s t.ep e p q r true) rfl (MbAt.row hS5.mb x s t.ep e p q r true).var) rfl ?_
      exact ⟨HA2.out, Rt.setRow_below hS5.ge hS5.bel _⟩
end Go.Proofs.YtpimbpfefhkojabGreatDoor
