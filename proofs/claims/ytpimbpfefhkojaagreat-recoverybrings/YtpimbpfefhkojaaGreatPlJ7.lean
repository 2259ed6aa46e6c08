/- PlG, PlH, PlI, joined. -/
import Derived.Test.YtpimbpfefhkojaaGreatPlJ2
import Derived.Test.YtpimbpfefhkojaaGreatPlJ1
import Derived.Deep.RegionHeld3
/- Contracts: the document's item and Items. -/
namespace Go.Proofs.YtpimbpfefhkojaaGreat
open Go.RowKit Go.Maps
open Rt (Ky zK kcs KyAt)
open Rs (En zE rcs RoAt tkn RdS)
set_option linter.unusedVariables false
set_option linter.unusedSimpArgs false

def ItE (x : It) : Ending := .returned (.agg #[.int .i64 x.nd, .int .i64 x.fm, .int .i64 x.un.bas, .int .i64 x.un.stp, .int .i64 x.ld.bas, .int .i64 x.ld.stp])
def ItAt (w : World) (B : Nat) (x : It) : Prop := w.heap[B]? = some (.cells #[.int .i64 x.nd, .int .i64 x.fm, .int .i64 x.un.bas, .int .i64 x.un.stp, .int .i64 x.ld.bas, .int .i64 x.ld.stp] 104 (0, 0))
theorem infoIt : (Tryz.prog.info? 104).map (·.size) = some 6 := by kernel_rfl
theorem results_it {fn : Func} {p : Tmp} (hf : fn.results = #[.cell p 104 ]) (tmps : Array Value) (W : World) (B : Nat) (cs : Array Value) (hp : tmps[p]? = some (.pointer (some ⟨B, 0, none⟩))) (hb : W.heap[B]? = some (.cells cs 104 (0, 0))) (hc : cs.size = 6) :
    (results fn tmps).run Tryz.prog W = .ok (.agg cs) W := by
  have h := run_loadVar_row W B _ 104 _ _ _ hb Tryz.underlying104 rfl (by rw [hc]; exact infoIt)
  simp [results, hf, hp, asAddr, h]
def iz : Array Value := #[.int .i64 0, .int .i64 0, .int .i64 0, .int .i64 0, .int .i64 0, .int .i64 0]
structure SI (w W : World) (B R : Nat) (t : Tr) : Prop where
  tr : TrAt W B t
  it : W.heap[R]? = some (.cells iz 104 (0, 0))
  bel : Below w.heap.size w W
  ge : w.heap.size ≤ R
theorem SI.later {w W W' : World} {B R : Nat} {t : Tr} (h : SI w W B R t) (hb : Below W.heap.size W W') : SI w W' B R t := ⟨h.tr.later hb, (hb.block R (Array.getElem?_eq_some_iff.1 h.it).1).trans h.it, h.bel.trans (hb.mono h.bel.size), h.ge⟩
theorem SI.new (w : World) (t : Tr) : SI w ((w.alloc (.cells (tcs t) 31)).alloc (.cells iz 104)) w.heap.size (w.heap.size + 1) t := by
  have h1 := TrAt.new w t
  have hb1 := alloc_tr w t
  have h2 := heap_alloc_last (w.alloc (.cells (tcs t) 31)) (.cells iz 104)
  have hb2 := below_alloc (w.alloc (.cells (tcs t) 31)) (.cells iz 104)
  rw [World.size_alloc] at h2
  exact ⟨h1.later hb2, h2, hb1.trans (hb2.mono hb1.size), by omega⟩
set_option maxRecDepth 100000 in
set_option maxHeartbeats 1000000 in
theorem rItem_any (t : Tr) (ht : tck t = true) (v c : Nat) (hv : v < 85) (hc : c < 85) (v0 : koE t (v : Int) = 0) (c0 : koE t (c : Int) = 0) (w : World) :
    Calls Tryz.prog 42 #[.agg (tcs t), .int .i64 (v : Int), .int .i64 (c : Int)] w fun e w' => e = ItE (mkI t v c) ∧ Below w.heap.size w w' := by
  have hS := SI.new w t
  have h1 := rOf_any t ht (c : Int)
  have h2 := rOf_any t ht (v : Int)
  unfold KeyA at h1 h2
  rw [c0] at h1
  rw [v0] at h2
  have HI : Hid (mkI t v c = ⟨v, c, koK t (c : Int), koK t (v : Int)⟩) := by unfold Hid mkI; rw [kyA_ko ht hv v0, kyA_ko ht hc c0]
  obtain ⟨a, ha⟩ : ∃ a, koK t (c : Int) = a := ⟨_, rfl⟩
  obtain ⟨b, hb⟩ : ∃ a, koK t (v : Int) = a := ⟨_, rfl⟩
  rw [ha] at h1 HI
  rw [hb] at h2 HI
  obtain ⟨ct, hct⟩ : ∃ c, tcs t = c := ⟨_, rfl⟩
  simp only [hct] at h1 h2
  have HT : Hid (tcs t = ct) := hct
  clear hct ha hb
  unfold iz at hS
  go_enter Tryz.func42, Tryz.ntmps42
  go_upto_region 1 with (fail)
  generalize (w.alloc (.cells (tcs t) 31)).alloc (.cells #[.int .i64 0, .int .i64 0, .int .i64 0, .int .i64 0, .int .i64 0, .int .i64 0] 104) = w1 at *
  rw [HT.out]
  obtain ⟨R, hR⟩ : ∃ K, w.heap.size + 1 = K := ⟨_, rfl⟩
  rw [hR] at hS ⊢
  obtain ⟨B, hB⟩ : ∃ B, w.heap.size = B := ⟨_, rfl⟩
  rw [hB] at hS ⊢
  clear hR hB
  have hT1 := hS.tr
  go_wp2_with (refine rdT hT1 HT.out _ rfl rfl rfl ?_)
  refine (h1 _).mono ?_
  rintro r w2 ⟨rfl, hb2⟩
  have hS2 := (hS.later hb2).later (below_alloc w2 (.cells #[.int .i64 a.bas, .int .i64 a.stp] 23))
  have hA2 : KyAt (w2.alloc (.cells #[.int .i64 a.bas, .int .i64 a.stp] 23)) w2.heap.size a := Rt.KyAt.new w2 a
  clear hS h1 hT1 hb2
  go_upto_region 2 with (fail)
  generalize w2.alloc (.cells #[.int .i64 a.bas, .int .i64 a.stp] 23) = w3 at *
  generalize w2.heap.size = A at *
  have hT3 := hS2.tr
  go_wp2_with (refine rdT hT3 HT.out _ rfl rfl rfl ?_)
  refine (h2 _).mono ?_
  rintro r w4 ⟨rfl, hb4⟩
  have hb5 := hb4.trans ((below_alloc w4 (.cells #[.int .i64 b.bas, .int .i64 b.stp] 23)).mono hb4.size)
  have hS5 := hS2.later hb5
  have hA5 := hA2.later hb5
  have hB5 : KyAt (w4.alloc (.cells #[.int .i64 b.bas, .int .i64 b.stp] 23)) w4.heap.size b := Rt.KyAt.new w4 b
  clear hS2 h2 hT3 hb4 hb5 hA2
  go_upto_region 3 with (fail)
  generalize w4.alloc (.cells #[.int .i64 b.bas, .int .i64 b.stp] 23) = w5 at *
  generalize w4.heap.size = A2 at *
  obtain ⟨k0, k1⟩ := hA5.cells
  obtain ⟨k2, k3⟩ := hB5.cells
  have HIT := hS5.it
  go_wp2_with (refine stRw infoIt (cs := iz) rfl HIT #[.int .i64 (v : Int), .int .i64 (c : Int), .int .i64 a.bas, .int .i64 a.stp, .int .i64 b.bas, .int .i64 b.stp] rfl (by simp [Value.oneCell']) rfl _ _ rfl rfl rfl ?_)
  refine bodyPost_ret (results_it (p := 6) rfl _ _ R _ rfl (Rt.heap_setRow_same HIT _) rfl) rfl ?_
  exact ⟨by rw [HI.out]; rfl, Rt.setRow_below hS5.ge hS5.bel _⟩
/- The tree, boxed, and the list, in a variable. -/
structure GI (w W : World) (B : Nat) (t : Tr) (n0 : Nat) (v : Value) (l : List It) : Prop where
  tr : TrAt W B t
  row : W.ownsRow n0 104 6 v l.length (isl l)
  bel : Below w.heap.size w W
  bt : B < n0
  wl : w.heap.size ≤ n0
  sz : n0 ≤ W.heap.size
theorem GI.later {w W W' : World} {B n0 : Nat} {t : Tr} {v : Value} {l : List It} (h : GI w W B t n0 v l) (hb : Below W.heap.size W W') : GI w W' B t n0 v l := ⟨h.tr.later hb, Rs.owns_later h.row hb, h.bel.trans (hb.mono h.bel.size), h.bt, h.wl, Nat.le_trans h.sz hb.size⟩
theorem GI.app2 {w W W1 : World} {B n0 : Nat} {t : Tr} {v v' : Value} {l : List It} {o : Obj} {x : It} (tr : TrAt W B t) (bel : Below w.heap.size w W) (row : W.ownsRow n0 104 6 v l.length (isl l)) (sz : n0 ≤ W.heap.size) (bt : B < n0) (wl : w.heap.size ≤ n0)
    (hown : W1.ownsRow n0 104 6 v' (l.length + 1) (isl l ++ ics x)) (hg : (W.alloc o).grownBy W1 v.ownBlock) : GI w W1 B t n0 v' (l ++ [x]) := by
  have hsz : n0 ≤ W1.heap.size := by have h1 := hg.size; simp at h1; omega
  refine ⟨(Rs.grown_low row hg bt (by omega)).trans tr, ?_, Rs.grown_bel bel row wl hg, bt, wl, hsz⟩
  rw [isl_snoc, List.length_append]
  exact hown
theorem GI.app {w W W1 : World} {B n0 : Nat} {t : Tr} {v v' : Value} {l : List It} {o : Obj} {x : It} (h : GI w W B t n0 v l) (hown : W1.ownsRow n0 104 6 v' (l.length + 1) (isl l ++ ics x)) (hg : (W.alloc o).grownBy W1 v.ownBlock) : GI w W1 B t n0 v' (l ++ [x]) := GI.app2 h.tr h.bel h.row h.sz h.bt h.wl hown hg
/- A seat and a path besides. -/
def Pa3 (w : World) (A : Nat) (p0 p1 p2 : Nat) : Prop := w.heap[A]? = some (.cells #[.int .i64 (p0 : Int), .int .i64 (p1 : Int), .int .i64 (p2 : Int)] 69 (0, 0))
theorem Pa3.cells {w : World} {A p0 p1 p2 : Nat} (h : Pa3 w A p0 p1 p2) : w.cell? ⟨A, 0, none⟩ = some (.int .i64 (p0 : Int)) ∧ w.cell? ⟨A, 1, none⟩ = some (.int .i64 (p1 : Int)) ∧ w.cell? ⟨A, 2, none⟩ = some (.int .i64 (p2 : Int)) := ⟨cell_of_row w A 0 _ _ _ h, cell_of_row w A 1 _ _ _ h, cell_of_row w A 2 _ _ _ h⟩
structure GS (w W : World) (B C A : Nat) (t : Tr) (p : Int × Int) (p0 p1 p2 : Nat) : Prop where
  tr : TrAt W B t
  se : StAt W C p
  pa : Pa3 W A p0 p1 p2
  bel : Below w.heap.size w W
theorem GS.later {w W W' : World} {B C A : Nat} {t : Tr} {p : Int × Int} {p0 p1 p2 : Nat} (h : GS w W B C A t p p0 p1 p2) (hb : Below W.heap.size W W') : GS w W' B C A t p p0 p1 p2 := ⟨h.tr.later hb, h.se.later hb, (hb.block A (Array.getElem?_eq_some_iff.1 h.pa).1).trans h.pa, h.bel.trans (hb.mono h.bel.size)⟩
theorem grown_at {W W1 : World} {n0 : Nat} {v : Value} {n : Nat} {xs : List Value} {o : Obj} (row : W.ownsRow n0 104 6 v n xs) (hg : (W.alloc o).grownBy W1 v.ownBlock) {k : Nat} {cs : Array Value} {T : TypeId} (hk : W.heap[k]? = some (.cells cs T (0, 0))) (hT : T ≠ 104) : W1.heap[k]? = some (.cells cs T (0, 0)) := by
  have hkl := (Array.getElem?_eq_some_iff.1 hk).1
  rw [hg.block k (by simp; omega) (own_type row hk hT)]
  exact (((Below.refl _ W).alloc (Nat.le_refl _) o).block k (by omega)).trans hk
theorem GS.app {w W W1 : World} {B C A n0 : Nat} {t : Tr} {p : Int × Int} {p0 p1 p2 : Nat} {v : Value} {n : Nat} {xs : List Value} {o : Obj} (h : GS w W B C A t p p0 p1 p2) (row : W.ownsRow n0 104 6 v n xs) (wl : w.heap.size ≤ n0) (hg : (W.alloc o).grownBy W1 v.ownBlock) : GS w W1 B C A t p p0 p1 p2 :=
  ⟨grown_at row hg h.tr (by decide), grown_at row hg h.se (by decide), grown_at row hg h.pa (by decide), Rs.grown_bel h.bel row wl hg⟩
theorem appI {ops : Array Oper} {o : Oper} {a : Act} {w : World} {K : Act → World → Prop} {Q : Exit → Act → World → Prop} {E : Prop} (hw : Region.wanted o (yielded ops a.tmps) = true) (d : Tmp) (hd : o.dst = some d) (s x : Operand)
    (ho : o.op = .call { callee := .builtin .append, args := #[s, x], argTypes := #[ 47, 47 ] })
    (n0 : Nat) (v : Value) (l : List It) (hs : a.eval s = v) (hown : w.ownsRow n0 104 6 v l.length (isl l)) (g : Nat) (y : It) (hx : a.eval x = .slice (some ⟨g, 0, none⟩) 1 1)
    (hnews : ∀ j u, (ics y)[j]? = some u → w.cell? ((⟨g, 0, none⟩ : Addr).add j) = some u) (hl : l.length ≤ 4096) (hb : n0 ≤ w.heap.size)
    (h : ∀ v' w', w'.ownsRow n0 104 6 v' (l.length + 1) (isl l ++ ics y) → w.grownBy w' v.ownBlock → K (a.put (some d) v') w') :
    if Region.wanted o (yielded ops a.tmps) = true then Oper.wp Tryz.prog o a w K Q else E := by
  obtain ⟨i0, hi, hz0, hz1, hz2⟩ := infoItem_parts
  rw [if_pos hw]
  refine wp_append_own w s x 47 ho n0 104 i0 _ 6 48 Tryz.underlying47 hi hz0 hz1 hz2 rfl (by omega) v l.length (isl l) hs hown ⟨g, 0, none⟩ 1 1 (ics y) hx rfl hnews (by simp [ics, Value.oneCell']) (by unfold maxLen; omega) (by omega) hb ?_
  intro v' w' h2 h3 h4
  rw [hd]
  exact h v' w' h2 h3
theorem rPath_pn (s : Nat) (hs : s < 64) (w : World) : Calls Tryz.prog 13 #[.int .i64 (s : Int)] w fun e w' => e = .returned (.tuple #[.agg #[.int .i64 (pn s 0 : Nat), .int .i64 (pn s 1 : Nat), .int .i64 (pn s 2 : Nat)], .bool true]) ∧ Below w.heap.size w w' := by
  have h := Sh.rPath_yes (s : Int) (by omega) (by omega) w
  rw [show (5 + (s : Int) / 4) = ((pn s 0 : Nat) : Int) by unfold pn; simp, show (1 + (s : Int) / 16) = ((pn s 1 : Nat) : Int) by unfold pn; simp, show (0 : Int) = ((pn s 2 : Nat) : Int) by unfold pn; simp] at h
  exact h
def GIX (w W : World) (B : Nat) (t : Tr) (n0 : Nat) (l : List It) : Prop := ∃ v, GI w W B t n0 v l
def RItsP (w w' : World) (l : List It) (e : Ending) : Prop := ∃ v, e = .returned v ∧ w'.ownsRow (w.heap.size + 1) 104 6 v l.length (isl l) ∧ Below w.heap.size w w'
set_option maxRecDepth 100000 in
set_option maxHeartbeats 4000000 in
theorem rItems_any (t : Tr) (ht : tck t = true) (aL : Option Addr) (cL : Nat) (ll : List (Int × Int)) (a : Option Addr) (c : Nat) (js : List (Int × Int)) (w : World) (hll : ll.length ≤ 64) (hrl : RdS w aL ll) (hl : js.length ≤ 64) (hrd : RdS w a js) (hseat : ∀ p ∈ js, ∃ s : Nat, s < 64 ∧ p.2 = (s : Int) ∧ tkn (t.ro s) = true) :
    Calls Tryz.prog 20 #[.agg (tcs t), .slice aL ll.length cL, .slice a js.length c] w fun e w' => RItsP w w' (its t (rp ll) js) e := by
  have hrp : ∀ W, Below w.heap.size w W → _ := fun W hW => rRep_any aL cL ll W (by omega) (hrl.later hW)
  have hN0 : GI w (w.alloc (.cells (tcs t) 31)) w.heap.size t (w.heap.size + 1) (.slice none 0 0) [] := ⟨TrAt.new w t, World.ownsRow_nil _ _ _ _, alloc_tr w t, by omega, by omega, by simp⟩
  obtain ⟨ct, hct⟩ : ∃ c, tcs t = c := ⟨_, rfl⟩
  have HT : Hid (tcs t = ct) := hct
  obtain ⟨cr, hcr⟩ : ∃ c, rcs t.ro = c := ⟨_, rfl⟩
  have HR : Hid (rcs t.ro = cr) := hcr
  obtain ⟨i0, hi, hz0, hz1, hz2⟩ := infoItem_parts
  have hq : rp ll < 4294967296 := by have := rp_lt ll; omega
  clear hct hcr
  go_enter Tryz.func20, Tryz.ntmps20
  go_upto_region 1 with (fail)
  generalize w.alloc (.cells (tcs t) 31) = w1 at *
  rw [HT.out]
  obtain ⟨n0, hn0⟩ : ∃ B, w.heap.size + 1 = B := ⟨_, rfl⟩
  obtain ⟨B, hB⟩ : ∃ B, w.heap.size = B := ⟨_, rfl⟩
  rw [hn0, hB] at hN0
  rw [hB]
  have HN : Hid (w.heap.size + 1 = n0) := hn0
  clear hn0 hB
  have h1 := hrp w1 hN0.bel
  obtain ⟨q, hqq⟩ : ∃ q, rp ll = q := ⟨_, rfl⟩
  rw [hqq] at h1 hq
  have HQ : Hid (rp ll = q) := hqq
  clear hqq hrp
  go_wp2_with fail
  refine h1.mono ?_
  rintro r w2 ⟨rfl, hb2⟩
  have HG2 : Hid (GI w w2 B t n0 (.slice none 0 0) []) := hN0.later hb2
  clear h1 hN0 hb2
  go_wp2_with fail
  go_loopw [8, 9] (fun v i wx => ∃ (j : Nat) (vl : Value), j ≤ 21 ∧ i = .int .i64 (20 - (j : Int)) ∧ vl = v ∧ GI w wx B t n0 vl (dI t q j)) (fun _ i _ => (intOf i + 1).toNat)
  case atStart => exact ⟨0, _, by omega, rfl, rfl, HG2.out⟩
  case round =>
    obtain ⟨j, vl, hj, rfl, rfl, hGX⟩ := hrel
    have HG : Hid (GI w wr B t n0 vl (dI t q j)) := hGX
    clear hGX HG2
    by_cases hj8 : j < 21
    · obtain ⟨v, hv⟩ : ∃ v : Nat, 20 - j = v := ⟨_, rfl⟩
      have hvi : (20 : Int) - (j : Int) = (v : Int) := by omega
      rw [hvi]
      have v0 : (0 : Int) ≤ (v : Int) := by omega
      have v1 : (v : Int) < 21 := by omega
      have hv21 : v < 21 := by omega
      have HI : Hid ((20 : Int) - ((j + 1 : Nat) : Int) = (v : Int) - 1) := by unfold Hid; omega
      have HV : Hid (20 - j = v) := hv
      have h9 := Rt.rIn_any q v hq (by omega)
      clear hv hvi
      obtain ⟨a0, cap0, rfl⟩ := Rs.owns_slice HG.out.row
      cases hb : q.testBit v with
      | false =>
        rw [hb] at h9
        have HD : Hid (dI t q (j + 1) = dI t q j) := dI_no (by rw [HV.out]; exact hb)
        go_wp2_with fail
        go_loopw [8, 10] (fun x i wx => i = .int .i64 0 ∧ x = .slice a0 (dI t q j).length cap0 ∧ GI w wx B t n0 (.slice a0 (dI t q j).length cap0) (dI t q j)) (fun _ _ _ => 0)
        case atStart => exact ⟨rfl, rfl, HG.out⟩
        case round =>
          obtain ⟨rfl, rfl, hg⟩ := hrel
          have HG3 : Hid (GI w wr B t n0 (.slice a0 (dI t q j).length cap0) (dI t q j)) := hg
          clear hg HG
          go_wp2_with (go_at_call 39; refine (h9 _).mono ?_; rintro r' wr ⟨rfl, rfl⟩)
          go_roundw
          case rel => exact ⟨j + 1, _, by omega, by rw [HI.out], rfl, by rw [HD.out]; exact HG3.out⟩
          case measure => simp [intOf]
      | true =>
        rw [hb] at h9
        have HD : Hid (dI t q (j + 1) = dI t q j ++ nI t v 4) := by rw [← HV.out]; exact dI_yes (by rw [HV.out]; exact hb)
        go_wp2_with fail
        go_loopw [8, 10] (fun x i wx => ∃ (k : Nat) (vl : Value), k ≤ 4 ∧ i = .int .i64 (k : Int) ∧ vl = x ∧ GI w wx B t n0 vl (dI t q j ++ nI t v k)) (fun _ i _ => 4 - (intOf i).toNat)
        case atStart => exact ⟨0, _, by omega, rfl, rfl, by rw [nI_zero, List.append_nil]; exact HG.out⟩
        case round =>
          obtain ⟨k, vl, hk, rfl, rfl, hg⟩ := hrel
          have HG3 : Hid (GI w wr B t n0 vl (dI t q j ++ nI t v k)) := hg
          clear hg HG
          by_cases hk4 : k < 4
          · have k0 : (0 : Int) ≤ (k : Int) := by omega
            have k1 : (k : Int) < 4 := by omega
            have hch := Sh.rChild_yes (v : Int) (k : Int) v0 v1 k0 k1
            rw [show (4 * (v : Int) + 1 + (k : Int)) = ((4 * v + 1 + k : Nat) : Int) by push_cast; rfl] at hch
            have hbl := rBel_any t.ro ((4 * v + 1 + k : Nat) : Int)
            rw [HR.out] at hbl
            have hc85 : 4 * v + 1 + k < 85 := by omega
            have hTr := HG3.out.tr
            obtain ⟨a1, cap1, rfl⟩ := Rs.owns_slice HG3.out.row
            cases hh : hld t.ro ((4 * v + 1 + k : Nat) : Int) with
            | false =>
              have HD2 : Hid (nI t v (k + 1) = nI t v k) := nI_no hh
              rw [hh] at hbl
              obtain ⟨ci, hci⟩ : ∃ ci, 4 * v + 1 + k = ci := ⟨_, rfl⟩
              rw [hci] at hch hbl
              clear hh hc85 hci
              go_wp2_with (first | (go_at_call 39; refine (h9 _).mono ?_; rintro r' wr ⟨rfl, rfl⟩) | (go_at_call 40; refine (hch _).mono ?_; rintro r' wr ⟨rfl, rfl⟩) | (refine rdR hTr HR.out _ rfl rfl rfl ?_))
              refine (hbl _).mono ?_
              rintro r' w4 ⟨rfl, hb4⟩
              have HG4 : Hid (GI w w4 B t n0 (.slice a1 (dI t q j ++ nI t v k).length cap1) (dI t q j ++ nI t v k)) := HG3.out.later hb4
              clear HG3 hTr hb4 hbl hch h9
              go_wp2_with fail
              go_roundw
              case rel => exact ⟨k + 1, _, by omega, by go_num, rfl, by rw [HD2.out, ← List.length_append]; exact HG4.out⟩
              case measure => simp [intOf]; omega
            | true =>
              have HD2 : Hid (nI t v (k + 1) = nI t v k ++ [mkI t v (4 * v + 1 + k)]) := nI_yes hh
              have hIt := rItem_any t ht v (4 * v + 1 + k) (by omega) hc85 (koE_inner ht (by omega) (by omega)) (hld_leaf ht hc85 hh)
              rw [HT.out] at hIt
              unfold ItE at hIt
              rw [hh] at hbl
              obtain ⟨y, hy⟩ : ∃ y, mkI t v (4 * v + 1 + k) = y := ⟨_, rfl⟩
              rw [hy] at HD2
              simp only [hy] at hIt
              obtain ⟨ci, hci⟩ : ∃ ci, 4 * v + 1 + k = ci := ⟨_, rfl⟩
              rw [hci] at hch hbl hIt
              obtain ⟨l, hl⟩ : ∃ l, dI t q j ++ nI t v k = l := ⟨_, rfl⟩
              have HLN : Hid (l.length ≤ 4096) := by
                unfold Hid
                have h1 := dI_len t q j (by omega)
                have h2 := nI_len t v k
                have h3 := Rt.cd_le q j
                rw [← hl, List.length_append]
                omega
              have HLE : Hid (dI t q j ++ nI t v (k + 1) = l ++ [y]) := by unfold Hid; rw [HD2.out, ← List.append_assoc, hl]
              rw [hl] at HG3 ⊢
              clear hh hc85 hci hy hl
              go_wp2_with (first | (go_at_call 39; refine (h9 _).mono ?_; rintro r' wr ⟨rfl, rfl⟩) | (go_at_call 40; refine (hch _).mono ?_; rintro r' wr ⟨rfl, rfl⟩) | (refine rdR hTr HR.out _ rfl rfl rfl ?_))
              refine (hbl _).mono ?_
              rintro r' w4 ⟨rfl, hb4⟩
              have HG4 : Hid (GI w w4 B t n0 (.slice a1 l.length cap1) l) := HG3.out.later hb4
              have hTr4 := HG4.out.tr
              clear HG3 hTr hb4 hbl hch h9
              go_wp2_with (refine rdT hTr4 HT.out _ rfl rfl rfl ?_)
              refine (hIt _).mono ?_
              rintro r' w5 ⟨rfl, hb5⟩
              have HG5 : Hid (GI w w5 B t n0 (.slice a1 l.length cap1) l) := HG4.out.later hb5
              have hrow := HG5.out.row
              have hszr := HG5.out.sz
              have hllen := HLN.out
              clear HG4 hTr4 hb5 hIt
              go_wp2_with (at_builtin; (refine wpList_append_own _ rfl _ _ 47 rfl n0 104 i0 (.agg #[.int .i64 0, .int .i64 0, .int .i64 0, .int .i64 0, .int .i64 0, .int .i64 0]) 6 48 Tryz.underlying47 hi hz0 hz1 hz2 rfl (by decide) (.slice a1 l.length cap1) l.length (isl l) rfl (hrow.alloc _) ⟨w5.heap.size, 0, none⟩ 1 1 [.int .i64 y.nd, .int .i64 y.fm, .int .i64 y.un.bas, .int .i64 y.un.stp, .int .i64 y.ld.bas, .int .i64 y.ld.stp] rfl rfl (cell_row_new _ _ _) (by simp [Value.oneCell']) (by unfold maxLen; omega) (by omega) (by simp; omega) ?_); intro v' w6 hown' hg6 _; have HG6 : Hid (GI w w6 B t n0 v' (l ++ [y])) := HG5.out.app (x := y) hown' hg6; clear hown' hg6)
              go_roundw
              case rel => exact ⟨k + 1, _, by omega, by go_num, rfl, by rw [HLE.out]; exact HG6.out⟩
              case measure => simp [intOf]; omega
          · obtain rfl : k = 4 := by omega
            rw [show ((4 : Nat) : Int) = 4 from rfl]
            go_wp2_with fail
            go_roundw
            case rel => exact ⟨j + 1, _, by omega, by rw [HI.out], rfl, by rw [HD.out]; exact HG3.out⟩
            case measure => simp [intOf]
    · obtain rfl : j = 21 := by omega
      rw [show (20 : Int) - ((21 : Nat) : Int) = -1 by omega]
      have HG3 : Hid (GI w wr B t n0 vl (dI t q 21 ++ jJ t q (js.take 0))) := by have h := HG.out; unfold Hid; rw [List.take_zero, jJ_nil, List.append_nil]; exact h
      clear HG
      go_wp2_with fail
      go_loopw [8, 48] (fun x i wx => ∃ (m : Nat) (vl : Value), m ≤ js.length ∧ i = .int .i64 (m : Int) ∧ vl = x ∧ GI w wx B t n0 vl (dI t q 21 ++ jJ t q (js.take m))) (fun _ i _ => js.length - (intOf i).toNat)
      case atStart => exact ⟨0, _, by omega, rfl, rfl, HG3.out⟩
      case round =>
        obtain ⟨m, vl, hm, rfl, rfl, hg⟩ := hrel
        have HG : Hid (GI w wr B t n0 vl (dI t q 21 ++ jJ t q (js.take m))) := hg
        clear hg HG3
        by_cases hmN : m < js.length
        · have i1 : (0 : Int) ≤ (m : Int) := by omega
          have i2 : (m : Int) < (js.length : Int) := by omega
          obtain ⟨b, hal, hc0, hc1⟩ := (hrd.later HG.out.bel) m hmN
          obtain ⟨s, hs8, hps, hts⟩ := hseat (js.getD m (0, 0)) (by rw [List.getD_eq_getElem?_getD, List.getElem?_eq_getElem hmN]; exact List.getElem_mem _)
          have HTJ : Hid (jJ t q (js.take (m + 1)) = jJ t q (js.take m) ++ jI t q s 3) := by
            unfold Hid
            rw [take_snoc2 hmN, jJ_snoc, hps, Int.toNat_natCast]
          obtain ⟨p, hp⟩ : ∃ p, js.getD m (0, 0) = p := ⟨_, rfl⟩
          rw [hp] at hc0 hc1 hps
          clear hp
          obtain ⟨px, py⟩ := p
          dsimp only at hc0 hc1 hps
          subst hps
          subst hal
          have hpa := rPath_pn s hs8
          have hks := (koK_leaf ht hs8 hts).1
          have hlf := Sh.rLeaf_any (s : Int)
          rw [Sh.lef_yes (by omega) (by omega)] at hlf
          obtain ⟨a0, cap0, rfl⟩ := Rs.owns_slice HG.out.row
          obtain ⟨l0, hl0⟩ : ∃ l0, dI t q 21 ++ jJ t q (js.take m) = l0 := ⟨_, rfl⟩
          have HL0 : Hid (dI t q 21 ++ jJ t q (js.take m) = l0) := hl0
          rw [hl0] at HG ⊢
          clear hl0
          have hSE : StAt (wr.alloc (.cells #[.int .i64 px, .int .i64 (s : Int)] 93)) wr.heap.size (px, (s : Int)) := heap_alloc_last wr _
          have HG2 : Hid (GI w (wr.alloc (.cells #[.int .i64 px, .int .i64 (s : Int)] 93)) B t n0 (.slice a0 l0.length cap0) l0) := HG.out.later (below_alloc _ _)
          clear HG
          go_upto_region 15 with (fail)
          generalize wr.alloc (.cells #[.int .i64 px, .int .i64 (s : Int)] 93) = w3 at *
          generalize wr.heap.size = C at *
          obtain ⟨se0, se1⟩ := hSE.cells
          dsimp only at se0 se1
          go_wp2_with fail
          refine (hpa _).mono ?_
          rintro r' w4 ⟨rfl, hb4⟩
          have hb5 := hb4.trans ((below_alloc w4 (.cells #[.int .i64 (pn s 0 : Nat), .int .i64 (pn s 1 : Nat), .int .i64 (pn s 2 : Nat)] 69)).mono hb4.size)
          have HG5 : Hid (GI w (w4.alloc (.cells #[.int .i64 (pn s 0 : Nat), .int .i64 (pn s 1 : Nat), .int .i64 (pn s 2 : Nat)] 69)) B t n0 (.slice a0 l0.length cap0) l0) := HG2.out.later hb5
          have HGS5 : Hid (GS w (w4.alloc (.cells #[.int .i64 (pn s 0 : Nat), .int .i64 (pn s 1 : Nat), .int .i64 (pn s 2 : Nat)] 69)) B C w4.heap.size t (px, (s : Int)) (pn s 0) (pn s 1) (pn s 2)) := ⟨HG5.out.tr, hSE.later hb5, heap_alloc_last w4 _, HG5.out.bel⟩
          clear hpa hSE HG2 hb4 hb5 se0 se1
          go_upto_region 16 with (fail)
          generalize w4.alloc (.cells #[.int .i64 (pn s 0 : Nat), .int .i64 (pn s 1 : Nat), .int .i64 (pn s 2 : Nat)] 69) = w5 at *
          generalize w4.heap.size = A at *
          obtain ⟨p0, hp0⟩ : ∃ p0, pn s 0 = p0 := ⟨_, rfl⟩
          obtain ⟨p1, hp1⟩ : ∃ p0, pn s 1 = p0 := ⟨_, rfl⟩
          obtain ⟨p2, hp2⟩ : ∃ p0, pn s 2 = p0 := ⟨_, rfl⟩
          have HP0 : Hid (pn s 0 = p0) := hp0
          have HP1 : Hid (pn s 1 = p1) := hp1
          have HP2 : Hid (pn s 2 = p2) := hp2
          rw [hp0, hp1, hp2] at HGS5
          clear hp0 hp1 hp2
          go_wp2_with fail
          go_loopw [8, 16] (fun x i wx => ∃ (k : Nat) (vl : Value), k ≤ 3 ∧ i = .int .i64 (k : Int) ∧ vl = x ∧ GI w wx B t n0 vl (dI t q 21 ++ jJ t q (js.take m) ++ jI t q s k) ∧ GS w wx B C A t (px, (s : Int)) p0 p1 p2) (fun _ i _ => 3 - (intOf i).toNat)
          case atStart => exact ⟨0, _, by omega, rfl, rfl, by rw [jI_zero, List.append_nil, HL0.out]; exact HG5.out, HGS5.out⟩
          case round =>
            obtain ⟨k, vl, hk, rfl, rfl, hg, hgs⟩ := hrel
            have HG : Hid (GI w wr B t n0 vl (dI t q 21 ++ jJ t q (js.take m) ++ jI t q s k)) := hg
            have HGS : Hid (GS w wr B C A t (px, (s : Int)) p0 p1 p2) := hgs
            clear hg hgs HG5 HGS5
            have hk3 : k = 0 ∨ k = 1 ∨ k = 2 ∨ k = 3 := by omega
            rcases hk3 with rfl | rfl | rfl | rfl
            · rw [show ((0 : Nat) : Int) = 0 from rfl]
              have hv21 : p0 < 21 := by have := pn_lt hs8 0; rw [HP0.out] at this; exact this
              have h9 := Rt.rIn_any q p0 hq (by omega)
              obtain ⟨x0, x1, x2⟩ := Pa3.cells HGS.out.pa
              cases hb : q.testBit p0 with
              | true =>
                rw [hb] at h9
                have HJ : Hid (jI t q s (0 + 1) = jI t q s 0) := jI_yes (by rw [HP0.out]; exact hb)
                go_wp2_with (go_at_call 39; refine (h9 _).mono ?_; rintro r' wr ⟨rfl, rfl⟩)
                go_roundw
                case rel => exact ⟨0 + 1, _, by omega, by go_num, rfl, by rw [HJ.out]; exact HG.out, HGS.out⟩
                case measure => simp [intOf]
              | false =>
                rw [hb] at h9
                have HJ : Hid (jI t q s (0 + 1) = jI t q s 0 ++ [mkI t p0 (21 + s)]) := by rw [← HP0.out]; exact jI_no (by rw [HP0.out]; exact hb)
                have hIt := rItem_any t ht p0 (21 + s) (by omega) (by omega) (koE_inner ht (by omega) (by omega)) hks
                rw [HT.out] at hIt
                rw [show (((21 + s : Nat) : Int)) = 21 + (s : Int) by push_cast; rfl] at hIt
                unfold ItE at hIt
                obtain ⟨y, hy⟩ : ∃ y, mkI t p0 (21 + s) = y := ⟨_, rfl⟩
                rw [hy] at HJ
                simp only [hy] at hIt
                obtain ⟨l, hl⟩ : ∃ l, dI t q 21 ++ jJ t q (js.take m) ++ jI t q s 0 = l := ⟨_, rfl⟩
                have HLN : Hid (l.length ≤ 4096) := by
                  unfold Hid
                  have h1 := dI_len t q 21 (by omega)
                  have h2 := jJ_len t q (js.take m)
                  have h3 := jI_len t q s 0
                  have h4 := Rt.cd_le q 21
                  have h5 : (js.take m).length ≤ 64 := by rw [List.length_take]; omega
                  rw [← hl, List.length_append, List.length_append]
                  omega
                have HLE : Hid (dI t q 21 ++ jJ t q (js.take m) ++ jI t q s (0 + 1) = l ++ [y]) := by unfold Hid; rw [HJ.out, ← List.append_assoc, hl]
                rw [hl] at HG
                obtain ⟨a1, cap1, rfl⟩ := Rs.owns_slice HG.out.row
                clear hl hy
                go_upto_region 20 with (go_at_call 39; refine (h9 _).mono ?_; rintro r' wr ⟨rfl, rfl⟩)
                have hS0 : GS w wr.drew B C A t (px, (s : Int)) p0 p1 p2 := HGS.out.later (drew_below _)
                have HROW : Hid (wr.drew.ownsRow n0 104 6 (.slice a1 l.length cap1) l.length (isl l)) := Rs.owns_later HG.out.row (drew_below _)
                have HSZ : Hid (n0 ≤ wr.drew.heap.size) := HG.out.sz
                have HGF : Hid (B < n0 ∧ w.heap.size ≤ n0) := ⟨HG.out.bt, HG.out.wl⟩
                clear HGS HG x0 x1 x2 h9
                refine wp_region_held_drew (S := fun W => GS w W B C A t (px, (s : Int)) p0 p1 p2) (by kernel_rfl) hS0 (fun hHeld => ?_)
                refine wpAnyH_take (i := 0) (oi := { dst := some 68, op := Op.move (Operand.tmp 8), type := _, pos := _, after := _, guard := none }) (v := .slice a1 l.length cap1) rfl (by kernel_rfl) (by kernel_rfl) (by kernel_rfl) (fun _ _ _ h => h) (Or.inl ⟨by rfl, fun w hSw => by (try dsimp only at hSw); go_simp⟩) (by assumption) ?_
                simp only [Act.put, List.setIfInBounds_toArray, List.set_cons_zero, List.set_cons_succ]
                refine wpAnyH_take (i := 1) (oi := { dst := some 69, op := Op.load 31 (Operand.tmp 3), type := _, pos := _, after := _, guard := none }) (v := .agg ct) rfl (by kernel_rfl) (by kernel_rfl) (by kernel_rfl) (fun _ _ _ h => h) (Or.inl ⟨by rfl, fun w hSw => ld_exec (HT.out ▸ hSw.tr.whole) rfl rfl⟩) (by assumption) ?_
                simp only [Act.put, List.setIfInBounds_toArray, List.set_cons_zero, List.set_cons_succ]
                refine wpAnyH_take (i := 2) (oi := { dst := some 70, op := Op.move (Operand.tmp 16), type := _, pos := _, after := _, guard := none }) (v := .int .i64 0) rfl (by kernel_rfl) (by kernel_rfl) (by kernel_rfl) (fun _ _ _ h => h) (Or.inl ⟨by rfl, fun w hSw => by (try dsimp only at hSw); go_simp⟩) (by assumption) ?_
                simp only [Act.put, List.setIfInBounds_toArray, List.set_cons_zero, List.set_cons_succ]
                refine wpAnyH_take (i := 3) (oi := { dst := some 71, op := Op.indexAddr 69 (Operand.tmp 14) (Operand.tmp 70), type := _, pos := _, after := _, guard := none }) (v := .pointer (some ⟨A, 0, none⟩)) rfl (by kernel_rfl) (by kernel_rfl) (by kernel_rfl) (fun _ _ _ h => h) (Or.inl ⟨by rfl, fun w hSw => by (try dsimp only at hSw); go_simp⟩) (by assumption) ?_
                simp only [Act.put, List.setIfInBounds_toArray, List.set_cons_zero, List.set_cons_succ]
                refine wpAnyH_take (i := 4) (oi := { dst := some 72, op := Op.load 3 (Operand.tmp 71), type := _, pos := _, after := _, guard := none }) (v := .int .i64 (p0 : Int)) rfl (by kernel_rfl) (by kernel_rfl) (by kernel_rfl) (fun _ _ _ h => h) (Or.inl ⟨by rfl, fun w hSw => by obtain ⟨x0, x1, x2⟩ := Pa3.cells hSw.pa; clear hSw; go_simp⟩) (by assumption) ?_
                simp only [Act.put, List.setIfInBounds_toArray, List.set_cons_zero, List.set_cons_succ]
                refine wpAnyH_take (i := 5) (oi := { dst := some 73, op := Op.fieldAddr 93 (Operand.tmp 13) 1, type := _, pos := _, after := _, guard := none }) (v := .pointer (some ⟨C, 1, none⟩)) rfl (by kernel_rfl) (by kernel_rfl) (by kernel_rfl) (fun _ _ _ h => h) (Or.inl ⟨by rfl, fun w hSw => by (try dsimp only at hSw); go_simp⟩) (by assumption) ?_
                simp only [Act.put, List.setIfInBounds_toArray, List.set_cons_zero, List.set_cons_succ]
                refine wpAnyH_take (i := 6) (oi := { dst := some 74, op := Op.load 3 (Operand.tmp 73), type := _, pos := _, after := _, guard := none }) (v := .int .i64 (s : Int)) rfl (by kernel_rfl) (by kernel_rfl) (by kernel_rfl) (fun _ _ _ h => h) (Or.inl ⟨by rfl, fun w hSw => by obtain ⟨x0, x1⟩ := hSw.se.cells; dsimp only at x0 x1; clear hSw; go_simp⟩) (by assumption) ?_
                simp only [Act.put, List.setIfInBounds_toArray, List.set_cons_zero, List.set_cons_succ]
                refine wpAnyH_ready (rs := [7]) (by kernel_rfl) (by simp) ?_
                refine AllReadyH.cons rfl (fun K hK => ?_) AllReadyH.nil
                go_simp
                refine (hlf _).mono ?_
                rintro r' w5 ⟨rfl, rfl⟩
                go_wp2_with fail
                refine hK.out _ _ hHeld (fun hHeld2 => ?_)
                clear hHeld
                clear hK K
                try simp only [Act.put, List.setIfInBounds_toArray, List.set_cons_zero, List.set_cons_succ]
                refine wpAnyH_ready (rs := [8]) (by kernel_rfl) (by simp) ?_
                refine AllReadyH.cons rfl (fun K hK => ?_) AllReadyH.nil
                go_simp
                refine (hIt _).mono ?_
                rintro r' w6 ⟨rfl, hb6⟩
                go_wp2_with fail
                have HROW6 : Hid (w6.ownsRow n0 104 6 (.slice a1 l.length cap1) l.length (isl l)) := Rs.owns_later HROW.out hb6
                have HSZ6 : Hid (n0 ≤ w6.heap.size) := Nat.le_trans HSZ.out hb6.size
                refine hK.out _ _ (hHeld2.later hb6) (fun hHeld3 => ?_)
                clear hHeld2 hb6 HROW HSZ
                clear hK K
                try simp only [Act.put, List.setIfInBounds_toArray, List.set_cons_zero, List.set_cons_succ]
                refine wpAnyH_ready (rs := [9]) (by kernel_rfl) (by simp) ?_
                refine AllReadyH.cons rfl (fun K hK => ?_) AllReadyH.nil
                go_simp
                have hpre := hHeld3
                refine hK.out _ _ (hHeld3.later (below_alloc _ _)) (fun hHeld4 => ?_)
                clear hHeld3
                clear hK K
                try simp only [Act.put, List.setIfInBounds_toArray, List.set_cons_zero, List.set_cons_succ]
                refine wpAnyH_ready (rs := [10]) (by kernel_rfl) (by simp) ?_
                refine AllReadyH.cons rfl (fun Kc hK => ?_) AllReadyH.nil
                refine appI rfl 78 rfl _ _ rfl n0 (.slice a1 l.length cap1) l rfl (HROW6.out.alloc _) w6.heap.size y rfl (cell_row_new _ _ _) HLN.out (by have := HSZ6.out; simp; omega) ?_
                intro v' w7 hown7 hg7
                have HG7 : Hid (GI w w7 B t n0 v' (l ++ [y])) := GI.app2 hpre.tr hpre.bel HROW6.out HSZ6.out HGF.out.1 HGF.out.2 hown7 hg7
                refine hK.out _ _ (hpre.app HROW6.out HGF.out.2 hg7) (fun hHeld5 => ?_)
                clear hHeld4 hown7 hg7 hpre
                clear hK Kc
                try simp only [Act.put, List.setIfInBounds_toArray, List.set_cons_zero, List.set_cons_succ]
                refine wpAnyH_take (i := 11) (oi := { dst := some 8, op := Op.assign (Operand.tmp 78), type := _, pos := _, after := _, guard := none }) (v := v') rfl (by kernel_rfl) (by kernel_rfl) (by kernel_rfl) (fun _ _ _ h => h) (Or.inl ⟨by rfl, fun w hSw => by (try dsimp only at hSw); go_simp⟩) (by assumption) ?_
                simp only [Act.put, List.setIfInBounds_toArray, List.set_cons_zero, List.set_cons_succ]
                refine wpAnyH_done (by kernel_rfl) ?_ _
                go_wp2_with fail
                go_roundw
                case rel => exact ⟨0 + 1, _, by omega, by go_num, rfl, by rw [HLE.out]; exact HG7.out, hHeld5⟩
                case measure => simp [intOf]
            · rw [show ((1 : Nat) : Int) = 1 from rfl]
              have hv21 : p1 < 21 := by have := pn_lt hs8 1; rw [HP1.out] at this; exact this
              have h9 := Rt.rIn_any q p1 hq (by omega)
              obtain ⟨x0, x1, x2⟩ := Pa3.cells HGS.out.pa
              cases hb : q.testBit p1 with
              | true =>
                rw [hb] at h9
                have HJ : Hid (jI t q s (1 + 1) = jI t q s 1) := jI_yes (by rw [HP1.out]; exact hb)
                go_wp2_with (go_at_call 39; refine (h9 _).mono ?_; rintro r' wr ⟨rfl, rfl⟩)
                go_roundw
                case rel => exact ⟨1 + 1, _, by omega, by go_num, rfl, by rw [HJ.out]; exact HG.out, HGS.out⟩
                case measure => simp [intOf]
              | false =>
                rw [hb] at h9
                have HJ : Hid (jI t q s (1 + 1) = jI t q s 1 ++ [mkI t p1 (21 + s)]) := by rw [← HP1.out]; exact jI_no (by rw [HP1.out]; exact hb)
                have hIt := rItem_any t ht p1 (21 + s) (by omega) (by omega) (koE_inner ht (by omega) (by omega)) hks
                rw [HT.out] at hIt
                rw [show (((21 + s : Nat) : Int)) = 21 + (s : Int) by push_cast; rfl] at hIt
                unfold ItE at hIt
                obtain ⟨y, hy⟩ : ∃ y, mkI t p1 (21 + s) = y := ⟨_, rfl⟩
                rw [hy] at HJ
                simp only [hy] at hIt
                obtain ⟨l, hl⟩ : ∃ l, dI t q 21 ++ jJ t q (js.take m) ++ jI t q s 1 = l := ⟨_, rfl⟩
                have HLN : Hid (l.length ≤ 4096) := by
                  unfold Hid
                  have h1 := dI_len t q 21 (by omega)
                  have h2 := jJ_len t q (js.take m)
                  have h3 := jI_len t q s 1
                  have h4 := Rt.cd_le q 21
                  have h5 : (js.take m).length ≤ 64 := by rw [List.length_take]; omega
                  rw [← hl, List.length_append, List.length_append]
                  omega
                have HLE : Hid (dI t q 21 ++ jJ t q (js.take m) ++ jI t q s (1 + 1) = l ++ [y]) := by unfold Hid; rw [HJ.out, ← List.append_assoc, hl]
                rw [hl] at HG
                obtain ⟨a1, cap1, rfl⟩ := Rs.owns_slice HG.out.row
                clear hl hy
                go_upto_region 20 with (go_at_call 39; refine (h9 _).mono ?_; rintro r' wr ⟨rfl, rfl⟩)
                have hS0 : GS w wr.drew B C A t (px, (s : Int)) p0 p1 p2 := HGS.out.later (drew_below _)
                have HROW : Hid (wr.drew.ownsRow n0 104 6 (.slice a1 l.length cap1) l.length (isl l)) := Rs.owns_later HG.out.row (drew_below _)
                have HSZ : Hid (n0 ≤ wr.drew.heap.size) := HG.out.sz
                have HGF : Hid (B < n0 ∧ w.heap.size ≤ n0) := ⟨HG.out.bt, HG.out.wl⟩
                clear HGS HG x0 x1 x2 h9
                refine wp_region_held_drew (S := fun W => GS w W B C A t (px, (s : Int)) p0 p1 p2) (by kernel_rfl) hS0 (fun hHeld => ?_)
                refine wpAnyH_take (i := 0) (oi := { dst := some 68, op := Op.move (Operand.tmp 8), type := _, pos := _, after := _, guard := none }) (v := .slice a1 l.length cap1) rfl (by kernel_rfl) (by kernel_rfl) (by kernel_rfl) (fun _ _ _ h => h) (Or.inl ⟨by rfl, fun w hSw => by (try dsimp only at hSw); go_simp⟩) (by assumption) ?_
                simp only [Act.put, List.setIfInBounds_toArray, List.set_cons_zero, List.set_cons_succ]
                refine wpAnyH_take (i := 1) (oi := { dst := some 69, op := Op.load 31 (Operand.tmp 3), type := _, pos := _, after := _, guard := none }) (v := .agg ct) rfl (by kernel_rfl) (by kernel_rfl) (by kernel_rfl) (fun _ _ _ h => h) (Or.inl ⟨by rfl, fun w hSw => ld_exec (HT.out ▸ hSw.tr.whole) rfl rfl⟩) (by assumption) ?_
                simp only [Act.put, List.setIfInBounds_toArray, List.set_cons_zero, List.set_cons_succ]
                refine wpAnyH_take (i := 2) (oi := { dst := some 70, op := Op.move (Operand.tmp 16), type := _, pos := _, after := _, guard := none }) (v := .int .i64 1) rfl (by kernel_rfl) (by kernel_rfl) (by kernel_rfl) (fun _ _ _ h => h) (Or.inl ⟨by rfl, fun w hSw => by (try dsimp only at hSw); go_simp⟩) (by assumption) ?_
                simp only [Act.put, List.setIfInBounds_toArray, List.set_cons_zero, List.set_cons_succ]
                refine wpAnyH_take (i := 3) (oi := { dst := some 71, op := Op.indexAddr 69 (Operand.tmp 14) (Operand.tmp 70), type := _, pos := _, after := _, guard := none }) (v := .pointer (some ⟨A, 1, none⟩)) rfl (by kernel_rfl) (by kernel_rfl) (by kernel_rfl) (fun _ _ _ h => h) (Or.inl ⟨by rfl, fun w hSw => by (try dsimp only at hSw); go_simp⟩) (by assumption) ?_
                simp only [Act.put, List.setIfInBounds_toArray, List.set_cons_zero, List.set_cons_succ]
                refine wpAnyH_take (i := 4) (oi := { dst := some 72, op := Op.load 3 (Operand.tmp 71), type := _, pos := _, after := _, guard := none }) (v := .int .i64 (p1 : Int)) rfl (by kernel_rfl) (by kernel_rfl) (by kernel_rfl) (fun _ _ _ h => h) (Or.inl ⟨by rfl, fun w hSw => by obtain ⟨x0, x1, x2⟩ := Pa3.cells hSw.pa; clear hSw; go_simp⟩) (by assumption) ?_
                simp only [Act.put, List.setIfInBounds_toArray, List.set_cons_zero, List.set_cons_succ]
                refine wpAnyH_take (i := 5) (oi := { dst := some 73, op := Op.fieldAddr 93 (Operand.tmp 13) 1, type := _, pos := _, after := _, guard := none }) (v := .pointer (some ⟨C, 1, none⟩)) rfl (by kernel_rfl) (by kernel_rfl) (by kernel_rfl) (fun _ _ _ h => h) (Or.inl ⟨by rfl, fun w hSw => by (try dsimp only at hSw); go_simp⟩) (by assumption) ?_
                simp only [Act.put, List.setIfInBounds_toArray, List.set_cons_zero, List.set_cons_succ]
                refine wpAnyH_take (i := 6) (oi := { dst := some 74, op := Op.load 3 (Operand.tmp 73), type := _, pos := _, after := _, guard := none }) (v := .int .i64 (s : Int)) rfl (by kernel_rfl) (by kernel_rfl) (by kernel_rfl) (fun _ _ _ h => h) (Or.inl ⟨by rfl, fun w hSw => by obtain ⟨x0, x1⟩ := hSw.se.cells; dsimp only at x0 x1; clear hSw; go_simp⟩) (by assumption) ?_
                simp only [Act.put, List.setIfInBounds_toArray, List.set_cons_zero, List.set_cons_succ]
                refine wpAnyH_ready (rs := [7]) (by kernel_rfl) (by simp) ?_
                refine AllReadyH.cons rfl (fun K hK => ?_) AllReadyH.nil
                go_simp
                refine (hlf _).mono ?_
                rintro r' w5 ⟨rfl, rfl⟩
                go_wp2_with fail
                refine hK.out _ _ hHeld (fun hHeld2 => ?_)
                clear hHeld
                clear hK K
                try simp only [Act.put, List.setIfInBounds_toArray, List.set_cons_zero, List.set_cons_succ]
                refine wpAnyH_ready (rs := [8]) (by kernel_rfl) (by simp) ?_
                refine AllReadyH.cons rfl (fun K hK => ?_) AllReadyH.nil
                go_simp
                refine (hIt _).mono ?_
                rintro r' w6 ⟨rfl, hb6⟩
                go_wp2_with fail
                have HROW6 : Hid (w6.ownsRow n0 104 6 (.slice a1 l.length cap1) l.length (isl l)) := Rs.owns_later HROW.out hb6
                have HSZ6 : Hid (n0 ≤ w6.heap.size) := Nat.le_trans HSZ.out hb6.size
                refine hK.out _ _ (hHeld2.later hb6) (fun hHeld3 => ?_)
                clear hHeld2 hb6 HROW HSZ
                clear hK K
                try simp only [Act.put, List.setIfInBounds_toArray, List.set_cons_zero, List.set_cons_succ]
                refine wpAnyH_ready (rs := [9]) (by kernel_rfl) (by simp) ?_
                refine AllReadyH.cons rfl (fun K hK => ?_) AllReadyH.nil
                go_simp
                have hpre := hHeld3
                refine hK.out _ _ (hHeld3.later (below_alloc _ _)) (fun hHeld4 => ?_)
                clear hHeld3
                clear hK K
                try simp only [Act.put, List.setIfInBounds_toArray, List.set_cons_zero, List.set_cons_succ]
                refine wpAnyH_ready (rs := [10]) (by kernel_rfl) (by simp) ?_
                refine AllReadyH.cons rfl (fun Kc hK => ?_) AllReadyH.nil
                refine appI rfl 78 rfl _ _ rfl n0 (.slice a1 l.length cap1) l rfl (HROW6.out.alloc _) w6.heap.size y rfl (cell_row_new _ _ _) HLN.out (by have := HSZ6.out; simp; omega) ?_
                intro v' w7 hown7 hg7
                have HG7 : Hid (GI w w7 B t n0 v' (l ++ [y])) := GI.app2 hpre.tr hpre.bel HROW6.out HSZ6.out HGF.out.1 HGF.out.2 hown7 hg7
                refine hK.out _ _ (hpre.app HROW6.out HGF.out.2 hg7) (fun hHeld5 => ?_)
                clear hHeld4 hown7 hg7 hpre
                clear hK Kc
                try simp only [Act.put, List.setIfInBounds_toArray, List.set_cons_zero, List.set_cons_succ]
                refine wpAnyH_take (i := 11) (oi := { dst := some 8, op := Op.assign (Operand.tmp 78), type := _, pos := _, after := _, guard := none }) (v := v') rfl (by kernel_rfl) (by kernel_rfl) (by kernel_rfl) (fun _ _ _ h => h) (Or.inl ⟨by rfl, fun w hSw => by (try dsimp only at hSw); go_simp⟩) (by assumption) ?_
                simp only [Act.put, List.setIfInBounds_toArray, List.set_cons_zero, List.set_cons_succ]
                refine wpAnyH_done (by kernel_rfl) ?_ _
                go_wp2_with fail
                go_roundw
                case rel => exact ⟨1 + 1, _, by omega, by go_num, rfl, by rw [HLE.out]; exact HG7.out, hHeld5⟩
                case measure => simp [intOf]
            · rw [show ((2 : Nat) : Int) = 2 from rfl]
              have hv21 : p2 < 21 := by have := pn_lt hs8 2; rw [HP2.out] at this; exact this
              have h9 := Rt.rIn_any q p2 hq (by omega)
              obtain ⟨x0, x1, x2⟩ := Pa3.cells HGS.out.pa
              cases hb : q.testBit p2 with
              | true =>
                rw [hb] at h9
                have HJ : Hid (jI t q s (2 + 1) = jI t q s 2) := jI_yes (by rw [HP2.out]; exact hb)
                go_wp2_with (go_at_call 39; refine (h9 _).mono ?_; rintro r' wr ⟨rfl, rfl⟩)
                go_roundw
                case rel => exact ⟨2 + 1, _, by omega, by go_num, rfl, by rw [HJ.out]; exact HG.out, HGS.out⟩
                case measure => simp [intOf]
              | false =>
                rw [hb] at h9
                have HJ : Hid (jI t q s (2 + 1) = jI t q s 2 ++ [mkI t p2 (21 + s)]) := by rw [← HP2.out]; exact jI_no (by rw [HP2.out]; exact hb)
                have hIt := rItem_any t ht p2 (21 + s) (by omega) (by omega) (koE_inner ht (by omega) (by omega)) hks
                rw [HT.out] at hIt
                rw [show (((21 + s : Nat) : Int)) = 21 + (s : Int) by push_cast; rfl] at hIt
                unfold ItE at hIt
                obtain ⟨y, hy⟩ : ∃ y, mkI t p2 (21 + s) = y := ⟨_, rfl⟩
                rw [hy] at HJ
                simp only [hy] at hIt
                obtain ⟨l, hl⟩ : ∃ l, dI t q 21 ++ jJ t q (js.take m) ++ jI t q s 2 = l := ⟨_, rfl⟩
                have HLN : Hid (l.length ≤ 4096) := by
                  unfold Hid
                  have h1 := dI_len t q 21 (by omega)
                  have h2 := jJ_len t q (js.take m)
                  have h3 := jI_len t q s 2
                  have h4 := Rt.cd_le q 21
                  have h5 : (js.take m).length ≤ 64 := by rw [List.length_take]; omega
                  rw [← hl, List.length_append, List.length_append]
                  omega
                have HLE : Hid (dI t q 21 ++ jJ t q (js.take m) ++ jI t q s (2 + 1) = l ++ [y]) := by unfold Hid; rw [HJ.out, ← List.append_assoc, hl]
                rw [hl] at HG
                obtain ⟨a1, cap1, rfl⟩ := Rs.owns_slice HG.out.row
                clear hl hy
                go_upto_region 20 with (go_at_call 39; refine (h9 _).mono ?_; rintro r' wr ⟨rfl, rfl⟩)
                have hS0 : GS w wr.drew B C A t (px, (s : Int)) p0 p1 p2 := HGS.out.later (drew_below _)
                have HROW : Hid (wr.drew.ownsRow n0 104 6 (.slice a1 l.length cap1) l.length (isl l)) := Rs.owns_later HG.out.row (drew_below _)
                have HSZ : Hid (n0 ≤ wr.drew.heap.size) := HG.out.sz
                have HGF : Hid (B < n0 ∧ w.heap.size ≤ n0) := ⟨HG.out.bt, HG.out.wl⟩
                clear HGS HG x0 x1 x2 h9
                refine wp_region_held_drew (S := fun W => GS w W B C A t (px, (s : Int)) p0 p1 p2) (by kernel_rfl) hS0 (fun hHeld => ?_)
                refine wpAnyH_take (i := 0) (oi := { dst := some 68, op := Op.move (Operand.tmp 8), type := _, pos := _, after := _, guard := none }) (v := .slice a1 l.length cap1) rfl (by kernel_rfl) (by kernel_rfl) (by kernel_rfl) (fun _ _ _ h => h) (Or.inl ⟨by rfl, fun w hSw => by (try dsimp only at hSw); go_simp⟩) (by assumption) ?_
                simp only [Act.put, List.setIfInBounds_toArray, List.set_cons_zero, List.set_cons_succ]
                refine wpAnyH_take (i := 1) (oi := { dst := some 69, op := Op.load 31 (Operand.tmp 3), type := _, pos := _, after := _, guard := none }) (v := .agg ct) rfl (by kernel_rfl) (by kernel_rfl) (by kernel_rfl) (fun _ _ _ h => h) (Or.inl ⟨by rfl, fun w hSw => ld_exec (HT.out ▸ hSw.tr.whole) rfl rfl⟩) (by assumption) ?_
                simp only [Act.put, List.setIfInBounds_toArray, List.set_cons_zero, List.set_cons_succ]
                refine wpAnyH_take (i := 2) (oi := { dst := some 70, op := Op.move (Operand.tmp 16), type := _, pos := _, after := _, guard := none }) (v := .int .i64 2) rfl (by kernel_rfl) (by kernel_rfl) (by kernel_rfl) (fun _ _ _ h => h) (Or.inl ⟨by rfl, fun w hSw => by (try dsimp only at hSw); go_simp⟩) (by assumption) ?_
                simp only [Act.put, List.setIfInBounds_toArray, List.set_cons_zero, List.set_cons_succ]
                refine wpAnyH_take (i := 3) (oi := { dst := some 71, op := Op.indexAddr 69 (Operand.tmp 14) (Operand.tmp 70), type := _, pos := _, after := _, guard := none }) (v := .pointer (some ⟨A, 2, none⟩)) rfl (by kernel_rfl) (by kernel_rfl) (by kernel_rfl) (fun _ _ _ h => h) (Or.inl ⟨by rfl, fun w hSw => by (try dsimp only at hSw); go_simp⟩) (by assumption) ?_
                simp only [Act.put, List.setIfInBounds_toArray, List.set_cons_zero, List.set_cons_succ]
                refine wpAnyH_take (i := 4) (oi := { dst := some 72, op := Op.load 3 (Operand.tmp 71), type := _, pos := _, after := _, guard := none }) (v := .int .i64 (p2 : Int)) rfl (by kernel_rfl) (by kernel_rfl) (by kernel_rfl) (fun _ _ _ h => h) (Or.inl ⟨by rfl, fun w hSw => by obtain ⟨x0, x1, x2⟩ := Pa3.cells hSw.pa; clear hSw; go_simp⟩) (by assumption) ?_
                simp only [Act.put, List.setIfInBounds_toArray, List.set_cons_zero, List.set_cons_succ]
                refine wpAnyH_take (i := 5) (oi := { dst := some 73, op := Op.fieldAddr 93 (Operand.tmp 13) 1, type := _, pos := _, after := _, guard := none }) (v := .pointer (some ⟨C, 1, none⟩)) rfl (by kernel_rfl) (by kernel_rfl) (by kernel_rfl) (fun _ _ _ h => h) (Or.inl ⟨by rfl, fun w hSw => by (try dsimp only at hSw); go_simp⟩) (by assumption) ?_
                simp only [Act.put, List.setIfInBounds_toArray, List.set_cons_zero, List.set_cons_succ]
                refine wpAnyH_take (i := 6) (oi := { dst := some 74, op := Op.load 3 (Operand.tmp 73), type := _, pos := _, after := _, guard := none }) (v := .int .i64 (s : Int)) rfl (by kernel_rfl) (by kernel_rfl) (by kernel_rfl) (fun _ _ _ h => h) (Or.inl ⟨by rfl, fun w hSw => by obtain ⟨x0, x1⟩ := hSw.se.cells; dsimp only at x0 x1; clear hSw; go_simp⟩) (by assumption) ?_
                simp only [Act.put, List.setIfInBounds_toArray, List.set_cons_zero, List.set_cons_succ]
                refine wpAnyH_ready (rs := [7]) (by kernel_rfl) (by simp) ?_
                refine AllReadyH.cons rfl (fun K hK => ?_) AllReadyH.nil
                go_simp
                refine (hlf _).mono ?_
                rintro r' w5 ⟨rfl, rfl⟩
                go_wp2_with fail
                refine hK.out _ _ hHeld (fun hHeld2 => ?_)
                clear hHeld
                clear hK K
                try simp only [Act.put, List.setIfInBounds_toArray, List.set_cons_zero, List.set_cons_succ]
                refine wpAnyH_ready (rs := [8]) (by kernel_rfl) (by simp) ?_
                refine AllReadyH.cons rfl (fun K hK => ?_) AllReadyH.nil
                go_simp
                refine (hIt _).mono ?_
                rintro r' w6 ⟨rfl, hb6⟩
                go_wp2_with fail
                have HROW6 : Hid (w6.ownsRow n0 104 6 (.slice a1 l.length cap1) l.length (isl l)) := Rs.owns_later HROW.out hb6
                have HSZ6 : Hid (n0 ≤ w6.heap.size) := Nat.le_trans HSZ.out hb6.size
                refine hK.out _ _ (hHeld2.later hb6) (fun hHeld3 => ?_)
                clear hHeld2 hb6 HROW HSZ
                clear hK K
                try simp only [Act.put, List.setIfInBounds_toArray, List.set_cons_zero, List.set_cons_succ]
                refine wpAnyH_ready (rs := [9]) (by kernel_rfl) (by simp) ?_
                refine AllReadyH.cons rfl (fun K hK => ?_) AllReadyH.nil
                go_simp
                have hpre := hHeld3
                refine hK.out _ _ (hHeld3.later (below_alloc _ _)) (fun hHeld4 => ?_)
                clear hHeld3
                clear hK K
                try simp only [Act.put, List.setIfInBounds_toArray, List.set_cons_zero, List.set_cons_succ]
                refine wpAnyH_ready (rs := [10]) (by kernel_rfl) (by simp) ?_
                refine AllReadyH.cons rfl (fun Kc hK => ?_) AllReadyH.nil
                refine appI rfl 78 rfl _ _ rfl n0 (.slice a1 l.length cap1) l rfl (HROW6.out.alloc _) w6.heap.size y rfl (cell_row_new _ _ _) HLN.out (by have := HSZ6.out; simp; omega) ?_
                intro v' w7 hown7 hg7
                have HG7 : Hid (GI w w7 B t n0 v' (l ++ [y])) := GI.app2 hpre.tr hpre.bel HROW6.out HSZ6.out HGF.out.1 HGF.out.2 hown7 hg7
                refine hK.out _ _ (hpre.app HROW6.out HGF.out.2 hg7) (fun hHeld5 => ?_)
                clear hHeld4 hown7 hg7 hpre
                clear hK Kc
                try simp only [Act.put, List.setIfInBounds_toArray, List.set_cons_zero, List.set_cons_succ]
                refine wpAnyH_take (i := 11) (oi := { dst := some 8, op := Op.assign (Operand.tmp 78), type := _, pos := _, after := _, guard := none }) (v := v') rfl (by kernel_rfl) (by kernel_rfl) (by kernel_rfl) (fun _ _ _ h => h) (Or.inl ⟨by rfl, fun w hSw => by (try dsimp only at hSw); go_simp⟩) (by assumption) ?_
                simp only [Act.put, List.setIfInBounds_toArray, List.set_cons_zero, List.set_cons_succ]
                refine wpAnyH_done (by kernel_rfl) ?_ _
                go_wp2_with fail
                go_roundw
                case rel => exact ⟨2 + 1, _, by omega, by go_num, rfl, by rw [HLE.out]; exact HG7.out, hHeld5⟩
                case measure => simp [intOf]
            · rw [show ((3 : Nat) : Int) = 3 from rfl]
              have HE : Hid (GI w wr B t n0 vl (dI t q 21 ++ jJ t q (js.take (m + 1)))) := by unfold Hid; rw [HTJ.out, ← List.append_assoc]; exact HG.out
              clear hlf HG
              go_wp2_with fail
              go_roundw
              case rel => exact ⟨m + 1, _, by omega, by go_num, rfl, HE.out⟩
              case measure => simp [intOf]; omega
        · obtain rfl : m = js.length := by omega
          have hdk : decide ((js.length : Int) < (js.length : Int)) = false := by simp
          rw [List.take_length] at HG
          obtain ⟨U, hU⟩ : ∃ U, dI t q 21 ++ jJ t q js = U := ⟨_, rfl⟩
          rw [hU] at HG
          have HU : Hid (its t (rp ll) js = U) := by unfold Hid; rw [HQ.out]; exact hU
          obtain ⟨a1, cap1, rfl⟩ := Rs.owns_slice HG.out.row
          clear hU
          go_wp2_with fail
          go_ret
          exact ⟨_, rfl, by rw [HN.out, HU.out]; exact HG.out.row, HG.out.bel⟩
end Go.Proofs.YtpimbpfefhkojaaGreat
/- Contracts: the document's Next; Cost. -/
namespace Go.Proofs.YtpimbpfefhkojaaGreat
open Go.RowKit Go.Maps Go.Great
open Rt (Ky zK kcs)
open Rs (En zE rcs tkn RdI RdS ps evl)
set_option linter.unusedVariables false
set_option linter.unusedSimpArgs false

set_option maxRecDepth 100000 in
set_option maxHeartbeats 2000000 in
theorem rNext_any (t : Tr) (aL aJ : Option Addr) (cL cJ : Nat) (L J : List Int) (w : World) (lL : L.length < 1152921504606846976) (lJ : J.length < 1152921504606846976) (hL : RdI w aL L) (hJ : RdI w aJ J) :
    Calls Tryz.prog 7 #[.agg (tcs t), .agg #[.slice aL L.length cL, .slice aJ J.length cJ] ] w fun e w' => NextA w w' t L J e ∧ Below w.heap.size w w' := by
  have hX := NX.new w t aL aJ L.length J.length cL cJ
  unfold rkz at hX
  obtain ⟨ct, hct⟩ : ∃ c, tcs t = c := ⟨_, rfl⟩
  have HT : Hid (tcs t = ct) := hct
  clear hct
  go_enter Tryz.func7, Tryz.ntmps7
  go_upto_region 1 with (fail)
  rw [zero236]
  generalize (((w.alloc (.cells (tcs t) 31)).alloc (.cells #[.slice aL L.length cL, .slice aJ J.length cJ] 45)).alloc (.cells (tcs (tz 0)) 31)).alloc (.cells #[.int .i64 0, .slice none 0 0, .slice none 0 0, .slice none 0 0] 49) = w1 at *
  rw [HT.out]
  obtain ⟨D, hD⟩ : ∃ D, w.heap.size + 3 = D := ⟨_, rfl⟩
  obtain ⟨K, hK⟩ : ∃ D, w.heap.size + 2 = D := ⟨_, rfl⟩
  obtain ⟨C, hC⟩ : ∃ D, w.heap.size + 1 = D := ⟨_, rfl⟩
  obtain ⟨B, hB⟩ : ∃ D, w.heap.size = D := ⟨_, rfl⟩
  rw [hD, hK, hC, hB] at hX ⊢
  clear hD hK hC hB
  have h1 := rNext11_any t aL aJ cL cJ L J w1 lL lJ (hL.later hX.tb.bel) (hJ.later hX.tb.bel)
  rw [HT.out] at h1
  have hT1 := hX.tb.tr
  obtain ⟨d0, d1⟩ := hX.tb.bt.cells
  go_wp2_with (refine rdT hT1 HT.out _ rfl rfl rfl ?_)
  refine h1.mono ?_
  rintro r w2 ⟨⟨vl, vj, rfl, hMP⟩, hb2⟩
  have hX2 := hX.later hb2
  have HW1 : Hid (w.heap.size ≤ w1.heap.size) := hX.tb.bel.size
  have HLF : Hid (w2.ownsRow w1.heap.size 93 2 vl (pnL t L J).length (ps (pnL t L J))) := hMP.left
  have HJF : Hid (w2.ownsRow w1.heap.size 93 2 vj (pnJ t L J).length (ps (pnJ t L J))) := hMP.join
  have HAP : Hid (vl.ownBlock = none ∨ vl.ownBlock ≠ vj.ownBlock) := hMP.apart
  obtain ⟨a1, cap1, rfl⟩ := Rs.owns_slice HLF.out
  obtain ⟨a2, cap2, rfl⟩ := Rs.owns_slice HJF.out
  have hz2 : TrAt (w2.alloc (.cells Tryz.zeroCells31 31)) w2.heap.size (tz 0) := TrAt.zero w2
  obtain ⟨cp, hcp⟩ : ∃ c, tcs (pnT t L J) = c := ⟨_, rfl⟩
  have HCP : Hid (tcs (pnT t L J) = cp) := hcp
  rw [hcp]
  clear h1 hX hT1 hb2 d0 d1 hMP hcp
  obtain ⟨E, hE⟩ : ∃ E, plE t L J = E := ⟨_, rfl⟩
  rw [hE]
  obtain ⟨ll, hll⟩ : ∃ l, pnL t L J = l := ⟨_, rfl⟩
  obtain ⟨lj, hlj⟩ : ∃ l, pnJ t L J = l := ⟨_, rfl⟩
  rw [hll] at HLF HAP
  rw [hlj] at HJF HAP
  rw [hll, hlj]
  have HLL : Hid (pnL t L J = ll) := hll
  have HLJ : Hid (pnJ t L J = lj) := hlj
  clear hll hlj
  go_upto_region 2 with (refine stTc hz2 HCP.out rfl _ _ rfl rfl rfl ?_)
  rw [alloc_trz, World.setRow_alloc_new]
  have hbw := below_alloc w2 (.cells cp 31)
  have hX3 := hX2.later hbw
  have hN3 : TrAt (w2.alloc (.cells cp 31)) w2.heap.size (pnT t L J) := by rw [← HCP.out]; exact TrAt.new _ _
  have HLF3 : Hid ((w2.alloc (.cells cp 31)).ownsRow w1.heap.size 93 2 (.slice a1 ll.length cap1) ll.length (ps ll)) := Rs.owns_later HLF.out hbw
  have HJF3 : Hid ((w2.alloc (.cells cp 31)).ownsRow w1.heap.size 93 2 (.slice a2 lj.length cap2) lj.length (ps lj)) := Rs.owns_later HJF.out hbw
  have hne : w2.heap.size ≠ K := fun e => by have := hX2.ze.lt; omega
  clear hz2 hX2 HLF HJF hbw
  generalize w2.alloc (.cells cp 31) = w3 at *
  generalize w2.heap.size = N at *
  by_cases hE0 : E = 0
  · subst hE0
    have hst := plE_stp hE
    have HST : Hid (Stp t L J) := hst
    have HE : Hid (plE t L J = 0) := hE
    have e1 : pnT t L J = nx t L J := by unfold pnT; rw [if_pos hE]
    have HE1 : Hid (evl t.ro L = ll) := by have h := HLL.out; unfold pnL at h; rw [if_pos hE] at h; exact h
    have HE2 : Hid (jns t L J = lj) := by have h := HLJ.out; unfold pnJ at h; rw [if_pos hE] at h; exact h
    rw [e1] at hN3 HCP
    have hll64 : ll.length ≤ 64 := by rw [← HE1.out, Rs.evl_length]; exact hst.fit.lenL
    have hlj64 : lj.length ≤ 64 := by have h := hst.fit.lenJ; rw [← HE2.out]; unfold jns; rw [Rs.adl_length]; exact h
    obtain ⟨P, hP⟩ : ∃ P, t.ep + 1 = P := ⟨_, rfl⟩
    have HP : Hid (t.ep + 1 = P) := hP
    have HNP : Hid ((nx t L J).ep = P) := hP
    have hS0 : NF w w3.drew N K D (nx t L J) (.slice a1 ll.length cap1) (.slice a2 lj.length cap2) ll lj :=
      NF.later ⟨hN3, ⟨_, hX3.ze⟩, ⟨rkz, rfl, hX3.rk⟩, Rs.owns_wide HLF3.out HW1.out, Rs.owns_wide HJF3.out HW1.out, hX3.tb.bel, hne, hX3.gK, hX3.gD⟩ (drew_below _)
    have HPR : Hid (plR t L = rp ll) := by unfold Hid plR; rw [HE1.out]
    obtain ⟨n, hn⟩ : ∃ n, nx t L J = n := ⟨_, rfl⟩
    have HNN : Hid (nx t L J = n) := hn
    have htn : tck n = true := by rw [← hn]; exact hst.tckn
    have hseat : ∀ p ∈ lj, ∃ s : Nat, s < 64 ∧ p.2 = (s : Int) ∧ tkn (n.ro s) = true := fun p hp => by
      rw [← HE2.out] at hp
      obtain ⟨s, h1, h2, h3, _⟩ := HST.out.seat hp
      exact ⟨s, h1, h2, by rw [← hn]; exact h3⟩
    rw [hn] at hS0 HCP HNP
    have hit : ∀ W : World, W.ownsRow w.heap.size 93 2 (.slice a1 ll.length cap1) ll.length (ps ll) → W.ownsRow w.heap.size 93 2 (.slice a2 lj.length cap2) lj.length (ps lj) → _ := fun W hW1 hW2 => rItems_any n htn a1 cap1 ll a2 cap2 lj W hll64 (rds_of hW1) hlj64 (rds_of hW2) hseat
    rw [HCP.out] at hit
    clear hE hst e1 hn hX3 hN3 HLF3 HJF3 hne hP
    go_upto_region 4 with (fail)
    refine wp_region_held_drew (S := fun W => NF w W N K D n (.slice a1 ll.length cap1) (.slice a2 lj.length cap2) ll lj) (by kernel_rfl) hS0 (fun hHeld => ?_)
    refine wpAnyH_take (i := 0) (oi := { dst := some 24, op := Op.load 31 (Operand.tmp 7), type := _, pos := _, after := _, guard := none }) (v := .agg cp) rfl (by kernel_rfl) (by kernel_rfl) (by kernel_rfl) (fun _ _ _ h => h) (Or.inl ⟨by rfl, fun w hSw => ld_exec (HCP.out ▸ hSw.nx.whole) rfl rfl⟩) (by assumption) ?_
    simp only [Act.put, List.setIfInBounds_toArray, List.set_cons_zero, List.set_cons_succ]
    refine wpAnyH_take (i := 1) (oi := { dst := some 25, op := Op.fieldAddr 31 (Operand.tmp 7) 0, type := _, pos := _, after := _, guard := none }) (v := .pointer (some ⟨N, 0, none⟩)) rfl (by kernel_rfl) (by kernel_rfl) (by kernel_rfl) (fun _ _ _ h => h) (Or.inl ⟨by rfl, fun w hSw => by (try dsimp only at hSw); go_simp⟩) (by assumption) ?_
    simp only [Act.put, List.setIfInBounds_toArray, List.set_cons_zero, List.set_cons_succ]
    refine wpAnyH_take (i := 2) (oi := { dst := some 26, op := Op.load 3 (Operand.tmp 25), type := _, pos := _, after := _, guard := none }) (v := .int .i64 P) rfl (by kernel_rfl) (by kernel_rfl) (by kernel_rfl) (fun _ _ _ h => h) (Or.inl ⟨by rfl, fun w hSw => by obtain ⟨c0, c1⟩ := hSw.nx.cells; rw [HNP.out] at c0; clear hSw; go_simp⟩) (by assumption) ?_
    simp only [Act.put, List.setIfInBounds_toArray, List.set_cons_zero, List.set_cons_succ]
    refine wpAnyH_take (i := 3) (oi := { dst := some 27, op := Op.move (Operand.tmp 8), type := _, pos := _, after := _, guard := none }) (v := .slice a1 ll.length cap1) rfl (by kernel_rfl) (by kernel_rfl) (by kernel_rfl) (fun _ _ _ h => h) (Or.inl ⟨by rfl, fun w hSw => by (try dsimp only at hSw); go_simp⟩) (by assumption) ?_
    simp only [Act.put, List.setIfInBounds_toArray, List.set_cons_zero, List.set_cons_succ]
    refine wpAnyH_take (i := 4) (oi := { dst := some 28, op := Op.move (Operand.tmp 9), type := _, pos := _, after := _, guard := none }) (v := .slice a2 lj.length cap2) rfl (by kernel_rfl) (by kernel_rfl) (by kernel_rfl) (fun _ _ _ h => h) (Or.inl ⟨by rfl, fun w hSw => by (try dsimp only at hSw); go_simp⟩) (by assumption) ?_
    simp only [Act.put, List.setIfInBounds_toArray, List.set_cons_zero, List.set_cons_succ]
    refine wpAnyH_take (i := 5) (oi := { dst := some 29, op := Op.load 31 (Operand.tmp 7), type := _, pos := _, after := _, guard := none }) (v := .agg cp) rfl (by kernel_rfl) (by kernel_rfl) (by kernel_rfl) (fun _ _ _ h => h) (Or.inl ⟨by rfl, fun w hSw => ld_exec (HCP.out ▸ hSw.nx.whole) rfl rfl⟩) (by assumption) ?_
    simp only [Act.put, List.setIfInBounds_toArray, List.set_cons_zero, List.set_cons_succ]
    refine wpAnyH_take (i := 6) (oi := { dst := some 30, op := Op.move (Operand.tmp 8), type := _, pos := _, after := _, guard := none }) (v := .slice a1 ll.length cap1) rfl (by kernel_rfl) (by kernel_rfl) (by kernel_rfl) (fun _ _ _ h => h) (Or.inl ⟨by rfl, fun w hSw => by (try dsimp only at hSw); go_simp⟩) (by assumption) ?_
    simp only [Act.put, List.setIfInBounds_toArray, List.set_cons_zero, List.set_cons_succ]
    refine wpAnyH_take (i := 7) (oi := { dst := some 31, op := Op.move (Operand.tmp 9), type := _, pos := _, after := _, guard := none }) (v := .slice a2 lj.length cap2) rfl (by kernel_rfl) (by kernel_rfl) (by kernel_rfl) (fun _ _ _ h => h) (Or.inl ⟨by rfl, fun w hSw => by (try dsimp only at hSw); go_simp⟩) (by assumption) ?_
    simp only [Act.put, List.setIfInBounds_toArray, List.set_cons_zero, List.set_cons_succ]
    refine wpAnyH_ready (rs := [8]) (by kernel_rfl) (by simp) ?_
    refine AllReadyH.cons rfl (fun K hK => ?_) AllReadyH.nil
    go_simp
    refine (hit _ hHeld.left hHeld.join).mono ?_
    rintro r w11 hip
    obtain ⟨vi, rfl, hrow, hb11⟩ := hip
    obtain ⟨a3, cap3, rfl⟩ := Rs.owns_slice hrow
    have HROW : Hid (w11.ownsRow (w3.drew.heap.size + 1) 104 6 (.slice a3 (its n (rp ll) lj).length cap3) (its n (rp ll) lj).length (isl (its n (rp ll) lj))) := hrow
    have HGE : Hid (w.heap.size ≤ w3.drew.heap.size + 1) := by have := hHeld.bel.size; unfold Hid; omega
    clear hrow
    go_wp2_with fail
    refine hK.out _ _ (hHeld.later hb11) (fun hHeld2 => ?_)
    clear hHeld hb11 hit
    clear hK K
    try simp only [Act.put, List.setIfInBounds_toArray, List.set_cons_zero, List.set_cons_succ]
    refine wpAnyH_take (i := 9) (oi := { dst := some 33, op := Op.build 49 #[(0, (Operand.tmp 26)), (1, (Operand.tmp 27)), (2, (Operand.tmp 28)), (3, (Operand.tmp 32))], type := _, pos := _, after := _, guard := none }) (v := .agg #[.int .i64 P, .slice a1 ll.length cap1, .slice a2 lj.length cap2, .slice a3 (its n (rp ll) lj).length cap3]) rfl (by kernel_rfl) (by kernel_rfl) (by kernel_rfl) (fun _ _ _ h => h) (Or.inl ⟨by rfl, fun w hSw => by (try dsimp only at hSw); go_simp⟩) (by assumption) ?_
    simp only [Act.put, List.setIfInBounds_toArray, List.set_cons_zero, List.set_cons_succ]
    refine wpAnyH_ready (rs := [10]) (by kernel_rfl) (by simp) ?_
    refine AllReadyH.cons rfl (fun Kc hK => ?_) AllReadyH.nil
    obtain ⟨u, hu⟩ := hHeld2.ze
    obtain ⟨hN3, hT3⟩ := hHeld2.setT HCP.out
    have HROW2 : Hid ((w11.setRow K cp).ownsRow w.heap.size 104 6 (.slice a3 (its n (rp ll) lj).length cap3) (its n (rp ll) lj).length (isl (its n (rp ll) lj))) := Rs.owns_type (Rs.owns_wide HROW.out HGE.out) hu (by decide) _
    refine if_wp rfl (wp_stRow0 31 _ _ rfl K cp rfl rfl 31 (tcs u) hu (by rw [← HCP.out, tcs_size]; exact infoT) (by rw [← HCP.out, tcs_size, tcs_size]) (by rw [← HCP.out]; exact tcs_one n) rfl ?_)
    refine hK.out _ _ hN3 (fun hHeld3 => ?_)
    clear hHeld2 hu hN3
    clear hK Kc
    try simp only [Act.put, List.setIfInBounds_toArray, List.set_cons_zero, List.set_cons_succ]
    refine wpAnyH_ready (rs := [11]) (by kernel_rfl) (by simp) ?_
    refine AllReadyH.cons rfl (fun Kc hK => ?_) AllReadyH.nil
    obtain ⟨cs4, hc4, hRk⟩ := hHeld3.rk
    obtain ⟨hN4, hT4, hRk4⟩ := hHeld3.setD (ds := #[.int .i64 P, .slice a1 ll.length cap1, .slice a2 lj.length cap2, .slice a3 (its n (rp ll) lj).length cap3]) hT3 hRk rfl
    have HROW3 : Hid (((w11.setRow K cp).setRow D #[.int .i64 P, .slice a1 ll.length cap1, .slice a2 lj.length cap2, .slice a3 (its n (rp ll) lj).length cap3]).ownsRow w.heap.size 104 6 (.slice a3 (its n (rp ll) lj).length cap3) (its n (rp ll) lj).length (isl (its n (rp ll) lj))) := Rs.owns_type HROW2.out hRk (by decide) _
    refine if_wp rfl (wp_stRow0 49 _ _ rfl D _ rfl rfl 49 cs4 hRk infoRk hc4 (by simp [Value.oneCell']) rfl ?_)
    refine hK.out _ _ hN4 (fun hHeld4 => ?_)
    clear hHeld3 hRk hN4
    clear hK Kc
    try simp only [Act.put, List.setIfInBounds_toArray, List.set_cons_zero, List.set_cons_succ]
    refine wpAnyH_take (i := 12) (oi := { dst := some 6, op := Op.assign (Operand.const (Value.int IntKind.i64 0)), type := _, pos := _, after := _, guard := none }) (v := .int .i64 0) rfl (by kernel_rfl) (by kernel_rfl) (by kernel_rfl) (fun _ _ _ h => h) (Or.inl ⟨by rfl, fun w hSw => by (try dsimp only at hSw); go_simp⟩) (by assumption) ?_
    simp only [Act.put, List.setIfInBounds_toArray, List.set_cons_zero, List.set_cons_succ]
    refine wpAnyH_done (by kernel_rfl) ?_ _
    have hw13 : ∃ w13, (w11.setRow K cp).setRow D #[.int .i64 P, .slice a1 ll.length cap1, .slice a2 lj.length cap2, .slice a3 (its n (rp ll) lj).length cap3] = w13 := ⟨_, rfl⟩
    obtain ⟨w13, hw13⟩ := hw13
    rw [hw13] at hT4 hRk4 HROW3 hHeld4 ⊢
    clear hw13 HROW2 HROW hT3 hseat
    obtain ⟨li, hli⟩ : ∃ li, its n (rp ll) lj = li := ⟨_, rfl⟩
    have HLI : Hid (its n (rp ll) lj = li) := hli
    rw [hli] at hRk4 HROW3 ⊢
    clear hli
    go_wp2_with fail
    refine bodyPost_ret (results_nx (p := 4) (q := 5) (t := 6) rfl _ _ K D n _ rfl rfl hT4 hRk4 rfl) rfl ?_
    refine ⟨?_, hHeld4.bel⟩
    have hfin := NextA.yes (w := w) HST.out.pl (by rw [HE1.out]; exact hHeld4.left) (by rw [HE2.out]; exact hHeld4.join) (by rw [HNN.out, HPR.out, HE2.out, HLI.out]; exact HROW3.out) HAP.out
    rw [HNN.out, HP.out] at hfin
    exact hfin
  · have hd2 : (E != 0) = true := by simpa using hE0
    have HE : Hid (plE t L J = E) := hE
    have HNE : Hid (E ≠ 0) := hE0
    have hX := hX3
    have hZ := hX3.ze
    obtain ⟨cz, hcz⟩ : ∃ c, tcs (tz 0) = c := ⟨_, rfl⟩
    have HZ : Hid (tcs (tz 0) = cz) := hcz
    have hZ2 := hX3.setK (tz 0) hcz
    clear hcz hE hE0 hX3 hN3 hne
    go_wp2_with (first | (refine bzc HZ.out rfl rfl ?_) | (refine stTc hZ HZ.out rfl _ _ rfl rfl rfl ?_) | (refine stRw infoRk (cs := rkz) rkz_size hZ2.2.1 rkz rkz_size rkz_one rfl _ _ rfl rfl rfl ?_))
    refine bodyPost_ret (results_nx (p := 4) (q := 5) (t := 6) rfl _ _ K D (tz 0) rkz rfl rfl ((Rt.row_other (block_ne hZ2.1 hZ2.2.1 (by decide)) _).trans hZ2.1) (Rt.heap_setRow_same hZ2.2.1 _) rfl) rfl ?_
    exact ⟨NextA.no HE.out HNE.out, Rt.setRow_below hX.gD hZ2.2.2 _⟩
end Go.Proofs.YtpimbpfefhkojaaGreat
/- Contracts: three, lives; the document's SameItems, Same. -/
namespace Go.Proofs.YtpimbpfefhkojaaGreat
open Go.RowKit Go.Maps Go.Great
open Rt (Ky zK kcs)
open Rs (En zE rcs tkn RdI RdS ps evl)
set_option linter.unusedVariables false
set_option linter.unusedSimpArgs false

theorem rk_one (p : Int) (a b c : Option Addr) (l m n i j k : Nat) : (#[.int .i64 p, .slice a l i, .slice b m j, .slice c n k] : Array Value).all (·.oneCell') = true := by simp [Value.oneCell']
/- An answer's two boxes. -/
theorem two_boxes (w : World) (u : Tr) (c cs : Array Value) (hc : tcs u = c) :
    TrAt ((w.alloc (.cells Tryz.zeroCells31 31)).alloc (.cells #[.int .i64 0, .slice none 0 0, .slice none 0 0, .slice none 0 0] 49)) w.heap.size (tz 0)
    ∧ RkAt (((w.alloc (.cells Tryz.zeroCells31 31)).alloc (.cells #[.int .i64 0, .slice none 0 0, .slice none 0 0, .slice none 0 0] 49)).setRow w.heap.size c) (w.heap.size + 1) rkz
    ∧ ∃ W, (((w.alloc (.cells Tryz.zeroCells31 31)).alloc (.cells #[.int .i64 0, .slice none 0 0, .slice none 0 0, .slice none 0 0] 49)).setRow w.heap.size c).setRow (w.heap.size + 1) cs = W ∧ TrAt W w.heap.size u ∧ RkAt W (w.heap.size + 1) cs ∧ Below w.heap.size w W := by
  rw [alloc_trz]
  have h1 := TrAt.new w (tz 0)
  have hb1 := alloc_tr w (tz 0)
  have h2 : RkAt ((w.alloc (.cells (tcs (tz 0)) 31)).alloc (.cells #[.int .i64 0, .slice none 0 0, .slice none 0 0, .slice none 0 0] 49)) (w.heap.size + 1) rkz := by
    have h := heap_alloc_last (w.alloc (.cells (tcs (tz 0)) 31)) (.cells #[.int .i64 0, .slice none 0 0, .slice none 0 0, .slice none 0 0] 49)
    rw [World.size_alloc] at h
    exact h
  have hb2 := below_alloc (w.alloc (.cells (tcs (tz 0)) 31)) (.cells #[.int .i64 0, .slice none 0 0, .slice none 0 0, .slice none 0 0] 49)
  have h3 := h1.later hb2
  have hb := hb1.trans (hb2.mono hb1.size)
  generalize (w.alloc (.cells (tcs (tz 0)) 31)).alloc (.cells #[.int .i64 0, .slice none 0 0, .slice none 0 0, .slice none 0 0] 49) = W at *
  subst hc
  have h4 : RkAt (W.setRow w.heap.size (tcs u)) (w.heap.size + 1) rkz := (Rt.row_other (by omega) _).trans h2
  have h5 := h3.row u
  exact ⟨h3, h4, _, rfl, (Rt.row_other (by omega) _).trans h5, Rt.heap_setRow_same h4 _, Rt.setRow_below (by omega) (Rt.setRow_below (by omega) hb _) _⟩
theorem rd_three (w : World) : RdI (w.alloc (.cells #[.int .i64 1, .int .i64 2, .int .i64 3] 3)) (some ⟨w.heap.size, 0, none⟩) [1, 2, 3] := fun i hi => by
  have h := heap_alloc_last w (.cells #[.int .i64 1, .int .i64 2, .int .i64 3] 3)
  refine ⟨w.heap.size, 0, rfl, ?_⟩
  rw [Nat.zero_add, cell_of_row _ _ i _ _ _ h]
  have : i = 0 ∨ i = 1 ∨ i = 2 := by simp at hi; omega
  rcases this with rfl | rfl | rfl <;> rfl
theorem rd_one (w : World) : RdI (w.alloc (.cells #[.int .i64 1] 3)) (some ⟨w.heap.size, 0, none⟩) [1] := fun i hi => by
  have h := heap_alloc_last w (.cells #[.int .i64 1] 3)
  refine ⟨w.heap.size, 0, rfl, ?_⟩
  obtain rfl : i = 0 := by simp at hi; omega
  rw [Nat.zero_add, cell_of_row _ _ 0 _ _ _ h]
  rfl
theorem pn_three : pnT stT [] [1, 2, 3] = t3 := by unfold pnT; rw [if_pos three_E]; rfl
/- Items that lie in memory. -/
def RdT (w : World) (a : Option Addr) (l : List It) : Prop := ∀ i, i < l.length → ∃ b, a = some ⟨b, 0, none⟩ ∧ ∀ k v, (ics (l.getD i ⟨0, 0, zK, zK⟩))[k]? = some v → w.cell? ⟨b, i * 6 + k, none⟩ = some v
theorem RdT.later {w w' : World} {a : Option Addr} {l : List It} (h : RdT w a l) (hb : Below w.heap.size w w') : RdT w' a l := fun i hi => by
  obtain ⟨b, e, c⟩ := h i hi
  exact ⟨b, e, fun k v hv => Rs.cell_later hb (c k v hv)⟩
theorem isl_get : ∀ (l : List It) (i k : Nat), i < l.length → k < 6 → (isl l)[i * 6 + k]? = (ics (l.getD i ⟨0, 0, zK, zK⟩))[k]?
  | [], i, k, hi, _ => by cases hi
  | x :: l, 0, k, _, hk => by
    show (ics x ++ isl l)[0 * 6 + k]? = _
    rw [Nat.zero_mul, Nat.zero_add, List.getElem?_append_left (by show k < 6; exact hk)]
    rfl
  | x :: l, i + 1, k, hi, hk => by
    show (ics x ++ isl l)[(i + 1) * 6 + k]? = _
    rw [List.getElem?_append_right (by show 6 ≤ _; omega), show (i + 1) * 6 + k - (ics x).length = i * 6 + k by show _ - 6 = _; omega, isl_get l i k (by simpa using hi) hk]
    rfl
theorem owns_rdT {W : World} {b : Nat} {a : Option Addr} {cap : Nat} {l : List It} (h : W.ownsRow b 104 6 (.slice a l.length cap) l.length (isl l)) : RdT W a l := by
  rcases h.2 with ⟨e, h0⟩ | ⟨g, cap', cur, e, h3, h4, h5, h6, h7, h8⟩
  · intro i hi; omega
  · cases e
    intro i hi
    refine ⟨g, rfl, fun k v hv => ?_⟩
    have hk : k < 6 := by
      have := (List.getElem?_eq_some_iff.1 hv).1
      exact this
    rw [← isl_get l i k hi hk] at hv
    rw [cell_of_row W g (i * 6 + k) _ _ _ h4, ← hv, ← h8, List.getElem?_take_of_lt (by omega)]
    simp
theorem RdT.cells {w : World} {a : Option Addr} {l : List It} (h : RdT w a l) {i : Nat} (hi : i < l.length) {y : It} (hy : l.getD i ⟨0, 0, zK, zK⟩ = y) : ∃ b, a = some ⟨b, 0, none⟩ ∧ w.cell? ⟨b, i * 6, none⟩ = some (.int .i64 y.nd) ∧ w.cell? ⟨b, i * 6 + 1, none⟩ = some (.int .i64 y.fm) ∧ w.cell? ⟨b, i * 6 + 2, none⟩ = some (.int .i64 y.un.bas) ∧ w.cell? ⟨b, i * 6 + 3, none⟩ = some (.int .i64 y.un.stp) ∧ w.cell? ⟨b, i * 6 + 4, none⟩ = some (.int .i64 y.ld.bas) ∧ w.cell? ⟨b, i * 6 + 5, none⟩ = some (.int .i64 y.ld.stp) := by
  obtain ⟨b, e, c⟩ := h i hi
  rw [hy] at c
  exact ⟨b, e, c 0 _ rfl, c 1 _ rfl, c 2 _ rfl, c 3 _ rfl, c 4 _ rfl, c 5 _ rfl⟩
end Go.Proofs.YtpimbpfefhkojaaGreat
