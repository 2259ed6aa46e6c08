/- RsN, RsG, RsH, RsI, RsJ, joined. -/
import Derived.Test.YtpimbpfefhkojabGreatDoorStJ3
import Derived.Test.YtpimbpfefhkojabGreatDoorStJ2
import Derived.Laws.OwnMore
import Derived.Deep.AppendLies
import Derived.Test.YtpimbpfefhkojabGreatDoorRsJ3
import Derived.Test.YtpimbpfefhkojabGreatDoorRsJ1
namespace Go.Proofs.YtpimbpfefhkojabGreatDoor.Rs
open Go.RowKit Go.Maps Go.Shelf
set_option linter.unusedVariables false
set_option linter.unusedSimpArgs false

/- Slots as integers. -/
def zs (l : List Nat) : List Int := l.map fun k => ((k : Nat) : Int)
@[simp] theorem zs_length (l : List Nat) : (zs l).length = l.length := by simp [zs]
theorem zs_getD (l : List Nat) (i : Nat) (h : i < l.length) : (zs l).getD i 0 = ((l[i] : Nat) : Int) := by
  rw [List.getD_eq_getElem?_getD]
  simp [zs, h]
theorem NewL.rd {w w' : World} {v : Value} {l : List Nat} (h : NewL w w' v l) : ∃ a cap, v = .slice a l.length cap ∧ RdI w' a (zs l) := by
  rcases h.2 with ⟨rfl, h0⟩ | ⟨g, cap, cur, rfl, h3, h4, h5, h6, h7, h8⟩
  · have : l = [] := List.length_eq_zero_iff.1 h0
    subst this
    exact ⟨none, 0, rfl, RdI.nil _ _⟩
  · refine ⟨_, cap, rfl, fun i hi => ⟨g, 0, rfl, ?_⟩⟩
    rw [zs_length] at hi
    have := World.ownsRow.cellAt h i (by omega)
    rw [Nat.zero_add, this, zs_getD l i hi]
    simp [nI, hi]
def tkE (s : Nat) (n : Int) : Int := if n < 0 then 1 else if ((bl (nt s)).length : Int) < n then 18 else 0
def tkT (s : Nat) (n : Int) : List Nat := if n < 0 then [] else if ((bl (nt s)).length : Int) < n then [] else (bl (nt s)).take n.toNat
def tkS (s : Nat) (n : Int) : Nat := if n < 0 then 0 else if ((bl (nt s)).length : Int) < n then 0 else pf s ((bl (nt s)).take n.toNat)
theorem TakeP.all {s : Nat} {n : Int} {w w' : World} {e : Ending} (h : TakeP s n w w' e) : ∃ v, e = .returned (.tuple #[v, .int .u64 ((tkS s n : Nat) : Int), .int .i64 (tkE s n)]) ∧ NewL w w' v (tkT s n) := by
  unfold TakeP at h
  unfold tkE tkT tkS
  by_cases h1 : n < 0
  · rw [if_pos h1] at h
    rw [if_pos h1, if_pos h1, if_pos h1]
    exact ⟨_, h, World.ownsRow_nil _ _ _ _⟩
  · rw [if_neg h1] at h
    rw [if_neg h1, if_neg h1, if_neg h1]
    by_cases h2 : ((bl (nt s)).length : Int) < n
    · rw [if_pos h2] at h
      rw [if_pos h2, if_pos h2, if_pos h2]
      exact ⟨_, h, World.ownsRow_nil _ _ _ _⟩
    · rw [if_neg h2] at h
      rw [if_neg h2, if_neg h2, if_neg h2]
      exact h
theorem RdI.far {W W' : World} {row : Option Nat} {a : Option Addr} {ks : List Int} (h : RdI W a ks) (hg : W.grownBy W' row) (hne : ∀ b o, a = some ⟨b, o, none⟩ → some b ≠ row) : RdI W' a ks := fun i hi => by
  obtain ⟨b, o, e, c0⟩ := h i hi
  exact ⟨b, o, e, hg.cell c0 (hne b o e)⟩
/- A new list: read, and where it lies. -/
theorem NewL.at' {w w' : World} {v : Value} {l : List Nat} (h : NewL w w' v l) : ∃ a cap, v = .slice a l.length cap ∧ RdI w' a (zs l) ∧ ∀ b o, a = some ⟨b, o, none⟩ → w.heap.size ≤ b ∧ b < w'.heap.size := by
  obtain ⟨a, cap, rfl, hr⟩ := h.rd
  refine ⟨a, cap, rfl, hr, fun b o e => ?_⟩
  rcases h.2 with ⟨h0, _⟩ | ⟨g, cap', cur, h1, h3, h4, _⟩
  · subst e
    simp at h0
  · subst e
    simp at h1
    obtain ⟨⟨rfl, rfl⟩, rfl⟩ := h1
    exact ⟨h3, (Array.getElem?_eq_some_iff.1 h4).1⟩
theorem below_grown {n0 : Nat} {w W W' : World} {row : Option Nat} (h : Below n0 w W) (hg : W.grownBy W' row) (hn : n0 ≤ W.heap.size) (hr : ∀ j, row = some j → n0 ≤ j) : Below n0 w W' :=
  h.trans ⟨hg.os, hg.tape, hg.output, hg.size, fun k hk => hg.block k (by omega) (fun e => by have := hr k e.symm; omega)⟩
open Go.RowKit Go.Maps

set_option maxRecDepth 100000 in
set_option maxHeartbeats 1000000 in
theorem areFree_any (f : Nat → En) (bs : Int) (n : Nat) (hn : n < 1152921504606846976) (w : World) :
    Calls Tryz.prog 50 #[.agg (rcs f), .int .i64 bs, .int .i64 (n : Int)] w fun e w' => e = .returned (.bool (fre f bs n)) ∧ Below w.heap.size w w' := by
  have HFR : Hid (fre f bs n = (decide (n = 0) || (decide (1 ≤ bs) && decide (bs ≤ 32768 - (n : Int)) && frA f bs n 64))) := rfl
  have hR := RoAt.new w f
  have hB1 := alloc_ro w f
  have hsub : IntKind.i64.wrap (32768 - (n : Int)) = 32768 - (n : Int) := i64_fit _ (by omega) (by omega)
  go_enter Tryz.func50, Tryz.ntmps50
  go_upto_region 1 with (fail)
  generalize w.alloc (.cells (rcs f) 45) = w1 at *
  obtain ⟨c, hc⟩ : ∃ c, rcs f = c := ⟨_, rfl⟩
  by_cases hn0 : n = 0
  · subst hn0
    rw [hc]
    go_wp2_with fail
    go_ret
    exact ⟨ret_bool (by rw [HFR.out]; rfl), hB1⟩
  · have h0 : ¬ ((n : Int) = 0) := by omega
    have h0' : ((n : Int) == 0) = false := by simp; omega
    have HD : Hid (decide (n = 0) = false) := decide_eq_false hn0
    by_cases h1 : bs < 1
    · have HD1 : Hid (decide (1 ≤ bs) = false) := decide_eq_false (by omega)
      rw [hc]
      go_wp2_with fail
      go_ret
      exact ⟨ret_bool (by rw [HFR.out, HD.out, HD1.out]; rfl), hB1⟩
    · have HD1 : Hid (decide (1 ≤ bs) = true) := decide_eq_true (by omega)
      by_cases h2 : 32768 - (n : Int) < bs
      · have HD2 : Hid (decide (bs ≤ 32768 - (n : Int)) = false) := decide_eq_false (by omega)
        rw [hc]
        go_wp2_with fail
        go_ret
        exact ⟨ret_bool (by rw [HFR.out, HD.out, HD1.out, HD2.out]; rfl), hB1⟩
      · have HD2 : Hid (decide (bs ≤ 32768 - (n : Int)) = true) := decide_eq_true (by omega)
        have hsum : IntKind.i64.wrap (bs + (n : Int)) = bs + (n : Int) := i64_fit _ (by omega) (by omega)
        go_upto_region 5 with (fail)
        refine wp_region_lit ?_
        refine ld25 hR rfl _ rfl rfl ?_
        rw [hc]
        go_wp2_with fail
        go_loopw [20] (fun i wx => ∃ k : Nat, k ≤ 64 ∧ i = .int .i64 (k : Int) ∧ Below w1.heap.size w1 wx ∧ frA f bs n k = true) (fun i _ => 64 - (intOf i).toNat)
        case atStart => exact ⟨0, by omega, rfl, Below.refl _ _, rfl⟩
        case round =>
          obtain ⟨k, hk, rfl, hb, hf⟩ := hrel
          have HB : Hid (Below w.heap.size w wr) := hB1.trans (hb.mono hB1.size)
          have HBW : Hid (Below w1.heap.size w1 wr) := hb
          have HF : Hid (frA f bs n k = true) := hf
          clear hb hf
          by_cases hk8 : k < 64
          · have k8 : (k : Int) < 64 := by omega
            have hi := idx25 f k hk8
            rw [hc] at hi
            have hBE := alloc_en wr (f k)
            have HS : Hid (frA f bs n (k + 1) = (frA f bs n k && !(decide (bs ≤ (f k).bas) && decide ((f k).bas < bs + (n : Int))))) := rfl
            have HBAD : Hid ((decide (bs ≤ (f k).bas) && decide ((f k).bas < bs + (n : Int))) = true → frA f bs n 64 = false) := frA_bad hk8
            have HBE : Hid (Below wr.heap.size wr (wr.alloc (.cells #[.int .i64 (f k).who, .int .i64 (f k).bas, .int .i64 (f k).snc] 43))) := hBE
            generalize f k = e at *
            clear hBE
            by_cases g1 : bs ≤ e.bas
            · by_cases g2 : e.bas < bs + (n : Int)
              · go_wp2_with fail
                go_ret
                exact ⟨ret_bool (by rw [HFR.out, HD.out, HD1.out, HD2.out, HBAD.out (by simp [g1, g2])]; rfl), HB.out.trans (HBE.out.mono HB.out.size)⟩
              · go_wp2_with fail
                go_roundw
                case rel => exact ⟨k + 1, by omega, by go_num, HBW.out.trans (HBE.out.mono HBW.out.size), by rw [HS.out, HF.out]; simp; omega⟩
                case measure => simp [intOf]; omega
            · go_wp2_with fail
              go_roundw
              case rel => exact ⟨k + 1, by omega, by go_num, HBW.out.trans (HBE.out.mono HBW.out.size), by rw [HS.out, HF.out]; simp; omega⟩
              case measure => simp [intOf]; omega
          · obtain rfl : k = 64 := by omega
            go_wp2_with fail
            go_ret
            exact ⟨ret_bool (by rw [HFR.out, HD.out, HD1.out, HD2.out, HF.out]; rfl), HB.out⟩
/- Rosters that are written to. -/
theorem RoAt.set3 {w : World} {B : Nat} {f : Nat → En} (h : RoAt w B f) (k : Nat) (hk : k < 64) (a b c : Int) :
    RoAt (((w.setCell ⟨B, k * 3, none⟩ (.int .i64 a)).setCell ⟨B, k * 3 + 1, none⟩ (.int .i64 b)).setCell ⟨B, k * 3 + 2, none⟩ (.int .i64 c)) B (upd f k ⟨a, b, c⟩) := by
  have h3 := row_setCell (row_setCell (row_setCell h (k * 3) (.int .i64 a)) (k * 3 + 1) (.int .i64 b)) (k * 3 + 2) (.int .i64 c)
  rw [rcs_set f k ⟨a, b, c⟩ hk] at h3
  exact h3
theorem set3_below {n : Nat} {w W : World} (h : Below n w W) {B : Nat} (hB : n ≤ B) (i j k : Nat) (a b c : Value) : Below n w (((W.setCell ⟨B, i, none⟩ a).setCell ⟨B, j, none⟩ b).setCell ⟨B, k, none⟩ c) :=
  ((h.setCell (p := ⟨B, i, none⟩) hB a).setCell (p := ⟨B, j, none⟩) hB b).setCell (p := ⟨B, k, none⟩) hB c
theorem set3_other {w : World} {B C : Nat} (h : C ≠ B) (i j k : Nat) (a b c : Value) : (((w.setCell ⟨B, i, none⟩ a).setCell ⟨B, j, none⟩ b).setCell ⟨B, k, none⟩ c).heap[C]? = w.heap[C]? := by
  rw [other_setCell h, other_setCell h, other_setCell h]
theorem owns_block {W W' : World} {b : Nat} {e : TypeId} {sz : Nat} {v : Value} {n : Nat} {xs : List Value} (h : W.ownsRow b e sz v n xs) (hk : ∀ g, b ≤ g → g < W.heap.size → W'.heap[g]? = W.heap[g]?) : W'.ownsRow b e sz v n xs := by
  obtain ⟨h1, h2⟩ := h
  refine ⟨h1, ?_⟩
  rcases h2 with h2 | ⟨g, cap, cur, rfl, h3, h4, r⟩
  · exact .inl h2
  · exact .inr ⟨g, cap, cur, rfl, h3, (hk g h3 (Array.getElem?_eq_some_iff.1 h4).1).trans h4, r⟩
theorem owns_later {W W' : World} {b : Nat} {e : TypeId} {sz : Nat} {v : Value} {n : Nat} {xs : List Value} (h : W.ownsRow b e sz v n xs) (hb : Below W.heap.size W W') : W'.ownsRow b e sz v n xs := owns_block h fun g _ hg => hb.block g hg
theorem owns_wide {W : World} {b b' : Nat} {e : TypeId} {sz : Nat} {v : Value} {n : Nat} {xs : List Value} (h : W.ownsRow b e sz v n xs) (hb : b' ≤ b) : W.ownsRow b' e sz v n xs := by
  obtain ⟨h1, h2⟩ := h
  refine ⟨h1, ?_⟩
  rcases h2 with h2 | ⟨g, cap, cur, rfl, h3, r⟩
  · exact .inl h2
  · exact .inr ⟨g, cap, cur, rfl, by omega, r⟩
theorem owns_slice {W : World} {b : Nat} {e : TypeId} {sz : Nat} {v : Value} {n : Nat} {xs : List Value} (h : W.ownsRow b e sz v n xs) : ∃ a cap, v = .slice a n cap := by
  rcases h.2 with ⟨rfl, rfl⟩ | ⟨g, cap, cur, rfl, _⟩
  · exact ⟨none, 0, rfl⟩
  · exact ⟨_, cap, rfl⟩
theorem infoSeat : (Tryz.prog.info? 107).map (fun i => (i.zero, i.size, i.bytes)) = some (some (.agg #[.int .i64 0, .int .i64 0]), 2, 16) := by kernel_rfl
theorem infoSeat_parts : ∃ i, Tryz.prog.info? 107 = some i ∧ i.zero = some (.agg #[.int .i64 0, .int .i64 0]) ∧ i.size = 2 ∧ i.bytes = 16 := by
  have h := infoSeat
  cases hq : Tryz.prog.info? 107 with
  | none => rw [hq] at h; cases h
  | some i =>
    rw [hq] at h
    simp at h
    exact ⟨i, rfl, h.1, h.2.1, h.2.2⟩
theorem cell_two_new (w : World) (x y : Value) (t : TypeId) : ∀ j u, [x, y][j]? = some u → (w.alloc (.cells #[x, y] t)).cell? ((⟨w.heap.size, 0, none⟩ : Addr).add j) = some u := by
  intro j u hu
  match j with
  | 0 =>
    rw [show (⟨w.heap.size, 0, none⟩ : Addr).add 0 = ⟨w.heap.size, 0, none⟩ from rfl, cell_of_row _ _ 0 _ _ _ (heap_alloc_last w _)]
    exact hu
  | 1 =>
    rw [show (⟨w.heap.size, 0, none⟩ : Addr).add 1 = ⟨w.heap.size, 1, none⟩ from rfl, cell_of_row _ _ 1 _ _ _ (heap_alloc_last w _)]
    exact hu
  | j + 2 => simp at hu
theorem zero25 : Tryz.zeroCells45 = rcs fun _ => zE := by kernel_rfl
theorem results_ro2 {fn : Func} {p t : Tmp} (hf : fn.results = #[.cell p 45, .tmp t]) (tmps : Array Value) (W : World) (B : Nat) (f : Nat → En) (hp : tmps[p]? = some (.pointer (some ⟨B, 0, none⟩))) (hb : RoAt W B f) :
    (results fn tmps).run Tryz.prog W = .ok (.tuple #[.agg (rcs f), tmps.getD t undef]) W := by
  have h := run_loadVar_row W B _ 45 _ _ _ hb Tryz.underlying45 rfl (by rw [rcs_size]; exact info25)
  simp [results, hf, hp, asAddr, h]

/- What stands while a roster is written and seats are gathered. -/
structure EV (w W : World) (g : Nat → En) (v : Value) (l : List (Int × Int)) : Prop where
  ro : RoAt W w.heap.size g
  ze : RoAt W (w.heap.size + 1) (fun _ => zE)
  bel : Below w.heap.size w W
  row : W.ownsRow (w.heap.size + 2) 107 2 v l.length (ps l)
theorem EV.size {w W : World} {g : Nat → En} {v : Value} {l : List (Int × Int)} (h : EV w W g v l) : w.heap.size + 2 ≤ W.heap.size := h.ze.lt
theorem EV.later {w W W' : World} {g : Nat → En} {v : Value} {l : List (Int × Int)} (h : EV w W g v l) (hb : Below W.heap.size W W') : EV w W' g v l :=
  ⟨h.ro.later hb, h.ze.later hb, h.bel.trans (hb.mono h.bel.size), owns_later h.row hb⟩
theorem row_far {W : World} {b : Nat} {e : TypeId} {sz : Nat} {v : Value} {n : Nat} {xs : List Value} (h : W.ownsRow b e sz v n xs) {k : Nat} (hk : k < b) : some k ≠ v.ownBlock := by
  intro he
  rcases h.2 with ⟨rfl, _⟩ | ⟨g, cap, cur, rfl, h3, _⟩
  · simp [Value.ownBlock] at he
  · simp [Value.ownBlock] at he
    omega
theorem EV.app {w W W1 : World} {g : Nat → En} {v v' : Value} {l : List (Int × Int)} {o : Obj} {p : Int × Int} (h : EV w W g v l) (hown : W1.ownsRow (w.heap.size + 2) 107 2 v' (l.length + 1) (ps l ++ [.int .i64 p.1, .int .i64 p.2])) (hg : (W.alloc o).grownBy W1 v.ownBlock) : EV w W1 g v' (l ++ [p]) := by
  have hs := h.size
  have blk : ∀ k, k < w.heap.size + 2 → W1.heap[k]? = W.heap[k]? := fun k hk => by
    rw [hg.block k (by simp; omega) (row_far h.row hk)]
    exact ((Below.refl _ W).alloc (Nat.le_refl _) o).block k (by omega)
  refine ⟨(blk _ (by omega)).trans h.ro, (blk _ (by omega)).trans h.ze, ?_, ?_⟩
  · have b1 := h.bel.alloc h.bel.size o
    exact below_grown b1 hg (by have := h.bel.size; simp; omega) fun j hj => by
      rcases Nat.lt_or_ge j (w.heap.size + 2) with hlt | hge
      · exact absurd hj.symm (row_far h.row hlt)
      · omega
  · rw [ps_snoc, List.length_append]
    exact hown
theorem EV.set {w W : World} {g : Nat → En} {v : Value} {l : List (Int × Int)} (h : EV w W g v l) (k : Nat) (hk : k < 64) (a b c : Int) :
    EV w (((W.setCell ⟨w.heap.size, k * 3, none⟩ (.int .i64 a)).setCell ⟨w.heap.size, k * 3 + 1, none⟩ (.int .i64 b)).setCell ⟨w.heap.size, k * 3 + 2, none⟩ (.int .i64 c)) (upd g k ⟨a, b, c⟩) v l :=
  ⟨h.ro.set3 k hk a b c, (set3_other (by omega) _ _ _ _ _ _).trans h.ze, set3_below h.bel (Nat.le_refl _) _ _ _ _ _ _, owns_block h.row fun j hj _ => set3_other (by omega) _ _ _ _ _ _⟩
theorem EV.new (w : World) (f : Nat → En) : EV w ((w.alloc (.cells (rcs f) 45)).alloc (.cells (rcs fun _ => zE) 45)) f (.slice none 0 0) [] := by
  have b2 := alloc_ro (w.alloc (.cells (rcs f) 45)) (fun _ => zE)
  have h2 := RoAt.new (w.alloc (.cells (rcs f) 45)) (fun _ => zE)
  rw [World.size_alloc] at h2
  exact ⟨(RoAt.new w f).later b2, h2, (alloc_ro w f).trans (b2.mono (by simp)), World.ownsRow_nil _ _ _ _⟩
theorem st25 {ops : Array Oper} {rest : List Oper} {o : Oper} {a : Act} {w : World} {Q : Exit → Act → World → Prop} {B : Nat} {f g : Nat → En} (h : RoAt w B f) (hgd : o.guard = none) (x y : Operand) (ho : o.op = .store 45 x y)
    (hx : a.eval x = .pointer (some ⟨B, 0, none⟩)) (hy : a.eval y = .agg (rcs g)) (k : wpList Tryz.prog ops Q rest (a.put o.dst undef) (w.setRow B (rcs g))) : wpList Tryz.prog ops Q (o :: rest) a w :=
  wpList_store_row hgd 45 x y ho B (rcs g) hx hy 45 (rcs f) h (by rw [rcs_size]; exact info25) (by rw [rcs_size, rcs_size]) (rcs_one g) k
theorem RoAt.row {w : World} {B : Nat} {f : Nat → En} (h : RoAt w B f) (g : Nat → En) : RoAt (w.setRow B (rcs g)) B g := heap_setRow_same h _
theorem row_other {w : World} {B C : Nat} (h : C ≠ B) (cs : Array Value) : (w.setRow B cs).heap[C]? = w.heap[C]? := by
  simp only [World.setRow, Array.getElem?_modify]
  rw [if_neg (fun e => h e.symm)]
set_option maxRecDepth 100000 in
set_option maxHeartbeats 2000000 in
theorem evict_any (f : Nat → En) (a : Option Addr) (c : Nat) (L : List Int) (w : World) (lL : L.length ≤ 4096) (hL : RdI w a L) (hon : ∀ k, k < L.length → on (evs f (L.take k)) (L.getD k 0) = true) :
    Calls Tryz.prog 51 #[.agg (rcs f), .slice a L.length c] w fun e w' => (∃ v, e = .returned (.tuple #[.agg (rcs (evs f L)), v]) ∧ w'.ownsRow (w.heap.size + 2) 107 2 v L.length (ps (evl f L))) ∧ Below w.heap.size w w' := by
  have hE0 := EV.new w f
  obtain ⟨i0, hi, hz0, hz1, hz2⟩ := infoSeat_parts
  go_enter Tryz.func51, Tryz.ntmps51
  go_upto_region 2 with (fail)
  rw [zero25]
  generalize (w.alloc (.cells (rcs f) 45)).alloc (.cells (rcs fun _ => zE) 45) = w1 at *
  have HE0 : Hid (EV w w1 f (.slice none 0 0) []) := hE0
  clear hE0
  obtain ⟨cf, hc⟩ : ∃ cf, rcs f = cf := ⟨_, rfl⟩
  rw [hc]
  clear hc
  go_wp2_with fail
  go_loopw [6, 12] (fun v i wx => ∃ (k : Nat) (vl : Value), k ≤ L.length ∧ i = .int .i64 (k : Int) ∧ vl = v ∧ EV w wx (evs f (L.take k)) vl (evl f (L.take k))) (fun _ i _ => L.length - (intOf i).toNat)
  case atStart => exact ⟨0, _, by omega, rfl, rfl, HE0.out⟩
  case round =>
    obtain ⟨k, vl, hk, rfl, rfl, hev⟩ := hrel
    have HE : Hid (EV w wr (evs f (L.take k)) vl (evl f (L.take k))) := hev
    clear hev HE0
    by_cases hkN : k < L.length
    · have i1 : (0 : Int) ≤ (k : Int) := by omega
      have i2 : (k : Int) < (L.length : Int) := by omega
      obtain ⟨b, o, hal, hcell⟩ := (hL.later HE.out.bel) k hkN
      have HT : Hid (L.take (k + 1) = L.take k ++ [L.getD k 0]) := take_getD hkN
      have hok := hon k hkN
      have hlen : (evl f (L.take k)).length = k := by simp; omega
      obtain ⟨x, hx⟩ : ∃ x, L.getD k 0 = x := ⟨_, rfl⟩
      rw [hx] at hcell HT hok
      obtain ⟨g, hg⟩ : ∃ g, evs f (L.take k) = g := ⟨_, rfl⟩
      obtain ⟨l, hl⟩ : ∃ l, evl f (L.take k) = l := ⟨_, rfl⟩
      rw [hg, hl] at HE
      rw [hg] at hok
      rw [hl] at hlen
      have HG : Hid (evs f (L.take k) = g) := hg
      have HL : Hid (evl f (L.take k) = l) := hl
      obtain ⟨j, hj, hj64⟩ := fnd_on hok
      have hfi := find_any g x
      rw [hj] at hfi
      have HJ : Hid (fnd g x = (j : Int)) := hj
      clear hx hg hl hok hj hon
      subst hal
      obtain ⟨a1, cap1, rfl⟩ := owns_slice HE.out.row
      rw [hlen]
      have HLEN : Hid (l.length = k) := hlen
      clear hlen
      go_upto_region 5 with (fail)
      refine wp_region_lit ?_
      refine ld25 HE.out.ro rfl _ rfl rfl ?_
      have hfi2 := hfi wr
      obtain ⟨cg, hcg⟩ : ∃ cg, rcs g = cg := ⟨_, rfl⟩
      rw [hcg] at hfi2 ⊢
      clear hcg hfi
      go_wp2_with fail
      refine hfi2.mono ?_
      rintro r w2 ⟨rfl, hb2⟩
      have HE2 : Hid (EV w w2 g (.slice a1 l.length cap1) l) := HE.out.later hb2
      clear hfi2 hb2 HE
      have hrow : w2.ownsRow (w.heap.size + 2) 107 2 (.slice a1 k cap1) k (ps l) := by have h := HE2.out.row; rw [HLEN.out] at h; exact h
      have hsz := HE2.out.size
      go_upto_region 7 with (at_builtin; (refine wpList_append_own _ rfl _ _ 52 rfl (w.heap.size + 2) 107 i0 (.agg #[.int .i64 0, .int .i64 0]) 2 16 Tryz.underlying52 hi hz0 hz1 hz2 rfl (by decide) (.slice a1 k cap1) k (ps l) rfl (hrow.alloc _) ⟨w2.heap.size, 0, none⟩ 1 1 [.int .i64 x, .int .i64 (j : Int)] rfl rfl (cell_two_new _ _ _ _) (by simp [Value.oneCell']) (by unfold maxLen; omega) (by omega) (by simp; omega) ?_); intro v' w3 hown' hg3 _)
      have HE3 : Hid (EV w w3 g v' (l ++ [(x, (j : Int))])) := HE2.out.app (by rw [HLEN.out]; exact hown') (by rw [HLEN.out]; exact hg3)
      clear hown' hg3 hrow hsz HE2
      have j1 : (j : Int) < 64 := by omega
      obtain ⟨c0, c1, c2⟩ := HE3.out.ro.cells j hj64
      have f0 := row_frozen HE3.out.ro (j * 3)
      have f1 := row_frozen HE3.out.ro (j * 3 + 1)
      have f2 := row_frozen HE3.out.ro (j * 3 + 2)
      have HE4 : Hid (EV w (((w3.setCell ⟨w.heap.size, j * 3, none⟩ (.int .i64 0)).setCell ⟨w.heap.size, j * 3 + 1, none⟩ (.int .i64 0)).setCell ⟨w.heap.size, j * 3 + 2, none⟩ (.int .i64 0)) (upd g j ⟨0, 0, 0⟩) v' (l ++ [(x, (j : Int))])) := HE3.out.set j hj64 0 0 0
      go_wp2_with fail
      go_roundw
      case rel =>
        refine ⟨k + 1, _, by omega, by go_num, rfl, ?_⟩
        have e1 : evs f (L.take (k + 1)) = upd g j ⟨0, 0, 0⟩ := by rw [HT.out, evs_snoc, HG.out, ev1_on HJ.out]; rfl
        have e2 : evl f (L.take (k + 1)) = l ++ [(x, (j : Int))] := by rw [HT.out, evl_snoc, HG.out, HL.out, HJ.out]
        rw [e1, e2]
        exact HE4.out
      case measure => simp [intOf]; omega
    · obtain rfl : k = L.length := by omega
      have hdk : decide ((L.length : Int) < (L.length : Int)) = false := by simp
      have HE1 : Hid (EV w wr (evs f L) vl (evl f L)) := by have h := HE.out; rw [List.take_length] at h; exact h
      clear HE hon
      go_upto_region 9 with (fail)
      refine wp_region_lit ?_
      refine ld25 HE1.out.ro rfl _ rfl rfl ?_
      go_wp2_with (refine st25 HE1.out.ze rfl _ _ rfl rfl rfl ?_)
      refine bodyPost_ret (results_ro2 (p := 4) (t := 5) rfl _ _ (w.heap.size + 1) (evs f L) rfl (HE1.out.ze.row _)) rfl ?_
      refine ⟨⟨vl, rfl, ?_⟩, ?_⟩
      · have h := HE1.out.row
        rw [evl_length] at h
        exact owns_block h fun j hj _ => row_other (by omega) _
      · exact setRow_below (by omega) HE1.out.bel _

theorem apart_rows {W : World} {b b' : Nat} {e e' : TypeId} {s s' n n' : Nat} {v v' : Value} {xs xs' : List Value} (h : W.ownsRow b e s v n xs) (h' : W.ownsRow b' e' s' v' n' xs') (hne : e ≠ e') : v.ownBlock = none ∨ v.ownBlock ≠ v'.ownBlock := by
  rcases h.2 with ⟨rfl, _⟩ | ⟨g, cap, cur, rfl, h3, h4, _⟩
  · exact .inl rfl
  · rcases h'.2 with ⟨rfl, _⟩ | ⟨g', cap', cur', rfl, h3', h4', _⟩
    · exact .inr (by simp [Value.ownBlock])
    · refine .inr fun he => ?_
      simp [Value.ownBlock] at he
      subst he
      rw [h4] at h4'
      simp at h4'
      exact hne h4'.2
theorem int_cell {W : World} {b : Nat} {v : Value} {T : List Nat} (h : W.ownsRow b 3 1 v T.length (nI T)) {k : Nat} (hk : k < T.length) : ∃ g cap, v = .slice (some ⟨g, 0, none⟩) T.length cap ∧ W.cell? ⟨g, k, none⟩ = some (.int .i64 ((T.getD k 0 : Nat) : Int)) := by
  rcases h.2 with ⟨rfl, h0⟩ | ⟨g, cap, cur, rfl, h3, h4, h5, h6, h7, h8⟩
  · omega
  · have hc := World.ownsRow.cellAt h k (by omega)
    refine ⟨g, cap, rfl, ?_⟩
    rw [hc]
    simp [nI, hk]
set_option maxRecDepth 100000 in
set_option maxHeartbeats 400000 in
theorem admit_any (f : Nat → En) (a : Option Addr) (c : Nat) (J : List Int) (sc bs : Int) (w : World) (hT : Tb w) (hJ : RdI w a J) (lJ : J.length ≤ (bl (nt (tk f))).length) (hbs : J ≠ [] → 1 ≤ bs ∧ bs + (J.length : Int) ≤ 32768) :
    Calls Tryz.prog 52 #[.agg (rcs f), .slice a J.length c, .int .i64 sc, .int .i64 bs] w fun e w' => (∃ v, e = .returned (.tuple #[.agg (rcs (adm f ((bl (nt (tk f))).take J.length) J sc bs J.length)), v]) ∧ w'.ownsRow (w.heap.size + 2) 107 2 v J.length (ps (adl ((bl (nt (tk f))).take J.length) J J.length))) ∧ Below w.heap.size w w' := by
  have hE0 := EV.new w f
  obtain ⟨i0, hi, hz0, hz1, hz2⟩ := infoSeat_parts
  go_enter Tryz.func52, Tryz.ntmps52
  go_upto_region 2 with (fail)
  rw [zero25]
  generalize (w.alloc (.cells (rcs f) 45)).alloc (.cells (rcs fun _ => zE) 45) = w1 at *
  refine wp_region_lit ?_
  refine ld25 hE0.ro rfl _ rfl rfl ?_
  have htk := taken_any f w1
  obtain ⟨cf, hc⟩ : ∃ cf, rcs f = cf := ⟨_, rfl⟩
  rw [hc] at htk ⊢
  clear hc
  go_wp2_with fail
  refine htk.mono ?_
  rintro r w2 ⟨rfl, hb2⟩
  have hE2 := hE0.later hb2
  have hta := take_any (tk f) (tk_lt f) (J.length : Int) w2 (hT.later hE2.bel)
  clear hE0 htk hb2
  go_wp2_with fail
  refine hta.mono ?_
  rintro r w3 ⟨hP, hb3⟩
  unfold TakeP at hP
  rw [if_neg (by omega), if_neg (by omega), Int.toNat_natCast] at hP
  obtain ⟨vT, rfl, hv⟩ := hP
  have hE3 := hE2.later hb3
  obtain ⟨T, hTT⟩ : ∃ T, (bl (nt (tk f))).take J.length = T := ⟨_, rfl⟩
  have hTl : T.length = J.length := by rw [← hTT, List.length_take]; omega
  have hT64 : ∀ i ∈ T, i < 64 := fun i hi => by rw [← hTT] at hi; exact (mem_bl.1 (List.mem_of_mem_take hi)).1
  rw [hTT] at hv ⊢
  have hJ64 : J.length ≤ 64 := Nat.le_trans lJ (bl_len _)
  have HE3 : Hid (EV w w3 f (.slice none 0 0) []) := hE3
  have HV : Hid (w3.ownsRow (w.heap.size + 2) 3 1 vT T.length (nI T)) := owns_wide hv hE2.size
  have HT64 : Hid (∀ i ∈ T, i < 64) := hT64
  have HTL : Hid (T.length = J.length) := hTl
  have HTT : Hid ((bl (nt (tk f))).take J.length = T) := hTT
  have HBS : Hid (J ≠ [] → 1 ≤ bs ∧ bs + (J.length : Int) ≤ 32768) := hbs
  clear hta hb3 hv hE2 hE3 hTT hT64 lJ hbs
  generalize ((pf (tk f) T : Nat) : Int) = sw
  generalize ((tk f : Nat) : Int) = tw
  obtain ⟨aT, cT, rfl⟩ := owns_slice HV.out
  rw [hTl]
  clear hTl
  go_wp2_with fail
  go_loopw [10, 28] (fun v i wx => ∃ (k : Nat) (vl : Value), k ≤ J.length ∧ i = .int .i64 (k : Int) ∧ vl = v ∧ EV w wx (adm f T J sc bs k) vl (adl T J k) ∧ wx.ownsRow (w.heap.size + 2) 3 1 (.slice aT T.length cT) T.length (nI T)) (fun _ i _ => J.length - (intOf i).toNat)
  case atStart => exact ⟨0, _, by omega, rfl, rfl, HE3.out, HV.out⟩
  case round =>
    obtain ⟨k, vl, hk, rfl, rfl, hev, hrt⟩ := hrel
    have HE : Hid (EV w wr (adm f T J sc bs k) vl (adl T J k)) := hev
    have HR : Hid (wr.ownsRow (w.heap.size + 2) 3 1 (.slice aT T.length cT) T.length (nI T)) := hrt
    clear hev hrt HE3 HV
    by_cases hkN : k < J.length
    · have i1 : (0 : Int) ≤ (k : Int) := by omega
      have i2 : (k : Int) < (J.length : Int) := by omega
      have hTl := HTL.out
      obtain ⟨b1, b2⟩ := HBS.out (fun e => by rw [e] at hkN; simp at hkN)
      obtain ⟨b, o, hal, hcell⟩ := (hJ.later HE.out.bel) k hkN
      obtain ⟨gT, cT', hgT, hcT⟩ := int_cell HR.out (show k < T.length by omega)
      have hj64 : T.getD k 0 < 64 := HT64.out _ (by rw [List.getD_eq_getElem?_getD, List.getElem?_eq_getElem (by omega)]; exact List.getElem_mem _)
      have HA : Hid (adm f T J sc bs (k + 1) = upd (adm f T J sc bs k) (T.getD k 0) ⟨J.getD k 0, bs + (k : Int), sc⟩) := rfl
      have HL : Hid (adl T J (k + 1) = adl T J k ++ [(J.getD k 0, ((T.getD k 0 : Nat) : Int))]) := rfl
      have hlen : (adl T J k).length = k := adl_length T J k
      have hsum : IntKind.i64.wrap (bs + (k : Int)) = bs + (k : Int) := i64_fit _ (by omega) (by omega)
      obtain ⟨x, hx⟩ : ∃ x, J.getD k 0 = x := ⟨_, rfl⟩
      rw [hx] at hcell HA HL
      obtain ⟨j, hj⟩ : ∃ j, T.getD k 0 = j := ⟨_, rfl⟩
      rw [hj] at hcT hj64 HA HL
      clear hx hj b1 b2 hTl
      generalize adm f T J sc bs k = g at *
      generalize adl T J k = l at *
      simp only [Value.slice.injEq] at hgT
      obtain ⟨rfl, -, rfl⟩ := hgT
      subst hal
      obtain ⟨a1, cap1, rfl⟩ := owns_slice HE.out.row
      rw [hlen]
      have HLEN : Hid (l.length = k) := hlen
      clear hlen
      have hrow : wr.ownsRow (w.heap.size + 2) 107 2 (.slice a1 k cap1) k (ps l) := by have h := HE.out.row; rw [HLEN.out] at h; exact h
      have hsz := HE.out.size
      go_upto_region 8 with (at_builtin; (refine wpList_append_own _ rfl _ _ 52 rfl (w.heap.size + 2) 107 i0 (.agg #[.int .i64 0, .int .i64 0]) 2 16 Tryz.underlying52 hi hz0 hz1 hz2 rfl (by decide) (.slice a1 k cap1) k (ps l) rfl (hrow.alloc _) ⟨wr.heap.size, 0, none⟩ 1 1 [.int .i64 x, .int .i64 (j : Int)] rfl rfl (cell_two_new _ _ _ _) (by simp [Value.oneCell']) (by unfold maxLen; omega) (by omega) (by simp; omega) ?_); intro v' w4 hown' hg4 _)
      have HE4 : Hid (EV w w4 g v' (l ++ [(x, (j : Int))])) := HE.out.app (by rw [HLEN.out]; exact hown') (by rw [HLEN.out]; exact hg4)
      have HR4 : Hid (w4.ownsRow (w.heap.size + 2) 3 1 (.slice (some ⟨gT, 0, none⟩) T.length cT) T.length (nI T)) := (HR.out.alloc _).kept hg4 (apart_rows (HR.out.alloc (.cells #[.int .i64 x, .int .i64 (j : Int)] 107)) (hrow.alloc _) (by decide))
      clear hown' hg4 hrow hsz HE HR hcell hcT
      have j1 : (j : Int) < 64 := by omega
      obtain ⟨c0, c1, c2⟩ := HE4.out.ro.cells j hj64
      have f0 := row_frozen HE4.out.ro (j * 3)
      have f1 := row_frozen HE4.out.ro (j * 3 + 1)
      have f2 := row_frozen HE4.out.ro (j * 3 + 2)
      have HE5 : Hid (EV w (((w4.setCell ⟨w.heap.size, j * 3, none⟩ (.int .i64 x)).setCell ⟨w.heap.size, j * 3 + 1, none⟩ (.int .i64 (bs + (k : Int)))).setCell ⟨w.heap.size, j * 3 + 2, none⟩ (.int .i64 sc)) (upd g j ⟨x, bs + (k : Int), sc⟩) v' (l ++ [(x, (j : Int))])) := HE4.out.set j hj64 x (bs + (k : Int)) sc
      have HR5 : Hid ((((w4.setCell ⟨w.heap.size, j * 3, none⟩ (.int .i64 x)).setCell ⟨w.heap.size, j * 3 + 1, none⟩ (.int .i64 (bs + (k : Int)))).setCell ⟨w.heap.size, j * 3 + 2, none⟩ (.int .i64 sc)).ownsRow (w.heap.size + 2) 3 1 (.slice (some ⟨gT, 0, none⟩) T.length cT) T.length (nI T)) := owns_block HR4.out fun j hj _ => set3_other (by omega) _ _ _ _ _ _
      go_wp2_with fail
      go_roundw
      case rel =>
        refine ⟨k + 1, _, by omega, by go_num, rfl, ?_, HR5.out⟩
        rw [HA.out, HL.out]
        exact HE5.out
      case measure => simp [intOf]; omega
    · obtain rfl : k = J.length := by omega
      have hdk : decide ((J.length : Int) < (J.length : Int)) = false := by simp
      clear HBS
      go_upto_region 10 with (fail)
      refine wp_region_lit ?_
      refine ld25 HE.out.ro rfl _ rfl rfl ?_
      go_wp2_with (refine st25 HE.out.ze rfl _ _ rfl rfl rfl ?_)
      refine bodyPost_ret (results_ro2 (p := 8) (t := 9) rfl _ _ (w.heap.size + 1) (adm f T J sc bs J.length) rfl (HE.out.ze.row _)) rfl ?_
      rw [HTT.out]
      refine ⟨⟨vl, rfl, ?_⟩, ?_⟩
      · have h := HE.out.row
        rw [adl_length] at h
        exact owns_block h fun j hj _ => row_other (by omega) _
      · exact setRow_below (by omega) HE.out.bel _

/- What a move answers. -/
structure MoveP (w w' : World) (f : Nat → En) (L J : List Int) (sc bs : Int) (vl vj : Value) : Prop where
  left : w'.ownsRow w.heap.size 107 2 vl (mvL f L J sc bs).length (ps (mvL f L J sc bs))
  join : w'.ownsRow w.heap.size 107 2 vj (mvJ f L J sc bs).length (ps (mvJ f L J sc bs))
  apart : vl.ownBlock = none ∨ vl.ownBlock ≠ vj.ownBlock
def MoveA (w w' : World) (f : Nat → En) (L J : List Int) (sc bs : Int) (e : Ending) : Prop := ∃ vl vj, e = .returned (.tuple #[.agg (rcs (mvR f L J sc bs)), vl, vj, .int .i64 (mvE f L J sc bs)]) ∧ MoveP w w' f L J sc bs vl vj
theorem MoveA.no {w w' : World} {f : Nat → En} {L J : List Int} {sc bs : Int} {E : Int} (h : mvE f L J sc bs = E) (h0 : E ≠ 0) : MoveA w w' f L J sc bs (.returned (.tuple #[.agg (rcs fun _ => zE), .slice none 0 0, .slice none 0 0, .int .i64 E])) := by
  have e1 : mvR f L J sc bs = fun _ => zE := by unfold mvR; rw [h, if_neg h0]
  have e2 : mvL f L J sc bs = [] := by unfold mvL; rw [h, if_neg h0]
  have e3 : mvJ f L J sc bs = [] := by unfold mvJ; rw [h, if_neg h0]
  refine ⟨_, _, by rw [e1, h], ?_, ?_, .inl rfl⟩
  · rw [e2]; exact World.ownsRow_nil _ _ _ _
  · rw [e3]; exact World.ownsRow_nil _ _ _ _
theorem results_ro4 {fn : Func} {p t u v : Tmp} (hf : fn.results = #[.cell p 45, .tmp t, .tmp u, .tmp v]) (tmps : Array Value) (W : World) (B : Nat) (f : Nat → En) (hp : tmps[p]? = some (.pointer (some ⟨B, 0, none⟩))) (hb : RoAt W B f) :
    (results fn tmps).run Tryz.prog W = .ok (.tuple #[.agg (rcs f), tmps.getD t undef, tmps.getD u undef, tmps.getD v undef]) W := by
  have h := run_loadVar_row W B _ 45 _ _ _ hb Tryz.underlying45 rfl (by rw [rcs_size]; exact info25)
  simp [results, hf, hp, asAddr, h]
/- The roster and the batch, boxed, and the answer's place. -/
structure MV (w W : World) (f : Nat → En) (aL aJ : Option Addr) (nL nJ cL cJ : Nat) : Prop where
  fs : FS w W f aL aJ nL nJ cL cJ
  ze : RoAt W (w.heap.size + 2) (fun _ => zE)
theorem MV.later {w W W' : World} {f : Nat → En} {aL aJ : Option Addr} {nL nJ cL cJ : Nat} (h : MV w W f aL aJ nL nJ cL cJ) (hb : Below W.heap.size W W') : MV w W' f aL aJ nL nJ cL cJ := ⟨h.fs.later hb, h.ze.later hb⟩
theorem MV.new (w : World) (f : Nat → En) (aL aJ : Option Addr) (nL nJ cL cJ : Nat) : MV w (((w.alloc (.cells (rcs f) 45)).alloc (.cells #[.slice aL nL cL, .slice aJ nJ cJ] 66)).alloc (.cells (rcs fun _ => zE) 45)) f aL aJ nL nJ cL cJ := by
  have h2 := RoAt.new ((w.alloc (.cells (rcs f) 45)).alloc (.cells #[.slice aL nL cL, .slice aJ nJ cJ] 66)) (fun _ => zE)
  rw [World.size_alloc, World.size_alloc] at h2
  exact ⟨(FS.new w f aL aJ nL nJ cL cJ).later (alloc_ro _ _), h2⟩
theorem mvE_fit {f : Nat → En} {L J : List Int} {sc bs : Int} (h : ft f L J ≠ 0) : mvE f L J sc bs = ft f L J := by unfold mvE; rw [if_neg h]
theorem mvE_ep {f : Nat → En} {L J : List Int} {sc bs : Int} (h : ft f L J = 0) (h2 : eok sc = false) : mvE f L J sc bs = 19 := by unfold mvE; rw [if_pos h, h2]; rfl
theorem mvE_key {f : Nat → En} {L J : List Int} {sc bs : Int} (h : ft f L J = 0) (h2 : eok sc = true) (h3 : fre f bs J.length = false) : mvE f L J sc bs = 3 := by unfold mvE; rw [if_pos h, h2, if_pos rfl, h3]; rfl
theorem owns_type {W : World} {b : Nat} {e : TypeId} {sz : Nat} {v : Value} {n : Nat} {xs : List Value} (h : W.ownsRow b e sz v n xs) {B : Nat} {cs : Array Value} {t : TypeId} (hB : W.heap[B]? = some (.cells cs t (0, 0))) (hne : e ≠ t) (cs' : Array Value) : (W.setRow B cs').ownsRow b e sz v n xs := by
  obtain ⟨h1, h2⟩ := h
  refine ⟨h1, ?_⟩
  rcases h2 with h2 | ⟨g, cap, cur, rfl, h3, h4, r⟩
  · exact .inl h2
  · refine .inr ⟨g, cap, cur, rfl, h3, (row_other (fun e => ?_) _).trans h4, r⟩
    subst e
    rw [hB] at h4
    simp at h4
    exact hne h4.2.symm
theorem apart_older {W W' : World} {b b' : Nat} {e e' : TypeId} {s s' n n' : Nat} {v v' : Value} {xs xs' : List Value} (h : W.ownsRow b e s v n xs) (h' : W'.ownsRow (W.heap.size + b') e' s' v' n' xs') : v.ownBlock = none ∨ v.ownBlock ≠ v'.ownBlock := by
  rcases h.2 with ⟨rfl, _⟩ | ⟨g, cap, cur, rfl, h3, h4, _⟩
  · exact .inl rfl
  · rcases h'.2 with ⟨rfl, _⟩ | ⟨g', cap', cur', rfl, h3', h4', _⟩
    · exact .inr (by simp [Value.ownBlock])
    · refine .inr fun he => ?_
      simp [Value.ownBlock] at he
      have := (Array.getElem?_eq_some_iff.1 h4).1
      omega
theorem zero25' : Value.agg Tryz.zeroCells45 = .agg (rcs fun _ => zE) := by rw [zero25]
theorem alloc_zero (w : World) : w.alloc (.cells Tryz.zeroCells45 45) = w.alloc (.cells (rcs fun _ => zE) 45) := by rw [zero25]
set_option maxRecDepth 100000 in
set_option maxHeartbeats 1000000 in
theorem move_any (f : Nat → En) (aL aJ : Option Addr) (cL cJ : Nat) (L J : List Int) (sc bs : Int) (w : World) (hT : Tb w) (lL : L.length < 1152921504606846976) (lJ : J.length < 1152921504606846976) (hL : RdI w aL L) (hJ : RdI w aJ J) :
    Calls Tryz.prog 24 #[.agg (rcs f), .agg #[.slice aL L.length cL, .slice aJ J.length cJ], .int .i64 sc, .int .i64 bs] w fun e w' => MoveA w w' f L J sc bs e ∧ Below w.heap.size w w' := by
  have hM0 := MV.new w f aL aJ L.length J.length cL cJ
  go_enter Tryz.func24, Tryz.ntmps24
  go_upto_region 1 with (fail)
  rw [zero25]
  generalize ((w.alloc (.cells (rcs f) 45)).alloc (.cells #[.slice aL L.length cL, .slice aJ J.length cJ] 66)).alloc (.cells (rcs fun _ => zE) 45) = w1 at *
  refine wp_region_lit ?_
  refine ld25 hM0.fs.ro rfl _ rfl rfl ?_
  obtain ⟨cl, cj⟩ := hM0.fs.cells
  have hfi := fits_any f aL aJ cL cJ L J w1 lL lJ (hL.later hM0.fs.bel) (hJ.later hM0.fs.bel)
  obtain ⟨cf, hc⟩ : ∃ cf, rcs f = cf := ⟨_, rfl⟩
  rw [hc] at hfi ⊢
  go_wp2_with fail
  refine hfi.mono ?_
  rintro r w2 ⟨rfl, hb2⟩
  have hM2 := hM0.later hb2
  clear hM0 hb2 hfi cl cj
  by_cases hft : ft f L J = 0
  · rw [hft]
    have hep := isEpoch_any sc
    cases hek : eok sc with
    | false =>
      rw [hek] at hep
      go_wp2_with (first | (go_at_call 49; refine (hep _).mono ?_; rintro r w3 ⟨rfl, rfl⟩) | (refine st25 (g := fun _ => zE) hM2.ze rfl _ _ rfl rfl zero25' ?_))
      refine bodyPost_ret (results_ro4 (p := 8) (t := 9) (u := 10) (v := 11) rfl _ _ (w.heap.size + 2) (fun _ => zE) rfl (hM2.ze.row _)) rfl ?_
      exact ⟨MoveA.no (mvE_ep hft hek) (by decide), setRow_below (by omega) hM2.fs.bel _⟩
    | true =>
      rw [hek] at hep
      go_upto_region 6 with (go_at_call 49; refine (hep _).mono ?_; rintro r w3 ⟨rfl, rfl⟩)
      refine wp_region_lit ?_
      refine ld25 hM2.fs.ro rfl _ rfl rfl ?_
      obtain ⟨cl, cj⟩ := hM2.fs.cells
      have haf := areFree_any f bs J.length lJ w3
      rw [hc] at haf ⊢
      go_wp2_with fail
      refine haf.mono ?_
      rintro r w4 ⟨rfl, hb4⟩
      have hM4 := hM2.later hb4
      clear haf hb4 hM2 cl cj hep
      cases hfr : fre f bs J.length with
      | false =>
        go_wp2_with (refine st25 (g := fun _ => zE) hM4.ze rfl _ _ rfl rfl zero25' ?_)
        refine bodyPost_ret (results_ro4 (p := 8) (t := 9) (u := 10) (v := 11) rfl _ _ (w.heap.size + 2) (fun _ => zE) rfl (hM4.ze.row _)) rfl ?_
        exact ⟨MoveA.no (mvE_key hft hek hfr) (by decide), setRow_below (by omega) hM4.fs.bel _⟩
      | true =>
        have HOK : Hid (FitOk f L J) := ft_ok hft
        have HE : Hid (mvE f L J sc bs = 0) := mvE_of HOK.out hek hfr
        have HR : Hid (mvR f L J sc bs = adm (evs f L) (mvT f L J) J sc bs J.length) := by show mvR f L J sc bs = _; unfold mvR; rw [HE.out, if_pos rfl]
        have HL : Hid (mvL f L J sc bs = evl f L) := by show mvL f L J sc bs = _; unfold mvL; rw [HE.out, if_pos rfl]
        have HJ : Hid (mvJ f L J sc bs = adl (mvT f L J) J J.length) := by show mvJ f L J sc bs = _; unfold mvJ; rw [HE.out, if_pos rfl]
        go_upto_region 8 with (fail)
        refine wp_region_lit ?_
        refine ld25 hM4.fs.ro rfl _ rfl rfl ?_
        obtain ⟨cl, cj⟩ := hM4.fs.cells
        have hev := evict_any f aL cL L w4 (Nat.le_trans HOK.out.lenL (by omega)) (hL.later hM4.fs.bel) HOK.out.out
        rw [hc] at hev ⊢
        go_wp2_with fail
        refine hev.mono ?_
        rintro r w5 ⟨⟨vl, rfl, hrow⟩, hb5⟩
        have hM5 := hM4.later hb5
        have hz5 : RoAt (w5.alloc (.cells Tryz.zeroCells45 45)) w5.heap.size (fun _ => zE) := by rw [alloc_zero]; exact RoAt.new _ _
        have hs5 : w4.heap.size ≤ w5.heap.size := hb5.size
        have hs4 : w.heap.size + 2 < w4.heap.size := hM4.ze.lt
        have HROW : Hid (w5.ownsRow (w4.heap.size + 2) 107 2 vl L.length (ps (evl f L))) := hrow
        clear hev hb5 cl cj hrow hM4
        go_upto_region 9 with (refine st25 (g := evs f L) hz5 rfl _ _ rfl rfl rfl ?_)
        rw [alloc_zero, World.setRow_alloc_new]
        have hR6 := RoAt.new w5 (evs f L)
        have hb6 := alloc_ro w5 (evs f L)
        have hM6 := hM5.later hb6
        have HROW6 : Hid ((w5.alloc (.cells (rcs (evs f L)) 45)).ownsRow (w4.heap.size + 2) 107 2 vl L.length (ps (evl f L))) := owns_later HROW.out hb6
        have hs6 : w5.heap.size < (w5.alloc (.cells (rcs (evs f L)) 45)).heap.size := by simp
        clear hb6 hz5 HROW
        generalize w5.alloc (.cells (rcs (evs f L)) 45) = w6 at *
        refine wp_region_lit ?_
        refine ld25 hR6 rfl _ rfl rfl ?_
        obtain ⟨cl, cj⟩ := hM6.fs.cells
        have had := admit_any (evs f L) aJ cJ J sc bs w6 (hT.later hM6.fs.bel) (hJ.later hM6.fs.bel) HOK.out.free (fre_bs hfr)
        obtain ⟨ce, hce⟩ : ∃ ce, rcs (evs f L) = ce := ⟨_, rfl⟩
        rw [hce] at had ⊢
        clear hM5
        go_wp2_with fail
        refine had.mono ?_
        rintro r w7 ⟨⟨vj, rfl, hrow7⟩, hb7⟩
        have hR7 := hR6.later hb7
        have hM7 := hM6.later hb7
        have HL7 : Hid (w7.ownsRow (w4.heap.size + 2) 107 2 vl L.length (ps (evl f L))) := owns_later HROW6.out hb7
        have HJ7 : Hid (w7.ownsRow (w6.heap.size + 2) 107 2 vj J.length (ps (adl (mvT f L J) J J.length))) := hrow7
        have HAP : Hid (vl.ownBlock = none ∨ vl.ownBlock ≠ vj.ownBlock) := apart_older HROW6.out hrow7
        have hs7 : w6.heap.size ≤ w7.heap.size := hb7.size
        clear had hb7 hrow7 hM6 hR6 cl cj
        obtain ⟨ga, hga⟩ : ∃ ga, adm (evs f L) ((bl (nt (tk (evs f L)))).take J.length) J sc bs J.length = ga := ⟨_, rfl⟩
        have HGA : Hid (mvR f L J sc bs = ga) := by show mvR f L J sc bs = ga; rw [HR.out]; exact hga
        rw [hga]
        clear hga
        go_upto_region 10 with (refine st25 (g := ga) hR7 rfl _ _ rfl rfl rfl ?_)
        have hR8 := hR7.row ga
        have hne : w.heap.size + 2 ≠ w5.heap.size := by omega
        have hZ8 : RoAt (w7.setRow w5.heap.size (rcs ga)) (w.heap.size + 2) (fun _ => zE) := (row_other hne _).trans hM7.ze
        have hB8 : Below w.heap.size w (w7.setRow w5.heap.size (rcs ga)) := setRow_below (by omega) hM7.fs.bel _
        have HL8 : Hid ((w7.setRow w5.heap.size (rcs ga)).ownsRow w.heap.size 107 2 vl L.length (ps (evl f L))) := owns_wide (owns_type HL7.out hR7 (by decide) _) (by omega)
        have HJ8 : Hid ((w7.setRow w5.heap.size (rcs ga)).ownsRow w.heap.size 107 2 vj J.length (ps (adl (mvT f L J) J J.length))) := owns_wide (owns_type HJ7.out hR7 (by decide) _) (by omega)
        clear HL7 HJ7 hR7 hM7
        generalize w7.setRow w5.heap.size (rcs ga) = w8 at *
        refine wp_region_lit ?_
        refine ld25 hR8 rfl _ rfl rfl ?_
        go_wp2_with (refine st25 (g := ga) hZ8 rfl _ _ rfl rfl rfl ?_)
        refine bodyPost_ret (results_ro4 (p := 8) (t := 9) (u := 10) (v := 11) rfl _ _ (w.heap.size + 2) ga rfl (hZ8.row _)) rfl ?_
        refine ⟨⟨vl, vj, ?_, ?_, ?_, HAP.out⟩, setRow_below (by omega) hB8 _⟩
        · rw [HGA.out, HE.out]; rfl
        · rw [HL.out, evl_length]; exact owns_type HL8.out hZ8 (by decide) _
        · rw [HJ.out, adl_length]; exact owns_type HJ8.out hZ8 (by decide) _
  · have h1 : (ft f L J == 0) = false := by simp [hft]
    have HFT : Hid (¬ ft f L J = 0) := hft
    clear hft
    have HE : Hid (mvE f L J sc bs = ft f L J) := mvE_fit HFT.out
    go_wp2_with (refine st25 (g := fun _ => zE) hM2.ze rfl _ _ rfl rfl zero25' ?_)
    refine bodyPost_ret (results_ro4 (p := 8) (t := 9) (u := 10) (v := 11) rfl _ _ (w.heap.size + 2) (fun _ => zE) rfl (hM2.ze.row _)) rfl ?_
    exact ⟨MoveA.no HE.out HFT.out, setRow_below (by omega) hM2.fs.bel _⟩
end Go.Proofs.YtpimbpfefhkojabGreatDoor.Rs
