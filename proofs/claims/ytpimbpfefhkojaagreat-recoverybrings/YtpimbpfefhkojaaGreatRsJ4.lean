/- RsN, RsG, RsH, RsI, RsJ, joined. -/
import Derived.Test.YtpimbpfefhkojaaGreatStJ3
import Derived.Test.YtpimbpfefhkojaaGreatStJ2
import Derived.Laws.OwnMore
import Derived.Deep.AppendLies
import Derived.Test.YtpimbpfefhkojaaGreatRsJ3
import Derived.Test.YtpimbpfefhkojaaGreatRsJ1
/- Take's answer as numbers; lists that are written to. -/
namespace Go.Proofs.YtpimbpfefhkojaaGreat.Rs
open Go.RowKit Go.Maps Go.Shelf
set_option linter.unusedVariables false
set_option linter.unusedSimpArgs false

/- Slots as integers. -/
def zs (l : List Nat) : List Int := l.map fun k => ((k : Nat) : Int)
@[simp] theorem zs_length (l : List Nat) : (zs l).length = l.length := by simp [zs]
theorem zs_getD (l : List Nat) (i : Nat) (h : i < l.length) : (zs l).getD i 0 = ((l[i] : Nat) : Int) := by
  rw [List.getD_eq_getElem?_getD]
  simp [zs, h]
theorem NewL.rd {w w' : World} {v : Value} {l : List Nat} (h : NewL w w' v l) : ∃ a cap, v = .slice a l.length cap ∧ RdI w' a (zs l) := by
  rcases h.2 with ⟨rfl, h0⟩ | ⟨g, cap, cur, rfl, h3, h4, h5, h6, h7, h8⟩
  · have : l = [] := List.length_eq_zero_iff.1 h0
    subst this
    exact ⟨none, 0, rfl, RdI.nil _ _⟩
  · refine ⟨_, cap, rfl, fun i hi => ⟨g, 0, rfl, ?_⟩⟩
    rw [zs_length] at hi
    have := World.ownsRow.cellAt h i (by omega)
    rw [Nat.zero_add, this, zs_getD l i hi]
    simp [nI, hi]
def tkE (s : Nat) (n : Int) : Int := if n < 0 then 1 else if ((bl (nt s)).length : Int) < n then 18 else 0
def tkT (s : Nat) (n : Int) : List Nat := if n < 0 then [] else if ((bl (nt s)).length : Int) < n then [] else (bl (nt s)).take n.toNat
def tkS (s : Nat) (n : Int) : Nat := if n < 0 then 0 else if ((bl (nt s)).length : Int) < n then 0 else pf s ((bl (nt s)).take n.toNat)
theorem TakeP.all {s : Nat} {n : Int} {w w' : World} {e : Ending} (h : TakeP s n w w' e) : ∃ v, e = .returned (.tuple #[v, .int .u64 ((tkS s n : Nat) : Int), .int .i64 (tkE s n)]) ∧ NewL w w' v (tkT s n) := by
  unfold TakeP at h
  unfold tkE tkT tkS
  by_cases h1 : n < 0
  · rw [if_pos h1] at h
    rw [if_pos h1, if_pos h1, if_pos h1]
    exact ⟨_, h, World.ownsRow_nil _ _ _ _⟩
  · rw [if_neg h1] at h
    rw [if_neg h1, if_neg h1, if_neg h1]
    by_cases h2 : ((bl (nt s)).length : Int) < n
    · rw [if_pos h2] at h
      rw [if_pos h2, if_pos h2, if_pos h2]
      exact ⟨_, h, World.ownsRow_nil _ _ _ _⟩
    · rw [if_neg h2] at h
      rw [if_neg h2, if_neg h2, if_neg h2]
      exact h
/- Where it is answered: one after the other. -/
structure TkOk (s : Nat) (n : Int) : Prop where
  pf : pf s (tkT s n) = tkS s n
  lt : ∀ i ∈ tkT s n, i < 64
  low : ∀ k (h : k < (tkT s n).length), hd (bl (nt (_root_.Go.Proofs.YtpimbpfefhkojaaGreat.Rs.pf s ((tkT s n).take k)))) = (((tkT s n)[k] : Nat) : Int)
theorem tk_ok {s : Nat} {n : Int} (hs : s < 18446744073709551616) (h : tkE s n = 0) : TkOk s n := by
  unfold tkE at h
  have h1 : ¬ n < 0 := by intro h1; rw [if_pos h1] at h; omega
  rw [if_neg h1] at h
  have h2 : ¬ ((bl (nt s)).length : Int) < n := by intro h2; rw [if_pos h2] at h; omega
  have e1 : tkT s n = (bl (nt s)).take n.toNat := by unfold tkT; rw [if_neg h1, if_neg h2]
  have e2 : tkS s n = pf s ((bl (nt s)).take n.toNat) := by unfold tkS; rw [if_neg h1, if_neg h2]
  refine ⟨by rw [e1, e2], fun i hi => ?_, fun k hk => ?_⟩
  · rw [e1] at hi
    exact (mem_bl.1 (List.mem_of_mem_take hi)).1
  · have hk2 : k < (bl (nt s)).length := by rw [e1] at hk; simp at hk; omega
    have hk3 : k < n.toNat := by rw [e1] at hk; simp at hk; omega
    have e3 : (tkT s n).take k = (bl (nt s)).take k := by rw [e1, List.take_take, Nat.min_eq_left (by omega)]
    rw [e3, bl_pf k hs, hd_drop hk2]
    congr 1
    simp [e1]
theorem tk_len (s : Nat) (n : Int) : (tkT s n).length ≤ 64 := by
  unfold tkT
  have := bl_len (nt s)
  split
  · simp
  · split
    · simp
    · simp; omega
theorem RdI.far {W W' : World} {row : Option Nat} {a : Option Addr} {ks : List Int} (h : RdI W a ks) (hg : W.grownBy W' row) (hne : ∀ b o, a = some ⟨b, o, none⟩ → some b ≠ row) : RdI W' a ks := fun i hi => by
  obtain ⟨b, o, e, c0⟩ := h i hi
  exact ⟨b, o, e, hg.cell c0 (hne b o e)⟩
/- A new list: read, and where it lies. -/
theorem NewL.at' {w w' : World} {v : Value} {l : List Nat} (h : NewL w w' v l) : ∃ a cap, v = .slice a l.length cap ∧ RdI w' a (zs l) ∧ ∀ b o, a = some ⟨b, o, none⟩ → w.heap.size ≤ b ∧ b < w'.heap.size := by
  obtain ⟨a, cap, rfl, hr⟩ := h.rd
  refine ⟨a, cap, rfl, hr, fun b o e => ?_⟩
  rcases h.2 with ⟨h0, _⟩ | ⟨g, cap', cur, h1, h3, h4, _⟩
  · subst e
    simp at h0
  · subst e
    simp at h1
    obtain ⟨⟨rfl, rfl⟩, rfl⟩ := h1
    exact ⟨h3, (Array.getElem?_eq_some_iff.1 h4).1⟩
theorem row_some {W : World} {n0 : Nat} {e : TypeId} {a : Option Addr} {m cap : Nat} {xs : List Value} (h : W.ownsRow n0 e 1 (.slice a m cap) m xs) (hm : 0 < m) : ∃ g, a = some ⟨g, 0, none⟩ ∧ n0 ≤ g ∧ g < W.heap.size := by
  rcases h.2 with ⟨_, h0⟩ | ⟨g, cap', cur, h1, h3, h4, _⟩
  · omega
  · simp at h1
    exact ⟨g, h1.1, h3, (Array.getElem?_eq_some_iff.1 h4).1⟩
theorem below_grown {n0 : Nat} {w W W' : World} {row : Option Nat} (h : Below n0 w W) (hg : W.grownBy W' row) (hn : n0 ≤ W.heap.size) (hr : ∀ j, row = some j → n0 ≤ j) : Below n0 w W' :=
  h.trans ⟨hg.os, hg.tape, hg.output, hg.size, fun k hk => hg.block k (by omega) (fun e => by have := hr k e.symm; omega)⟩
theorem grown_refl (w : World) (row : Option Nat) : w.grownBy w row := ⟨rfl, rfl, rfl, Nat.le_refl _, fun _ _ _ => rfl⟩
theorem grown_trans {A B C : World} {row : Option Nat} (h : A.grownBy B row) (k : B.grownBy C row) : A.grownBy C row :=
  ⟨k.os.trans h.os, k.tape.trans h.tape, k.output.trans h.output, Nat.le_trans h.size k.size, fun j hj hne => (k.block j (Nat.lt_of_lt_of_le hj h.size) hne).trans (h.block j hj hne)⟩
theorem row_cell {W : World} {n0 : Nat} {e : TypeId} {g m cap : Nat} {xs : List Value} (h : W.ownsRow n0 e 1 (.slice (some ⟨g, 0, none⟩) m cap) m xs) (j : Nat) (hj : j < m) : ∃ u, W.cell? ⟨g, j, none⟩ = some u := by
  have hl : j < xs.length := by rw [h.1]; omega
  exact ⟨xs[j], by rw [h.cellAt j (by omega)]; exact List.getElem?_eq_getElem hl⟩
end Go.Proofs.YtpimbpfefhkojaaGreat.Rs
/- Contracts: areFree, evict. -/
namespace Go.Proofs.YtpimbpfefhkojaaGreat.Rs
open Go.RowKit Go.Maps
set_option linter.unusedVariables false
set_option linter.unusedSimpArgs false

/- Rosters that are written to. -/
theorem RoAt.set3 {w : World} {B : Nat} {f : Nat → En} (h : RoAt w B f) (k : Nat) (hk : k < 64) (a b c : Int) :
    RoAt (((w.setCell ⟨B, k * 3, none⟩ (.int .i64 a)).setCell ⟨B, k * 3 + 1, none⟩ (.int .i64 b)).setCell ⟨B, k * 3 + 2, none⟩ (.int .i64 c)) B (upd f k ⟨a, b, c⟩) := by
  have h3 := row_setCell (row_setCell (row_setCell h (k * 3) (.int .i64 a)) (k * 3 + 1) (.int .i64 b)) (k * 3 + 2) (.int .i64 c)
  rw [rcs_set f k ⟨a, b, c⟩ hk] at h3
  exact h3
theorem set3_below {n : Nat} {w W : World} (h : Below n w W) {B : Nat} (hB : n ≤ B) (i j k : Nat) (a b c : Value) : Below n w (((W.setCell ⟨B, i, none⟩ a).setCell ⟨B, j, none⟩ b).setCell ⟨B, k, none⟩ c) :=
  ((h.setCell (p := ⟨B, i, none⟩) hB a).setCell (p := ⟨B, j, none⟩) hB b).setCell (p := ⟨B, k, none⟩) hB c
theorem set3_other {w : World} {B C : Nat} (h : C ≠ B) (i j k : Nat) (a b c : Value) : (((w.setCell ⟨B, i, none⟩ a).setCell ⟨B, j, none⟩ b).setCell ⟨B, k, none⟩ c).heap[C]? = w.heap[C]? := by
  rw [other_setCell h, other_setCell h, other_setCell h]
theorem owns_block {W W' : World} {b : Nat} {e : TypeId} {sz : Nat} {v : Value} {n : Nat} {xs : List Value} (h : W.ownsRow b e sz v n xs) (hk : ∀ g, b ≤ g → g < W.heap.size → W'.heap[g]? = W.heap[g]?) : W'.ownsRow b e sz v n xs := by
  obtain ⟨h1, h2⟩ := h
  refine ⟨h1, ?_⟩
  rcases h2 with h2 | ⟨g, cap, cur, rfl, h3, h4, r⟩
  · exact .inl h2
  · exact .inr ⟨g, cap, cur, rfl, h3, (hk g h3 (Array.getElem?_eq_some_iff.1 h4).1).trans h4, r⟩
theorem owns_later {W W' : World} {b : Nat} {e : TypeId} {sz : Nat} {v : Value} {n : Nat} {xs : List Value} (h : W.ownsRow b e sz v n xs) (hb : Below W.heap.size W W') : W'.ownsRow b e sz v n xs := owns_block h fun g _ hg => hb.block g hg
theorem owns_wide {W : World} {b b' : Nat} {e : TypeId} {sz : Nat} {v : Value} {n : Nat} {xs : List Value} (h : W.ownsRow b e sz v n xs) (hb : b' ≤ b) : W.ownsRow b' e sz v n xs := by
  obtain ⟨h1, h2⟩ := h
  refine ⟨h1, ?_⟩
  rcases h2 with h2 | ⟨g, cap, cur, rfl, h3, r⟩
  · exact .inl h2
  · exact .inr ⟨g, cap, cur, rfl, by omega, r⟩
theorem owns_slice {W : World} {b : Nat} {e : TypeId} {sz : Nat} {v : Value} {n : Nat} {xs : List Value} (h : W.ownsRow b e sz v n xs) : ∃ a cap, v = .slice a n cap := by
  rcases h.2 with ⟨rfl, rfl⟩ | ⟨g, cap, cur, rfl, _⟩
  · exact ⟨none, 0, rfl⟩
  · exact ⟨_, cap, rfl⟩
theorem infoSeat : (Tryz.prog.info? 93).map (fun i => (i.zero, i.size, i.bytes)) = some (some (.agg #[.int .i64 0, .int .i64 0]), 2, 16) := by kernel_rfl
theorem infoSeat_parts : ∃ i, Tryz.prog.info? 93 = some i ∧ i.zero = some (.agg #[.int .i64 0, .int .i64 0]) ∧ i.size = 2 ∧ i.bytes = 16 := by
  have h := infoSeat
  cases hq : Tryz.prog.info? 93 with
  | none => rw [hq] at h; cases h
  | some i =>
    rw [hq] at h
    simp at h
    exact ⟨i, rfl, h.1, h.2.1, h.2.2⟩
theorem cell_two_new (w : World) (x y : Value) (t : TypeId) : ∀ j u, [x, y][j]? = some u → (w.alloc (.cells #[x, y] t)).cell? ((⟨w.heap.size, 0, none⟩ : Addr).add j) = some u := by
  intro j u hu
  match j with
  | 0 =>
    rw [show (⟨w.heap.size, 0, none⟩ : Addr).add 0 = ⟨w.heap.size, 0, none⟩ from rfl, cell_of_row _ _ 0 _ _ _ (heap_alloc_last w _)]
    exact hu
  | 1 =>
    rw [show (⟨w.heap.size, 0, none⟩ : Addr).add 1 = ⟨w.heap.size, 1, none⟩ from rfl, cell_of_row _ _ 1 _ _ _ (heap_alloc_last w _)]
    exact hu
  | j + 2 => simp at hu
theorem zero25 : Tryz.zeroCells29 = rcs fun _ => zE := by kernel_rfl
theorem results_ro2 {fn : Func} {p t : Tmp} (hf : fn.results = #[.cell p 29, .tmp t]) (tmps : Array Value) (W : World) (B : Nat) (f : Nat → En) (hp : tmps[p]? = some (.pointer (some ⟨B, 0, none⟩))) (hb : RoAt W B f) :
    (results fn tmps).run Tryz.prog W = .ok (.tuple #[.agg (rcs f), tmps.getD t undef]) W := by
  have h := run_loadVar_row W B _ 29 _ _ _ hb Tryz.underlying29 rfl (by rw [rcs_size]; exact info25)
  simp [results, hf, hp, asAddr, h]
end Go.Proofs.YtpimbpfefhkojaaGreat.Rs
/- Contracts: evict, admit. -/
namespace Go.Proofs.YtpimbpfefhkojaaGreat.Rs
open Go.RowKit Go.Maps
set_option linter.unusedVariables false
set_option linter.unusedSimpArgs false

/- What stands while a roster is written and seats are gathered. -/
structure EV (w W : World) (g : Nat → En) (v : Value) (l : List (Int × Int)) : Prop where
  ro : RoAt W w.heap.size g
  ze : RoAt W (w.heap.size + 1) (fun _ => zE)
  bel : Below w.heap.size w W
  row : W.ownsRow (w.heap.size + 2) 93 2 v l.length (ps l)
theorem EV.size {w W : World} {g : Nat → En} {v : Value} {l : List (Int × Int)} (h : EV w W g v l) : w.heap.size + 2 ≤ W.heap.size := h.ze.lt
theorem EV.later {w W W' : World} {g : Nat → En} {v : Value} {l : List (Int × Int)} (h : EV w W g v l) (hb : Below W.heap.size W W') : EV w W' g v l :=
  ⟨h.ro.later hb, h.ze.later hb, h.bel.trans (hb.mono h.bel.size), owns_later h.row hb⟩
theorem row_far {W : World} {b : Nat} {e : TypeId} {sz : Nat} {v : Value} {n : Nat} {xs : List Value} (h : W.ownsRow b e sz v n xs) {k : Nat} (hk : k < b) : some k ≠ v.ownBlock := by
  intro he
  rcases h.2 with ⟨rfl, _⟩ | ⟨g, cap, cur, rfl, h3, _⟩
  · simp [Value.ownBlock] at he
  · simp [Value.ownBlock] at he
    omega
theorem EV.app {w W W1 : World} {g : Nat → En} {v v' : Value} {l : List (Int × Int)} {o : Obj} {p : Int × Int} (h : EV w W g v l) (hown : W1.ownsRow (w.heap.size + 2) 93 2 v' (l.length + 1) (ps l ++ [.int .i64 p.1, .int .i64 p.2])) (hg : (W.alloc o).grownBy W1 v.ownBlock) : EV w W1 g v' (l ++ [p]) := by
  have hs := h.size
  have blk : ∀ k, k < w.heap.size + 2 → W1.heap[k]? = W.heap[k]? := fun k hk => by
    rw [hg.block k (by simp; omega) (row_far h.row hk)]
    exact ((Below.refl _ W).alloc (Nat.le_refl _) o).block k (by omega)
  refine ⟨(blk _ (by omega)).trans h.ro, (blk _ (by omega)).trans h.ze, ?_, ?_⟩
  · have b1 := h.bel.alloc h.bel.size o
    exact below_grown b1 hg (by have := h.bel.size; simp; omega) fun j hj => by
      rcases Nat.lt_or_ge j (w.heap.size + 2) with hlt | hge
      · exact absurd hj.symm (row_far h.row hlt)
      · omega
  · rw [ps_snoc, List.length_append]
    exact hown
theorem EV.set {w W : World} {g : Nat → En} {v : Value} {l : List (Int × Int)} (h : EV w W g v l) (k : Nat) (hk : k < 64) (a b c : Int) :
    EV w (((W.setCell ⟨w.heap.size, k * 3, none⟩ (.int .i64 a)).setCell ⟨w.heap.size, k * 3 + 1, none⟩ (.int .i64 b)).setCell ⟨w.heap.size, k * 3 + 2, none⟩ (.int .i64 c)) (upd g k ⟨a, b, c⟩) v l :=
  ⟨h.ro.set3 k hk a b c, (set3_other (by omega) _ _ _ _ _ _).trans h.ze, set3_below h.bel (Nat.le_refl _) _ _ _ _ _ _, owns_block h.row fun j hj _ => set3_other (by omega) _ _ _ _ _ _⟩
theorem EV.new (w : World) (f : Nat → En) : EV w ((w.alloc (.cells (rcs f) 29)).alloc (.cells (rcs fun _ => zE) 29)) f (.slice none 0 0) [] := by
  have b2 := alloc_ro (w.alloc (.cells (rcs f) 29)) (fun _ => zE)
  have h2 := RoAt.new (w.alloc (.cells (rcs f) 29)) (fun _ => zE)
  rw [World.size_alloc] at h2
  exact ⟨(RoAt.new w f).later b2, h2, (alloc_ro w f).trans (b2.mono (by simp)), World.ownsRow_nil _ _ _ _⟩
theorem st25 {ops : Array Oper} {rest : List Oper} {o : Oper} {a : Act} {w : World} {Q : Exit → Act → World → Prop} {B : Nat} {f g : Nat → En} (h : RoAt w B f) (hgd : o.guard = none) (x y : Operand) (ho : o.op = .store 29 x y)
    (hx : a.eval x = .pointer (some ⟨B, 0, none⟩)) (hy : a.eval y = .agg (rcs g)) (k : wpList Tryz.prog ops Q rest (a.put o.dst undef) (w.setRow B (rcs g))) : wpList Tryz.prog ops Q (o :: rest) a w :=
  wpList_store_row hgd 29 x y ho B (rcs g) hx hy 29 (rcs f) h (by rw [rcs_size]; exact info25) (by rw [rcs_size, rcs_size]) (rcs_one g) k
theorem RoAt.row {w : World} {B : Nat} {f : Nat → En} (h : RoAt w B f) (g : Nat → En) : RoAt (w.setRow B (rcs g)) B g := heap_setRow_same h _
theorem row_other {w : World} {B C : Nat} (h : C ≠ B) (cs : Array Value) : (w.setRow B cs).heap[C]? = w.heap[C]? := by
  simp only [World.setRow, Array.getElem?_modify]
  rw [if_neg (fun e => h e.symm)]
end Go.Proofs.YtpimbpfefhkojaaGreat.Rs
/- Contracts: admit. -/
namespace Go.Proofs.YtpimbpfefhkojaaGreat.Rs
open Go.RowKit Go.Maps
set_option linter.unusedVariables false
set_option linter.unusedSimpArgs false

theorem apart_rows {W : World} {b b' : Nat} {e e' : TypeId} {s s' n n' : Nat} {v v' : Value} {xs xs' : List Value} (h : W.ownsRow b e s v n xs) (h' : W.ownsRow b' e' s' v' n' xs') (hne : e ≠ e') : v.ownBlock = none ∨ v.ownBlock ≠ v'.ownBlock := by
  rcases h.2 with ⟨rfl, _⟩ | ⟨g, cap, cur, rfl, h3, h4, _⟩
  · exact .inl rfl
  · rcases h'.2 with ⟨rfl, _⟩ | ⟨g', cap', cur', rfl, h3', h4', _⟩
    · exact .inr (by simp [Value.ownBlock])
    · refine .inr fun he => ?_
      simp [Value.ownBlock] at he
      subst he
      rw [h4] at h4'
      simp at h4'
      exact hne h4'.2
theorem int_cell {W : World} {b : Nat} {v : Value} {T : List Nat} (h : W.ownsRow b 3 1 v T.length (nI T)) {k : Nat} (hk : k < T.length) : ∃ g cap, v = .slice (some ⟨g, 0, none⟩) T.length cap ∧ W.cell? ⟨g, k, none⟩ = some (.int .i64 ((T.getD k 0 : Nat) : Int)) := by
  rcases h.2 with ⟨rfl, h0⟩ | ⟨g, cap, cur, rfl, h3, h4, h5, h6, h7, h8⟩
  · omega
  · have hc := World.ownsRow.cellAt h k (by omega)
    refine ⟨g, cap, rfl, ?_⟩
    rw [hc]
    simp [nI, hk]
end Go.Proofs.YtpimbpfefhkojaaGreat.Rs
/- Contracts: Move of the program. -/
namespace Go.Proofs.YtpimbpfefhkojaaGreat.Rs
open Go.RowKit Go.Maps
set_option linter.unusedVariables false
set_option linter.unusedSimpArgs false

/- What a move answers. -/
structure MoveP (w w' : World) (f : Nat → En) (L J : List Int) (sc bs : Int) (vl vj : Value) : Prop where
  left : w'.ownsRow w.heap.size 93 2 vl (mvL f L J sc bs).length (ps (mvL f L J sc bs))
  join : w'.ownsRow w.heap.size 93 2 vj (mvJ f L J sc bs).length (ps (mvJ f L J sc bs))
  apart : vl.ownBlock = none ∨ vl.ownBlock ≠ vj.ownBlock
def MoveA (w w' : World) (f : Nat → En) (L J : List Int) (sc bs : Int) (e : Ending) : Prop := ∃ vl vj, e = .returned (.tuple #[.agg (rcs (mvR f L J sc bs)), vl, vj, .int .i64 (mvE f L J sc bs)]) ∧ MoveP w w' f L J sc bs vl vj
theorem MoveA.no {w w' : World} {f : Nat → En} {L J : List Int} {sc bs : Int} {E : Int} (h : mvE f L J sc bs = E) (h0 : E ≠ 0) : MoveA w w' f L J sc bs (.returned (.tuple #[.agg (rcs fun _ => zE), .slice none 0 0, .slice none 0 0, .int .i64 E])) := by
  have e1 : mvR f L J sc bs = fun _ => zE := by unfold mvR; rw [h, if_neg h0]
  have e2 : mvL f L J sc bs = [] := by unfold mvL; rw [h, if_neg h0]
  have e3 : mvJ f L J sc bs = [] := by unfold mvJ; rw [h, if_neg h0]
  refine ⟨_, _, by rw [e1, h], ?_, ?_, .inl rfl⟩
  · rw [e2]; exact World.ownsRow_nil _ _ _ _
  · rw [e3]; exact World.ownsRow_nil _ _ _ _
theorem results_ro4 {fn : Func} {p t u v : Tmp} (hf : fn.results = #[.cell p 29, .tmp t, .tmp u, .tmp v]) (tmps : Array Value) (W : World) (B : Nat) (f : Nat → En) (hp : tmps[p]? = some (.pointer (some ⟨B, 0, none⟩))) (hb : RoAt W B f) :
    (results fn tmps).run Tryz.prog W = .ok (.tuple #[.agg (rcs f), tmps.getD t undef, tmps.getD u undef, tmps.getD v undef]) W := by
  have h := run_loadVar_row W B _ 29 _ _ _ hb Tryz.underlying29 rfl (by rw [rcs_size]; exact info25)
  simp [results, hf, hp, asAddr, h]
/- The roster and the batch, boxed, and the answer's place. -/
structure MV (w W : World) (f : Nat → En) (aL aJ : Option Addr) (nL nJ cL cJ : Nat) : Prop where
  fs : FS w W f aL aJ nL nJ cL cJ
  ze : RoAt W (w.heap.size + 2) (fun _ => zE)
theorem MV.later {w W W' : World} {f : Nat → En} {aL aJ : Option Addr} {nL nJ cL cJ : Nat} (h : MV w W f aL aJ nL nJ cL cJ) (hb : Below W.heap.size W W') : MV w W' f aL aJ nL nJ cL cJ := ⟨h.fs.later hb, h.ze.later hb⟩
theorem MV.new (w : World) (f : Nat → En) (aL aJ : Option Addr) (nL nJ cL cJ : Nat) : MV w (((w.alloc (.cells (rcs f) 29)).alloc (.cells #[.slice aL nL cL, .slice aJ nJ cJ] 45)).alloc (.cells (rcs fun _ => zE) 29)) f aL aJ nL nJ cL cJ := by
  have h2 := RoAt.new ((w.alloc (.cells (rcs f) 29)).alloc (.cells #[.slice aL nL cL, .slice aJ nJ cJ] 45)) (fun _ => zE)
  rw [World.size_alloc, World.size_alloc] at h2
  exact ⟨(FS.new w f aL aJ nL nJ cL cJ).later (alloc_ro _ _), h2⟩
theorem mvE_fit {f : Nat → En} {L J : List Int} {sc bs : Int} (h : ft f L J ≠ 0) : mvE f L J sc bs = ft f L J := by unfold mvE; rw [if_neg h]
theorem mvE_ep {f : Nat → En} {L J : List Int} {sc bs : Int} (h : ft f L J = 0) (h2 : eok sc = false) : mvE f L J sc bs = 19 := by unfold mvE; rw [if_pos h, h2]; rfl
theorem mvE_key {f : Nat → En} {L J : List Int} {sc bs : Int} (h : ft f L J = 0) (h2 : eok sc = true) (h3 : fre f bs J.length = false) : mvE f L J sc bs = 3 := by unfold mvE; rw [if_pos h, h2, if_pos rfl, h3]; rfl
theorem owns_type {W : World} {b : Nat} {e : TypeId} {sz : Nat} {v : Value} {n : Nat} {xs : List Value} (h : W.ownsRow b e sz v n xs) {B : Nat} {cs : Array Value} {t : TypeId} (hB : W.heap[B]? = some (.cells cs t (0, 0))) (hne : e ≠ t) (cs' : Array Value) : (W.setRow B cs').ownsRow b e sz v n xs := by
  obtain ⟨h1, h2⟩ := h
  refine ⟨h1, ?_⟩
  rcases h2 with h2 | ⟨g, cap, cur, rfl, h3, h4, r⟩
  · exact .inl h2
  · refine .inr ⟨g, cap, cur, rfl, h3, (row_other (fun e => ?_) _).trans h4, r⟩
    subst e
    rw [hB] at h4
    simp at h4
    exact hne h4.2.symm
theorem apart_older {W W' : World} {b b' : Nat} {e e' : TypeId} {s s' n n' : Nat} {v v' : Value} {xs xs' : List Value} (h : W.ownsRow b e s v n xs) (h' : W'.ownsRow (W.heap.size + b') e' s' v' n' xs') : v.ownBlock = none ∨ v.ownBlock ≠ v'.ownBlock := by
  rcases h.2 with ⟨rfl, _⟩ | ⟨g, cap, cur, rfl, h3, h4, _⟩
  · exact .inl rfl
  · rcases h'.2 with ⟨rfl, _⟩ | ⟨g', cap', cur', rfl, h3', h4', _⟩
    · exact .inr (by simp [Value.ownBlock])
    · refine .inr fun he => ?_
      simp [Value.ownBlock] at he
      have := (Array.getElem?_eq_some_iff.1 h4).1
      omega
theorem zero25' : Value.agg Tryz.zeroCells29 = .agg (rcs fun _ => zE) := by rw [zero25]
theorem alloc_zero (w : World) : w.alloc (.cells Tryz.zeroCells29 29) = w.alloc (.cells (rcs fun _ => zE) 29) := by rw [zero25]
end Go.Proofs.YtpimbpfefhkojaaGreat.Rs
