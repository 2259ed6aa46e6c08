/- What a world has kept but for some blocks; a writer in memory. -/
import Derived.Test.YtdkfifnhmfbagaaBitA
import Derived.LoopTactic
import Derived.Maps.AppendAt
import Derived.Laws.OwnMore
import Derived.Deep.AppendLies
import Derived.Laws.BitsAllLaws
namespace Go.Proofs.Ytdkfifnhmfbagaa.Bt
open Go.RowKit Go.Maps

structure Kept (F : Nat → Prop) (w w' : World) : Prop where
  os : w'.os = w.os
  tape : w'.tape = w.tape
  output : w'.output = w.output
  size : w.heap.size ≤ w'.heap.size
  block : ∀ k, k < w.heap.size → ¬ F k → w'.heap[k]? = w.heap[k]?
theorem Kept.refl (F : Nat → Prop) (w : World) : Kept F w w := ⟨rfl, rfl, rfl, Nat.le_refl _, fun _ _ _ => rfl⟩
theorem Kept.trans {F F' : Nat → Prop} {a b c : World} (h : Kept F a b) (k : Kept F' b c) (hF : ∀ i, i < a.heap.size → F' i → F i) : Kept F a c :=
  ⟨k.os.trans h.os, k.tape.trans h.tape, k.output.trans h.output, Nat.le_trans h.size k.size, fun i hi hn => (k.block i (Nat.lt_of_lt_of_le hi h.size) (fun h' => hn (hF i hi h'))).trans (h.block i hi hn)⟩
theorem Kept.mono {F F' : Nat → Prop} {a b : World} (h : Kept F a b) (hF : ∀ i, i < a.heap.size → F i → F' i) : Kept F' a b := ⟨h.os, h.tape, h.output, h.size, fun i hi hn => h.block i hi (fun h' => hn (hF i hi h'))⟩
theorem Kept.drew {F : Nat → Prop} {a w : World} (h : Kept F a w) : Kept F a w.drew := ⟨h.os, h.tape, h.output, h.size, h.block⟩
theorem Kept.alloc {F : Nat → Prop} {a w : World} (h : Kept F a w) (o : Obj) : Kept F a (w.alloc o) :=
  h.trans (F' := F) ⟨rfl, rfl, rfl, by simp, fun k hk _ => Below.heap_alloc _ _ _ hk⟩ (fun _ _ h => h)
theorem Kept.setCell {F : Nat → Prop} {a w : World} (h : Kept F a w) {p : Addr} (hp : p.block < a.heap.size → F p.block) (u : Value) : Kept F a (w.setCell p u) :=
  h.trans (F' := fun k => k = p.block) ⟨rfl, rfl, rfl, by simp [World.setCell], fun k hk hn => Below.heap_setCell _ _ _ _ hn⟩ (fun i hi e => by subst e; exact hp hi)
theorem Kept.grown {F : Nat → Prop} {a w w' : World} {row : Option Nat} (h : Kept F a w) (hg : w.grownBy w' row) (hr : ∀ k, row = some k → k < a.heap.size → F k) : Kept F a w' :=
  h.trans (F' := fun k => row = some k) ⟨hg.os, hg.tape, hg.output, hg.size, fun k hk hn => hg.block k hk (fun e => hn e.symm)⟩ (fun i hi e => hr i e hi)
theorem Kept.ofBelow {F : Nat → Prop} {w w' : World} (h : Below w.heap.size w w') : Kept F w w' := ⟨h.os, h.tape, h.output, h.size, fun k hk _ => h.block k hk⟩
theorem Kept.below {F : Nat → Prop} {w w' : World} {B : Nat} (h : Kept F w w') (hB : B ≤ w.heap.size) (hF : ∀ k, F k → B ≤ k) : Below B w w' :=
  ⟨h.os, h.tape, h.output, h.size, fun k hk => h.block k (by omega) (fun e => by have := hF k e; omega)⟩
theorem Kept.cell {F : Nat → Prop} {w w' : World} (h : Kept F w w') {a : Addr} {v : Value} (hc : w.cell? a = some v) (hn : ¬ F a.block) : w'.cell? a = some v :=
  (World.cell?_of_block (h.block a.block (World.block_lt_of_cell? w a hc) hn)).trans hc
theorem Kept.row {F : Nat → Prop} {w w' : World} {base e size n : Nat} {v : Value} {xs : List Value} (h : Kept F w w') (hr : w.ownsRow base e size v n xs) (hn : ∀ k, v.ownBlock = some k → ¬ F k) : w'.ownsRow base e size v n xs := by
  refine ⟨hr.1, ?_⟩
  rcases hr.2 with h0 | ⟨g, cap, cur, rfl, hb, hgg, rest⟩
  · exact .inl h0
  · refine .inr ⟨g, cap, cur, rfl, hb, ?_, rest⟩
    rw [h.block g (Array.getElem?_eq_some_iff.1 hgg).1 (hn g rfl)]
    exact hgg
def u8s (l : List Nat) : List Value := l.map fun n : Nat => Value.int .u8 (n : Int)
@[simp] theorem u8s_length (l : List Nat) : (u8s l).length = l.length := by simp [u8s]
theorem u8s_append (a b : List Nat) : u8s (a ++ b) = u8s a ++ u8s b := by simp [u8s]
theorem u8s_set (l : List Nat) (i x : Nat) : (u8s l).set i (.int .u8 (x : Int)) = u8s (l.set i x) := by simp [u8s, List.map_set]
theorem info8 : (Try.prog.info? 5).map (fun i => (i.zero, i.size, i.bytes)) = some (some (.int .u8 0), 1, 1) := by kernel_rfl
/- A writer in memory: the bits l; v: its bytes' slice. -/
structure Wr (B : Nat) (w : World) (g : Nat) (l : List Bool) (v : Value) : Prop where
  blk : w.heap[g]? = some (.cells #[.int .i64 (l.length : Int), v] 73)
  row : w.ownsRow B 5 1 v (pk l).length (u8s (pk l))
  lt : g < B
def Fw (g : Nat) (v : Value) (k : Nat) : Prop := k = g ∨ v.ownBlock = some k
theorem Wr.spell {B : Nat} {w : World} {g : Nat} {l : List Bool} {v : Value} (h : Wr B w g l v) : ∃ a cap, v = .slice a (pk l).length cap := by
  rcases h.row.2 with ⟨h0, h1⟩ | ⟨r, cap, cur, hv, _⟩
  · exact ⟨none, 0, by rw [h0, h1]⟩
  · exact ⟨_, cap, hv⟩
theorem Wr.c0 {B : Nat} {w : World} {g : Nat} {l : List Bool} {v : Value} (h : Wr B w g l v) : w.cell? ⟨g, 0, none⟩ = some (.int .i64 (l.length : Int)) := by simp [World.cell?, h.blk]
theorem Wr.c1 {B : Nat} {w : World} {g : Nat} {l : List Bool} {v : Value} (h : Wr B w g l v) : w.cell? ⟨g, 1, none⟩ = some v := by simp [World.cell?, h.blk]
theorem Wr.fr {B : Nat} {w : World} {g : Nat} {l : List Bool} {v : Value} (h : Wr B w g l v) (j : Nat) : w.frozen? ⟨g, j, none⟩ = false := by simp [World.frozen?, h.blk]
theorem Wr.kept {B : Nat} {w w' : World} {g : Nat} {l : List Bool} {v : Value} (h : Wr B w g l v) {F : Nat → Prop} (hk : Kept F w w') (hF : ∀ k, Fw g v k → ¬ F k) : Wr B w' g l v :=
  ⟨(hk.block g (Array.getElem?_eq_some_iff.1 h.blk).1 (hF g (.inl rfl))).trans h.blk, hk.row h.row (fun k hv => hF k (.inr hv)), h.lt⟩
theorem Wr.inHeap {B : Nat} {w : World} {g : Nat} {l : List Bool} {v : Value} (h : Wr B w g l v) : ∀ k, Fw g v k → k < w.heap.size := fun k hk => by
  rcases hk with rfl | hk
  · exact (Array.getElem?_eq_some_iff.1 h.blk).1
  · exact (h.row.lt k hk).2
theorem Wr.new (w : World) : Wr (w.heap.size + 1) (w.alloc (.cells #[.int .i64 0, .slice none 0 0] 73)) w.heap.size [] (.slice none 0 0) :=
  ⟨heap_alloc_new w _, World.ownsRow_nil _ _ _ _, Nat.lt_succ_self _⟩
theorem blk_set {w : World} {g i : Nat} {cs : Array Value} {t : TypeId} (h : w.heap[g]? = some (.cells cs t)) (v : Value) : (w.setCell ⟨g, i, none⟩ v).heap[g]? = some (.cells (cs.setIfInBounds i v) t) := heap_setCell_same w g i cs t v h
/- A writer whose last byte is there, its bits not yet. -/
structure Wm (B : Nat) (w : World) (g : Nat) (l : List Bool) (r p cap : Nat) : Prop where
  blk : w.heap[g]? = some (.cells #[.int .i64 (l.length : Int), .slice (some ⟨r, 0, none⟩) (p + 1) cap] 73)
  row : w.ownsRow B 5 1 (.slice (some ⟨r, 0, none⟩) (p + 1) cap) (p + 1) (u8s (pkn l (p + 1)))
  lt : g < B
  at' : l.length / 8 = p
theorem Wm.c0 {B : Nat} {w : World} {g : Nat} {l : List Bool} {r p cap : Nat} (h : Wm B w g l r p cap) : w.cell? ⟨g, 0, none⟩ = some (.int .i64 (l.length : Int)) := by simp [World.cell?, h.blk]
theorem Wm.c1 {B : Nat} {w : World} {g : Nat} {l : List Bool} {r p cap : Nat} (h : Wm B w g l r p cap) : w.cell? ⟨g, 1, none⟩ = some (.slice (some ⟨r, 0, none⟩) (p + 1) cap) := by simp [World.cell?, h.blk]
theorem Wm.fr {B : Nat} {w : World} {g : Nat} {l : List Bool} {r p cap : Nat} (h : Wm B w g l r p cap) (j : Nat) : w.frozen? ⟨g, j, none⟩ = false := by simp [World.frozen?, h.blk]
theorem Wm.ge {B : Nat} {w : World} {g : Nat} {l : List Bool} {r p cap : Nat} (h : Wm B w g l r p cap) : B ≤ r := (h.row.lt r rfl).1
theorem Wm.cp {B : Nat} {w : World} {g : Nat} {l : List Bool} {r p cap : Nat} (h : Wm B w g l r p cap) : w.cell? ⟨r, p, none⟩ = some (.int .u8 (by8 (l.drop (8 * p)) : Nat)) := by
  rw [h.row.cellAt p (by omega)]
  simp only [u8s, List.getElem?_map, pkn_get l (p + 1) p (by omega), Option.map_some]
theorem Wm.fp {B : Nat} {w : World} {g : Nat} {l : List Bool} {r p cap : Nat} (h : Wm B w g l r p cap) : w.frozen? ⟨r, p, none⟩ = false := h.row.frozenAt p
theorem Wm.capLe {B : Nat} {w : World} {g : Nat} {l : List Bool} {r p cap : Nat} (h : Wm B w g l r p cap) : p + 1 ≤ cap := by
  rcases h.row.2 with ⟨h0, _⟩ | ⟨g', cap', cur, hv, hb, hh, h1, _⟩
  · cases h0
  · cases hv; exact h1
theorem Wm.drew {B : Nat} {w : World} {g : Nat} {l : List Bool} {r p cap : Nat} (h : Wm B w g l r p cap) : Wm B w.drew g l r p cap := ⟨h.blk, h.row, h.lt, h.at'⟩
theorem Wr.drew {B : Nat} {w : World} {g : Nat} {l : List Bool} {v : Value} (h : Wr B w g l v) : Wr B w.drew g l v := ⟨h.blk, h.row, h.lt⟩
theorem Wr.grown {B : Nat} {w w1 : World} {g p r cap : Nat} {l : List Bool} {a : Option Addr} {n cap0 : Nat} (h : Wr B w g l (.slice a n cap0)) (hp : l.length / 8 = p) (h0 : l.length % 8 = 0)
    (hr : w1.ownsRow B 5 1 (.slice (some ⟨r, 0, none⟩) (p + 1) cap) (p + 1) (u8s (pk l) ++ [.int .u8 0])) (hg : w.grownBy w1 (Value.slice a n cap0).ownBlock) :
    Wm B (w1.setCell ⟨g, 1, none⟩ (.slice (some ⟨r, 0, none⟩) (p + 1) cap)) g l r p cap := by
  have hb : w1.heap[g]? = some (.cells #[.int .i64 (l.length : Int), .slice a n cap0] 73) := by
    rw [hg.block g (Array.getElem?_eq_some_iff.1 h.blk).1 (fun e => by have := (h.row.lt g e.symm).1; have := h.lt; omega)]
    exact h.blk
  have hb2 := blk_set (i := 1) hb (.slice (some ⟨r, 0, none⟩) (p + 1) cap)
  refine ⟨by rw [hb2]; simp, ?_, h.lt, hp⟩
  have hbr := (hr.lt r rfl).1
  have hlt := h.lt
  have e : u8s (pk l) ++ [.int .u8 0] = u8s (pkn l (p + 1)) := by rw [← hp, pk_full h0, u8s_append]; rfl
  rw [e] at hr
  exact (Kept.refl (fun k => k = g) w1).setCell (p := ⟨g, 1, none⟩) (fun _ => rfl) _ |>.row hr (fun k hk e => by cases hk; have e' : r = g := e; omega)
theorem Wr.part {B : Nat} {w : World} {g : Nat} {l : List Bool} {v : Value} (h : Wr B w g l v) (h0 : l.length % 8 ≠ 0) : ∃ r cap, v = .slice (some ⟨r, 0, none⟩) (l.length / 8 + 1) cap ∧ Wm B w g l r (l.length / 8) cap := by
  have hl : (pk l).length = l.length / 8 + 1 := by rw [pk_length]; omega
  rcases h.row.2 with ⟨_, h1⟩ | ⟨r, cap, cur, hv, _⟩
  · omega
  · rw [hl] at hv
    subst hv
    have hr := h.row
    rw [hl, ← pk_part h0] at hr
    exact ⟨r, cap, rfl, h.blk, hr, h.lt, rfl⟩
/- The bits are put. -/
theorem Wm.fin {B : Nat} {w : World} {g : Nat} {l b : List Bool} {r p cap x c : Nat} (h : Wm B w g l r p cap) (h1 : 1 ≤ b.length) (h2 : b.length ≤ 8 - l.length % 8)
    (hx : x = by8 (l.drop (8 * p)) + bv b * 2 ^ (8 - l.length % 8 - b.length)) (hc : c = l.length + b.length) :
    Wr B ((w.setCell ⟨r, p, none⟩ (.int .u8 (x : Int))).setCell ⟨g, 0, none⟩ (.int .i64 (c : Int))) g (l ++ b) (.slice (some ⟨r, 0, none⟩) (p + 1) cap) := by
  obtain ⟨s1, s2⟩ := h.row.stored p (.int .u8 (x : Int))
  have hge := h.ge
  have hlt := h.lt
  have hp := h.at'
  have hb : (w.setCell ⟨r, p, none⟩ (.int .u8 (x : Int))).heap[g]? = some (.cells #[.int .i64 (l.length : Int), .slice (some ⟨r, 0, none⟩) (p + 1) cap] 73) := by
    rw [Below.heap_setCell _ _ _ _ (by show g ≠ r; omega)]; exact h.blk
  have e : pk (l ++ b) = (pkn l (p + 1)).set p x := by
    subst hp
    exact pk_more l b h1 h2 x hx
  have hlen : (pk (l ++ b)).length = p + 1 := by rw [e]; simp
  refine ⟨by rw [blk_set hb, hc]; simp, ?_, h.lt⟩
  rw [hlen, e, ← u8s_set]
  exact (Kept.refl (fun k => k = g) _).setCell (p := ⟨g, 0, none⟩) (fun _ => rfl) _ |>.row s1 (fun k hk e => by cases hk; have e' : r = g := e; omega)
theorem Wr.alloc {B : Nat} {w : World} {g : Nat} {l : List Bool} {v : Value} (h : Wr B w g l v) (o : Obj) : Wr B (w.alloc o) g l v := h.kept ((Kept.refl (fun _ => False) w).alloc o) (fun _ _ h => h)
theorem Wr.far {B : Nat} {w w1 : World} {g : Nat} {l : List Bool} {v : Value} (h : Wr B w g l v) (hg : w.grownBy w1 v.ownBlock) : w1.cell? ⟨g, 1, none⟩ = some v ∧ w1.frozen? ⟨g, 1, none⟩ = false := by
  have hb := hg.block g (Array.getElem?_eq_some_iff.1 h.blk).1 (fun e => by have := (h.row.lt g e.symm).1; have := h.lt; omega)
  exact ⟨(World.cell?_of_block hb).trans h.c1, (World.frozen?_of_block hb).trans (h.fr 1)⟩
theorem wrap64_nat (d : Nat) (h : d < 4611686018427387904) : IntKind.i64.wrap (d : Int) = (d : Int) := by simp [IntKind.wrap, IntKind.bits, IntKind.signed]; omega
theorem shl_nat (t d z : Nat) (hd : d ≤ 8) (hz : t * 2 ^ d = z) (h : z < 18446744073709551616) : Op.shift .shl .u64 (t : Int) .i64 (d : Int) = pure (.int .u64 (z : Int)) := by
  rw [shift_shl_any .u64 .i64 (t : Int) (d : Int) (by omega)]
  have e : min ((d : Int).toNat) IntKind.u64.bits = d := by simp [IntKind.bits]; omega
  have e2 : (t : Int) * 2 ^ d = (z : Int) := by rw [← hz]; simp
  rw [e, e2, IntKind.wrap_u64, show (z : Int) % 18446744073709551616 = (z : Int) by omega]
theorem shl_wrap (t d z : Nat) (hz : t * 2 ^ d = z) (h : z < 18446744073709551616) : IntKind.u64.wrap ((t : Int) * 2 ^ d) = (z : Int) := by
  have e2 : (t : Int) * 2 ^ d = (z : Int) := by rw [← hz]; simp
  rw [e2, IntKind.wrap_u64]; omega
/- A round of Put. -/
theorem Wm.fin2 {B : Nat} {w : World} {g : Nat} {l L : List Bool} {r p cap v n k j q t d z y yz c rm : Nat} (h : Wm B w g L r p cap) (hL : l ++ bo (v / 2 ^ k) (n - k) = L) (hk : k ≤ n) (h1 : 1 ≤ q) (hqk : q ≤ k) (hqr : q ≤ rm)
    (hc : L.length = c) (hrm : 8 - c % 8 = rm) (hj : k - q = j) (ht : v / 2 ^ j % 2 ^ q = t) (hd : rm - q = d) (hz : t * 2 ^ d = z) (hy : by8 (L.drop (8 * p)) = y) (hyz : y + z = yz) :
    Wr B ((w.setCell ⟨r, p, none⟩ (.int .u8 (yz : Int))).setCell ⟨g, 0, none⟩ (.int .i64 ((c : Int) + (q : Int)))) g (l ++ bo (v / 2 ^ j) (n - j)) (.slice (some ⟨r, 0, none⟩) (p + 1) cap) := by
  rw [show (c : Int) + (q : Int) = ((c + q : Nat) : Int) by simp]
  have e : l ++ bo (v / 2 ^ j) (n - j) = L ++ bo (v / 2 ^ j) q := by
    rw [show n - j = (n - k) + q by omega, bo_split, Nat.div_div_eq_div_mul, ← Nat.pow_add, show j + q = k by omega, ← List.append_assoc, hL]
  rw [e]
  refine h.fin (by simpa using h1) (by simp; omega) ?_ (by rw [hc]; simp)
  rw [bv_bo, ht, hy, bo_length, hc, hrm, hd, hz, hyz]
theorem cell_one_at (w : World) (x : Value) (t : TypeId) (n : Nat) (hn : n = w.heap.size) : ∀ j u, [x][j]? = some u → (w.alloc (.cells #[x] t)).cell? ((⟨n, 0, none⟩ : Addr).add j) = some u := by
  subst hn
  intro j u hj
  match j, hj with
  | 0, hj => simp at hj; subst hj; simp [Addr.add, go_sem]
theorem or8 (p x y : Nat) (hx : x % 2 ^ p = 0) (hy : y < 2 ^ p) (h1 : x < 256) (h2 : y < 256) : bits .or .u8 (x : Int) (y : Int) = ((x + y : Nat) : Int) := by
  rw [u8_or_nat x y h1 h2, nat_join p x y hx hy]
theorem and64 (v n : Nat) (hv : v < 18446744073709551616) (hn : n ≤ 8) : bits .and .u64 (v : Int) ((2 ^ n - 1 : Nat) : Int) = ((v % 2 ^ n : Nat) : Int) := by
  have : 2 ^ n ≤ 2 ^ 8 := Nat.pow_le_pow_right (by decide) hn
  rw [u64_and_nat v (2 ^ n - 1) hv (by omega), Nat.and_two_pow_sub_one_eq_mod]
end Go.Proofs.Ytdkfifnhmfbagaa.Bt
