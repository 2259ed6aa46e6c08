/- For every text and list of widths, together of bulk at most 1048576: Unpack leaves the widths, and what lies behind them, as they were, and its answers are new memory. Condition: that bulk. -/
import Derived.Test.YtpofjkjcbflloaaRows
import Derived.Test.YtpofjkjcbflloaaBitLives
import Derived.Test.YtpofjkjcbflloaaBitRefE
import Derived.Test.YtpofjkjcbflloaaOpenSl
import Derived.Laws.AppendOwnNone
namespace Go.Proofs.Ytpofjkjcbflloaa.bitsMemory
open Go.ChangeShapes Go.WideShapes Go.ChangeAt Go.RowKit Go.Maps
set_option linter.unusedVariables false

def i64s (l : List Int) : List Value := l.map fun n : Int => Value.int .i64 n
@[simp] theorem i64s_length (l : List Int) : (i64s l).length = l.length := by simp [i64s]
theorem i64s_one (l : List Int) : ∀ u ∈ i64s l, u.oneCell' = true := by
  intro u hu
  simp only [i64s, List.mem_map] at hu
  obtain ⟨_, _, rfl⟩ := hu
  rfl
theorem infoInt : (Try.prog.info? 3).map (fun i => (i.zero, i.size, i.bytes)) = some (some (.int .i64 0), 1, 8) := by kernel_rfl
theorem news_of_rd {w : World} {b o : Nat} {ws : List Int} (h : RdI w (some ⟨b, o, none⟩) ws) : ∀ j u, (i64s ws)[j]? = some u → w.cell? ((⟨b, o, none⟩ : Addr).add j) = some u := fun j u hu => by
  have hj : j < ws.length := by
    rcases Nat.lt_or_ge j (i64s ws).length with h' | h'
    · simpa using h'
    · rw [List.getElem?_eq_none h'] at hu; cases hu
  obtain ⟨b', o', e, c0⟩ := h j hj
  obtain ⟨eb, eo⟩ : b = b' ∧ o = o' := by simpa using e
  rw [← eb, ← eo] at c0
  rw [add_plain, c0]
  rw [← hu]
  simp [i64s, hj]
theorem rdi_of_row {w : World} {B g n cap : Nat} {ws : List Int} {ys : List Value} (h : w.ownsRow B 3 1 (.slice (some ⟨g, 0, none⟩) n cap) n (i64s ws ++ ys)) : RdI w (some ⟨g, 0, none⟩) ws := fun i hi => by
  have hl := h.1
  simp at hl
  refine ⟨g, 0, rfl, ?_⟩
  rw [Nat.zero_add, h.cellAt i (by omega), List.getElem?_append_left (by simpa using hi)]
  simp [i64s, hi]
theorem rdu_row {w : World} {B e n cap : Nat} {a : Option Addr} {l : List Nat} (hn : l.length = n) (h : w.ownsRow B e 1 (.slice a n cap) n (u64s l)) : RdU w a l := by
  subst hn
  obtain ⟨a', cap', e', hr⟩ := rdu_of_row h
  obtain ⟨rfl, -⟩ : a = a' ∧ cap = cap' := by simpa using e'
  exact hr
theorem spell {w : World} {B e n : Nat} {v : Value} {xs : List Value} (h : w.ownsRow B e 1 v n xs) : ∃ a cap, v = .slice a n cap := by
  rcases h.2 with ⟨h0, h1⟩ | ⟨r, cap, cur, hv, _⟩
  · exact ⟨none, 0, by rw [h0, h1]⟩
  · exact ⟨_, cap, hv⟩
theorem row_cap {w : World} {base g n cap : Nat} {e : TypeId} {xs : List Value} (h : w.ownsRow base e 1 (.slice (some ⟨g, 0, none⟩) n cap) n xs) : base ≤ g ∧ n ≤ cap ∧ cap ≤ maxLen ∧ g < w.heap.size := by
  rcases h.2 with ⟨h0, _⟩ | ⟨g', cap', cur, hv, hb, hh, h1, h2, h3, _⟩
  · cases h0
  · cases hv
    exact ⟨hb, h1, h2, (Array.getElem?_eq_some_iff.1 hh).1⟩
theorem row_base {w : World} {B B' e k n : Nat} {v : Value} {xs : List Value} (h : w.ownsRow B e k v n xs) (hB : B' ≤ B) : w.ownsRow B' e k v n xs := by
  refine ⟨h.1, ?_⟩
  rcases h.2 with h0 | ⟨r, cap, cur, hv, hbb, rest⟩
  · exact .inl h0
  · exact .inr ⟨r, cap, cur, hv, Nat.le_trans hB hbb, rest⟩
def u64z (l : List Int) : List Value := l.map fun n : Int => Value.int .u64 n
@[simp] theorem u64z_length (l : List Int) : (u64z l).length = l.length := by simp [u64z]
theorem u64z_set (l : List Int) (i : Nat) (x : Int) : (u64z l).set i (.int .u64 x) = u64z (l.set i x) := by simp [u64z, List.map_set]
theorem u64z_of (l : List Nat) : u64s l = u64z (l.map fun n : Nat => (n : Int)) := by simp [u64s, u64z]

set_option maxHeartbeats 4000000 in
set_option maxRecDepth 100000 in
theorem walk_some (s : ByteArray) (b o c n : Nat) (ws : List Int) (T : List Bool) (hn : ws.length = n) (hT : tb (bys s) = T) (h0 : 0 < n) (w : World) (hl : n ≤ 1048576) (hs : s.size ≤ 1048576) (h4 : RdI w (some ⟨b, o, none⟩) ws) :
    Calls Try.prog 8 #[.string s, .slice (some ⟨b, o, none⟩) n c] w fun e w' => e = .returned (.bool true) ∧ Below w.heap.size w w' := by
  obtain ⟨i0, hi, hz0, hz1, hz2⟩ := info_parts infoInt
  have HN : Hid (ws.length = n) := hn
  have HT : Hid (tb (bys s) = T) := hT
  have H4 : Hid (RdI w (some ⟨b, o, none⟩) ws) := h4
  clear hn hT h4
  go_enter Try.func8, Try.ntmps8
  go_wp2_with fail
  refine (lives_any _).mono ?_
  rintro e w1 ⟨rfl, hb1⟩
  have HB1 : Hid (Below w.heap.size w w1) := hb1
  clear hb1
  have HE0 : Hid ((w1.alloc (.cells #[] 3)).ownsRow w1.heap.size 3 1 (.slice (some ⟨w1.heap.size, 0, none⟩) 0 0) 0 []) :=
    ⟨rfl, Or.inr ⟨w1.heap.size, 0, #[], rfl, Nat.le_refl _, heap_alloc_new w1 _, Nat.le_refl _, Nat.zero_le _, rfl, rfl⟩⟩
  have HNW : Hid (∀ j u, (i64s ws)[j]? = some u → (w1.alloc (.cells #[] 3)).cell? ((⟨b, o, none⟩ : Addr).add j) = some u) := news_of_rd ((H4.out.later HB1.out).later (below1 w1 (.cells #[] 3)))
  have HCL : Hid ((i64s ws).length = n * 1) := by unfold Hid; rw [i64s_length, HN.out]; omega
  go_wp2_with (first
    | (at_builtin; refine wpList_append_lies _ rfl _ _ _ rfl w1.heap.size 3 i0 _ 1 8 Try.underlying23 hi hz0 hz1 hz2 rfl (by omega) _ 0 [] rfl HE0.out ⟨b, o, none⟩ n c (i64s ws) rfl HCL.out HNW.out (i64s_one _) h0 (by unfold maxLen; omega) (by omega) (by simp) (w1.heap.size + 1) (by simp) ?_; intro g2 cap2 w2 hown2 hgrow2 hat2 hlt2; rw [Nat.zero_add, List.nil_append] at hown2; have HO2 : Hid (w2.ownsRow w1.heap.size 3 1 (.slice (some ⟨g2, 0, none⟩) n cap2) n (i64s ws)) := hown2; have HB2 : Hid (Below w.heap.size w w2) := (Below.more HB1.out _).grown (show (w1.alloc (.cells #[] 3)).grownBy w2 (some w1.heap.size) from hgrow2) (by have := HB1.out.size; simp; omega) (fun j hj => by cases hj; exact HB1.out.size); have hs2 : w1.heap.size + 1 ≤ w2.heap.size := (by have := hgrow2.size; simpa using this); clear hown2 hgrow2 hat2 hlt2)
    | (at_builtin; refine wpList_append_lies _ rfl _ _ _ rfl w1.heap.size 3 i0 _ 1 8 Try.underlying23 hi hz0 hz1 hz2 rfl (by omega) _ n (i64s ws) rfl (HO2.out.alloc _) ⟨w2.heap.size, 0, none⟩ 1 1 [.int .i64 (-77)] rfl rfl (cell_one_at _ _ _ _ rfl) (by simp [Value.oneCell']) (by omega) (by unfold maxLen; omega) (by omega) (by simp; omega) (w2.heap.size + 1) (by simp) ?_; intro g3 cap3 w3 hown3 hgrow3 hat3 hlt3; have hcp3 := (row_cap hown3).2.1; have hcm3 := (row_cap hown3).2.2.1; have HO3 : Hid (w3.ownsRow w1.heap.size 3 1 (.slice (some ⟨g3, 0, none⟩) (n + 1) cap3) (n + 1) (i64s ws ++ [.int .i64 (-77)])) := hown3; have HG3 : Hid (∃ r, (w2.alloc (.cells #[.int .i64 (-77)] 3)).grownBy w3 (some r) ∧ w1.heap.size ≤ r) := ⟨_, hgrow3, (row_cap HO2.out).1⟩; clear hown3 hgrow3 hat3 hlt3)
    | fail)
  obtain ⟨a, ha⟩ : ∃ a, a = some (⟨b, o, none⟩ : Addr) := ⟨_, rfl⟩
  rw [← ha] at H4 ⊢
  have HA : Hid (a = some (⟨b, o, none⟩ : Addr)) := ha
  clear ha
  unfold maxLen at hcm3
  have HB3 : Hid (Below w.heap.size w w3) := by
    obtain ⟨r, hg, hr⟩ := HG3.out
    exact (Below.more HB2.out _).grown hg (by have := HB2.out.size; simp; omega) (fun j hj => by cases hj; have := HB1.out.size; omega)
  have HRG : Hid (RdI w3 (some ⟨g3, 0, none⟩) ws) := rdi_of_row HO3.out
  have k1 : (0 : Int) ≤ (n : Int) := by omega
  have k2 : (n : Int) ≤ (cap3 : Int) := by omega
  obtain ⟨L, hL⟩ : ∃ L, unL T ws = L := ⟨_, rfl⟩
  obtain ⟨E, hE⟩ : ∃ E, unE T ws = E := ⟨_, rfl⟩
  obtain ⟨m, hm⟩ : ∃ m, L.length = m := ⟨_, rfl⟩
  have HML : Hid (L.length = m) := hm
  have hmn : m ≤ 1048576 := by
    have := un_len T ws
    rw [hL, hm, HN.out] at this
    omega
  have hp3 := rUnpack_any a c n ws T s HN.out HT.out w3 (by omega) (by omega) (H4.out.later HB3.out)
  rw [hL, hE, hm] at hp3
  go_wp2_with fail
  refine hp3.mono ?_
  rintro e w4 ⟨v, rfl, hrow, hb4⟩
  obtain ⟨a7, c7, rfl⟩ := spell hrow
  have HR7 : Hid (w4.ownsRow w3.heap.size 33 1 (.slice a7 m c7) m (u64s L)) := hrow
  have HB4 : Hid (Below w3.heap.size w3 w4) := hb4
  have HRG4 : Hid (RdI w4 (some ⟨g3, 0, none⟩) ws) := HRG.out.later hb4
  clear hrow hb4 hp3
  have hp4 := unpack_any (some ⟨g3, 0, none⟩) cap3 n ws T s HN.out HT.out w4 (by omega) (by omega) HRG4.out
  rw [hL, hE, hm] at hp4
  go_wp2_with fail
  refine hp4.mono ?_
  rintro e w5 ⟨v, rfl, hrow, hb5⟩
  obtain ⟨a9, c9, rfl⟩ := spell hrow
  have HR9 : Hid (w5.ownsRow (w4.heap.size + 1) 33 1 (.slice a9 m c9) m (u64s L)) := hrow
  have HB5 : Hid (Below w4.heap.size w4 w5) := hb5
  have HRG5 : Hid (RdI w5 (some ⟨g3, 0, none⟩) ws) := HRG4.out.later hb5
  clear hrow hb5 hp4
  have hp5 := unpack_any (some ⟨g3, 0, none⟩) cap3 n ws T s HN.out HT.out w5 (by omega) (by omega) HRG5.out
  rw [hL, hE, hm] at hp5
  clear hL hE hm
  go_wp2_with fail
  refine hp5.mono ?_
  rintro e w6 ⟨v, rfl, hrow, hb6⟩
  obtain ⟨a11, c11, rfl⟩ := spell hrow
  have HR11 : Hid (w6.ownsRow (w5.heap.size + 1) 33 1 (.slice a11 m c11) m (u64s L)) := hrow
  have HB6 : Hid (Below w5.heap.size w5 w6) := hb6
  clear hrow hb6 hp5
  have HR7b : Hid (w6.ownsRow w3.heap.size 33 1 (.slice a7 m c7) m (u64s L)) := row_later (row_later HR7.out HB5.out) HB6.out
  have HR9b : Hid (w6.ownsRow (w4.heap.size + 1) 33 1 (.slice a9 m c9) m (u64s L)) := row_later HR9.out HB6.out
  go_wp2_with fail
  refine (same_any _ _ _ _ m L HML.out w6 (by omega) (rdu_row HML.out HR9b.out) (rdu_row HML.out HR7b.out)).mono ?_
  rintro e w7 ⟨rfl, hb7⟩
  have HB7 : Hid (Below w6.heap.size w6 w7) := hb7
  clear hb7
  have HR7c : Hid (w7.ownsRow w3.heap.size 33 1 (.slice a7 m c7) m (u64s L)) := row_later HR7b.out HB7.out
  have HR11c : Hid (w7.ownsRow (w5.heap.size + 1) 33 1 (.slice a11 m c11) m (u64s L)) := row_later HR11.out HB7.out
  go_wp2_with fail
  refine (same_any _ _ _ _ m L HML.out w7 (by omega) (rdu_row HML.out HR11c.out) (rdu_row HML.out HR7c.out)).mono ?_
  rintro e w8 ⟨rfl, hb8⟩
  have HB8 : Hid (Below w7.heap.size w7 w8) := hb8
  clear hb8
  have HB38 : Hid (Below w3.heap.size w3 w8) := Below.then (Below.then (Below.then (Below.then HB4.out HB5.out) HB6.out) HB7.out) HB8.out
  have HB08 : Hid (Below w.heap.size w w8) := Below.then HB3.out HB38.out
  have HR7d : Hid (w8.ownsRow w3.heap.size 33 1 (.slice a7 m c7) m (u64s L)) := row_later HR7c.out HB8.out
  have HR9d : Hid (w8.ownsRow (w4.heap.size + 1) 33 1 (.slice a9 m c9) m (u64s L)) := row_later (row_later HR9b.out HB7.out) HB8.out
  have HR11d : Hid (w8.ownsRow (w5.heap.size + 1) 33 1 (.slice a11 m c11) m (u64s L)) := row_later HR11c.out HB8.out
  have HRG8 : Hid (RdI w8 (some ⟨g3, 0, none⟩) ws) := HRG.out.later HB38.out
  have hx77 : w8.cell? ⟨g3, n, none⟩ = some (.int .i64 (-77)) := by
    have h := row_later HO3.out HB38.out
    rw [h.cellAt n (by omega), List.getElem?_append_right (by simp [HN.out])]
    simp [HN.out]
  have HF7 : Hid (∀ j, (Value.slice a7 m c7).ownBlock = some j → j < w4.heap.size) := fun j hj => (HR7.out.lt j hj).2
  have HF9 : Hid (∀ j, (Value.slice a9 m c9).ownBlock = some j → w4.heap.size + 1 ≤ j ∧ j < w5.heap.size) := fun j hj => HR9.out.lt j hj
  have HF11 : Hid (∀ j, (Value.slice a11 m c11).ownBlock = some j → w5.heap.size + 1 ≤ j) := fun j hj => (HR11.out.lt j hj).1
  have hz45 : Hid (w.heap.size ≤ w4.heap.size ∧ w5.heap.size ≤ w8.heap.size ∧ w4.heap.size ≤ w5.heap.size) := by
    have h1 := HB3.out.size
    have h2 := HB4.out.size
    have h3 := HB5.out.size
    have h4 := HB6.out.size
    have h5 := HB7.out.size
    have h6 := HB8.out.size
    exact ⟨by omega, by omega, by omega⟩
  have n1 : (n : Int) < ((n + 1 : Nat) : Int) := by omega
  go_wp2_with fail
  clear hx77 n1 k1 k2 hcp3 hcm3
  rw [HA.out]
  go_loopw [74] (fun i wr => ∃ k : Nat, k ≤ n ∧ i = .int .i64 (k : Int) ∧ Kept (fun _ => False) w8 wr) (fun i _ => n - (intOf i).toNat)
  case atStart => exact ⟨0, by omega, rfl, Kept.refl _ _⟩
  case round =>
    obtain ⟨k, hk, rfl, hkp⟩ := hrel
    obtain ⟨W9, rfl⟩ : ∃ W9, W9 = wr := ⟨_, rfl⟩
    have HK8 : Hid (Kept (fun _ => False) w8 W9) := hkp
    by_cases hkn : k < n
    · obtain ⟨b1, o1, e1, c1⟩ := (H4.out.later HB08.out) k (by rw [HN.out]; exact hkn)
      obtain ⟨b2, o2, e2, c2⟩ := HRG8.out k (by rw [HN.out]; exact hkn)
      rw [HA.out] at e1
      obtain ⟨eb1, eo1⟩ : b = b1 ∧ o = o1 := by simpa using e1
      obtain ⟨eb2, eo2⟩ : g3 = b2 ∧ 0 = o2 := by simpa using e2
      rw [← eb1, ← eo1] at c1
      rw [← eb2, ← eo2, Nat.zero_add] at c2
      have c1 := hkp.cell c1 (fun h => h)
      have c2 := hkp.cell c2 (fun h => h)
      obtain ⟨y, hy⟩ : ∃ y, ws.getD k 0 = y := ⟨_, rfl⟩
      rw [hy] at c1 c2
      clear hy e1 e2 eb1 eo1 eb2 eo2 hkp
      have i1 : (0 : Int) ≤ (k : Int) := by omega
      have i2 : (k : Int) < (n : Int) := by omega
      go_wp2_with fail
      go_region_held3 (fun w' => w'.cell? ⟨b, o + k, none⟩ = some (.int .i64 y) ∧ w'.cell? ⟨g3, k, none⟩ = some (.int .i64 y)) (go_keep) (fail)
      go_wp2_with fail
      go_roundw
      case rel => exact ⟨k + 1, by omega, by go_num, HK8.out.drew⟩
      case measure => simp [intOf]; omega
    · have hkn' : decide ((k : Int) < (n : Int)) = false := by simp; omega
      clear hkp
      have HR9e : Hid (W9.ownsRow w4.heap.size 33 1 (.slice a9 m c9) m (u64s L)) := row_base (HK8.out.row HR9d.out (fun _ _ h => h)) (Nat.le_succ _)
      go_wp2_with fail
      go_loopw [89] (fun i wr => ∃ k : Nat, k ≤ m ∧ i = .int .i64 (k : Int) ∧ Kept (fun j => (Value.slice a9 m c9).ownBlock = some j) w8 wr ∧ ∃ ys, wr.ownsRow w4.heap.size 33 1 (.slice a9 m c9) m (u64z ys)) (fun i _ => m - (intOf i).toNat)
      case atStart => exact ⟨0, by omega, rfl, HK8.out.mono (fun _ _ h => h.elim), _, by rw [← u64z_of]; exact HR9e.out⟩
      case round =>
        obtain ⟨k, hk, rfl, hkp, ys, hrow⟩ := hrel
        have HKq : Hid (Kept (fun j => (Value.slice a9 m c9).ownBlock = some j) w8 wr) := hkp
        have HRq : Hid (wr.ownsRow w4.heap.size 33 1 (.slice a9 m c9) m (u64z ys)) := hrow
        clear hkp
        by_cases hkm : k < m
        · obtain ⟨g5, e5⟩ : ∃ g5, a9 = some ⟨g5, 0, none⟩ := by
            rcases hrow.2 with ⟨_, h0⟩ | ⟨r, cap, cur, hv, _⟩
            · omega
            · exact ⟨r, by simpa using (by simpa using hv : a9 = some ⟨r, 0, none⟩ ∧ c9 = cap).1⟩
          subst e5
          have hyl : k < ys.length := by have := hrow.1; simp at this; omega
          have q0 : wr.cell? ⟨g5, k, none⟩ = some (.int .u64 (ys.getD k 0)) := by
            rw [hrow.cellAt k (by omega)]
            simp [u64z, hyl]
          have f0 := hrow.frozenAt k
          clear hrow
          obtain ⟨y, hy⟩ : ∃ y, ys.getD k 0 = y := ⟨_, rfl⟩
          rw [hy] at q0
          clear hy
          have i1 : (0 : Int) ≤ (k : Int) := by omega
          have i2 : (k : Int) < (m : Int) := by omega
          go_wp2_with fail
          go_roundw
          case rel =>
            have s1 := HRq.out.stored k (.int .u64 (IntKind.u64.wrap (7 - y)))
            rw [u64z_set] at s1
            exact ⟨k + 1, by omega, by go_num, HKq.out.grown s1.2 (fun j hj _ => hj), _, s1.1⟩
          case measure => simp [intOf]; omega
        · have hkn' : decide ((k : Int) < (m : Int)) = false := by simp; omega
          clear hrow
          obtain ⟨i1, hi1, hy0, hy1, hy2⟩ := info_parts info64
          have HSW : Hid (w4.heap.size ≤ wr.heap.size) := by
            have h1 := HKq.out.size
            have h2 := hz45.out
            unfold Hid; omega
          go_wp2_with (at_builtin; refine wpList_append_lies _ rfl _ _ _ rfl w4.heap.size 33 i1 _ 1 8 Try.underlying28 hi1 hy0 hy1 hy2 rfl (by omega) _ m (u64z ys) rfl (HRq.out.alloc _) ⟨wr.heap.size, 0, none⟩ 1 1 [.int .u64 9] rfl rfl (cell_one_at _ _ _ _ rfl) (by simp [Value.oneCell']) (by omega) (by unfold maxLen; omega) (by omega) (by have := HSW.out; simp; omega) (wr.heap.size + 1) (by simp) ?_; intro g7 cap7 w10 hown7 hgrow7 hat7 hlt7; have HG7 : Hid ((wr.alloc (.cells #[.int .u64 9] 33)).grownBy w10 (Value.slice a9 m c9).ownBlock) := hgrow7; clear hown7 hgrow7 hat7 hlt7)
          have HK10 : Hid (Kept (fun j => (Value.slice a9 m c9).ownBlock = some j) w8 w10) := (HKq.out.alloc _).grown HG7.out (fun j hj _ => hj)
          have HR7e : Hid (w10.ownsRow w3.heap.size 33 1 (.slice a7 m c7) m (u64s L)) := HK10.out.row HR7d.out (fun j hj e => by have := HF7.out j hj; have := HF9.out j e; omega)
          have HR11e : Hid (w10.ownsRow (w5.heap.size + 1) 33 1 (.slice a11 m c11) m (u64s L)) := HK10.out.row HR11d.out (fun j hj e => by have := HF11.out j hj; have := HF9.out j e; omega)
          refine (same_any _ _ _ _ m L HML.out w10 (by omega) (rdu_row HML.out HR11e.out) (rdu_row HML.out HR7e.out)).mono ?_
          rintro e w11 ⟨rfl, hb11⟩
          have HB11 : Hid (Below w.heap.size w w11) := Below.then (Kept.toBelow HB08.out HK10.out (fun j hj => by have := HF9.out j hj; have := hz45.out; omega)) hb11
          clear hb11
          go_wp2_with fail
          go_ret
          exact ⟨ret_bool (by simp), HB11.out⟩
set_option maxHeartbeats 4000000 in
set_option maxRecDepth 100000 in
theorem walk_zero (s : ByteArray) (ad : Addr) (c n : Nat) (ws : List Int) (T : List Bool) (hn : ws.length = n) (hT : tb (bys s) = T) (h0 : n = 0) (w : World) (hl : n ≤ 1048576) (hs : s.size ≤ 1048576) (h4 : RdI w (some ad) ws) :
    Calls Try.prog 8 #[.string s, .slice (some ad) n c] w fun e w' => e = .returned (.bool true) ∧ Below w.heap.size w w' := by
  obtain ⟨i0, hi, hz0, hz1, hz2⟩ := info_parts infoInt
  have HN : Hid (ws.length = n) := hn
  have HT : Hid (tb (bys s) = T) := hT
  have H4 : Hid (RdI w (some ad) ws) := h4
  have H0 : Hid (n = 0) := h0
  clear hn hT h4 h0
  go_enter Try.func8, Try.ntmps8
  go_wp2_with fail
  refine (lives_any _).mono ?_
  rintro e w1 ⟨rfl, hb1⟩
  have HB1 : Hid (Below w.heap.size w w1) := hb1
  clear hb1
  have HE0 : Hid ((w1.alloc (.cells #[] 3)).ownsRow w1.heap.size 3 1 (.slice (some ⟨w1.heap.size, 0, none⟩) 0 0) 0 []) :=
    ⟨rfl, Or.inr ⟨w1.heap.size, 0, #[], rfl, Nat.le_refl _, heap_alloc_new w1 _, Nat.le_refl _, Nat.zero_le _, rfl, rfl⟩⟩
  have HWS : Hid (ws = []) := List.length_eq_zero_iff.1 (HN.out.trans H0.out)
  have HNW : Hid (∀ j u, (i64s ws)[j]? = some u → (w1.alloc (.cells #[] 3)).cell? (ad.add j) = some u) := fun j u hu => by rw [HWS.out] at hu; simp [i64s] at hu
  have HCL : Hid ((i64s ws).length = n * 1) := by unfold Hid; rw [i64s_length, HN.out]; omega
  go_wp2_with (first
    | (at_builtin; refine wpList_append_fits _ rfl _ _ _ rfl w1.heap.size 3 i0 1 Try.underlying23 hi hz1 w1.heap.size 0 0 [] rfl HE0.out ad n c (i64s ws) rfl HCL.out HNW.out (i64s_one _) (by have := H0.out; omega) ?_; intro w2 hown2 hgrow2; rw [Nat.zero_add, List.nil_append] at hown2; have HO2 : Hid (w2.ownsRow w1.heap.size 3 1 (.slice (some ⟨w1.heap.size, 0, none⟩) n 0) n (i64s ws)) := hown2; have HB2 : Hid (Below w.heap.size w w2) := (Below.more HB1.out _).grown hgrow2 (by have := HB1.out.size; simp; omega) (fun j hj => by cases hj; exact HB1.out.size); have hs2 : w1.heap.size + 1 ≤ w2.heap.size := (by have := hgrow2.size; simpa using this); clear hown2 hgrow2)
    | (at_builtin; refine wpList_append_lies _ rfl _ _ _ rfl w1.heap.size 3 i0 _ 1 8 Try.underlying23 hi hz0 hz1 hz2 rfl (by omega) _ n (i64s ws) rfl (HO2.out.alloc _) ⟨w2.heap.size, 0, none⟩ 1 1 [.int .i64 (-77)] rfl rfl (cell_one_at _ _ _ _ rfl) (by simp [Value.oneCell']) (by omega) (by unfold maxLen; omega) (by omega) (by simp; omega) (w2.heap.size + 1) (by simp) ?_; intro g3 cap3 w3 hown3 hgrow3 hat3 hlt3; have hcp3 := (row_cap hown3).2.1; have hcm3 := (row_cap hown3).2.2.1; have HO3 : Hid (w3.ownsRow w1.heap.size 3 1 (.slice (some ⟨g3, 0, none⟩) (n + 1) cap3) (n + 1) (i64s ws ++ [.int .i64 (-77)])) := hown3; have HG3 : Hid (∃ r, (w2.alloc (.cells #[.int .i64 (-77)] 3)).grownBy w3 (some r) ∧ w1.heap.size ≤ r) := ⟨_, hgrow3, (row_cap HO2.out).1⟩; clear hown3 hgrow3 hat3 hlt3)
    | fail)
  obtain ⟨a, ha⟩ : ∃ a, a = some ad := ⟨_, rfl⟩
  rw [← ha] at H4 ⊢
  clear ha
  unfold maxLen at hcm3
  have HB3 : Hid (Below w.heap.size w w3) := by
    obtain ⟨r, hg, hr⟩ := HG3.out
    exact (Below.more HB2.out _).grown hg (by have := HB2.out.size; simp; omega) (fun j hj => by cases hj; have := HB1.out.size; omega)
  have HRG : Hid (RdI w3 (some ⟨g3, 0, none⟩) ws) := rdi_of_row HO3.out
  have k1 : (0 : Int) ≤ (n : Int) := by omega
  have k2 : (n : Int) ≤ (cap3 : Int) := by omega
  obtain ⟨L, hL⟩ : ∃ L, unL T ws = L := ⟨_, rfl⟩
  obtain ⟨E, hE⟩ : ∃ E, unE T ws = E := ⟨_, rfl⟩
  obtain ⟨m, hm⟩ : ∃ m, L.length = m := ⟨_, rfl⟩
  have HML : Hid (L.length = m) := hm
  have hmn : m ≤ 1048576 := by
    have := un_len T ws
    rw [hL, hm, HN.out] at this
    omega
  have hp3 := rUnpack_any a c n ws T s HN.out HT.out w3 (by omega) (by omega) (H4.out.later HB3.out)
  rw [hL, hE, hm] at hp3
  go_wp2_with fail
  refine hp3.mono ?_
  rintro e w4 ⟨v, rfl, hrow, hb4⟩
  obtain ⟨a7, c7, rfl⟩ := spell hrow
  have HR7 : Hid (w4.ownsRow w3.heap.size 33 1 (.slice a7 m c7) m (u64s L)) := hrow
  have HB4 : Hid (Below w3.heap.size w3 w4) := hb4
  have HRG4 : Hid (RdI w4 (some ⟨g3, 0, none⟩) ws) := HRG.out.later hb4
  clear hrow hb4 hp3
  have hp4 := unpack_any (some ⟨g3, 0, none⟩) cap3 n ws T s HN.out HT.out w4 (by omega) (by omega) HRG4.out
  rw [hL, hE, hm] at hp4
  go_wp2_with fail
  refine hp4.mono ?_
  rintro e w5 ⟨v, rfl, hrow, hb5⟩
  obtain ⟨a9, c9, rfl⟩ := spell hrow
  have HR9 : Hid (w5.ownsRow (w4.heap.size + 1) 33 1 (.slice a9 m c9) m (u64s L)) := hrow
  have HB5 : Hid (Below w4.heap.size w4 w5) := hb5
  have HRG5 : Hid (RdI w5 (some ⟨g3, 0, none⟩) ws) := HRG4.out.later hb5
  clear hrow hb5 hp4
  have hp5 := unpack_any (some ⟨g3, 0, none⟩) cap3 n ws T s HN.out HT.out w5 (by omega) (by omega) HRG5.out
  rw [hL, hE, hm] at hp5
  clear hL hE hm
  go_wp2_with fail
  refine hp5.mono ?_
  rintro e w6 ⟨v, rfl, hrow, hb6⟩
  obtain ⟨a11, c11, rfl⟩ := spell hrow
  have HR11 : Hid (w6.ownsRow (w5.heap.size + 1) 33 1 (.slice a11 m c11) m (u64s L)) := hrow
  have HB6 : Hid (Below w5.heap.size w5 w6) := hb6
  clear hrow hb6 hp5
  have HR7b : Hid (w6.ownsRow w3.heap.size 33 1 (.slice a7 m c7) m (u64s L)) := row_later (row_later HR7.out HB5.out) HB6.out
  have HR9b : Hid (w6.ownsRow (w4.heap.size + 1) 33 1 (.slice a9 m c9) m (u64s L)) := row_later HR9.out HB6.out
  go_wp2_with fail
  refine (same_any _ _ _ _ m L HML.out w6 (by omega) (rdu_row HML.out HR9b.out) (rdu_row HML.out HR7b.out)).mono ?_
  rintro e w7 ⟨rfl, hb7⟩
  have HB7 : Hid (Below w6.heap.size w6 w7) := hb7
  clear hb7
  have HR7c : Hid (w7.ownsRow w3.heap.size 33 1 (.slice a7 m c7) m (u64s L)) := row_later HR7b.out HB7.out
  have HR11c : Hid (w7.ownsRow (w5.heap.size + 1) 33 1 (.slice a11 m c11) m (u64s L)) := row_later HR11.out HB7.out
  go_wp2_with fail
  refine (same_any _ _ _ _ m L HML.out w7 (by omega) (rdu_row HML.out HR11c.out) (rdu_row HML.out HR7c.out)).mono ?_
  rintro e w8 ⟨rfl, hb8⟩
  have HB8 : Hid (Below w7.heap.size w7 w8) := hb8
  clear hb8
  have HB38 : Hid (Below w3.heap.size w3 w8) := Below.then (Below.then (Below.then (Below.then HB4.out HB5.out) HB6.out) HB7.out) HB8.out
  have HB08 : Hid (Below w.heap.size w w8) := Below.then HB3.out HB38.out
  have HR7d : Hid (w8.ownsRow w3.heap.size 33 1 (.slice a7 m c7) m (u64s L)) := row_later HR7c.out HB8.out
  have HR9d : Hid (w8.ownsRow (w4.heap.size + 1) 33 1 (.slice a9 m c9) m (u64s L)) := row_later (row_later HR9b.out HB7.out) HB8.out
  have HR11d : Hid (w8.ownsRow (w5.heap.size + 1) 33 1 (.slice a11 m c11) m (u64s L)) := row_later HR11c.out HB8.out
  have HRG8 : Hid (RdI w8 (some ⟨g3, 0, none⟩) ws) := HRG.out.later HB38.out
  have hx77 : w8.cell? ⟨g3, n, none⟩ = some (.int .i64 (-77)) := by
    have h := row_later HO3.out HB38.out
    rw [h.cellAt n (by omega), List.getElem?_append_right (by simp [HN.out])]
    simp [HN.out]
  have HF7 : Hid (∀ j, (Value.slice a7 m c7).ownBlock = some j → j < w4.heap.size) := fun j hj => (HR7.out.lt j hj).2
  have HF9 : Hid (∀ j, (Value.slice a9 m c9).ownBlock = some j → w4.heap.size + 1 ≤ j ∧ j < w5.heap.size) := fun j hj => HR9.out.lt j hj
  have HF11 : Hid (∀ j, (Value.slice a11 m c11).ownBlock = some j → w5.heap.size + 1 ≤ j) := fun j hj => (HR11.out.lt j hj).1
  have hz45 : Hid (w.heap.size ≤ w4.heap.size ∧ w5.heap.size ≤ w8.heap.size ∧ w4.heap.size ≤ w5.heap.size) := by
    have h1 := HB3.out.size
    have h2 := HB4.out.size
    have h3 := HB5.out.size
    have h4 := HB6.out.size
    have h5 := HB7.out.size
    have h6 := HB8.out.size
    exact ⟨by omega, by omega, by omega⟩
  have n1 : (n : Int) < ((n + 1 : Nat) : Int) := by omega
  go_wp2_with fail
  clear hx77 n1 k1 k2 hcp3 hcm3
  have hn0 := H0.out
  have HK8 : Hid (Kept (fun _ => False) w8 w8) := Kept.refl _ _
  have HR9e : Hid (w8.ownsRow w4.heap.size 33 1 (.slice a9 m c9) m (u64s L)) := row_base HR9d.out (Nat.le_succ _)
  subst hn0
  refine wp_loop_rounds 1 ?_
  rw [rounds_succ]
  go_wp2_with fail
  go_loopw [89] (fun i wr => ∃ k : Nat, k ≤ m ∧ i = .int .i64 (k : Int) ∧ Kept (fun j => (Value.slice a9 m c9).ownBlock = some j) w8 wr ∧ ∃ ys, wr.ownsRow w4.heap.size 33 1 (.slice a9 m c9) m (u64z ys)) (fun i _ => m - (intOf i).toNat)
  case atStart => exact ⟨0, by omega, rfl, HK8.out.mono (fun _ _ h => h.elim), _, by rw [← u64z_of]; exact HR9e.out⟩
  case round =>
    obtain ⟨k, hk, rfl, hkp, ys, hrow⟩ := hrel
    have HKq : Hid (Kept (fun j => (Value.slice a9 m c9).ownBlock = some j) w8 wr) := hkp
    have HRq : Hid (wr.ownsRow w4.heap.size 33 1 (.slice a9 m c9) m (u64z ys)) := hrow
    clear hkp
    by_cases hkm : k < m
    · obtain ⟨g5, e5⟩ : ∃ g5, a9 = some ⟨g5, 0, none⟩ := by
        rcases hrow.2 with ⟨_, h0⟩ | ⟨r, cap, cur, hv, _⟩
        · omega
        · exact ⟨r, by simpa using (by simpa using hv : a9 = some ⟨r, 0, none⟩ ∧ c9 = cap).1⟩
      subst e5
      have hyl : k < ys.length := by have := hrow.1; simp at this; omega
      have q0 : wr.cell? ⟨g5, k, none⟩ = some (.int .u64 (ys.getD k 0)) := by
        rw [hrow.cellAt k (by omega)]
        simp [u64z, hyl]
      have f0 := hrow.frozenAt k
      clear hrow
      obtain ⟨y, hy⟩ : ∃ y, ys.getD k 0 = y := ⟨_, rfl⟩
      rw [hy] at q0
      clear hy
      have i1 : (0 : Int) ≤ (k : Int) := by omega
      have i2 : (k : Int) < (m : Int) := by omega
      go_wp2_with fail
      go_roundw
      case rel =>
        have s1 := HRq.out.stored k (.int .u64 (IntKind.u64.wrap (7 - y)))
        rw [u64z_set] at s1
        exact ⟨k + 1, by omega, by go_num, HKq.out.grown s1.2 (fun j hj _ => hj), _, s1.1⟩
      case measure => simp [intOf]; omega
    · have hkn' : decide ((k : Int) < (m : Int)) = false := by simp; omega
      clear hrow
      obtain ⟨i1, hi1, hy0, hy1, hy2⟩ := info_parts info64
      have HSW : Hid (w4.heap.size ≤ wr.heap.size) := by
        have h1 := HKq.out.size
        have h2 := hz45.out
        unfold Hid; omega
      go_wp2_with (at_builtin; refine wpList_append_lies _ rfl _ _ _ rfl w4.heap.size 33 i1 _ 1 8 Try.underlying28 hi1 hy0 hy1 hy2 rfl (by omega) _ m (u64z ys) rfl (HRq.out.alloc _) ⟨wr.heap.size, 0, none⟩ 1 1 [.int .u64 9] rfl rfl (cell_one_at _ _ _ _ rfl) (by simp [Value.oneCell']) (by omega) (by unfold maxLen; omega) (by omega) (by have := HSW.out; simp; omega) (wr.heap.size + 1) (by simp) ?_; intro g7 cap7 w10 hown7 hgrow7 hat7 hlt7; have HG7 : Hid ((wr.alloc (.cells #[.int .u64 9] 33)).grownBy w10 (Value.slice a9 m c9).ownBlock) := hgrow7; clear hown7 hgrow7 hat7 hlt7)
      have HK10 : Hid (Kept (fun j => (Value.slice a9 m c9).ownBlock = some j) w8 w10) := (HKq.out.alloc _).grown HG7.out (fun j hj _ => hj)
      have HR7e : Hid (w10.ownsRow w3.heap.size 33 1 (.slice a7 m c7) m (u64s L)) := HK10.out.row HR7d.out (fun j hj e => by have := HF7.out j hj; have := HF9.out j e; omega)
      have HR11e : Hid (w10.ownsRow (w5.heap.size + 1) 33 1 (.slice a11 m c11) m (u64s L)) := HK10.out.row HR11d.out (fun j hj e => by have := HF11.out j hj; have := HF9.out j e; omega)
      refine (same_any _ _ _ _ m L HML.out w10 (by omega) (rdu_row HML.out HR11e.out) (rdu_row HML.out HR7e.out)).mono ?_
      rintro e w11 ⟨rfl, hb11⟩
      have HB11 : Hid (Below w.heap.size w w11) := Below.then (Kept.toBelow HB08.out HK10.out (fun j hj => by have := HF9.out j hj; have := hz45.out; omega)) hb11
      clear hb11
      go_wp2_with fail
      go_ret
      exact ⟨ret_bool (by simp), HB11.out⟩
set_option maxHeartbeats 4000000 in
set_option maxRecDepth 100000 in
theorem walk_nil (s : ByteArray) (c n : Nat) (ws : List Int) (T : List Bool) (hn : ws.length = n) (hT : tb (bys s) = T) (h0 : n = 0) (hc : c = 0) (w : World) (hl : n ≤ 1048576) (hs : s.size ≤ 1048576) (h4 : RdI w none ws) :
    Calls Try.prog 8 #[.string s, .slice none n c] w fun e w' => e = .returned (.bool true) ∧ Below w.heap.size w w' := by
  obtain ⟨i0, hi, hz0, hz1, hz2⟩ := info_parts infoInt
  have HN : Hid (ws.length = n) := hn
  have HT : Hid (tb (bys s) = T) := hT
  have H4 : Hid (RdI w none ws) := h4
  have H0 : Hid (n = 0) := h0
  have HC0 : Hid (c = 0) := hc
  clear hn hT h4 h0 hc
  go_enter Try.func8, Try.ntmps8
  go_wp2_with fail
  refine (lives_any _).mono ?_
  rintro e w1 ⟨rfl, hb1⟩
  have HB1 : Hid (Below w.heap.size w w1) := hb1
  clear hb1
  have HWS : Hid (ws = []) := List.length_eq_zero_iff.1 (HN.out.trans H0.out)
  have HO2 : Hid ((w1.alloc (.cells #[] 3)).ownsRow w1.heap.size 3 1 (.slice (some ⟨w1.heap.size, 0, none⟩) n 0) n (i64s ws)) := by
    unfold Hid
    rw [HWS.out, H0.out]
    exact ⟨rfl, Or.inr ⟨w1.heap.size, 0, #[], rfl, Nat.le_refl _, heap_alloc_new w1 _, Nat.le_refl _, Nat.zero_le _, rfl, rfl⟩⟩
  go_wp2_with (first
    | (at_builtin; refine wpList_append_own_none rfl _ _ _ rfl w1.heap.size 3 i0 1 Try.underlying23 hi (.slice (some ⟨w1.heap.size, 0, none⟩) n 0) n (i64s ws) (by show Value.slice _ 0 0 = _; rw [H0.out]) HO2.out (by show Value.slice none n c = _; rw [H0.out, HC0.out]) ?_; have HB2 : Hid (Below w.heap.size w (w1.alloc (.cells #[] 3))) := Below.more HB1.out _; have hs2 : w1.heap.size + 1 ≤ (w1.alloc (.cells #[] 3)).heap.size := (by simp); generalize w1.alloc (.cells #[] 3) = w2 at HO2 HB2 hs2 ⊢)
    | (at_builtin; refine wpList_append_lies _ rfl _ _ _ rfl w1.heap.size 3 i0 _ 1 8 Try.underlying23 hi hz0 hz1 hz2 rfl (by omega) _ n (i64s ws) rfl (HO2.out.alloc _) ⟨w2.heap.size, 0, none⟩ 1 1 [.int .i64 (-77)] rfl rfl (cell_one_at _ _ _ _ rfl) (by simp [Value.oneCell']) (by omega) (by unfold maxLen; omega) (by omega) (by simp; omega) (w2.heap.size + 1) (by simp) ?_; intro g3 cap3 w3 hown3 hgrow3 hat3 hlt3; have hcp3 := (row_cap hown3).2.1; have hcm3 := (row_cap hown3).2.2.1; have HO3 : Hid (w3.ownsRow w1.heap.size 3 1 (.slice (some ⟨g3, 0, none⟩) (n + 1) cap3) (n + 1) (i64s ws ++ [.int .i64 (-77)])) := hown3; have HG3 : Hid (∃ r, (w2.alloc (.cells #[.int .i64 (-77)] 3)).grownBy w3 (some r) ∧ w1.heap.size ≤ r) := ⟨_, hgrow3, (row_cap HO2.out).1⟩; clear hown3 hgrow3 hat3 hlt3)
    | fail)
  obtain ⟨a, ha⟩ : ∃ a : Option Addr, a = none := ⟨_, rfl⟩
  have HA : Hid (a = none) := ha
  rw [← ha] at H4
  clear ha
  unfold maxLen at hcm3
  have HB3 : Hid (Below w.heap.size w w3) := by
    obtain ⟨r, hg, hr⟩ := HG3.out
    exact (Below.more HB2.out _).grown hg (by have := HB2.out.size; simp; omega) (fun j hj => by cases hj; have := HB1.out.size; omega)
  have HRG : Hid (RdI w3 (some ⟨g3, 0, none⟩) ws) := rdi_of_row HO3.out
  have k1 : (0 : Int) ≤ (n : Int) := by omega
  have k2 : (n : Int) ≤ (cap3 : Int) := by omega
  obtain ⟨L, hL⟩ : ∃ L, unL T ws = L := ⟨_, rfl⟩
  obtain ⟨E, hE⟩ : ∃ E, unE T ws = E := ⟨_, rfl⟩
  obtain ⟨m, hm⟩ : ∃ m, L.length = m := ⟨_, rfl⟩
  have HML : Hid (L.length = m) := hm
  have hmn : m ≤ 1048576 := by
    have := un_len T ws
    rw [hL, hm, HN.out] at this
    omega
  have hp3 := rUnpack_any none c n ws T s HN.out HT.out w3 (by omega) (by omega) (by have h := H4.out.later HB3.out; rw [HA.out] at h; exact h)
  rw [hL, hE, hm] at hp3
  go_wp2_with fail
  refine hp3.mono ?_
  rintro e w4 ⟨v, rfl, hrow, hb4⟩
  obtain ⟨a7, c7, rfl⟩ := spell hrow
  have HR7 : Hid (w4.ownsRow w3.heap.size 33 1 (.slice a7 m c7) m (u64s L)) := hrow
  have HB4 : Hid (Below w3.heap.size w3 w4) := hb4
  have HRG4 : Hid (RdI w4 (some ⟨g3, 0, none⟩) ws) := HRG.out.later hb4
  clear hrow hb4 hp3
  have hp4 := unpack_any (some ⟨g3, 0, none⟩) cap3 n ws T s HN.out HT.out w4 (by omega) (by omega) HRG4.out
  rw [hL, hE, hm] at hp4
  go_wp2_with fail
  refine hp4.mono ?_
  rintro e w5 ⟨v, rfl, hrow, hb5⟩
  obtain ⟨a9, c9, rfl⟩ := spell hrow
  have HR9 : Hid (w5.ownsRow (w4.heap.size + 1) 33 1 (.slice a9 m c9) m (u64s L)) := hrow
  have HB5 : Hid (Below w4.heap.size w4 w5) := hb5
  have HRG5 : Hid (RdI w5 (some ⟨g3, 0, none⟩) ws) := HRG4.out.later hb5
  clear hrow hb5 hp4
  have hp5 := unpack_any (some ⟨g3, 0, none⟩) cap3 n ws T s HN.out HT.out w5 (by omega) (by omega) HRG5.out
  rw [hL, hE, hm] at hp5
  clear hL hE hm
  go_wp2_with fail
  refine hp5.mono ?_
  rintro e w6 ⟨v, rfl, hrow, hb6⟩
  obtain ⟨a11, c11, rfl⟩ := spell hrow
  have HR11 : Hid (w6.ownsRow (w5.heap.size + 1) 33 1 (.slice a11 m c11) m (u64s L)) := hrow
  have HB6 : Hid (Below w5.heap.size w5 w6) := hb6
  clear hrow hb6 hp5
  have HR7b : Hid (w6.ownsRow w3.heap.size 33 1 (.slice a7 m c7) m (u64s L)) := row_later (row_later HR7.out HB5.out) HB6.out
  have HR9b : Hid (w6.ownsRow (w4.heap.size + 1) 33 1 (.slice a9 m c9) m (u64s L)) := row_later HR9.out HB6.out
  go_wp2_with fail
  refine (same_any _ _ _ _ m L HML.out w6 (by omega) (rdu_row HML.out HR9b.out) (rdu_row HML.out HR7b.out)).mono ?_
  rintro e w7 ⟨rfl, hb7⟩
  have HB7 : Hid (Below w6.heap.size w6 w7) := hb7
  clear hb7
  have HR7c : Hid (w7.ownsRow w3.heap.size 33 1 (.slice a7 m c7) m (u64s L)) := row_later HR7b.out HB7.out
  have HR11c : Hid (w7.ownsRow (w5.heap.size + 1) 33 1 (.slice a11 m c11) m (u64s L)) := row_later HR11.out HB7.out
  go_wp2_with fail
  refine (same_any _ _ _ _ m L HML.out w7 (by omega) (rdu_row HML.out HR11c.out) (rdu_row HML.out HR7c.out)).mono ?_
  rintro e w8 ⟨rfl, hb8⟩
  have HB8 : Hid (Below w7.heap.size w7 w8) := hb8
  clear hb8
  have HB38 : Hid (Below w3.heap.size w3 w8) := Below.then (Below.then (Below.then (Below.then HB4.out HB5.out) HB6.out) HB7.out) HB8.out
  have HB08 : Hid (Below w.heap.size w w8) := Below.then HB3.out HB38.out
  have HR7d : Hid (w8.ownsRow w3.heap.size 33 1 (.slice a7 m c7) m (u64s L)) := row_later HR7c.out HB8.out
  have HR9d : Hid (w8.ownsRow (w4.heap.size + 1) 33 1 (.slice a9 m c9) m (u64s L)) := row_later (row_later HR9b.out HB7.out) HB8.out
  have HR11d : Hid (w8.ownsRow (w5.heap.size + 1) 33 1 (.slice a11 m c11) m (u64s L)) := row_later HR11c.out HB8.out
  have HRG8 : Hid (RdI w8 (some ⟨g3, 0, none⟩) ws) := HRG.out.later HB38.out
  have hx77 : w8.cell? ⟨g3, n, none⟩ = some (.int .i64 (-77)) := by
    have h := row_later HO3.out HB38.out
    rw [h.cellAt n (by omega), List.getElem?_append_right (by simp [HN.out])]
    simp [HN.out]
  have HF7 : Hid (∀ j, (Value.slice a7 m c7).ownBlock = some j → j < w4.heap.size) := fun j hj => (HR7.out.lt j hj).2
  have HF9 : Hid (∀ j, (Value.slice a9 m c9).ownBlock = some j → w4.heap.size + 1 ≤ j ∧ j < w5.heap.size) := fun j hj => HR9.out.lt j hj
  have HF11 : Hid (∀ j, (Value.slice a11 m c11).ownBlock = some j → w5.heap.size + 1 ≤ j) := fun j hj => (HR11.out.lt j hj).1
  have hz45 : Hid (w.heap.size ≤ w4.heap.size ∧ w5.heap.size ≤ w8.heap.size ∧ w4.heap.size ≤ w5.heap.size) := by
    have h1 := HB3.out.size
    have h2 := HB4.out.size
    have h3 := HB5.out.size
    have h4 := HB6.out.size
    have h5 := HB7.out.size
    have h6 := HB8.out.size
    exact ⟨by omega, by omega, by omega⟩
  have n1 : (n : Int) < ((n + 1 : Nat) : Int) := by omega
  go_wp2_with fail
  clear hx77 n1 k1 k2 hcp3 hcm3
  have hn0 := H0.out
  have HK8 : Hid (Kept (fun _ => False) w8 w8) := Kept.refl _ _
  have HR9e : Hid (w8.ownsRow w4.heap.size 33 1 (.slice a9 m c9) m (u64s L)) := row_base HR9d.out (Nat.le_succ _)
  subst hn0
  refine wp_loop_rounds 1 ?_
  rw [rounds_succ]
  go_wp2_with fail
  go_loopw [89] (fun i wr => ∃ k : Nat, k ≤ m ∧ i = .int .i64 (k : Int) ∧ Kept (fun j => (Value.slice a9 m c9).ownBlock = some j) w8 wr ∧ ∃ ys, wr.ownsRow w4.heap.size 33 1 (.slice a9 m c9) m (u64z ys)) (fun i _ => m - (intOf i).toNat)
  case atStart => exact ⟨0, by omega, rfl, HK8.out.mono (fun _ _ h => h.elim), _, by rw [← u64z_of]; exact HR9e.out⟩
  case round =>
    obtain ⟨k, hk, rfl, hkp, ys, hrow⟩ := hrel
    have HKq : Hid (Kept (fun j => (Value.slice a9 m c9).ownBlock = some j) w8 wr) := hkp
    have HRq : Hid (wr.ownsRow w4.heap.size 33 1 (.slice a9 m c9) m (u64z ys)) := hrow
    clear hkp
    by_cases hkm : k < m
    · obtain ⟨g5, e5⟩ : ∃ g5, a9 = some ⟨g5, 0, none⟩ := by
        rcases hrow.2 with ⟨_, h0⟩ | ⟨r, cap, cur, hv, _⟩
        · omega
        · exact ⟨r, by simpa using (by simpa using hv : a9 = some ⟨r, 0, none⟩ ∧ c9 = cap).1⟩
      subst e5
      have hyl : k < ys.length := by have := hrow.1; simp at this; omega
      have q0 : wr.cell? ⟨g5, k, none⟩ = some (.int .u64 (ys.getD k 0)) := by
        rw [hrow.cellAt k (by omega)]
        simp [u64z, hyl]
      have f0 := hrow.frozenAt k
      clear hrow
      obtain ⟨y, hy⟩ : ∃ y, ys.getD k 0 = y := ⟨_, rfl⟩
      rw [hy] at q0
      clear hy
      have i1 : (0 : Int) ≤ (k : Int) := by omega
      have i2 : (k : Int) < (m : Int) := by omega
      go_wp2_with fail
      go_roundw
      case rel =>
        have s1 := HRq.out.stored k (.int .u64 (IntKind.u64.wrap (7 - y)))
        rw [u64z_set] at s1
        exact ⟨k + 1, by omega, by go_num, HKq.out.grown s1.2 (fun j hj _ => hj), _, s1.1⟩
      case measure => simp [intOf]; omega
    · have hkn' : decide ((k : Int) < (m : Int)) = false := by simp; omega
      clear hrow
      obtain ⟨i1, hi1, hy0, hy1, hy2⟩ := info_parts info64
      have HSW : Hid (w4.heap.size ≤ wr.heap.size) := by
        have h1 := HKq.out.size
        have h2 := hz45.out
        unfold Hid; omega
      go_wp2_with (at_builtin; refine wpList_append_lies _ rfl _ _ _ rfl w4.heap.size 33 i1 _ 1 8 Try.underlying28 hi1 hy0 hy1 hy2 rfl (by omega) _ m (u64z ys) rfl (HRq.out.alloc _) ⟨wr.heap.size, 0, none⟩ 1 1 [.int .u64 9] rfl rfl (cell_one_at _ _ _ _ rfl) (by simp [Value.oneCell']) (by omega) (by unfold maxLen; omega) (by omega) (by have := HSW.out; simp; omega) (wr.heap.size + 1) (by simp) ?_; intro g7 cap7 w10 hown7 hgrow7 hat7 hlt7; have HG7 : Hid ((wr.alloc (.cells #[.int .u64 9] 33)).grownBy w10 (Value.slice a9 m c9).ownBlock) := hgrow7; clear hown7 hgrow7 hat7 hlt7)
      have HK10 : Hid (Kept (fun j => (Value.slice a9 m c9).ownBlock = some j) w8 w10) := (HKq.out.alloc _).grown HG7.out (fun j hj _ => hj)
      have HR7e : Hid (w10.ownsRow w3.heap.size 33 1 (.slice a7 m c7) m (u64s L)) := HK10.out.row HR7d.out (fun j hj e => by have := HF7.out j hj; have := HF9.out j e; omega)
      have HR11e : Hid (w10.ownsRow (w5.heap.size + 1) 33 1 (.slice a11 m c11) m (u64s L)) := HK10.out.row HR11d.out (fun j hj e => by have := HF11.out j hj; have := HF9.out j e; omega)
      refine (same_any _ _ _ _ m L HML.out w10 (by omega) (rdu_row HML.out HR11e.out) (rdu_row HML.out HR7e.out)).mono ?_
      rintro e w11 ⟨rfl, hb11⟩
      have HB11 : Hid (Below w.heap.size w w11) := Below.then (Kept.toBelow HB08.out HK10.out (fun j hj => by have := HF9.out j hj; have := hz45.out; omega)) hb11
      clear hb11
      go_wp2_with fail
      go_ret
      exact ⟨ret_bool (by simp), HB11.out⟩
theorem walk (s : ByteArray) (a : Option Addr) (c : Nat) (ws : List Int) (w : World) (hs : s.size ≤ 1048576) (h : RdI w a ws) (hl : ws.length ≤ 1048576) (hc : a = none → c = 0) :
    Calls Try.prog 8 #[.string s, .slice a ws.length c] w fun e w' => e = .returned (.bool true) ∧ Below w.heap.size w w' := by
  by_cases h0 : ws = []
  · cases a with
    | none => exact walk_nil s c ws.length ws _ rfl rfl (by rw [h0]; rfl) (hc rfl) w hl hs h
    | some ad => exact walk_zero s ad c ws.length ws _ rfl rfl (by rw [h0]; rfl) w hl hs h
  · obtain ⟨b, o, rfl, -⟩ := h.spot h0
    exact walk_some s b o c ws.length ws _ rfl rfl (List.length_pos_iff.2 h0) w hl hs h
theorem own : ownKnob Try.prog.godebug = none := by kernel_rfl
theorem laidOut : laidOutB Try.prog = true := by kernel_rfl
theorem contract (H : Type) (enc : TypeId × Value → H) (W : World) (base : Nat) (args : Array Value) (ds gs : List (DataW H)) (before : List MemPlace)
    (hval : ∀ (j : Nat) t v, Try.f8.params[j]? = some t → args[j]? = some v → Value.okWide Try.prog W .any base t v)
    (hW : DataW.Whole enc Try.prog Try.f8.params.toList Rows.bitsMemorySpec.vars false W args.toList ds gs before) (hk : Rows.uptoSmall H (ds ++ gs) = true) :
    Calls Try.prog 8 args W fun e W' => ∃ v, e = .returned v ∧ Rows.bitsMemorySpec.post enc Try.prog Try.f8 false true false false W args v W' := by
  have hW' := hW
  obtain ⟨p, q, hA0, hV, rfl, hfz, hnd⟩ := hW
  have hA : DataW.TrodAll enc Try.prog W 0 (fun _ => true) true Try.f8.params.toList args.toList ds p := hA0
  rw [Try.params8] at hA hval
  obtain ⟨v0, vs0, d0, ds0, p0, q0, hargs, rfl, rfl, h0, r0⟩ := trodAll_cons hA
  obtain ⟨v1, vs1, d1, ds1, p1, q1, rfl, rfl, rfl, h1, r1⟩ := trodAll_cons r0
  obtain ⟨rfl, rfl, rfl⟩ := trodAll_nil r1
  obtain rfl : args = #[v0, v1] := by cases args; simp_all
  obtain ⟨rfl, rfl⟩ := trodVars_none hV
  have hk2 : Rows.uptoSmall H [d0, d1] = true := by simpa using hk
  have hb : Rows.uptoBulkAll [d0, d1] ≤ 1048576 := of_decide_eq_true hk2
  simp only [Rows.uptoBulkAll] at hb
  have k0 := h0
  have lt0 : ∀ x ∈ p0, x.block < W.heap.size := by obtain ⟨m, hm⟩ := k0; exact DataW.trod_lt m _ _ _ hm
  obtain ⟨s0, rfl, rfl, rfl, hs0⟩ := Go.ChangeMaps.open_string Try.underlying9 (hval 0 9 v0 rfl rfl) h0
  have hl0 := bulk_text (H := H) (s := s0) (by omega)
  have k1 := h1
  have lt1 : ∀ x ∈ p1, x.block < W.heap.size := by obtain ⟨m, hm⟩ := k1; exact DataW.trod_lt m _ _ _ hm
  obtain ⟨a1, c1, l1, rfl, rd1, hl1, hc1⟩ := ints_of (by omega) (okWide_slice Try.underlying23 (hval 1 23 v1 rfl rfl)) h1
  clear hA0
  refine (walk s0 a1 c1 l1 W hl0 rd1 hl1 hc1).mono fun e W' ⟨he, bel⟩ => ?_
  subst he
  exact ⟨_, rfl, _, _, _, [], _, [], hW', trodAll_mk1 (shut_bool Try.underlying4 _), (trodAll_cons_mk (Below.trod laidOut (by kernel_rfl) (of_decide_eq_true (by kernel_rfl)) k0 bel lt0) (trodAll_cons_mk (Below.trod laidOut (by kernel_rfl) (of_decide_eq_true (by kernel_rfl)) k1 bel lt1) trodAll_mk0)), rfl, bel.frame _, fun h => by cases h⟩
set_option maxRecDepth 100000 in
theorem lifted (os : Os) (started : os.Started) (H : Type) (enc : TypeId × Value → H) (F : Stop.Interp) :
    ReturnsInHanded {} Try.checked os 8 .any ((Rows.OpenSpec.upto Rows.bitsMemorySpec).pre6 enc Try.prog Try.f8 Rows.bitsMemoryUptoRow.domain false) (((Rows.OpenSpec.upto Rows.bitsMemorySpec).at F).post enc Try.prog Try.f8 false true false false) := by
  refine returnsInHanded_of_cond (C := Try.checked) (s := Rows.OpenSpec.upto Rows.bitsMemorySpec) (k := Rows.uptoSmall) rfl own started (by kernel_rfl) Try.func8
    (OpenSpec.witness (enc := enc) (C := Try.checked) (s := Rows.OpenSpec.upto Rows.bitsMemorySpec) (k := Rows.uptoSmall) rfl false ⟨#[], #[.string ⟨#[]⟩, .slice none 0 0], []⟩ 8 (by kernel_rfl) (by kernel_rfl) (by kernel_rfl)
      (x := ([.lit (.string []), .nil], [], [])) (by kernel_rfl) rfl (by kernel_rfl)) ?_
  intro W base args ds gs before hval hW _ hk _
  exact contract H enc W base args ds gs before hval hW hk
theorem over : Rows.bitsMemoryUptoRow.holds Try.pinned (Rows.OpenSpec.upto Rows.bitsMemorySpec) :=
  OpenClaim.holds_of_cond 8 Try.f8 rfl rfl rfl rfl rfl rfl rfl ⟨rfl, rfl, rfl, rfl, rfl⟩ rfl rfl rfl rfl rfl (by kernel_rfl) Try.func8 (by kernel_rfl)
    (of_decide_eq_true (by kernel_rfl)) (by unfold Func.isWrapper; first | (rw [if_pos (by decide +kernel)]; kernel_rfl) | (rw [if_neg (by decide +kernel)]; exact ⟨rfl, rfl⟩))
    (fun os started H enc _ F => lifted os started H enc F)
end Go.Proofs.Ytpofjkjcbflloaa.bitsMemory
namespace Go.Proofs.Ytpofjkjcbflloaa
theorem bitsMemory_holds : Rows.BitsMemoryUptoSaid := bitsMemory.over
#print axioms bitsMemory_holds
end Go.Proofs.Ytpofjkjcbflloaa
