/- Contract: Least of package key. -/
import Derived.Test.YtpofjkjcbflloabKlKey
import Derived.Test.YtpofjkjcbflloabKlRd
import Derived.Test.YtpofjkjcbflloabKeyA
import Derived.LoopTactic
import Derived.Maps.OwnOps
import Derived.Maps.AppendAt
import Derived.Maps.RangeWalk
import Derived.Sort.OwnSorted
import Derived.Test.YtpofjkjcbflloabKlSort
namespace Go.Proofs.Ytpofjkjcbflloab
open Go.Maps Go.RowKit Go.Sort Go.Lib

theorem fo_take (ks : List (Int × Int)) (k : Nat) (hk : k < ks.length) : fo (ks.take (k + 1)) = up (fo (ks.take k)) (ks.getD k (0, 0)) := by
  have e : ks.take (k + 1) = ks.take k ++ [ks.getD k (0, 0)] := by
    rw [List.take_add_one]; simp [List.getElem?_eq_getElem hk]
  rw [e, fo_snoc]

theorem infoKey : (Try.prog.info? 25).map (fun i => (i.zero, i.size, i.bytes)) = some (some (.agg #[.int .i64 0, .int .i64 0]), 2, 16) := by kernel_rfl
theorem cell_two_new (w : World) (x y : Value) (t : TypeId) : ∀ j u, [x, y][j]? = some u → (w.alloc (.cells #[x, y] t)).cell? ((⟨w.heap.size, 0, none⟩ : Addr).add j) = some u := by
  intro j u hj
  match j, hj with
  | 0, hj => simp at hj; subst hj; simp [Addr.add, go_sem]
  | 1, hj => simp at hj; subst hj; simp [Addr.add, go_sem]
theorem cell_two_at (w : World) (x y : Value) (t : TypeId) (n : Nat) (hn : n = w.heap.size) : ∀ j u, [x, y][j]? = some u → (w.alloc (.cells #[x, y] t)).cell? ((⟨n, 0, none⟩ : Addr).add j) = some u := by subst hn; exact cell_two_new w x y t
/- What was collected: just what is no longer to come, no entry twice. -/
structure Coll (F : Int → Option Int) (left : Lit → Bool) (L : List (Int × Int)) : Prop where
  nodup : L.Nodup
  mem : ∀ b s, (b, s) ∈ L ↔ F b = some s ∧ left (kk b) = false
theorem Coll.start {D : DataW Unit} {F : Int → Option Int} (h : MapIs kk elKey D F) : Coll F (Maps.has D) [] where
  nodup := List.nodup_nil
  mem := fun b s => ⟨fun h => by simp at h, fun ⟨hf, hl⟩ => by rw [h.has b s hf] at hl; cases hl⟩
theorem Coll.step {F : Int → Option Int} {left : Lit → Bool} {L : List (Int × Int)} (h : Coll F left L) (hd : ∀ b s, F b = some s → 1 ≤ b ∧ b ≤ 65535) {b s : Int} (hf : F b = some s) (hl : left (kk b) = true) :
    Coll F (fun z => left z && !z.sameKey (kk b)) (L ++ [(b, s)]) where
  nodup := by
    rw [List.nodup_append]
    refine ⟨h.nodup, by simp, fun p hp q hq => ?_⟩
    simp at hq; subst hq
    intro e; subst e
    have := ((h.mem b s).1 hp).2
    rw [hl] at this; cases this
  mem := fun c t => by
    have dB := hd b s hf
    constructor
    · intro hm
      rcases List.mem_append.1 hm with hm | hm
      · obtain ⟨h1, h2⟩ := (h.mem c t).1 hm
        exact ⟨h1, by simp [h2]⟩
      · simp at hm; obtain ⟨rfl, rfl⟩ := hm
        exact ⟨hf, by simp [kk, Lit.sameKey]⟩
    · rintro ⟨h1, h2⟩
      cases hlc : left (kk c) with
      | false => exact List.mem_append.2 (Or.inl ((h.mem c t).2 ⟨h1, hlc⟩))
      | true =>
        rw [hlc] at h2
        have e : (kk c).sameKey (kk b) = true := by simpa using h2
        have dC := hd c t h1
        have := kk_inj c b dC.1 dC.2 dB.1 dB.2 (WideAt.sameKey_eq e)
        subst this
        rw [hf] at h1; simp only [Option.some.injEq] at h1; subst h1
        simp
theorem nodup_lpart (f : Int → Option Int) (n : Nat) : (lpart f n).Nodup := (sorted_lpart f n).imp fun {p q} h e => by subst e; omega
theorem Coll.perm {F : Int → Option Int} {left : Lit → Bool} {L : List (Int × Int)} (h : Coll F left L) (hd : ∀ b s, F b = some s → 1 ≤ b ∧ b ≤ 65535) (hl : ∀ kl, left kl = false) : L.Perm (lstf F) := by
  refine (List.perm_ext_iff_of_nodup h.nodup (nodup_lpart F 65535)).2 ?_
  rintro ⟨b, s⟩
  show (b, s) ∈ L ↔ (b, s) ∈ lpart F 65535
  rw [h.mem b s, mem_lpart]
  exact ⟨fun q => ⟨(hd b s q.1).1, by have := (hd b s q.1).2; omega, q.1⟩, fun q => ⟨q.2.2, hl _⟩⟩

set_option maxHeartbeats 2000000 in
set_option maxRecDepth 100000 in
theorem least_some (b o c n : Nat) (ks : List (Int × Int)) (hn : ks.length = n) (w : World) (hl : n ≤ 8796093022208)
    (h1 : ∀ i, i < n → w.cell? ⟨b, o + i * 2, none⟩ = some (.int .i64 (ks.getD i (0, 0)).1) ∧ w.cell? ⟨b, o + i * 2 + 1, none⟩ = some (.int .i64 (ks.getD i (0, 0)).2)) :
    Calls Try.prog 6 #[.slice (some ⟨b, o, none⟩) n c] w fun e w' => ∃ g cap, e = .returned (.slice (some ⟨g, 0, none⟩) (lst ks).length cap) ∧ w.heap.size ≤ g ∧ w'.ownsRow (w.heap.size + 1) 25 2 (.slice (some ⟨g, 0, none⟩) (lst ks).length cap) (lst ks).length (cellsL (lst ks)) ∧ Below w.heap.size w w' := by
  have hmm := @run_makeMap Try.prog
  obtain ⟨i0, hi, hz0, hz1, hz2⟩ := info_parts infoKey
  have HN : Hid (ks.length = n) := hn
  clear hn
  go_enter Try.func6, Try.ntmps6
  go_wp2
  go_loopw [15] (fun i wr => ∃ k : Nat, k ≤ n ∧ i = .int .i64 (k : Int) ∧ Below w.heap.size w wr ∧ ∃ D, wr.ownsMap Try.prog 25 keyElem w.heap.size k D ∧ MapIs kk elKey D (fo (ks.take k))) (fun i _ => n - (intOf i).toNat)
  case atStart => exact ⟨0, by omega, rfl, below1 _ _, _, World.ownsMap_made _ _ _ _, by simpa [fo] using MapIs.empty kk elKey⟩
  case round =>
    obtain ⟨k, hk, rfl, hb, D, hown, hD⟩ := hrel
    by_cases hkn : k < n
    · obtain ⟨c0, c1⟩ := h1 k hkn
      have c0 := cell_later hb c0
      have c1 := cell_later hb c1
      have i1 : (0 : Int) ≤ (k : Int) := by omega
      have i2 : (k : Int) < (n : Int) := by omega
      have hfo := fo_take ks k (by rw [HN.out]; exact hkn)
      obtain ⟨x, y, exy⟩ : ∃ x y, ks.getD k (0, 0) = (x, y) := ⟨_, _, rfl⟩
      rw [exy] at c0 c1 hfo
      clear h1 exy
      have HB : Hid (Below w.heap.size w wr) := hb
      have HF : Hid (fo (ks.take (k + 1)) = up (fo (ks.take k)) (x, y)) := hfo
      have HD : Hid (MapIs kk elKey D (fo (ks.take k))) := hD
      clear hb hfo hD
      by_cases hg : Gd x y
      · have hgd := gd_yes hg
        have g1 := hg.1
        have g2 := hg.2.1
        have hkey := keyOf_kk x g1 g2
        cases hf : fo (ks.take k) x with
        | none =>
          have hh := HD.out.has_no kk_inj g1 g2 hf
          go_wp2_with (first
            | (go_at_call 11; refine (good_any _ _ _).mono ?_; rintro e w' ⟨rfl, rfl⟩)
            | (at_lookup; refine wpList_lookup_key _ rfl _ _ 38 rfl Try.underlying38 w.heap.size k D rfl (((hown.alloc _).alloc _).alloc _) _ (kk x) rfl hkey ?_; intro p q hat; clear hat)
            | (at_mapUpdate; refine wpList_mapUpdate_own _ rfl _ _ _ 38 rfl 25 25 keyLaw Try.underlying38 keyElem w.heap.size k D rfl ((((hown.alloc _).alloc _).alloc _).alloc _) (by unfold maxLen; omega) _ _ (kk x) rfl rfl hkey (elKey x y) [] (keyElem_mk _ _) ?_; intro w1 hown1 hgrow1)
            | go_in)
          go_roundw
          case rel => exact ⟨k + 1, by omega, by go_num, Below.grown (Below.more (Below.more (Below.more (Below.more HB.out _) _) _) _) hgrow1 (by have := HB.out.size; simp; omega) (fun j hj => by cases hj; exact Nat.le_refl _), _, hown1, by rw [HF.out, up_new hg hf]; exact HD.out.put kk_inj (hown.tidy keyLaw) trivial g1 g2⟩
          case measure => simp [intOf]; omega
        | some s =>
          have hh := HD.out.has x s hf
          have hq : ∀ p q, D.atKey (kk x) (elKey 0 0) = elKey p q → q = s := fun p q e => by rw [HD.out.at_yes kk_inj hf] at e; exact (elKey_inj e).2.symm
          by_cases hys : y < s
          · go_wp2_with (first
              | (go_at_call 11; refine (good_any _ _ _).mono ?_; rintro e w' ⟨rfl, rfl⟩)
              | (at_lookup; refine wpList_lookup_key _ rfl _ _ 38 rfl Try.underlying38 w.heap.size k D rfl (((hown.alloc _).alloc _).alloc _) _ (kk x) rfl hkey ?_; intro p q hat; have hlt : y < q := by (rw [hq p q hat]; exact hys))
              | (at_mapUpdate; refine wpList_mapUpdate_own _ rfl _ _ _ 38 rfl 25 25 keyLaw Try.underlying38 keyElem w.heap.size k D rfl ((((hown.alloc _).alloc _).alloc _).alloc _) (by unfold maxLen; omega) _ _ (kk x) rfl rfl hkey (elKey x y) [] (keyElem_mk _ _) ?_; intro w1 hown1 hgrow1)
              | go_in)
            go_roundw
            case rel => exact ⟨k + 1, by omega, by go_num, Below.grown (Below.more (Below.more (Below.more (Below.more HB.out _) _) _) _) hgrow1 (by have := HB.out.size; simp; omega) (fun j hj => by cases hj; exact Nat.le_refl _), _, hown1, by rw [HF.out, up_less hg hf hys]; exact HD.out.put kk_inj (hown.tidy keyLaw) trivial g1 g2⟩
            case measure => simp [intOf]; omega
          · go_wp2_with (first
              | (go_at_call 11; refine (good_any _ _ _).mono ?_; rintro e w' ⟨rfl, rfl⟩)
              | (at_lookup; refine wpList_lookup_key _ rfl _ _ 38 rfl Try.underlying38 w.heap.size k D rfl (((hown.alloc _).alloc _).alloc _) _ (kk x) rfl hkey ?_; intro p q hat; have hlt : decide (y < q) = false := by (rw [hq p q hat]; simpa using hys))
              | (at_mapUpdate; refine wpList_mapUpdate_own _ rfl _ _ _ 38 rfl 25 25 keyLaw Try.underlying38 keyElem w.heap.size k D rfl ((((hown.alloc _).alloc _).alloc _).alloc _) (by unfold maxLen; omega) _ _ (kk x) rfl rfl hkey (elKey x y) [] (keyElem_mk _ _) ?_; intro w1 hown1 hgrow1)
              | go_in)
            go_roundw
            case rel => exact ⟨k + 1, by omega, by go_num, Below.more (Below.more (Below.more (Below.more HB.out _) _) _) _, D, ((((hown.alloc _).alloc _).alloc _).alloc _).mono (Nat.le_succ _), by rw [HF.out, up_more hg hf (show ¬ y < s by omega)]; exact HD.out⟩
            case measure => simp [intOf]; omega
      · have hgd := gd_no hg
        go_wp2_with (first
          | (go_at_call 11; refine (good_any _ _ _).mono ?_; rintro e w' ⟨rfl, rfl⟩))
        go_roundw
        case rel => exact ⟨k + 1, by omega, by go_num, Below.more (Below.more HB.out _) _, D, ((hown.alloc _).alloc _).mono (Nat.le_succ _), by rw [HF.out, up_bad hg]; exact HD.out⟩
        case measure => simp [intOf]; omega
    · have hkn' : decide ((k : Int) < (n : Int)) = false := by simp; omega
      have HD : Hid (MapIs kk elKey D (fo ks)) := by
        have e : ks.take k = ks := List.take_of_length_le (by rw [HN.out]; omega)
        rw [e] at hD; exact hD
      have hsz : Maps.size D ≤ 65535 := by rw [HD.out.size]; exact lpart_le _ _
      have HB : Hid (Below w.heap.size w wr) := hb
      have hlt0 := hown.lt
      clear hD hb h1
      go_wp2_with (first
        | (at_len; refine wpList_len_own _ rfl _ 38 rfl 25 25 Try.underlying38 keyElem w.heap.size k D rfl hown ?_)
        | (at_make; refine wpList_make_own _ rfl _ _ 22 rfl (w.heap.size + 1) 25 i0 (.agg #[.int .i64 0, .int .i64 0]) 2 Try.underlying22 hi hz0 hz1 .i64 .i64 _ (Maps.size D) rfl rfl rfl (by rw [hz2]; omega) (by unfold maxLen; omega) (by omega) ?_; intro w1 hrow1 hg1)
        | (at_range; refine wpList_range_own _ rfl _ 38 rfl 25 25 keyLaw Try.underlying38 keyElem w.heap.size k D rfl (hown.kept hg1 (by simp)) ?_; intro w0 hrg0 hg0 hs0)
        | go_in)
      go_frame
      go_loopw [9] (fun v wr' => ∃ left cnt L, wr'.ranges Try.prog 25 keyElem w.heap.size w1.heap.size k D left cnt ∧ List.length L + cnt ≤ Maps.size D ∧ wr'.ownsRow (w.heap.size + 1) 25 2 v (List.length L) (cellsL L) ∧ v ≠ .slice none 0 0 ∧ Coll (fo ks) left L ∧ Below w.heap.size w wr' ∧ w.heap.size + 1 ≤ wr'.heap.size) (fun _ wr' => wr'.rangeLeft w.heap.size w1.heap.size)
      case atStart =>
        exact ⟨_, _, [], hrg0, by simp, hrow1.kept hg0 (Or.inr (by simp [Value.ownBlock])), by simp, Coll.start HD.out,
          (HB.out.grown hg1 HB.out.size (fun j hj => by cases hj)).grown hg0 (Nat.le_trans HB.out.size hg1.size) (fun j hj => by cases hj), by have := hg0.size; have := hg1.size; omega⟩
      case round =>
        obtain ⟨left, cnt, L, hrg, hcs, hrow, hnn, hC, hnx, hws⟩ := hrel
        go_wp2_with (first
          | (at_next; refine wpList_next_ranges _ rfl _ rfl 25 keyLaw keyElem (fun p : Int × Int => .agg #[.int .i64 p.1, .int .i64 p.2]) (fun p : Int × Int => .agg #[.int .i64 p.1, .int .i64 p.2]) (fun key kl hk => keyOf_inv hk) (fun v y hv => by obtain ⟨c, hc, _⟩ := keyElem_inv hv; exact ⟨c, hc⟩) w.heap.size w1.heap.size k D left cnt rfl hrg ?_ ?_)
          | go_in)
        · intro hc0 hl0
          rcases hrow.2 with ⟨hnil, _⟩ | ⟨g, cap, cur, rfl, hbase, hbk, q1, q2, q3, q4⟩
          · exact absurd hnil hnn
          have hH : HoldsK encK 2 wr g 0 L.toArray := holds_of_blockK hbk q4
          have hgl : g < wr.heap.size := (Array.getElem?_eq_some_iff.1 hbk).1
          have hc := sort_any g cap L wr hH hgl (by omega)
          have hsi := sorted_is (hC.perm HD.out.dom hl0)
          rw [hsi] at hc
          have hlen : (lst ks).length = L.length := (hC.perm HD.out.dom hl0).length_eq.symm
          have HL : Hid ((lst ks).length = L.length) := hlen
          have hO := fun nn os => ownsRow_sortedK (n := nn) (os := os) (M := lst ks) hlen hbase hbk q1 q2 q3
          clear hH hsi hlen
          go_wp2_with (go_at_call 12; refine hc.mono ?_; rintro e w' ⟨rfl, nn, os, rfl⟩)
          go_ret
          refine ⟨g, cap, by rw [HL.out]; rfl, Nat.le_of_succ_le hbase, ?_, ?_⟩
          · have := hO nn os; rw [← HL.out] at this; exact this
          · exact hnx.grown (grownBy_sortedK _) hnx.size (fun j hj => by cases hj; exact Nat.le_of_succ_le hbase)
        · intro x0 x1 p q kl yd yp w2 cnt2 hkey hlk hv hat hrg2 hlt hg2 hs2 hen
          obtain ⟨s0, hkl, hF⟩ : ∃ s0, kl = kk p ∧ fo ks p = some s0 ∧ s0 = q := by
            obtain ⟨b', s', e1, hF, hz⟩ := HD.out.keys kl (has_true_of_atKey hat)
            obtain ⟨c', ec, ey⟩ := keyElem_inv hv
            have e3 : c' = (p, q) := by simp [mkKey] at ec; obtain ⟨u, v⟩ := c'; simp at ec; rw [ec.1, ec.2]
            subst e3
            have e4 : elKey b' s' = elKey p q := by rw [← hz (elKey 0 0), hat]; exact congrArg Prod.fst ey
            obtain ⟨rfl, rfl⟩ := elKey_inj e4
            exact ⟨_, e1, hF, rfl⟩
          obtain ⟨hF, rfl⟩ := hF
          subst hkl
          have hrow2 := hrow.kept hg2 (Or.inr (row_ne_iter hrow hrg).symm)
          have hw2 := hg2.size
          clear hs2 hkey hv hat
          go_wp2_with (first
            | (at_builtin; refine wpList_append_own _ rfl _ _ 22 rfl (w.heap.size + 1) 25 i0 (.agg #[.int .i64 0, .int .i64 0]) 2 16 Try.underlying22 hi hz0 hz1 hz2 rfl (by decide) _ _ _ rfl ((hrow2.alloc _).alloc _) ⟨w2.heap.size + 1, 0, none⟩ 1 1 [.int .i64 p, .int .i64 s0] rfl rfl (cell_two_at _ _ _ _ _ (by simp)) (by simp [Value.oneCell']) (by unfold maxLen; omega) (by omega) (by simp; omega) ?_; intro v' w3 hown' hg3 hnil3; go_frame)
            | go_in)
          have hrg3 := ((hrg2.alloc _).alloc _).kept hg3 (row_ne_low hrow2 (Nat.lt_succ_self _)) (row_ne_iter hrow2 hrg2)
          have hw3 := hg3.size
          simp at hw3
          go_roundw
          case rel =>
            refine ⟨_, cnt2, L ++ [(p, s0)], hrg3, by simp; omega, by rw [cellsL_append]; simpa [cellsL] using hown', fun hv' => by have := (hnil3.1 hv').2; omega, hC.step HD.out.dom hF hlk, ?_, by omega⟩
            exact Below.grown (Below.more (Below.more (hnx.grown hg2 hnx.size (fun j hj => by cases hj; have := hg1.size; omega)) _) _) hg3 (by simp; omega) (fun j hj => Nat.le_of_succ_le (hrow2.lt j hj).1)
          case measure => rw [hrg3.left_eq, hrg.left_eq]; exact hlt

theorem lst_nil : lst [] = [] := by
  rw [List.eq_nil_iff_forall_not_mem]
  rintro ⟨b, s⟩ h
  have := (mem_lst.1 h).1
  cases this
set_option maxHeartbeats 2000000 in
set_option maxRecDepth 100000 in
theorem least_none (a : Option Addr) (c : Nat) (w : World) :
    Calls Try.prog 6 #[.slice a 0 c] w fun e w' => ∃ g cap, e = .returned (.slice (some ⟨g, 0, none⟩) 0 cap) ∧ w.heap.size ≤ g ∧ w'.ownsRow (w.heap.size + 1) 25 2 (.slice (some ⟨g, 0, none⟩) 0 cap) 0 [] ∧ Below w.heap.size w w' := by
  have hmm := @run_makeMap Try.prog
  obtain ⟨i0, hi, hz0, hz1, hz2⟩ := info_parts infoKey
  have hown := World.ownsMap_made w Try.prog 25 keyElem
  go_enter Try.func6, Try.ntmps6
  go_wp2
  refine wp_loop_rounds 1 ?_
  rw [rounds_succ]
  go_wp2_with (first
    | (at_len; refine wpList_len_own _ rfl _ 38 rfl 25 25 Try.underlying38 keyElem w.heap.size 0 (.map []) rfl hown ?_)
    | (at_make; refine wpList_make_own _ rfl _ _ 22 rfl (w.heap.size + 1) 25 i0 (.agg #[.int .i64 0, .int .i64 0]) 2 Try.underlying22 hi hz0 hz1 .i64 .i64 _ 0 rfl rfl rfl (by rw [hz2]; omega) (by unfold maxLen; omega) (by simp) ?_; intro w1 hrow1 hg1)
    | (at_range; refine wpList_range_own _ rfl _ 38 rfl 25 25 keyLaw Try.underlying38 keyElem w.heap.size 0 (.map []) rfl (hown.kept hg1 (by simp)) ?_; intro w0 hrg0 hg0 hs0)
    | go_in)
  go_frame
  refine wp_loop_rounds 1 ?_
  rw [rounds_succ]
  go_wp2_with (first
    | (at_next; refine wpList_next_ranges _ rfl _ rfl 25 keyLaw keyElem (fun p : Int × Int => .agg #[.int .i64 p.1, .int .i64 p.2]) (fun p : Int × Int => .agg #[.int .i64 p.1, .int .i64 p.2]) (fun key kl hk => keyOf_inv hk) (fun v y hv => by obtain ⟨c, hc, _⟩ := keyElem_inv hv; exact ⟨c, hc⟩) w.heap.size w1.heap.size 0 (.map []) (Maps.has (.map [] : DataW Unit)) (Maps.size (.map [] : DataW Unit)) rfl hrg0 ?_ ?_)
    | go_in)
  · intro hc0 hl0
    have hrow := hrow1.kept hg0 (Or.inr (by simp [Value.ownBlock]))
    rcases hrow.2 with ⟨hnil, _⟩ | ⟨g, cap, cur, hv, hbase, hbk, q1, q2, q3, q4⟩
    · simp at hnil
    have hgl : g < w0.heap.size := (Array.getElem?_eq_some_iff.1 hbk).1
    simp at hv
    obtain ⟨hgv, hcv⟩ := hv
    have hc := sort_any g 0 [] w0 (holds_of_blockK (L := []) hbk (by simp [cellsL])) hgl (by simp)
    rw [← hgv] at hc
    have HG : Hid (g = _) := hgv.symm
    have HC : Hid (0 = cap) := hcv
    have hO := fun nn os => ownsRow_sortedK (n := nn) (os := os) (M := []) (L := []) rfl hbase hbk q1 q2 q3
    rw [← hgv] at hO
    rw [← hcv] at hO
    clear hgv hcv
    go_wp2_with (go_at_call 12; refine hc.mono ?_; rintro e w' ⟨rfl, nn, os, rfl⟩)
    go_ret
    have s1 := hg1.size
    simp at s1
    refine ⟨_, 0, rfl, by simp, ?_, ?_⟩
    · exact hO nn os
    · exact ((Below.grown (below1 _ _) hg1 (by simp) (fun j hj => by cases hj)).grown hg0 (by omega) (fun j hj => by cases hj)).grown (grownBy_sortedK _) (by have := hg0.size; omega) (fun j hj => by cases hj; simp)
  · intro x0 x1 p q kl yd yp w2 cnt2 hkey hlk hv hat hrg2 hlt
    simp [Maps.size] at hlt
theorem least_any (a : Option Addr) (c : Nat) (ks : List (Int × Int)) (w : World) (hl : ks.length ≤ 8796093022208) (h : RdAt w a ks) :
    Calls Try.prog 6 #[.slice a ks.length c] w fun e w' => ∃ g cap, e = .returned (.slice (some ⟨g, 0, none⟩) (lst ks).length cap) ∧ w.heap.size ≤ g ∧ w'.ownsRow (w.heap.size + 1) 25 2 (.slice (some ⟨g, 0, none⟩) (lst ks).length cap) (lst ks).length (cellsL (lst ks)) ∧ Below w.heap.size w w' := by
  by_cases h0 : ks = []
  · subst h0; rw [lst_nil]; exact least_none a c w
  · obtain ⟨b, o, rfl, k1⟩ := h.spot h0
    exact least_some b o c ks.length ks rfl w hl k1
theorem rd_of_row {w : World} {base g cap : Nat} {e : TypeId} {ks : List (Int × Int)} (h : w.ownsRow base e 2 (.slice (some ⟨g, 0, none⟩) ks.length cap) ks.length (cellsL ks)) : RdAt w (some ⟨g, 0, none⟩) ks := fun i hi => by
  rcases h.2 with ⟨h0, _⟩ | ⟨g', cap', cur, hv, _, hb, _, _, _, h4⟩
  · cases h0
  cases hv
  have e0 := cellsL_get ks i hi
  have q : ∀ j, j < ks.length * 2 → w.cell? ⟨g, 0 + j, none⟩ = (cellsL ks)[j]? := fun j hj => by
    rw [← h4, List.getElem?_take_of_lt hj]
    simp [World.cell?, hb]
  refine ⟨g, 0, rfl, ?_, ?_⟩
  · rw [q _ (by omega)]; exact e0.1
  · have := q (i * 2 + 1) (by omega); rw [← Nat.add_assoc] at this; rw [this]; exact e0.2
end Go.Proofs.Ytpofjkjcbflloab
