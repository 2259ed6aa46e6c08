/- Contract: Whole. -/
import Derived.Test.YtohgflimdoebiaaFrH
namespace Go.Proofs.Ytohgflimdoebiaa
open Go.RowKit Go.Maps
set_option linter.unusedVariables false
set_option linter.unusedSimpArgs false

theorem bld_later {T e : TypeId} {B b : Nat} {bs : List Value} {w w' : World} (h : Lib.IsBuilderF T e B b bs w) (hb : Below w.heap.size w w') : Lib.IsBuilderF T e B b bs w' := by
  have one : ∀ p, Lib.BuilderAtF T e B b p bs w → Lib.BuilderAtF T e B b p bs w' := by
    rintro p ⟨hB, v, hblk, hrow, hne⟩
    refine ⟨hB, v, (hb.block b (Array.getElem?_eq_some_iff.1 hblk).1).trans hblk, ⟨hrow.1, ?_⟩, hne⟩
    rcases hrow.2 with h0 | ⟨g, cap, cur, fz, hv, hg, hh, rest⟩
    · exact .inl h0
    · exact .inr ⟨g, cap, cur, fz, hv, hg, (hb.block g (Array.getElem?_eq_some_iff.1 hh).1).trans hh, rest⟩
  exact h.elim (fun x => .inl (one _ x)) (fun x => .inr (one _ x))
def wA (l : List Pc) : Ending := .returned (.tuple #[.int .i64 (l.getD 0 pc0).q, .string ⟨(ct l).toArray⟩, .int .i64 0])
def wB : Ending := .returned (.tuple #[.int .i64 0, .string ⟨#[]⟩, .int .i64 7])
def WP (l : List Pc) (e : Ending) : Prop := (Wh l ∧ e = wA l) ∨ (¬ Wh l ∧ e = wB)
def okI (l : List Pc) (i : Nat) : Prop := rtP (l.getD i pc0) = true ∧ (l.getD i pc0).q = (l.getD 0 pc0).q ∧ (l.getD i pc0).p = (i : Int) ∧ (l.getD i pc0).n = (l.length : Int)
theorem not_wh {l : List Pc} {i : Nat} (hi : i < l.length) (h : ¬ okI l i) : ¬ Wh l := fun hw => h (hw.each i hi)
set_option maxHeartbeats 2000000 in
set_option maxRecDepth 100000 in
theorem whole_nil (a : Option Addr) (cap : Nat) (w : World) : Calls Try.prog 61 #[.slice a 0 cap] w fun e w' => WP [] e ∧ Below w.heap.size w w' := by
  have HNO : Hid (¬ Wh []) := fun h => h.ne rfl
  go_enter Try.func61, Try.ntmps61
  go_wp2_with fail
  refine bodyPost_ret (v := .tuple #[.int .i64 0, .string ⟨#[]⟩, .int .i64 7]) (by simp [results, Try.results61, go_sem]) rfl ⟨.inr ⟨HNO.out, rfl⟩, ?_⟩
  exact Below.refl _ _
set_option maxHeartbeats 2000000 in
set_option maxRecDepth 100000 in
theorem whole_some (b o cap n : Nat) (l : List Pc) (hn : l.length = n) (h0 : 0 < n) (hl : n ≤ 1152921504606846976) (w : World) (h1 : ∀ i, i < n → PAt w b (o + i * 4) (l.getD i pc0)) : Calls Try.prog 61 #[.slice (some ⟨b, o, none⟩) n cap] w fun e w' => WP l e ∧ Below w.heap.size w w' := by
  have HN : Hid (l.length = n) := hn
  have H1 : Hid (∀ i, i < n → PAt w b (o + i * 4) (l.getD i pc0)) := h1
  obtain ⟨p0, -, -, -⟩ := h1 0 h0
  obtain ⟨Q, hQ⟩ : ∃ Q, (l.getD 0 pc0).q = Q := ⟨_, rfl⟩
  have HQ : Hid ((l.getD 0 pc0).q = Q) := hQ
  rw [hQ, Nat.zero_mul, Nat.add_zero] at p0
  have i0 : (0 : Int) < (n : Int) := by omega
  have i1 : ((n : Int) == 0) = false := by simp; omega
  have hbw : b < w.heap.size := World.block_lt_of_cell? w _ p0
  have HF : Hid (Lib.IsBuilderF 123 5 w.heap.size w.heap.size [] (w.alloc (.cells #[.pointer none, .slice none 0 0] 123))) := Lib.IsBuilderF.of (Lib.fresh_isBuilder 123 5 w)
  clear hn hQ h1
  go_enter Try.func61, Try.ntmps61
  go_wp2_with fail
  go_loopw [18] (fun i wr => ∃ k : Nat, k ≤ n ∧ i = .int .i64 (k : Int) ∧ (∀ j, j < k → okI l j) ∧ (ct (l.take k)).length ≤ 23 * k ∧ Lib.IsBuilderF 123 5 w.heap.size w.heap.size (Lib.byteCells (ct (l.take k))) wr ∧ Below w.heap.size w wr) (fun i _ => n - (intOf i).toNat)
  case atStart => exact ⟨0, by omega, rfl, fun j hj => absurd hj (Nat.not_lt_zero _), by simp [ct], by simpa [ct, Lib.byteCells] using HF.out, below1 _ _⟩
  case round =>
    obtain ⟨k, hk, rfl, hok, hct, hbd, hb⟩ := hrel
    have HOK : Hid (∀ j, j < k → okI l j) := hok
    have HBD : Hid (Lib.IsBuilderF 123 5 w.heap.size w.heap.size (Lib.byteCells (ct (l.take k))) wr) := hbd
    have HB : Hid (Below w.heap.size w wr) := hb
    have HCT : Hid ((ct (l.take k)).length ≤ 23 * k) := hct
    clear hok hbd hct
    by_cases hkn : k < n
    · obtain ⟨c0, c1, c2, c3⟩ := (H1.out k hkn).later hb
      have j1 : (0 : Int) ≤ (k : Int) := by omega
      have j2 : (k : Int) < (n : Int) := by omega
      have HS : Hid (ct (l.take (k + 1)) = ct (l.take k) ++ (l.getD k pc0).d.data.toList) := ct_snoc l k (by rw [HN.out]; exact hkn)
      have HI : Hid (okI l k ↔ rt (l.getD k pc0).q (l.getD k pc0).p (l.getD k pc0).n (l.getD k pc0).d.size = true ∧ (l.getD k pc0).q = Q ∧ (l.getD k pc0).p = (k : Int) ∧ (l.getD k pc0).n = (n : Int)) := by
        unfold Hid okI rtP; rw [HQ.out, HN.out]
      obtain ⟨q, hq⟩ : ∃ q, (l.getD k pc0).q = q := ⟨_, rfl⟩
      obtain ⟨p, hp⟩ : ∃ p, (l.getD k pc0).p = p := ⟨_, rfl⟩
      obtain ⟨m, hm⟩ : ∃ m, (l.getD k pc0).n = m := ⟨_, rfl⟩
      obtain ⟨d, hd⟩ : ∃ d, (l.getD k pc0).d = d := ⟨_, rfl⟩
      rw [hq] at c0
      rw [hp] at c1
      rw [hm] at c2
      rw [hd] at c3
      rw [hq, hp, hm, hd] at HI
      rw [hd] at HS
      clear hq hp hm hd hb
      have hright := fun W => right_any q p m d W
      have HKN : Hid (k < l.length) := by unfold Hid; rw [HN.out]; exact hkn
      cases hr : rt q p m d.size with
      | false =>
        have HNO : Hid (¬ Wh l) := not_wh HKN.out (fun h => by have := (HI.out.1 h).1; rw [hr] at this; cases this)
        simp only [hr] at hright
        clear hr
        go_wp2_with fail
        refine (hright _).mono ?_
        rintro e w2 ⟨rfl, hb2⟩
        go_wp2_with fail
        refine bodyPost_ret (v := .tuple #[.int .i64 0, .string ⟨#[]⟩, .int .i64 7]) (by simp [results, Try.results61, go_sem]) rfl ⟨.inr ⟨HNO.out, rfl⟩, ?_⟩
        exact Below.then (Below.more HB.out _) hb2
      | true =>
        have HR : Hid (rt q p m d.size = true) := hr
        simp only [hr] at hright
        clear hr
        go_wp2_with fail
        refine (hright _).mono ?_
        rintro e w2 ⟨rfl, hb2⟩
        have d0 : w2.cell? ⟨wr.heap.size, 0, none⟩ = some (.int .i64 q) := cell_later hb2 (by simp [go_sem])
        have d1 : w2.cell? ⟨wr.heap.size, 1, none⟩ = some (.int .i64 p) := cell_later hb2 (by simp [go_sem])
        have d2 : w2.cell? ⟨wr.heap.size, 2, none⟩ = some (.int .i64 m) := cell_later hb2 (by simp [go_sem])
        have d3 : w2.cell? ⟨wr.heap.size, 3, none⟩ = some (.string d) := cell_later hb2 (by simp [go_sem])
        have HB2 : Hid (Below w.heap.size w w2) := Below.then (Below.more HB.out _) hb2
        have HBD2 : Hid (Lib.IsBuilderF 123 5 w.heap.size w.heap.size (Lib.byteCells (ct (l.take k))) w2) := bld_later (HBD.out.alloc _) hb2
        clear hb2 hright c0 c1 c2 c3
        by_cases e1 : q = Q
        · subst e1
          by_cases e2 : p = (k : Int)
          · subst e2
            by_cases e3 : m = (n : Int)
            · subst e3
              obtain ⟨r1, r2, r3, r4, r5, r6, r7, r8⟩ := (rt_iff _ _ _ _).1 HR.out
              have HOK2 : Hid (okI l k) := HI.out.2 ⟨HR.out, rfl, rfl, rfl⟩
              have hd23 : d.size ≤ 23 := by omega
              have hn255 : n ≤ 255 := by omega
              clear r1 r2 r3 r4 r5 r6 r7 r8
              have hws := wstr_any w.heap.size w.heap.size (Lib.byteCells (ct (l.take k))) d w2 HBD2.out (by rw [Lib.byteCells_length]; have := HCT.out; omega) HB2.out.size
              go_wp2_with fail
              refine hws.mono ?_
              rintro e w3 ⟨rfl, hbd3, hb3, -⟩
              have HBD3 : Hid (Lib.IsBuilderF 123 5 w.heap.size w.heap.size (Lib.byteCells (ct (l.take (k + 1)))) w3) := by
                unfold Hid
                rw [HS.out, Lib.byteCells_append, ← Lib.strCells_eq]
                exact .inr hbd3
              have HB3 : Hid (Below w.heap.size w w3) := HB2.out.trans hb3
              clear hbd3 hb3 hws
              go_wp2_with fail
              go_roundw
              case rel =>
                refine ⟨k + 1, by omega, by go_num, ?_, ?_, HBD3.out, HB3.out⟩
                · intro j hj
                  rcases Nat.lt_or_ge j k with hj' | hj'
                  · exact HOK.out j hj'
                  · obtain rfl : j = k := by omega
                    exact HOK2.out
                · rw [HS.out, List.length_append, dlen]; have := HCT.out; omega
              case measure => simp [intOf]; omega
            · have HNO : Hid (¬ Wh l) := not_wh HKN.out (fun h => e3 (HI.out.1 h).2.2.2)
              have f3 : (m != (n : Int)) = true := by simp [e3]
              clear e3
              go_wp2_with fail
              refine bodyPost_ret (v := .tuple #[.int .i64 0, .string ⟨#[]⟩, .int .i64 7]) (by simp [results, Try.results61, go_sem]) rfl ⟨.inr ⟨HNO.out, rfl⟩, ?_⟩
              exact HB2.out
          · have HNO : Hid (¬ Wh l) := not_wh HKN.out (fun h => e2 (HI.out.1 h).2.2.1)
            have f3 : (p != (k : Int)) = true := by simp [e2]
            clear e2
            go_wp2_with fail
            refine bodyPost_ret (v := .tuple #[.int .i64 0, .string ⟨#[]⟩, .int .i64 7]) (by simp [results, Try.results61, go_sem]) rfl ⟨.inr ⟨HNO.out, rfl⟩, ?_⟩
            exact HB2.out
        · have HNO : Hid (¬ Wh l) := not_wh HKN.out (fun h => e1 (HI.out.1 h).2.1)
          have f3 : (q != Q) = true := by simp [e1]
          clear e1
          go_wp2_with fail
          refine bodyPost_ret (v := .tuple #[.int .i64 0, .string ⟨#[]⟩, .int .i64 7]) (by simp [results, Try.results61, go_sem]) rfl ⟨.inr ⟨HNO.out, rfl⟩, ?_⟩
          exact HB2.out
    · have hjk' : decide ((k : Int) < (n : Int)) = false := by simp; omega
      obtain rfl : k = n := by omega
      have et : l.take k = l := List.take_of_length_le (by rw [HN.out]; exact Nat.le_refl _)
      rw [et] at HBD
      have HWH : Hid (Wh l) := ⟨fun e => by have := HN.out; rw [e] at this; simp at this; omega, fun j hj => HOK.out j (by rw [← HN.out]; exact hj)⟩
      have hbs := bstr_any w.heap.size w.heap.size (ct l) wr HBD.out HB.out.size
      clear et hb
      go_wp2_with fail
      refine hbs.mono ?_
      rintro e w3 ⟨rfl, -, hb3, -⟩
      have HB3 : Hid (Below w.heap.size w w3) := HB.out.trans hb3
      clear hb3 hbs
      go_wp2_with fail
      refine bodyPost_ret (v := .tuple #[.int .i64 Q, .string ⟨(ct l).toArray⟩, .int .i64 0]) (by simp [results, Try.results61, go_sem]) rfl ⟨.inl ⟨HWH.out, by unfold wA; rw [HQ.out]⟩, HB3.out⟩
theorem whole_any (a : Option Addr) (cap : Nat) (l : List Pc) (hl : l.length ≤ 1152921504606846976) (w : World) (h : RdP w a l) : Calls Try.prog 61 #[.slice a l.length cap] w fun e w' => WP l e ∧ Below w.heap.size w w' := by
  by_cases h0 : l = []
  · subst h0; exact whole_nil a cap w
  · obtain ⟨b, o, rfl, k1⟩ := h.spot h0
    exact whole_some b o cap l.length l rfl (List.length_pos_iff.2 h0) hl w k1
end Go.Proofs.Ytohgflimdoebiaa
