/- Contract: the document's From. -/
import Derived.Test.YtifjihdanbbhkaaDrC
import Derived.Test.YtifjihdanbbhkaaDkF
namespace Go.Proofs.Ytifjihdanbbhkaa
open Go.RowKit Go.Maps
set_option linter.unusedVariables false
set_option linter.unusedSimpArgs false

theorem rFrom_wide (a : Option Addr) (c : Nat) (l : List ByteArray) (w : World) (hl : l.length ≤ 8796093022208) (hw : 2048 < l.length) :
    Calls Try.prog 9 #[.slice a l.length c] w fun e w' => e = .returned (.tuple #[.pointer none, .int .i64 8]) ∧ w' = w := by
  obtain ⟨n, hn⟩ : ∃ n, l.length = n := ⟨_, rfl⟩
  rw [hn] at hl hw ⊢
  clear hn
  go_enter Try.func9, Try.ntmps9
  go_wp2
  go_ret2
  exact ⟨rfl, rfl⟩
/- The document's disk that is being made. -/
structure Rg (N : Nat) (w : World) (q : Nat) (B : Bl) (g cap : Nat) : Prop where
  blk : w.heap[q]? = some (.cells #[.slice none 0 0, .slice (some ⟨g, 0, none⟩) 2048 cap, .slice none 0 0, .int .i64 (-1)] 45)
  blo : w.ownsRow N 9 1 (.slice (some ⟨g, 0, none⟩) 2048 cap) 2048 (cellsS (tx B 2048))
  nq : N ≤ q
theorem Rg.gq {N : Nat} {w : World} {q : Nat} {B : Bl} {g cap : Nat} (h : Rg N w q B g cap) : g ≠ q := fun e => by
  obtain ⟨_, _, cur, hh⟩ := row_type h.blo g rfl
  subst e
  have := h.blk; rw [hh] at this; simp at this
theorem Rg.put {N : Nat} {w : World} {q : Nat} {B : Bl} {g cap : Nat} (h : Rg N w q B g cap) (k : Nat) (t : ByteArray) : Rg N (w.setCell ⟨g, k, none⟩ (.string t)) q (setB B (k : Int) t) g cap := by
  refine ⟨?_, ?_, h.nq⟩
  · rw [Below.heap_setCell _ _ _ _ (by show q ≠ g; exact fun e => h.gq e.symm)]; exact h.blk
  · rw [tx_set, ← cellsS_set]; exact (h.blo.stored k (.string t)).1
theorem Rg.later {N : Nat} {w w' : World} {q : Nat} {B : Bl} {g cap : Nat} (h : Rg N w q B g cap) (hb : Below w.heap.size w w') : Rg N w' q B g cap :=
  ⟨(hb.block q (Array.getElem?_eq_some_iff.1 h.blk).1).trans h.blk, row_later h.blo hb, h.nq⟩
theorem Rg.fin {N : Nat} {w : World} {q : Nat} {l : List ByteArray} {g cap : Nat} (h : Rg N w q (fnI l) g cap) {v : Value} (hv : RwS w N v l) (hq : ∀ k, v.ownBlock = some k → k ≠ q ∧ k ≠ g) (hl : fe l = 0) :
    Rk N (w.setCell ⟨q, 0, none⟩ v) q (st l) v (.slice (some ⟨g, 0, none⟩) 2048 cap) (.slice none 0 0) := by
  have ks : Kept (fun j => j = q) w (w.setCell ⟨q, 0, none⟩ v) := (Kept.refl (fun j => j = q) w).setCell (p := ⟨q, 0, none⟩) (fun _ => rfl) _
  refine ⟨?_, ks.row hv (fun k e e' => (hq k e).1 e'), ?_, World.ownsRow_nil _ _ _ _, ?_, h.nq, st_ok hl⟩
  · rw [blk_set h.blk]; simp [st]
  · unfold RwS; rw [tx_length]; exact ks.row h.blo (fun k e e' => by cases e; exact h.gq e')
  · intro k e e'; cases e'; exact (hq _ e).2 rfl
theorem RdS.newsA {w : World} {ad : Addr} {l : List ByteArray} (h : RdS w (some ad) l) : ∀ j u, (cellsS l)[j]? = some u → w.cell? (ad.add j) = some u := by
  by_cases h0 : l = []
  · subst h0; intro j u hu; simp [cellsS] at hu
  · obtain ⟨b, o, e, _⟩ := h.spot h0
    cases e
    exact h.news
def RNew (N : Nat) (l : List ByteArray) (e : Ending) (w' : World) : Prop := ∃ p f y x, e = .returned (.tuple #[.pointer (some ⟨p, 0, none⟩), .int .i64 0]) ∧ Rk N w' p (st l) f y x
theorem Rg.fin0 {N : Nat} {w : World} {q : Nat} {g cap : Nat} (h : Rg N w q (fnI []) g cap) (hN : N ≤ w.heap.size) :
    Rk N ((w.setCell ⟨q, 0, none⟩ (.slice (some ⟨w.heap.size, 0, none⟩) 0 0)).alloc (.cells #[] 9)) q (st []) (.slice (some ⟨w.heap.size, 0, none⟩) 0 0) (.slice (some ⟨g, 0, none⟩) 2048 cap) (.slice none 0 0) := by
  have ks : Kept (fun j => j = q) w (w.setCell ⟨q, 0, none⟩ (.slice (some ⟨w.heap.size, 0, none⟩) 0 0)) := (Kept.refl (fun j => j = q) w).setCell (p := ⟨q, 0, none⟩) (fun _ => rfl) _
  have hb := below1 (w.setCell ⟨q, 0, none⟩ (.slice (some ⟨w.heap.size, 0, none⟩) 0 0)) (.cells #[] 9)
  have hgw := (h.blo.lt g rfl).2
  have hes : (w.setCell ⟨q, 0, none⟩ (.slice (some ⟨w.heap.size, 0, none⟩) 0 0)).heap.size = w.heap.size := by simp [World.setCell]
  have hblk : (w.setCell ⟨q, 0, none⟩ (.slice (some ⟨w.heap.size, 0, none⟩) 0 0)).heap[q]? = some (.cells #[.slice (some ⟨w.heap.size, 0, none⟩) 0 0, .slice (some ⟨g, 0, none⟩) 2048 cap, .slice none 0 0, .int .i64 (-1)] 45) := by rw [blk_set h.blk]; simp
  have he := row_empty (w.setCell ⟨q, 0, none⟩ (.slice (some ⟨w.heap.size, 0, none⟩) 0 0)) 9 1
  rw [hes] at he
  refine ⟨(hb.block q (Array.getElem?_eq_some_iff.1 hblk).1).trans hblk, ?_, ?_, World.ownsRow_nil _ _ _ _, ?_, h.nq, st_ok (by simp [fe, lng])⟩
  · exact ⟨he.1, he.2.imp id (fun ⟨g, cap, cur, hv, hbg, r⟩ => ⟨g, cap, cur, hv, Nat.le_trans hN hbg, r⟩)⟩
  · unfold RwS; rw [tx_length]; exact row_later (ks.row h.blo (fun k e e' => by cases e; exact h.gq e')) hb
  · intro k e e'; cases e'; have e2 : w.heap.size = g := by simpa [Value.ownBlock] using e
    omega
set_option maxHeartbeats 2000000 in
set_option maxRecDepth 100000 in
theorem rFrom_some (a : Option Addr) (c : Nat) (l : List ByteArray) (w : World) (hl : l.length ≤ 2048) (hrd : RdS w a l) (hsz : ∀ t ∈ l, t.size ≤ 9223372036854775807) (hnil : a = none → c = 0) :
    Calls Try.prog 9 #[.slice a l.length c] w fun e w' => (lng l = true ∧ e = .returned (.tuple #[.pointer none, .int .i64 9]) ∨ lng l = false ∧ RNew w.heap.size l e w') ∧ Below w.heap.size w w' := by
  obtain ⟨i0, hi, hz0, hz1, hz2⟩ := info_parts infoS
  obtain ⟨n, hn⟩ : ∃ n, l.length = n := ⟨_, rfl⟩
  have HN : Hid (l.length = n) := hn
  have HRD : Hid (RdS w a l) := hrd
  have HSZ : Hid (∀ t ∈ l, t.size ≤ 9223372036854775807) := hsz
  have HNIL : Hid (a = none → c = 0) := hnil
  rw [hn] at hl ⊢
  clear hn hrd hsz hnil
  have hn2 : decide ((n : Int) > 2048) = false := by simp; omega
  go_enter Try.func9, Try.ntmps9
  go_wp2_with fail
  refine (rNew_any w).mono ?_
  rintro e w1 ⟨p, g, cap, rfl, hd, hb1⟩
  have HB1 : Hid (Below w.heap.size w w1) := hb1
  have HG1 : Hid (Rg w.heap.size w1 p (fnI (l.take 0)) g cap) := by
    have e0 : fnI (l.take 0) = nu.bl := by simp [St.bl, nu, rp]
    have hy := hd.blo
    unfold RwS at hy
    rw [tx_length] at hy
    rw [e0]
    exact ⟨hd.blk, hy, hd.nq⟩
  clear hd hb1
  go_wp2_with fail
  go_loopw [13] (fun i wr => ∃ j : Nat, j ≤ n ∧ i = .int .i64 (j : Int) ∧ Rg w.heap.size wr p (fnI (l.take j)) g cap ∧ Below w.heap.size w wr ∧ lng (l.take j) = false) (fun i _ => n - (intOf i).toNat)
  case atStart => exact ⟨0, by omega, rfl, HG1.out, HB1.out, by simp [lng]⟩
  case round =>
    obtain ⟨j, hj, rfl, hg, hb, hlg⟩ := hrel
    have HG : Hid (Rg w.heap.size wr p (fnI (l.take j)) g cap) := hg
    have HB : Hid (Below w.heap.size w wr) := hb
    have HLG : Hid (lng (l.take j) = false) := hlg
    by_cases hjn : j < n
    · obtain ⟨ga, o, eav, hcs⟩ := HRD.out.spot (by intro e; have := HN.out; rw [e] at this; simp at this; omega)
      have x0 := cell_later hb (Nat.le_refl _) (hcs j (by rw [HN.out]; exact hjn))
      subst eav
      have hfn := fnI_take l j (by rw [HN.out]; exact hjn)
      have hln := lng_snoc l j (by rw [HN.out]; exact hjn)
      have hmem : l.getD j ⟨#[]⟩ ∈ l := by rw [getD_yes _ _ (by rw [HN.out]; exact hjn)]; exact List.getElem_mem _
      have ht := HSZ.out _ hmem
      obtain ⟨t, eat⟩ : ∃ t, l.getD j ⟨#[]⟩ = t := ⟨_, rfl⟩
      rw [eat] at x0 hfn hln ht hmem
      have j1 : (0 : Int) ≤ (j : Int) := by omega
      have j2 : (j : Int) < (n : Int) := by omega
      have j3 : (j : Int) < 2048 := by omega
      by_cases h32 : t.size ≤ 32
      · have d32 : decide ((t.size : Int) > 32) = false := by simp; omega
        have HFN : Hid (fnI (l.take (j + 1)) = setB (fnI (l.take j)) (j : Int) t) := hfn
        have HLN : Hid (lng (l.take (j + 1)) = false) := by
          have : decide (32 < t.size) = false := by simp; omega
          rw [hln, hlg, this]; exact rfl
        have q1 : wr.cell? ⟨p, 1, none⟩ = some (.slice (some ⟨g, 0, none⟩) 2048 cap) := by simp [World.cell?, hg.blk]
        have hcell : wr.cell? ⟨g, j, none⟩ = some (.string ((tx (fnI (l.take j)) 2048).getD j ⟨#[]⟩)) := by
          rw [hg.blo.cellAt j (by omega)]; exact cellsS_get _ j (by simp; omega)
        have hfz := hg.blo.frozenAt j
        obtain ⟨u, hu⟩ : ∃ u, (tx (fnI (l.take j)) 2048).getD j ⟨#[]⟩ = u := ⟨_, rfl⟩
        rw [hu] at hcell
        clear hfn hln hmem eat hcs hg hb hlg hu
        go_wp2
        go_roundw
        case rel =>
          refine ⟨j + 1, by omega, by go_num, ?_, ?_, HLN.out⟩
          · rw [HFN.out]; exact HG.out.put j t
          · exact (Kept.below ((Kept.ofBelow (F := fun j => w.heap.size ≤ j) HB.out).setCell (p := ⟨g, j, none⟩) (fun h => absurd h (by have := (HG.out.blo.lt g rfl).1; show ¬ g < _; omega)) (.string t)) (Nat.le_refl _) (fun j hj => hj))
        case measure => simp [intOf]; omega
      · have d32 : decide ((t.size : Int) > 32) = true := by simp; omega
        have HLN : Hid (lng l = true) := lng_of_mem j (by rw [HN.out]; exact hjn) (by rw [eat]; omega)
        clear hfn hln hmem eat hcs hg hb hlg
        go_wp2
        go_ret2
        exact ⟨.inl ⟨HLN.out, rfl⟩, HB.out⟩
    · have hjk' : decide ((j : Int) < (n : Int)) = false := by simp; omega
      have ej : l.take j = l := List.take_of_length_le (by rw [HN.out]; omega)
      rw [ej] at hlg hg
      have HLG2 : Hid (lng l = false) := hlg
      have HG2 : Hid (Rg w.heap.size wr p (fnI l) g cap) := hg
      have HFE : Hid (fe l = 0) := by
        show fe l = 0
        unfold fe
        rw [if_neg (by rw [HN.out]; omega), if_neg (by rw [hlg]; decide)]
      have HRR : Hid (RdS wr a l) := HRD.out.later hb
      have HCL : Hid ((cellsS l).length = n * 1) := by show (cellsS l).length = n * 1; rw [cellsS_length, HN.out]; omega
      have HE0 : Hid _ := row_empty wr 9 1
      have hb0 := below1 wr (.cells #[] 9)
      have HB0 : Hid _ := hb0
      have hpw : p < wr.heap.size := (Array.getElem?_eq_some_iff.1 hg.blk).1
      have hgw : g < wr.heap.size := (hg.blo.lt g rfl).2
      clear hg hb hlg ej
      cases a with
      | none =>
        have n0 : n = 0 := by
          rcases Nat.eq_zero_or_pos n with h | h
          · exact h
          · obtain ⟨_, _, e, _⟩ := HRR.out 0 (by rw [HN.out]; exact h)
            cases e
        have c0 := HNIL.out rfl
        have el : l = [] := List.length_eq_zero_iff.1 (by rw [HN.out]; exact n0)
        subst c0 n0 el
        have q0 : wr.cell? ⟨p, 0, none⟩ = some (.slice none 0 0) := by simp [World.cell?, HG2.out.blk]
        have qf : wr.frozen? ⟨p, 0, none⟩ = false := by simp [World.frozen?, HG2.out.blk]
        have HO2 : Hid _ := HE0.out
        have HB2 : Hid _ := thenB HB.out HB0.out
        have HG2' : Hid _ := HG2.out.later HB0.out
        clear hb0
        go_wp2
        go_ret2
        refine ⟨.inr ⟨HLG2.out, p, _, _, _, rfl, Rg.fin0 HG2.out HB.out.size⟩, ?_⟩
        exact Below.more (Kept.below ((Kept.ofBelow (F := fun j => w.heap.size ≤ j) HB.out).setCell (p := ⟨p, 0, none⟩) (fun h => absurd h (by have := HG2'.out.nq; show ¬ p < _; omega)) (.slice (some ⟨wr.heap.size, 0, none⟩) 0 0)) (Nat.le_refl _) (fun j hj => hj)) _
      | some ad =>
        have HNW : Hid _ := (HRR.out.later hb0).newsA
        clear hb0
        by_cases h0 : n = 0
        · have H0 : Hid (n = 0) := h0
          clear h0
          go_wp2_with (at_builtin; refine wpList_append_fits _ rfl _ _ _ rfl wr.heap.size 9 i0 1 Try.underlying22 hi hz1 wr.heap.size 0 0 [] rfl HE0.out ad n c (cellsS l) rfl HCL.out HNW.out (cellsS_one _) (by have := H0.out; omega) ?_; intro w2 hown2 hgrow2; rw [Nat.zero_add, List.nil_append] at hown2; have HO2 : Hid _ := hown2; have HB3 : Hid _ := HB0.out.grown hgrow2 HB0.out.size (fun j hj => by cases hj; exact Nat.le_refl _); have HB2 : Hid _ := thenB HB.out HB3.out; have HG2' : Hid _ := HG2.out.later HB3.out; have q0 : w2.cell? ⟨p, 0, none⟩ = some (.slice none 0 0) := (by simp [World.cell?, HG2'.out.blk]); have qf : w2.frozen? ⟨p, 0, none⟩ = false := (by simp [World.frozen?, HG2'.out.blk]); clear hown2 hgrow2)
          go_ret2
          refine ⟨.inr ⟨HLG2.out, p, _, _, _, rfl, Rg.fin HG2'.out (v := .slice (some ⟨wr.heap.size, 0, none⟩) n 0) ?_ ?_ HFE.out⟩, ?_⟩
          · have := HO2.out
            unfold RwS; rw [HN.out]
            exact ⟨this.1, this.2.imp id (fun ⟨g, cap, cur, hv, hbg, r⟩ => ⟨g, cap, cur, hv, Nat.le_trans HB.out.size hbg, r⟩)⟩
          · intro k hk; cases hk; have := (World.ownsRow.lt HO2.out wr.heap.size rfl).1; exact ⟨by show wr.heap.size ≠ p; omega, by show wr.heap.size ≠ g; omega⟩
          · exact (Kept.below ((Kept.ofBelow (F := fun j => w.heap.size ≤ j) HB2.out).setCell (p := ⟨p, 0, none⟩) (fun h => absurd h (by have := HG2'.out.nq; show ¬ p < _; omega)) (.slice (some ⟨wr.heap.size, 0, none⟩) n 0)) (Nat.le_refl _) (fun j hj => hj))
        · have h0' : 0 < n := by omega
          go_wp2_with (at_builtin; refine wpList_append_lies _ rfl _ _ _ rfl wr.heap.size 9 i0 _ 1 16 Try.underlying22 hi hz0 hz1 hz2 rfl (by omega) _ 0 [] rfl HE0.out ad n c (cellsS l) rfl HCL.out HNW.out (cellsS_one _) h0' (by unfold maxLen; omega) (by omega) (by simp) (wr.heap.size + 1) (by simp) ?_; intro g2 cap2 w2 hown2 hgrow2 hat2 hlt2; rw [Nat.zero_add, List.nil_append] at hown2; have HO2 : Hid _ := hown2; have HB3 : Hid _ := HB0.out.grown hgrow2 HB0.out.size (fun j hj => by cases hj; exact Nat.le_refl _); have HB2 : Hid _ := thenB HB.out HB3.out; have HG2' : Hid _ := HG2.out.later HB3.out; have q0 : w2.cell? ⟨p, 0, none⟩ = some (.slice none 0 0) := (by simp [World.cell?, HG2'.out.blk]); have qf : w2.frozen? ⟨p, 0, none⟩ = false := (by simp [World.frozen?, HG2'.out.blk]); clear hown2 hgrow2 hat2 hlt2)
          go_ret2
          refine ⟨.inr ⟨HLG2.out, p, _, _, _, rfl, Rg.fin HG2'.out (v := .slice (some ⟨g2, 0, none⟩) n cap2) ?_ ?_ HFE.out⟩, ?_⟩
          · have := HO2.out
            unfold RwS; rw [HN.out]
            exact ⟨this.1, this.2.imp id (fun ⟨g, cap, cur, hv, hbg, r⟩ => ⟨g, cap, cur, hv, Nat.le_trans HB.out.size hbg, r⟩)⟩
          · intro k hk; cases hk; have := (World.ownsRow.lt HO2.out g2 rfl).1; exact ⟨by show g2 ≠ p; omega, by show g2 ≠ g; omega⟩
          · exact (Kept.below ((Kept.ofBelow (F := fun j => w.heap.size ≤ j) HB2.out).setCell (p := ⟨p, 0, none⟩) (fun h => absurd h (by have := HG2'.out.nq; show ¬ p < _; omega)) (.slice (some ⟨g2, 0, none⟩) n cap2)) (Nat.le_refl _) (fun j hj => hj))
end Go.Proofs.Ytifjihdanbbhkaa
