/- DrD, DrE, joined. -/
import Derived.Test.YtohgflimdoebiaaDrJ
import Derived.Test.YtohgflimdoebiaaDkN
/- Contract: the document's From. -/
namespace Go.Proofs.Ytohgflimdoebiaa.Dk
open Go.RowKit Go.Maps
set_option linter.unusedVariables false
set_option linter.unusedSimpArgs false

theorem rFrom_wide (a : Option Addr) (c : Nat) (l : List ByteArray) (w : World) (hl : l.length ≤ 8796093022208) (hw : 2048 < l.length) :
    Calls Try.prog 12 #[.slice a l.length c] w fun e w' => e = .returned (.tuple #[.pointer none, .int .i64 8]) ∧ w' = w := by
  obtain ⟨n, hn⟩ : ∃ n, l.length = n := ⟨_, rfl⟩
  rw [hn] at hl hw ⊢
  clear hn
  go_enter Try.func12, Try.ntmps12
  go_wp2
  go_ret2
  exact ⟨rfl, rfl⟩
/- The document's disk that is being made. -/
structure Rg (N : Nat) (w : World) (q : Nat) (B : Bl) (g cap : Nat) : Prop where
  blk : w.heap[q]? = some (.cells #[.slice none 0 0, .slice (some ⟨g, 0, none⟩) 2048 cap, .slice none 0 0, .int .i64 (-1)] 53)
  blo : w.ownsRow N 9 1 (.slice (some ⟨g, 0, none⟩) 2048 cap) 2048 (cellsS (tx B 2048))
  nq : N ≤ q
theorem Rg.gq {N : Nat} {w : World} {q : Nat} {B : Bl} {g cap : Nat} (h : Rg N w q B g cap) : g ≠ q := fun e => by
  obtain ⟨_, _, cur, hh⟩ := row_type h.blo g rfl
  subst e
  have := h.blk; rw [hh] at this; simp at this
theorem Rg.put {N : Nat} {w : World} {q : Nat} {B : Bl} {g cap : Nat} (h : Rg N w q B g cap) (k : Nat) (t : ByteArray) : Rg N (w.setCell ⟨g, k, none⟩ (.string t)) q (setB B (k : Int) t) g cap := by
  refine ⟨?_, ?_, h.nq⟩
  · rw [Below.heap_setCell _ _ _ _ (by show q ≠ g; exact fun e => h.gq e.symm)]; exact h.blk
  · rw [tx_set, ← cellsS_set]; exact (h.blo.stored k (.string t)).1
theorem Rg.later {N : Nat} {w w' : World} {q : Nat} {B : Bl} {g cap : Nat} (h : Rg N w q B g cap) (hb : Below w.heap.size w w') : Rg N w' q B g cap :=
  ⟨(hb.block q (Array.getElem?_eq_some_iff.1 h.blk).1).trans h.blk, row_later h.blo hb, h.nq⟩
theorem Rg.fin {N : Nat} {w : World} {q : Nat} {l : List ByteArray} {g cap : Nat} (h : Rg N w q (fnI l) g cap) {v : Value} (hv : RwS w N v l) (hq : ∀ k, v.ownBlock = some k → k ≠ q ∧ k ≠ g) (hl : fe l = 0) :
    Rk N (w.setCell ⟨q, 0, none⟩ v) q (st l) v (.slice (some ⟨g, 0, none⟩) 2048 cap) (.slice none 0 0) := by
  have ks : Kept (fun j => j = q) w (w.setCell ⟨q, 0, none⟩ v) := (Kept.refl (fun j => j = q) w).setCell (p := ⟨q, 0, none⟩) (fun _ => rfl) _
  refine ⟨?_, ks.row hv (fun k e e' => (hq k e).1 e'), ?_, World.ownsRow_nil _ _ _ _, ?_, h.nq, st_ok hl⟩
  · rw [blk_set h.blk]; simp [st]
  · unfold RwS; rw [tx_length]; exact ks.row h.blo (fun k e e' => by cases e; exact h.gq e')
  · intro k e e'; cases e'; exact (hq _ e).2 rfl
theorem RdS.newsA {w : World} {ad : Addr} {l : List ByteArray} (h : RdS w (some ad) l) : ∀ j u, (cellsS l)[j]? = some u → w.cell? (ad.add j) = some u := by
  by_cases h0 : l = []
  · subst h0; intro j u hu; simp [cellsS] at hu
  · obtain ⟨b, o, e, _⟩ := h.spot h0
    cases e
    exact h.news
def RNew (N : Nat) (l : List ByteArray) (e : Ending) (w' : World) : Prop := ∃ p f y x, e = .returned (.tuple #[.pointer (some ⟨p, 0, none⟩), .int .i64 0]) ∧ Rk N w' p (st l) f y x
theorem Rg.fin0 {N : Nat} {w : World} {q : Nat} {g cap : Nat} (h : Rg N w q (fnI []) g cap) (hN : N ≤ w.heap.size) :
    Rk N ((w.setCell ⟨q, 0, none⟩ (.slice (some ⟨w.heap.size, 0, none⟩) 0 0)).alloc (.cells #[] 9)) q (st []) (.slice (some ⟨w.heap.size, 0, none⟩) 0 0) (.slice (some ⟨g, 0, none⟩) 2048 cap) (.slice none 0 0) := by
  have ks : Kept (fun j => j = q) w (w.setCell ⟨q, 0, none⟩ (.slice (some ⟨w.heap.size, 0, none⟩) 0 0)) := (Kept.refl (fun j => j = q) w).setCell (p := ⟨q, 0, none⟩) (fun _ => rfl) _
  have hb := below1 (w.setCell ⟨q, 0, none⟩ (.slice (some ⟨w.heap.size, 0, none⟩) 0 0)) (.cells #[] 9)
  have hgw := (h.blo.lt g rfl).2
  have hes : (w.setCell ⟨q, 0, none⟩ (.slice (some ⟨w.heap.size, 0, none⟩) 0 0)).heap.size = w.heap.size := by simp [World.setCell]
  have hblk : (w.setCell ⟨q, 0, none⟩ (.slice (some ⟨w.heap.size, 0, none⟩) 0 0)).heap[q]? = some (.cells #[.slice (some ⟨w.heap.size, 0, none⟩) 0 0, .slice (some ⟨g, 0, none⟩) 2048 cap, .slice none 0 0, .int .i64 (-1)] 53) := by rw [blk_set h.blk]; simp
  have he := row_empty (w.setCell ⟨q, 0, none⟩ (.slice (some ⟨w.heap.size, 0, none⟩) 0 0)) 9 1
  rw [hes] at he
  refine ⟨(hb.block q (Array.getElem?_eq_some_iff.1 hblk).1).trans hblk, ?_, ?_, World.ownsRow_nil _ _ _ _, ?_, h.nq, st_ok (by simp [fe, lng])⟩
  · exact ⟨he.1, he.2.imp id (fun ⟨g, cap, cur, hv, hbg, r⟩ => ⟨g, cap, cur, hv, Nat.le_trans hN hbg, r⟩)⟩
  · unfold RwS; rw [tx_length]; exact row_later (ks.row h.blo (fun k e e' => by cases e; exact h.gq e')) hb
  · intro k e e'; cases e'; have e2 : w.heap.size = g := by simpa [Value.ownBlock] using e
    omega
set_option maxHeartbeats 2000000 in
set_option maxRecDepth 100000 in
theorem rFrom_some (a : Option Addr) (c : Nat) (l : List ByteArray) (w : World) (hl : l.length ≤ 2048) (hrd : RdS w a l) (hsz : ∀ t ∈ l, t.size ≤ 9223372036854775807) (hnil : a = none → c = 0) :
    Calls Try.prog 12 #[.slice a l.length c] w fun e w' => (lng l = true ∧ e = .returned (.tuple #[.pointer none, .int .i64 9]) ∨ lng l = false ∧ RNew w.heap.size l e w') ∧ Below w.heap.size w w' := by
  obtain ⟨i0, hi, hz0, hz1, hz2⟩ := info_parts infoS
  obtain ⟨n, hn⟩ : ∃ n, l.length = n := ⟨_, rfl⟩
  have HN : Hid (l.length = n) := hn
  have HRD : Hid (RdS w a l) := hrd
  have HSZ : Hid (∀ t ∈ l, t.size ≤ 9223372036854775807) := hsz
  have HNIL : Hid (a = none → c = 0) := hnil
  rw [hn] at hl ⊢
  clear hn hrd hsz hnil
  have hn2 : decide ((n : Int) > 2048) = false := by simp; omega
  go_enter Try.func12, Try.ntmps12
  go_wp2_with fail
  refine (rNew_any w).mono ?_
  rintro e w1 ⟨p, g, cap, rfl, hd, hb1⟩
  have HB1 : Hid (Below w.heap.size w w1) := hb1
  have HG1 : Hid (Rg w.heap.size w1 p (fnI (l.take 0)) g cap) := by
    have e0 : fnI (l.take 0) = nu.bl := by simp [St.bl, nu, rp]
    have hy := hd.blo
    unfold RwS at hy
    rw [tx_length] at hy
    rw [e0]
    exact ⟨hd.blk, hy, hd.nq⟩
  clear hd hb1
  go_wp2_with fail
  go_loopw [13] (fun i wr => ∃ j : Nat, j ≤ n ∧ i = .int .i64 (j : Int) ∧ Rg w.heap.size wr p (fnI (l.take j)) g cap ∧ Below w.heap.size w wr ∧ lng (l.take j) = false) (fun i _ => n - (intOf i).toNat)
  case atStart => exact ⟨0, by omega, rfl, HG1.out, HB1.out, by simp [lng]⟩
  case round =>
    obtain ⟨j, hj, rfl, hg, hb, hlg⟩ := hrel
    have HG : Hid (Rg w.heap.size wr p (fnI (l.take j)) g cap) := hg
    have HB : Hid (Below w.heap.size w wr) := hb
    have HLG : Hid (lng (l.take j) = false) := hlg
    by_cases hjn : j < n
    · obtain ⟨ga, o, eav, hcs⟩ := HRD.out.spot (by intro e; have := HN.out; rw [e] at this; simp at this; omega)
      have x0 := cell_later hb (Nat.le_refl _) (hcs j (by rw [HN.out]; exact hjn))
      subst eav
      have hfn := fnI_take l j (by rw [HN.out]; exact hjn)
      have hln := lng_snoc l j (by rw [HN.out]; exact hjn)
      have hmem : l.getD j ⟨#[]⟩ ∈ l := by rw [getD_yes _ _ (by rw [HN.out]; exact hjn)]; exact List.getElem_mem _
      have ht := HSZ.out _ hmem
      obtain ⟨t, eat⟩ : ∃ t, l.getD j ⟨#[]⟩ = t := ⟨_, rfl⟩
      rw [eat] at x0 hfn hln ht hmem
      have j1 : (0 : Int) ≤ (j : Int) := by omega
      have j2 : (j : Int) < (n : Int) := by omega
      have j3 : (j : Int) < 2048 := by omega
      by_cases h32 : t.size ≤ 32
      · have d32 : decide ((t.size : Int) > 32) = false := by simp; omega
        have HFN : Hid (fnI (l.take (j + 1)) = setB (fnI (l.take j)) (j : Int) t) := hfn
        have HLN : Hid (lng (l.take (j + 1)) = false) := by
          have : decide (32 < t.size) = false := by simp; omega
          rw [hln, hlg, this]; exact rfl
        have q1 : wr.cell? ⟨p, 1, none⟩ = some (.slice (some ⟨g, 0, none⟩) 2048 cap) := by simp [World.cell?, hg.blk]
        have hcell : wr.cell? ⟨g, j, none⟩ = some (.string ((tx (fnI (l.take j)) 2048).getD j ⟨#[]⟩)) := by
          rw [hg.blo.cellAt j (by omega)]; exact cellsS_get _ j (by simp; omega)
        have hfz := hg.blo.frozenAt j
        obtain ⟨u, hu⟩ : ∃ u, (tx (fnI (l.take j)) 2048).getD j ⟨#[]⟩ = u := ⟨_, rfl⟩
        rw [hu] at hcell
        clear hfn hln hmem eat hcs hg hb hlg hu
        go_wp2
        go_roundw
        case rel =>
          refine ⟨j + 1, by omega, by go_num, ?_, ?_, HLN.out⟩
          · rw [HFN.out]; exact HG.out.put j t
          · exact (Kept.below ((Kept.ofBelow (F := fun j => w.heap.size ≤ j) HB.out).setCell (p := ⟨g, j, none⟩) (fun h => absurd h (by have := (HG.out.blo.lt g rfl).1; show ¬ g < _; omega)) (.string t)) (Nat.le_refl _) (fun j hj => hj))
        case measure => simp [intOf]; omega
      · have d32 : decide ((t.size : Int) > 32) = true := by simp; omega
        have HLN : Hid (lng l = true) := lng_of_mem j (by rw [HN.out]; exact hjn) (by rw [eat]; omega)
        clear hfn hln hmem eat hcs hg hb hlg
        go_wp2
        go_ret2
        exact ⟨.inl ⟨HLN.out, rfl⟩, HB.out⟩
    · have hjk' : decide ((j : Int) < (n : Int)) = false := by simp; omega
      have ej : l.take j = l := List.take_of_length_le (by rw [HN.out]; omega)
      rw [ej] at hlg hg
      have HLG2 : Hid (lng l = false) := hlg
      have HG2 : Hid (Rg w.heap.size wr p (fnI l) g cap) := hg
      have HFE : Hid (fe l = 0) := by
        show fe l = 0
        unfold fe
        rw [if_neg (by rw [HN.out]; omega), if_neg (by rw [hlg]; decide)]
      have HRR : Hid (RdS wr a l) := HRD.out.later hb
      have HCL : Hid ((cellsS l).length = n * 1) := by show (cellsS l).length = n * 1; rw [cellsS_length, HN.out]; omega
      have HE0 : Hid _ := row_empty wr 9 1
      have hb0 := below1 wr (.cells #[] 9)
      have HB0 : Hid _ := hb0
      have hpw : p < wr.heap.size := (Array.getElem?_eq_some_iff.1 hg.blk).1
      have hgw : g < wr.heap.size := (hg.blo.lt g rfl).2
      clear hg hb hlg ej
      cases a with
      | none =>
        have n0 : n = 0 := by
          rcases Nat.eq_zero_or_pos n with h | h
          · exact h
          · obtain ⟨_, _, e, _⟩ := HRR.out 0 (by rw [HN.out]; exact h)
            cases e
        have c0 := HNIL.out rfl
        have el : l = [] := List.length_eq_zero_iff.1 (by rw [HN.out]; exact n0)
        subst c0 n0 el
        have q0 : wr.cell? ⟨p, 0, none⟩ = some (.slice none 0 0) := by simp [World.cell?, HG2.out.blk]
        have qf : wr.frozen? ⟨p, 0, none⟩ = false := by simp [World.frozen?, HG2.out.blk]
        have HO2 : Hid _ := HE0.out
        have HB2 : Hid _ := thenB HB.out HB0.out
        have HG2' : Hid _ := HG2.out.later HB0.out
        clear hb0
        go_wp2
        go_ret2
        refine ⟨.inr ⟨HLG2.out, p, _, _, _, rfl, Rg.fin0 HG2.out HB.out.size⟩, ?_⟩
        exact Below.more (Kept.below ((Kept.ofBelow (F := fun j => w.heap.size ≤ j) HB.out).setCell (p := ⟨p, 0, none⟩) (fun h => absurd h (by have := HG2'.out.nq; show ¬ p < _; omega)) (.slice (some ⟨wr.heap.size, 0, none⟩) 0 0)) (Nat.le_refl _) (fun j hj => hj)) _
      | some ad =>
        have HNW : Hid _ := (HRR.out.later hb0).newsA
        clear hb0
        by_cases h0 : n = 0
        · have H0 : Hid (n = 0) := h0
          clear h0
          go_wp2_with (at_builtin; refine wpList_append_fits _ rfl _ _ _ rfl wr.heap.size 9 i0 1 Try.underlying22 hi hz1 wr.heap.size 0 0 [] rfl HE0.out ad n c (cellsS l) rfl HCL.out HNW.out (cellsS_one _) (by have := H0.out; omega) ?_; intro w2 hown2 hgrow2; rw [Nat.zero_add, List.nil_append] at hown2; have HO2 : Hid _ := hown2; have HB3 : Hid _ := HB0.out.grown hgrow2 HB0.out.size (fun j hj => by cases hj; exact Nat.le_refl _); have HB2 : Hid _ := thenB HB.out HB3.out; have HG2' : Hid _ := HG2.out.later HB3.out; have q0 : w2.cell? ⟨p, 0, none⟩ = some (.slice none 0 0) := (by simp [World.cell?, HG2'.out.blk]); have qf : w2.frozen? ⟨p, 0, none⟩ = false := (by simp [World.frozen?, HG2'.out.blk]); clear hown2 hgrow2)
          go_ret2
          refine ⟨.inr ⟨HLG2.out, p, _, _, _, rfl, Rg.fin HG2'.out (v := .slice (some ⟨wr.heap.size, 0, none⟩) n 0) ?_ ?_ HFE.out⟩, ?_⟩
          · have := HO2.out
            unfold RwS; rw [HN.out]
            exact ⟨this.1, this.2.imp id (fun ⟨g, cap, cur, hv, hbg, r⟩ => ⟨g, cap, cur, hv, Nat.le_trans HB.out.size hbg, r⟩)⟩
          · intro k hk; cases hk; have := (World.ownsRow.lt HO2.out wr.heap.size rfl).1; exact ⟨by show wr.heap.size ≠ p; omega, by show wr.heap.size ≠ g; omega⟩
          · exact (Kept.below ((Kept.ofBelow (F := fun j => w.heap.size ≤ j) HB2.out).setCell (p := ⟨p, 0, none⟩) (fun h => absurd h (by have := HG2'.out.nq; show ¬ p < _; omega)) (.slice (some ⟨wr.heap.size, 0, none⟩) n 0)) (Nat.le_refl _) (fun j hj => hj))
        · have h0' : 0 < n := by omega
          go_wp2_with (at_builtin; refine wpList_append_lies _ rfl _ _ _ rfl wr.heap.size 9 i0 _ 1 16 Try.underlying22 hi hz0 hz1 hz2 rfl (by omega) _ 0 [] rfl HE0.out ad n c (cellsS l) rfl HCL.out HNW.out (cellsS_one _) h0' (by unfold maxLen; omega) (by omega) (by simp) (wr.heap.size + 1) (by simp) ?_; intro g2 cap2 w2 hown2 hgrow2 hat2 hlt2; rw [Nat.zero_add, List.nil_append] at hown2; have HO2 : Hid _ := hown2; have HB3 : Hid _ := HB0.out.grown hgrow2 HB0.out.size (fun j hj => by cases hj; exact Nat.le_refl _); have HB2 : Hid _ := thenB HB.out HB3.out; have HG2' : Hid _ := HG2.out.later HB3.out; have q0 : w2.cell? ⟨p, 0, none⟩ = some (.slice none 0 0) := (by simp [World.cell?, HG2'.out.blk]); have qf : w2.frozen? ⟨p, 0, none⟩ = false := (by simp [World.frozen?, HG2'.out.blk]); clear hown2 hgrow2 hat2 hlt2)
          go_ret2
          refine ⟨.inr ⟨HLG2.out, p, _, _, _, rfl, Rg.fin HG2'.out (v := .slice (some ⟨g2, 0, none⟩) n cap2) ?_ ?_ HFE.out⟩, ?_⟩
          · have := HO2.out
            unfold RwS; rw [HN.out]
            exact ⟨this.1, this.2.imp id (fun ⟨g, cap, cur, hv, hbg, r⟩ => ⟨g, cap, cur, hv, Nat.le_trans HB.out.size hbg, r⟩)⟩
          · intro k hk; cases hk; have := (World.ownsRow.lt HO2.out g2 rfl).1; exact ⟨by show g2 ≠ p; omega, by show g2 ≠ g; omega⟩
          · exact (Kept.below ((Kept.ofBelow (F := fun j => w.heap.size ≤ j) HB2.out).setCell (p := ⟨p, 0, none⟩) (fun h => absurd h (by have := HG2'.out.nq; show ¬ p < _; omega)) (.slice (some ⟨g2, 0, none⟩) n cap2)) (Nat.le_refl _) (fun j hj => hj))
end Go.Proofs.Ytohgflimdoebiaa.Dk
/- Contract: the document's Cut. -/
namespace Go.Proofs.Ytohgflimdoebiaa.Dk
open Go.RowKit Go.Maps
set_option linter.unusedVariables false
set_option linter.unusedSimpArgs false
attribute [local go_sem ↓] Go.wp_at_zero Go.wp_at_succ

theorem nx_good {img : List ByteArray} {log : List (Int × ByteArray)} {x : Int} {t : ByteArray} (h : Gp (x, t)) : nx ⟨img, log, -1⟩ x t = ⟨img, log ++ [(x, t)], -1⟩ := by
  unfold nx
  rw [if_pos (we_good (by show (-1 : Int) ≠ 0; decide) h)]
  rfl
def RCut (N : Nat) (s : St) (e : Ending) (w' : World) : Prop := ∃ p f y x, e = .returned (.pointer (some ⟨p, 0, none⟩)) ∧ Rk N w' p s f y x
set_option maxHeartbeats 4000000 in
set_option maxRecDepth 100000 in
theorem rCut_any (N : Nat) (w : World) (q : Nat) (s : St) (f y x : Value) (h : Rk N w q s f y x) (hl : s.log.length ≤ 5864062014805) (n : Int) :
    Calls Try.prog 38 #[.pointer (some ⟨q, 0, none⟩), .int .i64 n] w fun e w' => RCut w.heap.size (ct s n.toNat) e w' ∧ Below w.heap.size w w' := by
  have c0 := h.c0
  obtain ⟨af, capf, rfl⟩ := row_spell h.fst
  have hfrom := rFrom_some af capf s.img w h.ok.i1 h.fst.rd (fun t ht => by have := h.ok.i2 t ht; omega) (fun e => by
    rcases h.fst.2 with ⟨hv, _⟩ | ⟨g', cap', cur, hv, _⟩
    · simp at hv; exact hv.2.2
    · subst e; simp at hv)
  have hlg : lng s.img = false := by
    cases hh : lng s.img with
    | false => rfl
    | true =>
      obtain ⟨t, ht, h32⟩ := List.any_eq_true.1 hh
      have := h.ok.i2 t ht
      simp at h32; omega
  have HD : Hid (Rk N w q s (.slice af s.img.length capf) y x) := h
  have HLG : Hid (lng s.img = false) := hlg
  obtain ⟨li, hli⟩ : ∃ li, s.img.length = li := ⟨_, rfl⟩
  rw [hli] at c0 hfrom HD
  clear h hlg hli
  go_enter Try.func38, Try.ntmps38
  go_wp2_with fail
  refine hfrom.mono ?_
  rintro e w1 ⟨⟨hbad, _⟩ | ⟨_, p, f', y', x', rfl, hk⟩, hb1⟩
  · rw [HLG.out] at hbad; cases hbad
  have HB1 : Hid (Below w.heap.size w w1) := hb1
  have HK1 : Hid (Rk w.heap.size w1 p ⟨s.img, s.log.take 0, -1⟩ f' y' x') := by
    have e : st s.img = ⟨s.img, s.log.take 0, -1⟩ := by simp [st]
    rw [e] at hk; exact hk
  obtain ⟨len, hlen⟩ : ∃ len, s.log.length = len := ⟨_, rfl⟩
  have HLEN : Hid (s.log.length = len) := hlen
  obtain ⟨k, hkk⟩ : ∃ k, min n.toNat len = k := ⟨_, rfl⟩
  have HKK : Hid (min n.toNat len = k) := hkk
  have htk : s.log.take n.toNat = s.log.take k := by
    rw [← hkk, ← hlen, Nat.min_def]
    split
    · rfl
    · rw [List.take_of_length_le (by omega), List.take_length]
  have HTK : Hid (s.log.take n.toNat = s.log.take k) := htk
  rw [hlen] at hl
  clear hk hb1 hfrom c0 hlen hkk htk
  go_wp2_with fail
  go_loopw [7] (fun i wr => ∃ j : Nat, j ≤ k ∧ i = .int .i64 (j : Int) ∧ (∃ x, Rk w.heap.size wr p ⟨s.img, s.log.take j, -1⟩ f' y' x) ∧ Below w.heap.size w wr) (fun i _ => k - (intOf i).toNat)
  case atStart => exact ⟨0, by omega, rfl, ⟨_, HK1.out⟩, HB1.out⟩
  case round =>
    obtain ⟨j, hj, rfl, ⟨xj, hkj⟩, hb⟩ := hrel
    have HKJ : Hid (Rk w.heap.size wr p ⟨s.img, s.log.take j, -1⟩ f' y' xj) := hkj
    have HB : Hid (Below w.heap.size w wr) := hb
    have hdw := HD.out.later hb
    have c2 := hdw.c2
    obtain ⟨al, capl, hxs⟩ := row_spell hdw.log
    subst hxs
    rw [HLEN.out] at c2
    have HRD : Hid (RdW wr al s.log) := hdw.log.rd
    clear hkj hb hdw
    by_cases hjk : j < k
    · have hjl : j < len := by have := HKK.out; omega
      obtain ⟨g, o, eal, hcs⟩ := HRD.out.spot (by intro e; have := HLEN.out; rw [e] at this; simp at this; omega)
      obtain ⟨x0, x1⟩ := hcs j (by rw [HLEN.out]; exact hjl)
      subst eal
      have hgj : Gp (s.log.getD j (0, ⟨#[]⟩)) := HD.out.ok.l1 _ (by rw [getD_yes _ _ (by rw [HLEN.out]; exact hjl)]; exact List.getElem_mem _)
      have htk1 : s.log.take (j + 1) = s.log.take j ++ [s.log.getD j (0, ⟨#[]⟩)] := by
        rw [List.take_add_one]; simp [List.getElem?_eq_getElem (show j < s.log.length by rw [HLEN.out]; exact hjl)]
      obtain ⟨at', t, eat⟩ : ∃ at' t, s.log.getD j (0, ⟨#[]⟩) = (at', t) := ⟨_, _, rfl⟩
      rw [eat] at x0 x1 hgj htk1
      have HTK1 : Hid (s.log.take (j + 1) = s.log.take j ++ [(at', t)]) := htk1
      have HGJ : Hid (Gp (at', t)) := hgj
      have hW : Calls Try.prog 50 #[.pointer (some ⟨p, 0, none⟩), .int .i64 at', .string t] wr.drew fun e w' => e = .returned (.int .i64 0) ∧ (∃ x, Rk w.heap.size w' p ⟨s.img, s.log.take (j + 1), -1⟩ f' y' x) ∧ Below w.heap.size w w' := by
        have hk' : Rk w.heap.size wr.drew p ⟨s.img, s.log.take j, -1⟩ f' y' xj := ⟨HKJ.out.blk, HKJ.out.fst, HKJ.out.blo, HKJ.out.log, HKJ.out.ne, HKJ.out.nq, HKJ.out.ok⟩
        refine (rWrite_any w.heap.size wr.drew p _ f' y' xj hk' at' t (by have := hgj.2.2; simp at this; omega) (by simp; omega) HB.out.size).mono ?_
        rintro e w' ⟨rfl, x2, h2, hkp, _⟩
        refine ⟨ret_int (we_good (by show (-1 : Int) ≠ 0; decide) HGJ.out), ⟨x2, ?_⟩, ?_⟩
        · rw [nx_good HGJ.out] at h2
          rw [HTK1.out]; exact h2
        · have hb2 : Below w.heap.size w wr.drew := HB.out.drew
          have hb3 := Kept.below (B := w.heap.size) hkp HB.out.size (fun i hi => (hk'.inHeap i hi).2)
          exact ⟨hb3.os.trans hb2.os, hb3.tape.trans hb2.tape, hb3.output.trans hb2.output, Nat.le_trans hb2.size hb3.size, fun i hi => (hb3.block i hi).trans (hb2.block i hi)⟩
      have j1 : (0 : Int) ≤ (j : Int) := by omega
      have j2 : (j : Int) < (len : Int) := by omega
      have j3 : (j : Int) < n := by have := HKK.out; omega
      have hlen' : len ≤ 5864062014805 := hl
      clear hgj htk1 eat hcs
      go_wp2_with fail
      go_region_with (first
        | (go_at_call 50; refine hW.mono ?_; rintro e w5 ⟨rfl, hk5, hb5⟩))
      all_goals go_wp2
      all_goals go_roundw
      all_goals first
        | (case rel => exact ⟨j + 1, by omega, by go_num, hk5, hb5⟩)
        | (case measure => simp [intOf]; omega)
    · have ej : j = k := by omega
      by_cases hjn : (j : Int) < n
      · have hjl : decide ((j : Int) < (len : Int)) = false := by have := HKK.out; simp; omega
        have hjl2 : decide (j < len) = false := by have := HKK.out; simp; omega
        clear ej
        go_wp2
        go_ret
        refine ⟨⟨p, f', y', xj, rfl, ?_⟩, HB.out⟩
        have e : ct s n.toNat = ⟨s.img, s.log.take j, -1⟩ := by rw [show j = k by omega, ← HTK.out]; rfl
        rw [e]; exact HKJ.out
      · have hjn' : decide ((j : Int) < n) = false := by simpa using hjn
        go_wp2
        go_ret
        refine ⟨⟨p, f', y', xj, rfl, ?_⟩, HB.out⟩
        have e : ct s n.toNat = ⟨s.img, s.log.take j, -1⟩ := by rw [show j = k by omega, ← HTK.out]; rfl
        rw [e]; exact HKJ.out
end Go.Proofs.Ytohgflimdoebiaa.Dk
