/- KnowLeast's walk (unfinished). -/
import Derived.Test.YtompgoaogomoaaaHd
import Derived.Test.YtompgoaogomoaaaKnKey
namespace Go.Proofs.Ytompgoaogomoaaa.Kn
open Go.RowKit Go.Maps
open Rt (Gd gd gd_yes gd_no rGood_any)
set_option linter.unusedVariables false
set_option linter.unusedSimpArgs false

structure Ls (w1 w : World) (N mb k : Nat) (O : List Op9) (D : DataW Unit) (vo : Value) : Prop where
  row : w.ownsRow N 39 9 vo O.length (O.flatMap oC)
  map : w.ownsMap Try.prog 39 (plainElem Try.prog 3) mb k D
  ok : ∀ o ∈ O, OkO o
  len : O.length ≤ k
  bel : Below N w1 w
  sz : N ≤ w.heap.size
theorem wI0 : wI 0 := by unfold wI; decide
theorem plainOne : (plainElem Try.prog 3 (.int .i64 1) : Option (DataW Unit × List MemPlace)) = some (.lit (.int .i64 1), []) := plainElem_int Try.underlying3 (by decide)
theorem zeroInt (w : World) : (zeroValue 3).run Try.prog w = .ok (.int .i64 0) w := by kernel_rfl
section
variable {w1 w w' : World} {N mb k : Nat} {O : List Op9} {D : DataW Unit} {vo : Value}
theorem Ls.later (h : Ls w1 w N mb k O D vo) (hb : Below w.heap.size w w') (hm : w'.ownsMap Try.prog 39 (plainElem Try.prog 3) mb k D) : Ls w1 w' N mb k O D vo :=
  ⟨own_later h.row hb, hm, h.ok, h.len, h.bel.trans (hb.mono h.sz), Nat.le_trans h.sz hb.size⟩
theorem Ls.mono (h : Ls w1 w N mb k O D vo) : Ls w1 w N mb (k + 1) O D vo := ⟨h.row, h.map.mono (by omega), h.ok, by have := h.len; omega, h.bel, h.sz⟩
theorem own_map {e z n : Nat} {v : Value} {xs : List Value} {R : Value → Option (DataW Unit × List MemPlace)} {t : TypeId} (hr : w.ownsRow N e z v n xs) (hm : w.ownsMap Try.prog t R mb k D) {j : Nat} (hj : v.ownBlock = some j) : j ≠ mb := by
  rintro rfl
  obtain ⟨_, _, cur, hc⟩ := own_type hr hj
  obtain ⟨es, clock, hb, _⟩ := hm
  rw [hc] at hb
  simp at hb
theorem Ls.put {D' : DataW Unit} (h : Ls w1 w N N k O D vo) (hg : w.grownBy w' (some N)) (hm : w'.ownsMap Try.prog 39 (plainElem Try.prog 3) N (k + 1) D') : Ls w1 w' N N (k + 1) O D' vo := by
  have hk := (Kept.refl (fun j => j = N) w).grown hg (fun j e _ => by cases e; rfl)
  exact ⟨hk.row h.row (fun j e e' => own_map h.row h.map e e'), hm, h.ok, by have := h.len; omega, h.bel.trans (hk.below h.sz fun j e => by omega), Nat.le_trans h.sz hk.size⟩
theorem Ls.push {o : Op9} {g c : Nat} (h : Ls w1 w N N k O D vo) (hl : O.length + 1 ≤ k) (ho : OkO o) (hg : w.grownBy w' vo.ownBlock) (hr : w'.ownsRow N 39 9 (.slice (some ⟨g, 0, none⟩) (O.length + 1) c) (O.length + 1) (O.flatMap oC ++ oC o)) : Ls w1 w' N N k (O ++ [o]) D (.slice (some ⟨g, 0, none⟩) (O.length + 1) c) := by
  have hk := (Kept.refl (fun j => vo.ownBlock = some j) w).grown hg (fun j e _ => e)
  have e : (O ++ [o]).flatMap oC = O.flatMap oC ++ oC o := by simp
  refine ⟨by rw [e, List.length_append]; exact hr, h.map.kept hg (fun e => own_map h.row h.map e.symm rfl), fun x hx => ?_, by simpa using hl, h.bel.trans (hk.below h.sz fun j e => (h.row.lt j e).1), Nat.le_trans h.sz hk.size⟩
  rcases List.mem_append.1 hx with hx | hx
  · exact h.ok x hx
  · rw [List.mem_singleton] at hx; exact hx ▸ ho
end
theorem rdO_of {w : World} {N : Nat} {a : Option Addr} {c : Nat} {l : List Op9} (h : w.ownsRow N 39 9 (.slice a l.length c) l.length (l.flatMap oC)) : RdO w a l := fun i hi => by
  rcases h.2 with ⟨h0, h1⟩ | ⟨g, cap, cur, h5, _⟩
  · omega
  · simp at h5
    obtain ⟨rfl, rfl⟩ := h5
    refine ⟨g, 0, rfl, fun j v hv => ?_⟩
    have hj : j < 9 := by
      have := (List.getElem?_eq_some_iff.1 hv).1
      simpa [oC] using this
    rw [Nat.zero_add, h.cellAt (i * 9 + j) (by omega), fm_get (f := oC) (m := 9) (fun _ => rfl) zO hi hj]
    exact hv
theorem keys_low {f : Nat → Int} {x : K2} (h : x ∈ keysT f 32768) : x.1 < 32768 := by
  obtain ⟨i, h1, h2, h3, rfl⟩ := mem_keysT.1 h
  show (i : Int) < 32768
  omega
theorem gv_yes {b s t : Int} (h1 : Gd b s) (h2 : Gd b t) (h : s ≤ t) : Rt.gv b s b t = true := by
  unfold Rt.gv
  rw [gd_iff.2 h1, gd_iff.2 h2]
  simpa using h
theorem infoOp : (Try.prog.info? 39).map (fun i => (i.zero, i.size, i.bytes)) = some (some (.agg #[.int .i64 0, .int .i64 0, .int .i64 0, .int .i64 0, .int .i64 0, .int .i64 0, .int .i64 0, .int .i64 0, .string ⟨#[]⟩]), 9, 80) := by kernel_rfl
set_option maxRecDepth 100000 in
set_option maxHeartbeats 20000000 in
theorem least_walk {PAt : PPred} {Rm : RPred} (A : KApi PAt Rm) (a : Option Addr) (c : Nat) (l : List Op9) (w : World) (rd : RdO w a l) (hl : l.length * 80 ≤ 140737488351232) (ok : ∀ p ∈ l, OkO p) :
    Calls Try.prog 6 #[.slice a l.length c] w fun e w' => e = .returned (.bool true) ∧ Below w.heap.size w w' := by
  obtain ⟨n, hn⟩ : ∃ n, l.length = n := ⟨_, rfl⟩
  have HL : Hid (l.length = n ∧ (∀ p ∈ l, OkO p) ∧ RdO w a l) := ⟨hn, ok, rd⟩
  have hn2 : n * 80 ≤ 140737488351232 := by omega
  rw [hn]
  have hlv := lives_any A w
  have hmm := @run_makeMap Try.prog
  clear hn ok rd hl
  go_enter Try.func6, Try.ntmps6
  go_upto_region 5 with (go_at_call 9; refine hlv.mono ?_; rintro r w1 ⟨rfl, hb1⟩)
  clear hmm hlv
  obtain ⟨N, hN⟩ : ∃ N, w1.heap.size = N := ⟨_, rfl⟩
  have hmap := World.ownsMap_made (H := Unit) w1 Try.prog 39 (plainElem Try.prog 3)
  have hbm := Rt.below1 w1 (.map #[] 0)
  rw [hN] at hmap hbm
  have HB : Hid (Below w.heap.size w w1 ∧ w.heap.size ≤ N) := ⟨hb1, by rw [← hN]; exact hb1.size⟩
  have HS0 : Hid (Ls w1 (w1.alloc (.map #[] 0)) N N 0 [] (.map []) (.slice none 0 0)) := ⟨World.ownsRow_nil _ _ _ _, hmap, by simp, by simp, hbm, by rw [World.size_alloc, hN]; omega⟩
  rw [hN]
  generalize w1.alloc (.map #[] 0) = w2 at *
  clear hmap hbm hb1 hN
  go_wp2_with fail
  go_loopw [3, 18] (fun vo i wx => ∃ (k : Nat) (O : List Op9) (D : DataW Unit) (uo : Value), k ≤ n ∧ i = .int .i64 (k : Int) ∧ uo = vo ∧ Ls w1 wx N N k O D uo) (fun _ i _ => n - (intOf i).toNat)
  case atStart => exact ⟨0, [], _, _, by omega, rfl, rfl, HS0.out⟩
  case round =>
    obtain ⟨k, O, D, uo, hk, rfl, rfl, hS⟩ := hrel
    clear HS0
    have HS : Hid (Ls w1 wr N N k O D uo) := hS
    clear hS
    by_cases hkn : k < n
    · have hkl : k < l.length := by rw [HL.out.1]; exact hkn
      obtain ⟨o, ho⟩ : ∃ o, l.getD k zO = o := ⟨_, rfl⟩
      have hko := HL.out.2.1 o (ho ▸ getD_of hkl)
      obtain ⟨b', f', ha, c0, c1, c2, c3, c4, c5, c6, c7, c8⟩ := ops_cells (HL.out.2.2.later (HB.out.1.trans (HS.out.bel.mono HB.out.2))) hkl ho
      subst ha
      obtain ⟨kd, ⟨⟨ub, us⟩, lb, ls⟩, ep, ⟨s0, s1⟩, tx⟩ := o
      dsimp only at c0 c1 c2 c3 c4 c5 c6 c7 c8
      have HOK : Hid (OkO (kd, (((ub, us), (lb, ls)), (ep, ((s0, s1), tx))))) := hko
      have k1 : (0 : Int) ≤ (k : Int) := by omega
      have k2 : (k : Int) < (n : Int) := by omega
      clear hkl ho hko
      by_cases h1 : kd = 1
      · subst h1
        go_upto_region 11 with (fail)
        obtain ⟨y0, y1, y2, y3, y4, y5, y6, y7, y8⟩ := boxed9 wr (.int .i64 1) (.int .i64 ub) (.int .i64 us) (.int .i64 0) (.int .i64 0) (.int .i64 0) (.int .i64 0) (.int .i64 0) (.string ⟨#[]⟩) 39
        have hOP : OkO (1, (((ub, us), (0, 0)), (0, ((0, 0), ⟨#[]⟩)))) := ⟨HOK.out.1, ⟨HOK.out.2.1.1, HOK.out.2.1.2.1, wI0, wI0⟩, wI0, wI0, wI0, Nat.zero_le _⟩
        have HOP : Hid (OkO (1, (((ub, us), (0, 0)), (0, ((0, 0), ⟨#[]⟩))))) := hOP
        have hS1 := HS.out.later (Rt.below1 wr (.cells #[.int .i64 1, .int .i64 ub, .int .i64 us, .int .i64 0, .int .i64 0, .int .i64 0, .int .i64 0, .int .i64 0, .string ⟨#[]⟩] 39)) (HS.out.map.alloc _)
        clear c0 c1 c2 c3 c4 c5 c6 c7 c8 k1 k2
        have hPN : wr.heap.size ≠ N := by have := HS.out.map.lt; omega
        obtain ⟨P, hP⟩ : ∃ P, wr.heap.size = P := ⟨_, rfl⟩
        rw [hP] at y0 y1 y2 y3 y4 y5 y6 y7 y8 hPN ⊢
        generalize wr.alloc (.cells #[.int .i64 1, .int .i64 ub, .int .i64 us, .int .i64 0, .int .i64 0, .int .i64 0, .int .i64 0, .int .i64 0, .string ⟨#[]⟩] 39) = wB at *
        obtain ⟨kl, hkl⟩ := keyOf_op 1 ub us 0 0 0 0 0 ⟨#[]⟩ hOP
        obtain ⟨q, hrun, -, -⟩ := hS1.map.lookup_int opLaw Try.underlying57 Try.underlying3 (zeroInt _) hkl
        have HT : Hid (Ls w1 wB N N k O D uo) := hS1
        have hmap := hS1.map
        have hrow := hS1.row
        obtain ⟨aO, cO, eO, -⟩ := own_spell hrow
        subst eO
        clear hOP hS1 hP
        by_cases h3 : 1 = 3
        · exact absurd h3 (by decide)
        · have e3 : (1 == 3) = false := by decide
          clear h3
          by_cases hq : q = 1
          · subst hq
            go_wp2_with fail
            go_roundw
            case rel => exact ⟨k + 1, O, D, _, by omega, by go_num, rfl, HT.out.mono⟩
            case measure => simp [intOf]; omega
          · have eq1 : (q == 1) = false := by simpa using hq
            clear hq
            have hob := (World.ownsMap.lt hmap)
            go_upto_region 13 with (at_mapUpdate; refine wpList_mapUpdate_own _ rfl _ _ _ 57 rfl 39 3 opLaw Try.underlying57 (plainElem Try.prog 3) N k D rfl hmap (by unfold maxLen; omega) _ _ kl rfl rfl hkl (.lit (.int .i64 1)) [] plainOne ?_; intro wm hmap2 hgm)
            have HM : Hid (Ls w1 wm N N (k + 1) O (D.put kl (.lit (.int .i64 1))) (.slice aO O.length cO)) := HT.out.put hgm hmap2
            have hkm := (Kept.refl (fun j => j = N) wB).grown hgm (fun j e _ => by cases e; rfl)
            have z0 := hkm.cell y0 hPN
            have z1 := hkm.cell y1 hPN
            have z2 := hkm.cell y2 hPN
            have z3 := hkm.cell y3 hPN
            have z4 := hkm.cell y4 hPN
            have z5 := hkm.cell y5 hPN
            have z6 := hkm.cell y6 hPN
            have z7 := hkm.cell y7 hPN
            have z8 := hkm.cell y8 hPN
            have hrow2 := HM.out.row
            have hOl : O.length ≤ k := HT.out.len
            obtain ⟨L, hL⟩ : ∃ L, O.length = L := ⟨_, rfl⟩
            rw [hL] at hrow2 hOl ⊢
            have HLL : Hid (O.length = L) := hL
            obtain ⟨i0, hi, hz0, hz1, hz2⟩ := info_parts infoOp
            clear y0 y1 y2 y3 y4 y5 y6 y7 y8 hmap hmap2 hgm hkm hrow hob hL hrun
            go_wp2_with (at_builtin; refine wpList_append_lies _ rfl _ _ _ rfl N 39 i0 _ 9 80 Try.underlying22 hi hz0 hz1 hz2 rfl (by omega) _ L (O.flatMap oC) rfl (own_later hrow2 (Rt.below1 _ _)) ⟨wm.heap.size, 0, none⟩ 1 1 [.int .i64 1, .int .i64 ub, .int .i64 us, .int .i64 0, .int .i64 0, .int .i64 0, .int .i64 0, .int .i64 0, .string ⟨#[]⟩] rfl rfl (news_of (_root_.Go.heap_alloc_last _ _)) (by simp [Value.oneCell']) (by omega) (by unfold maxLen; omega) (by omega) (by have := HM.out.sz; simp; omega) (wm.heap.size + 1) (by simp) ?_; intro g4 cap4 wf hown4 hgrow4 hat4 hlt4)
            have hF := Ls.push (o := (1, (((ub, us), (0, 0)), (0, ((0, 0), ⟨#[]⟩))))) (HM.out.later (Rt.below1 _ _) (HM.out.map.alloc _)) (by rw [HLL.out]; omega) HOP.out (by rw [HLL.out]; exact hgrow4) (by rw [HLL.out]; exact hown4)
            rw [HLL.out] at hF
            have HF : Hid (Ls w1 wf N N (k + 1) (O ++ [(1, (((ub, us), (0, 0)), (0, ((0, 0), ⟨#[]⟩))))]) (D.put kl (.lit (.int .i64 1))) (.slice (some ⟨g4, 0, none⟩) (L + 1) cap4)) := hF
            clear hF hown4 hgrow4 hat4 hlt4 hrow2
            go_roundw
            case rel => exact ⟨k + 1, _, _, _, by omega, by go_num, rfl, HF.out⟩
            case measure => simp [intOf]; omega
      · have e1 : (kd == 1) = false := by simpa using h1
        clear h1
        go_upto_region 11 with (fail)
        obtain ⟨y0, y1, y2, y3, y4, y5, y6, y7, y8⟩ := boxed9 wr (.int .i64 kd) (.int .i64 ub) (.int .i64 us) (.int .i64 lb) (.int .i64 ls) (.int .i64 0) (.int .i64 0) (.int .i64 0) (.string ⟨#[]⟩) 39
        have hOP : OkO (kd, (((ub, us), (lb, ls)), (0, ((0, 0), ⟨#[]⟩)))) := ⟨HOK.out.1, ⟨HOK.out.2.1.1, HOK.out.2.1.2.1, HOK.out.2.1.2.2.1, HOK.out.2.1.2.2.2⟩, wI0, wI0, wI0, Nat.zero_le _⟩
        have HOP : Hid (OkO (kd, (((ub, us), (lb, ls)), (0, ((0, 0), ⟨#[]⟩))))) := hOP
        have hS1 := HS.out.later (Rt.below1 wr (.cells #[.int .i64 kd, .int .i64 ub, .int .i64 us, .int .i64 lb, .int .i64 ls, .int .i64 0, .int .i64 0, .int .i64 0, .string ⟨#[]⟩] 39)) (HS.out.map.alloc _)
        clear c0 c1 c2 c3 c4 c5 c6 c7 c8 k1 k2
        have hPN : wr.heap.size ≠ N := by have := HS.out.map.lt; omega
        obtain ⟨P, hP⟩ : ∃ P, wr.heap.size = P := ⟨_, rfl⟩
        rw [hP] at y0 y1 y2 y3 y4 y5 y6 y7 y8 hPN ⊢
        generalize wr.alloc (.cells #[.int .i64 kd, .int .i64 ub, .int .i64 us, .int .i64 lb, .int .i64 ls, .int .i64 0, .int .i64 0, .int .i64 0, .string ⟨#[]⟩] 39) = wB at *
        obtain ⟨kl, hkl⟩ := keyOf_op kd ub us lb ls 0 0 0 ⟨#[]⟩ hOP
        obtain ⟨q, hrun, -, -⟩ := hS1.map.lookup_int opLaw Try.underlying57 Try.underlying3 (zeroInt _) hkl
        have HT : Hid (Ls w1 wB N N k O D uo) := hS1
        have hmap := hS1.map
        have hrow := hS1.row
        obtain ⟨aO, cO, eO, -⟩ := own_spell hrow
        subst eO
        clear hOP hS1 hP
        by_cases h3 : kd = 3
        · subst h3
          go_wp2_with fail
          go_roundw
          case rel => exact ⟨k + 1, O, D, _, by omega, by go_num, rfl, HT.out.mono⟩
          case measure => simp [intOf]; omega
        · have e3 : (kd == 3) = false := by simpa using h3
          clear h3
          by_cases hq : q = 1
          · subst hq
            go_wp2_with fail
            go_roundw
            case rel => exact ⟨k + 1, O, D, _, by omega, by go_num, rfl, HT.out.mono⟩
            case measure => simp [intOf]; omega
          · have eq1 : (q == 1) = false := by simpa using hq
            clear hq
            have hob := (World.ownsMap.lt hmap)
            go_upto_region 13 with (at_mapUpdate; refine wpList_mapUpdate_own _ rfl _ _ _ 57 rfl 39 3 opLaw Try.underlying57 (plainElem Try.prog 3) N k D rfl hmap (by unfold maxLen; omega) _ _ kl rfl rfl hkl (.lit (.int .i64 1)) [] plainOne ?_; intro wm hmap2 hgm)
            have HM : Hid (Ls w1 wm N N (k + 1) O (D.put kl (.lit (.int .i64 1))) (.slice aO O.length cO)) := HT.out.put hgm hmap2
            have hkm := (Kept.refl (fun j => j = N) wB).grown hgm (fun j e _ => by cases e; rfl)
            have z0 := hkm.cell y0 hPN
            have z1 := hkm.cell y1 hPN
            have z2 := hkm.cell y2 hPN
            have z3 := hkm.cell y3 hPN
            have z4 := hkm.cell y4 hPN
            have z5 := hkm.cell y5 hPN
            have z6 := hkm.cell y6 hPN
            have z7 := hkm.cell y7 hPN
            have z8 := hkm.cell y8 hPN
            have hrow2 := HM.out.row
            have hOl : O.length ≤ k := HT.out.len
            obtain ⟨L, hL⟩ : ∃ L, O.length = L := ⟨_, rfl⟩
            rw [hL] at hrow2 hOl ⊢
            have HLL : Hid (O.length = L) := hL
            obtain ⟨i0, hi, hz0, hz1, hz2⟩ := info_parts infoOp
            clear y0 y1 y2 y3 y4 y5 y6 y7 y8 hmap hmap2 hgm hkm hrow hob hL hrun
            go_wp2_with (at_builtin; refine wpList_append_lies _ rfl _ _ _ rfl N 39 i0 _ 9 80 Try.underlying22 hi hz0 hz1 hz2 rfl (by omega) _ L (O.flatMap oC) rfl (own_later hrow2 (Rt.below1 _ _)) ⟨wm.heap.size, 0, none⟩ 1 1 [.int .i64 kd, .int .i64 ub, .int .i64 us, .int .i64 lb, .int .i64 ls, .int .i64 0, .int .i64 0, .int .i64 0, .string ⟨#[]⟩] rfl rfl (news_of (_root_.Go.heap_alloc_last _ _)) (by simp [Value.oneCell']) (by omega) (by unfold maxLen; omega) (by omega) (by have := HM.out.sz; simp; omega) (wm.heap.size + 1) (by simp) ?_; intro g4 cap4 wf hown4 hgrow4 hat4 hlt4)
            have hF := Ls.push (o := (kd, (((ub, us), (lb, ls)), (0, ((0, 0), ⟨#[]⟩))))) (HM.out.later (Rt.below1 _ _) (HM.out.map.alloc _)) (by rw [HLL.out]; omega) HOP.out (by rw [HLL.out]; exact hgrow4) (by rw [HLL.out]; exact hown4)
            rw [HLL.out] at hF
            have HF : Hid (Ls w1 wf N N (k + 1) (O ++ [(kd, (((ub, us), (lb, ls)), (0, ((0, 0), ⟨#[]⟩))))]) (D.put kl (.lit (.int .i64 1))) (.slice (some ⟨g4, 0, none⟩) (L + 1) cap4)) := hF
            clear hF hown4 hgrow4 hat4 hlt4 hrow2
            go_roundw
            case rel => exact ⟨k + 1, _, _, _, by omega, by go_num, rfl, HF.out⟩
            case measure => simp [intOf]; omega
    · obtain rfl : k = n := by omega
      have dkk : decide ((k : Int) < (k : Int)) = false := by simp
      have hrow := HS.out.row
      obtain ⟨aO, cO, eO, -⟩ := own_spell hrow
      subst eO
      obtain ⟨w5, h5⟩ : ∃ W, W = wr := ⟨_, rfl⟩
      subst h5
      have HO : Hid (RdO w5 aO O ∧ (∀ o ∈ O, OkO o) ∧ O.length ≤ k) := ⟨rdO_of hrow, HS.out.ok, HS.out.len⟩
      have HBr : Hid (Below w.heap.size w w5) := HB.out.1.trans (HS.out.bel.mono HB.out.2)
      have hwo := fun W s (hW : Below w5.heap.size w5 W) => without_any A aO cO O s W (HO.out.1.later hW) (by have := HO.out.2.2; omega) HO.out.2.1
      obtain ⟨L, hL⟩ : ∃ L, O.length = L := ⟨_, rfl⟩
      have HLL : Hid (O.length = L ∧ L ≤ k) := ⟨hL, by rw [← hL]; exact HO.out.2.2⟩
      simp only [hL] at hwo
      rw [hL]
      have hw1 := hwo w5 (-1) (Below.refl _ _)
      have hLb : L ≤ 2199023255552 := by have := HLL.out.2; omega
      clear hrow hL hk hkn HS
      go_upto_region 16 with (go_at_call 25; refine hw1.mono ?_; rintro r wa ⟨p, F, rfl, hP, hba⟩)
      have hP2 : POps PAt wa w5.heap.size p O F := by
        rw [dropAt_all (by decide) L (by rw [HLL.out.1]; exact Nat.le_refl _), List.take_of_length_le (by rw [HLL.out.1]; exact Nat.le_refl _)] at hP
        exact hP
      have HRO : Hid (Rm (toldL O) (boxL O) (txtL O)) := A.rm O (by have := HLL.out; omega)
      have hkk := keys_first A hP2 HRO.out
      have HW : Hid (POps PAt wa w5.heap.size p O F ∧ Below w5.heap.size w5 wa ∧ (∀ W s, Below w5.heap.size w5 W → Calls Try.prog 25 #[.slice aO L cO, .int .i64 s] W fun e w' => ∃ p F, e = .returned (.pointer (some ⟨p, 0, none⟩)) ∧ POps PAt w' W.heap.size p (dropAt O s L) F ∧ Below W.heap.size W w')) := ⟨hP2, hba, hwo⟩
      clear hw1 hwo hP hP2 hba dkk
      go_wp2_with (go_at_call 21; refine hkk.mono ?_; rintro r wq ⟨f, ak, ck, rfl, hTf, hrk, -, hbk⟩)
      obtain ⟨ks, hks⟩ : ∃ ks, keysT f 32768 = ks := ⟨_, rfl⟩
      obtain ⟨z, hz⟩ : ∃ z, ks.length = z := ⟨_, rfl⟩
      rw [hks] at hrk ⊢
      rw [hz]
      have hzb : z ≤ 32768 := by rw [← hz, ← hks]; exact keysT_len _
      have HK : Hid (keysT f 32768 = ks ∧ ks.length = z ∧ Tab (toldL O) (boxL O) f ∧ Rt.RdAt wq ak ks ∧ Below w5.heap.size w5 wq ∧ Below wa.heap.size wa wq) := ⟨hks, hz, hTf, hrk, Rt.Below.then HW.out.2.1 hbk, hbk⟩
      clear hkk hks hz hTf hrk hbk
      go_wp2_with fail
      go_loopw [51] (fun i wx => ∃ j : Nat, j ≤ z ∧ i = .int .i64 (j : Int) ∧ Below wq.heap.size wq wx) (fun i _ => z - (intOf i).toNat)
      case atStart => exact ⟨0, by omega, rfl, Below.refl _ _⟩
      case round =>
        obtain ⟨j, hj, rfl, hbw⟩ := hrel
        have HBW : Hid (Below wq.heap.size wq wr) := hbw
        clear hbw
        by_cases hjz : j < z
        · have hjl : j < ks.length := by rw [HK.out.2.1]; exact hjz
          obtain ⟨x, hx⟩ : ∃ x, ks.getD j (0, 0) = x := ⟨_, rfl⟩
          have hxk : x ∈ keysT f 32768 := by rw [HK.out.1]; exact hx ▸ getD_of hjl
          have hxh : HadL O x := keys_had HK.out.2.2.1 hxk
          have hxl := keys_low hxk
          obtain ⟨b9, f9, ha, c0, c1⟩ := (HK.out.2.2.2.1.later HBW.out) j hjl
          rw [hx] at c0 c1
          obtain ⟨i0, hi0, hor⟩ := least_at hxh hxl
          obtain ⟨x0, x1⟩ := x
          dsimp only at c0 c1 hor hxl
          have hg : Gd x0 x1 := had_good hxh
          have HX : Hid (HadL O (x0, x1) ∧ Gd x0 x1 ∧ x0 < 32768) := ⟨hxh, hg, hxl⟩
          have HI : Hid (i0 < L ∧ (((O.getD i0 zO).1 = 1 ∧ Gd (O.getD i0 zO).2.1.1.1 (O.getD i0 zO).2.1.1.2 ∧ (O.getD i0 zO).2.1.1.1 = x0 ∧ (O.getD i0 zO).2.1.1.2 ≤ x1) ∨ ((O.getD i0 zO).1 = 2 ∧ gb (O.getD i0 zO).2.1 = true ∧ (O.getD i0 zO).2.1.2.1 = x0 ∧ (O.getD i0 zO).2.1.2.2 ≤ x1 ∧ HadL (dropAt O (i0 : Int) O.length) (O.getD i0 zO).2.1.1))) := ⟨by rw [← HLL.out.1]; exact hi0, hor⟩
          subst ha
          obtain ⟨y0, y1⟩ : (wr.alloc (.cells #[.int .i64 x0, .int .i64 x1] 33)).cell? ⟨wr.heap.size, 0, none⟩ = some (.int .i64 x0) ∧ (wr.alloc (.cells #[.int .i64 x0, .int .i64 x1] 33)).cell? ⟨wr.heap.size, 1, none⟩ = some (.int .i64 x1) := boxed2 wr (.int .i64 x0) (.int .i64 x1) 33 0
          have hbB := Rt.Below.then HBW.out (Rt.below1 wr (.cells #[.int .i64 x0, .int .i64 x1] 33))
          have k1 : (0 : Int) ≤ (j : Int) := by omega
          have k2 : (j : Int) < (z : Int) := by omega
          clear hjl hx hxk hxh hxl hg hi0 hor
          go_upto_region 19 with (fail)
          clear c0 c1 k1 k2
          obtain ⟨P, hP⟩ : ∃ P, wr.heap.size = P := ⟨_, rfl⟩
          rw [hP] at y0 y1 ⊢
          generalize wr.alloc (.cells #[.int .i64 x0, .int .i64 x1] 33) = wB at *
          have HXB : Hid (wB.cell? ⟨P, 0, none⟩ = some (.int .i64 x0) ∧ wB.cell? ⟨P, 1, none⟩ = some (.int .i64 x1) ∧ Below wq.heap.size wq wB) := ⟨y0, y1, hbB⟩
          have HB5 : Hid (∀ W, Below wB.heap.size wB W → Below w5.heap.size w5 W) := fun W hW => Rt.Below.then HK.out.2.2.2.2.1 (Rt.Below.then hbB hW)
          clear hbB y0 y1 hP
          go_wp2_with fail
          go_loopw [10, 57] (fun fo i wx => ∃ (t : Nat) (fd : Bool), t ≤ L ∧ i = .int .i64 (t : Int) ∧ fo = .bool fd ∧ Below wB.heap.size wB wx ∧ (i0 < t → fd = true)) (fun _ i _ => L - (intOf i).toNat)
          case atStart => exact ⟨0, false, by omega, rfl, rfl, Below.refl _ _, fun h => absurd h (by omega)⟩
          case round =>
            obtain ⟨t, fd, ht, rfl, rfl, hbt, hfd⟩ := hrel
            have HBT : Hid (Below wB.heap.size wB wr) := hbt
            have HFD : Hid (i0 < t → fd = true) := hfd
            clear hbt hfd
            by_cases htL : t < L
            · have htl : t < O.length := by rw [HLL.out.1]; exact htL
              obtain ⟨o, ho⟩ : ∃ o, O.getD t zO = o := ⟨_, rfl⟩
              have hko := HO.out.2.1 o (ho ▸ getD_of htl)
              have HIO : Hid (t = i0 → (o.1 = 1 ∧ Gd o.2.1.1.1 o.2.1.1.2 ∧ o.2.1.1.1 = x0 ∧ o.2.1.1.2 ≤ x1) ∨ (o.1 = 2 ∧ gb o.2.1 = true ∧ o.2.1.2.1 = x0 ∧ o.2.1.2.2 ≤ x1 ∧ HadL (dropAt O (t : Int) L) o.2.1.1)) := fun e => by
                have h := HI.out.2
                rw [← e, ho, HLL.out.1] at h
                exact h
              obtain ⟨b', f', ha, c0, c1, c2, c3, c4, c5, c6, c7, c8⟩ := ops_cells (HO.out.1.later (HB5.out _ HBT.out)) htl ho
              obtain ⟨kd, ⟨⟨ub, us⟩, lb, ls⟩, ep, ⟨s0, s1⟩, tx⟩ := o
              dsimp only at c0 c1 c2 c3 c4 c5 c6 c7 c8
              have HOK : Hid (OkO (kd, (((ub, us), (lb, ls)), (ep, ((s0, s1), tx))))) := hko
              obtain ⟨y0, y1, y2, y3, y4, y5, y6, y7, y8⟩ := boxed9 wr (.int .i64 kd) (.int .i64 ub) (.int .i64 us) (.int .i64 lb) (.int .i64 ls) (.int .i64 ep) (.int .i64 s0) (.int .i64 s1) (.string tx) 39
              have hbc := Rt.Below.then HBT.out (Rt.below1 wr (.cells #[.int .i64 kd, .int .i64 ub, .int .i64 us, .int .i64 lb, .int .i64 ls, .int .i64 ep, .int .i64 s0, .int .i64 s1, .string tx] 39))
              have k1 : (0 : Int) ≤ (t : Int) := by omega
              have k2 : (t : Int) < (L : Int) := by omega
              subst ha
              clear htl ho hko
              go_upto_region 23 with (fail)
              clear c0 c1 c2 c3 c4 c5 c6 c7 c8 k1 k2
              obtain ⟨Q, hQ⟩ : ∃ Q, wr.heap.size = Q := ⟨_, rfl⟩
              rw [hQ] at y0 y1 y2 y3 y4 y5 y6 y7 y8 ⊢
              generalize wr.alloc (.cells #[.int .i64 kd, .int .i64 ub, .int .i64 us, .int .i64 lb, .int .i64 ls, .int .i64 ep, .int .i64 s0, .int .i64 s1, .string tx] 39) = wC at *
              have v0 := cell_later hbc HXB.out.1
              have v1 := cell_later hbc HXB.out.2.1
              have HC : Hid (Below wB.heap.size wB wC) := hbc
              clear hQ hbc y5 y6 y7 y8
              have HI2 : Hid (t = i0 → (kd = 1 ∧ Gd ub us ∧ ub = x0 ∧ us ≤ x1) ∨ (kd = 2 ∧ gb ((ub, us), (lb, ls)) = true ∧ lb = x0 ∧ ls ≤ x1 ∧ HadL (dropAt O (t : Int) L) (ub, us))) := HIO.out
              have hG1 := fun W => Rt.rGives_any ub us x0 x1 W
              have hG2 := fun W => Rt.rGives_any lb ls x0 x1 W
              have hGB := fun W => gb_any ub us lb ls W
              have HOK2 : Hid (wI ub ∧ wI us) := ⟨HOK.out.2.1.1, HOK.out.2.1.2.1⟩
              have hxg := HX.out.2.1
              clear HIO HOK
              by_cases h1 : kd = 1
              · subst h1
                cases hg1 : Rt.gv ub us x0 x1 with
                | true =>
                  simp only [hg1] at hG1
                  clear hg1 hG2 hGB hxg
                  go_wp2_with (go_at_call 26; refine (hG1 _).mono ?_; rintro r wg ⟨rfl, hbg⟩; have hba := hbg; have y0 := cell_later hbg y0; have y1 := cell_later hbg y1; have y2 := cell_later hbg y2; have y3 := cell_later hbg y3; have y4 := cell_later hbg y4)
                  go_roundw
                  case rel => exact ⟨t + 1, true, by omega, by go_num, rfl, Rt.Below.then HC.out hba, fun _ => rfl⟩
                  case measure => simp [intOf]; omega
                | false =>
                  simp only [hg1] at hG1
                  cases fd with
                  | true =>
                    clear hg1 hG2 hGB hxg
                    go_wp2_with (go_at_call 26; refine (hG1 _).mono ?_; rintro r wg ⟨rfl, hbg⟩; have hba := hbg; have y0 := cell_later hbg y0; have y1 := cell_later hbg y1; have y2 := cell_later hbg y2; have y3 := cell_later hbg y3; have y4 := cell_later hbg y4)
                    go_roundw
                    case rel => exact ⟨t + 1, true, by omega, by go_num, rfl, Rt.Below.then HC.out hba, fun _ => rfl⟩
                    case measure => simp [intOf]; omega
                  | false =>
                    have HN : Hid (t ≤ i0) := Nat.not_lt.1 fun h => by have := HFD.out h; cases this
                    have HNO : Hid (¬ i0 < t + 1) := fun h => by
                      have h5 : t = i0 := by have := HN.out; omega
                      rcases HI2.out h5 with ⟨a1, a2, a3, a4⟩ | ⟨a1, a2, a3, a4, a5⟩
                      · subst a3; rw [gv_yes a2 hxg a4] at hg1; cases hg1
                      · exact absurd a1 (by decide)
                    clear hg1 hG2 hGB hxg HFD
                    go_wp2_with (go_at_call 26; refine (hG1 _).mono ?_; rintro r wg ⟨rfl, hbg⟩; have hba := hbg; have y0 := cell_later hbg y0; have y1 := cell_later hbg y1; have y2 := cell_later hbg y2; have y3 := cell_later hbg y3; have y4 := cell_later hbg y4)
                    go_roundw
                    case rel => exact ⟨t + 1, false, by omega, by go_num, rfl, Rt.Below.then HC.out hba, fun h => absurd h HNO.out⟩
                    case measure => simp [intOf]; omega
              · have e1 : (kd == 1) = false := by simpa using h1
                cases fd with
                | true =>
                  clear h1 hG1 hG2 hGB hxg
                  go_wp2_with fail
                  go_roundw
                  case rel => exact ⟨t + 1, true, by omega, by go_num, rfl, HC.out, fun _ => rfl⟩
                  case measure => simp [intOf]; omega
                | false =>
                  have HN : Hid (t ≤ i0) := Nat.not_lt.1 fun h => by have := HFD.out h; cases this
                  by_cases h2 : kd = 2
                  · subst h2
                    cases hgb : gb ((ub, us), (lb, ls)) with
                    | false =>
                      simp only [hgb] at hGB
                      have HNO : Hid (¬ i0 < t + 1) := fun h => by
                        have h5 : t = i0 := by have := HN.out; omega
                        rcases HI2.out h5 with ⟨a1, a2, a3, a4⟩ | ⟨a1, a2, a3, a4, a5⟩
                        · exact absurd a1 h1
                        · rw [a2] at hgb; cases hgb
                      clear h1 hG1 hG2 hgb hxg HFD
                      go_wp2_with (go_at_call 27; refine (hGB _).mono ?_; rintro r wg ⟨rfl, hbg⟩; have y0 := cell_later hbg y0; have y1 := cell_later hbg y1; have y2 := cell_later hbg y2; have y3 := cell_later hbg y3; have y4 := cell_later hbg y4; have v0 := cell_later hbg v0; have v1 := cell_later hbg v1)
                      go_roundw
                      case rel => exact ⟨t + 1, false, by omega, by go_num, rfl, Rt.Below.then HC.out hbg, fun h => absurd h HNO.out⟩
                      case measure => simp [intOf]; omega
                    | true =>
                      simp only [hgb] at hGB
                      cases hg2 : Rt.gv lb ls x0 x1 with
                      | false =>
                        simp only [hg2] at hG2
                        have HNO : Hid (¬ i0 < t + 1) := fun h => by
                          have h5 : t = i0 := by have := HN.out; omega
                          rcases HI2.out h5 with ⟨a1, a2, a3, a4⟩ | ⟨a1, a2, a3, a4, a5⟩
                          · exact absurd a1 h1
                          · subst a3; rw [gv_yes (gb_gd.1 a2).2 hxg a4] at hg2; cases hg2
                        clear h1 hG1 hgb hg2 hxg HFD
                        go_wp2_with (first | (go_at_call 27; refine (hGB _).mono ?_; rintro r wg ⟨rfl, hbg⟩; have y0 := cell_later hbg y0; have y1 := cell_later hbg y1; have y2 := cell_later hbg y2; have y3 := cell_later hbg y3; have y4 := cell_later hbg y4; have v0 := cell_later hbg v0; have v1 := cell_later hbg v1) | (go_at_call 26; refine (hG2 _).mono ?_; rintro r wh ⟨rfl, hbh⟩; have y0 := cell_later hbh y0; have y1 := cell_later hbh y1; have y2 := cell_later hbh y2))
                        go_roundw
                        case rel => exact ⟨t + 1, false, by omega, by go_num, rfl, Rt.Below.then HC.out (Rt.Below.then hbg hbh), fun h => absurd h HNO.out⟩
                        case measure => simp [intOf]; omega
                      | true =>
                        simp only [hg2] at hG2
                        obtain ⟨v6, hv6⟩ := bool_of (HadL (dropAt O (t : Int) L) (ub, us))
                        have HV6 : Hid (i0 < t + 1 → v6 = true) := fun h => by
                          have h5 : t = i0 := by have := HN.out; omega
                          rcases HI2.out h5 with ⟨a1, a2, a3, a4⟩ | ⟨a1, a2, a3, a4, a5⟩
                          · exact absurd a1 h1
                          · exact hv6.2 a5
                        have HRD : Hid (Rm (toldL (dropAt O (t : Int) L)) (boxL (dropAt O (t : Int) L)) (txtL (dropAt O (t : Int) L))) := A.rm _ (by have := dropAt_len O (t : Int) L; have := HLL.out.2; omega)
                        clear h1 hG1 hgb hg2 hxg HFD
                        go_upto_region 26 with (first | (go_at_call 27; refine (hGB _).mono ?_; rintro r wg ⟨rfl, hbg⟩; have y0 := cell_later hbg y0; have y1 := cell_later hbg y1; have y2 := cell_later hbg y2; have y3 := cell_later hbg y3; have y4 := cell_later hbg y4; have v0 := cell_later hbg v0; have v1 := cell_later hbg v1) | (go_at_call 26; refine (hG2 _).mono ?_; rintro r wh ⟨rfl, hbh⟩; have y0 := cell_later hbh y0; have y1 := cell_later hbh y1; have y2 := cell_later hbh y2))
                        have hbD := Rt.Below.then HC.out (Rt.Below.then hbg hbh)
                        have HBD : Hid (Below wB.heap.size wB wh) := hbD
                        have hW5 := fun W (hW : Below wh.heap.size wh W) => HW.out.2.2 W (t : Int) (HB5.out _ (Rt.Below.then hbD hW))
                        have hS0 : Below wh.heap.size wh wh.drew := (Below.refl _ _).drew
                        clear hbg hbh hbD hG2 hGB v0 v1 y0 y3 y4
                        refine wp_region_held_drew (S := fun W => Below wh.heap.size wh W) (by kernel_rfl) hS0 (fun hHeld => ?_)
                        refine opT 0 91 (.move (.tmp 3)) (.slice (some ⟨b', f', none⟩) L cO) rfl ?_
                        go_frame
                        refine opT 1 92 (.move (.tmp 11)) (.int .i64 (t : Int)) rfl ?_
                        go_frame
                        refine opT 3 94 (.fieldAddr 39 (.tmp 12) 1) (.pointer (some ⟨Q, 1, none⟩)) rfl ?_
                        go_frame
                        refine opT 4 95 (.fieldAddr 35 (.tmp 94) 0) (.pointer (some ⟨Q, 1, none⟩)) rfl ?_
                        go_frame
                        refine opR 5 96 (.load 33 (.tmp 95)) (.agg #[.int .i64 ub, .int .i64 us]) rfl (fun w hSw => by have y1 := cell_later hSw y1; have y2 := cell_later hSw y2; go_simp) ?_
                        go_frame
                        refine wpAnyH_ready (rs := [2]) (by kernel_rfl) (by simp) ?_
                        refine AllReadyH.cons rfl (fun K hK => ?_) AllReadyH.nil
                        go_simp
                        refine (hW5 _ hHeld).mono ?_
                        rintro r wc ⟨p5, F5, rfl, hP5, hbc⟩
                        go_wp2_with fail
                        have hh6 := A.has ub us hP5 HRD.out ⟨HOK2.out.1, HOK2.out.2⟩ hv6
                        refine hK.out _ _ (Rt.Below.then hHeld hbc) (fun hH1 => ?_)
                        clear hbc hHeld hP5
                        clear hK K
                        try go_frame
                        refine wpAnyH_ready (rs := [6]) (by kernel_rfl) (by simp) ?_
                        refine AllReadyH.cons rfl (fun K hK => ?_) AllReadyH.nil
                        go_simp
                        refine hh6.mono ?_
                        rintro r wc' ⟨rfl, hbc⟩
                        go_wp2_with fail
                        refine hK.out _ _ (Rt.Below.then hH1 hbc) (fun hH2 => ?_)
                        clear hbc hH1
                        clear hK K
                        try go_frame
                        refine opT 7 10 (.assign (.tmp 97)) (.bool v6) rfl ?_
                        go_frame
                        refine wpAnyH_done (by kernel_rfl) ?_ _
                        clear hW5 y1 y2 hv6
                        go_wp2_with fail
                        go_roundw
                        case rel => exact ⟨t + 1, v6, by omega, by go_num, rfl, Rt.Below.then HBD.out hH2, HV6.out⟩
                        case measure => simp [intOf]; omega
                  · have e2 : (kd == 2) = false := by simpa using h2
                    have HNO : Hid (¬ i0 < t + 1) := fun h => by
                      have h5 : t = i0 := by have := HN.out; omega
                      rcases HI2.out h5 with ⟨a1, a2, a3, a4⟩ | ⟨a1, a2, a3, a4, a5⟩
                      · exact absurd a1 h1
                      · exact absurd a1 h2
                    clear h1 h2 hG1 hG2 hGB hxg HFD
                    go_wp2_with fail
                    go_roundw
                    case rel => exact ⟨t + 1, false, by omega, by go_num, rfl, HC.out, fun h => absurd h HNO.out⟩
                    case measure => simp [intOf]; omega
            · obtain rfl : t = L := by omega
              have dtt : decide ((t : Int) < (t : Int)) = false := by simp
              obtain rfl : fd = true := HFD.out HI.out.1
              have z0 := cell_later HBT.out HXB.out.1
              have z1 := cell_later HBT.out HXB.out.2.1
              have hA := fun W hW => A.has (v := true) x0 x1 (A.later HW.out.1 (Rt.Below.then HK.out.2.2.2.2.2 (Rt.Below.then HXB.out.2.2 hW))) HRO.out ⟨WalkArith.wf_i64 (by have := HX.out.2.1.1; have := HX.out.2.1.2.1; omega), WalkArith.wf_i64 (by have := HX.out.2.1.2.2.1; have := HX.out.2.1.2.2.2; omega)⟩ ⟨fun _ => HX.out.1, fun _ => rfl⟩ (w := W)
              have hA1 := hA _ HBT.out
              have d9 : decide ((32768 : Int) ≤ x0) = false := decide_eq_false (by have := HX.out.2.2; omega)
              clear hA ht htL
              go_wp2_with (go_at_call 14; refine hA1.mono ?_; rintro r w8 ⟨rfl, hb8⟩; have z0 := cell_later hb8 z0; have z1 := cell_later hb8 z1)
              go_roundw
              case rel => exact ⟨j + 1, by omega, by go_num, Rt.Below.then HXB.out.2.2 (Rt.Below.then HBT.out hb8)⟩
              case measure => simp [intOf]; omega
        · obtain rfl : j = z := by omega
          have djj : decide ((j : Int) < (j : Int)) = false := by simp
          clear hj hjz
          go_wp2_with fail
          go_ret
          exact ⟨rfl, HBr.out.trans ((Rt.Below.then HK.out.2.2.2.2.1 HBW.out).mono HBr.out.size)⟩
end Go.Proofs.Ytompgoaogomoaaa.Kn
