/- For every word and every list of integers: List and Of of package seats answer what the document says and undo one another; the list that is handed in stays, what is answered is new memory: SeatsLists, in its first form (no condition but the form's own reach; the listed variables as the program's text lays them), and the card. -/
import Derived.Test.YtljbnhgcfmehoaaDoorCards
import Derived.Test.YtljbnhgcfmehoaaDoorTie
import Derived.Test.YtljbnhgcfmehoaaDoorStV
import Derived.Test.YtljbnhgcfmehoaaDoorOpenSt
import Derived.Laws.AppendOwnNone
import Derived.WalkKit
import Derived.ProofKit
import Derived.OpenShut
import Derived.Deep.DeepHandedRow
import Derived.Deep.DeepWitnessRowRef
import Derived.SizedLaws
namespace Go.Proofs.YtljbnhgcfmehoaaDoor.seatsLists
open Go.ChangeShapes Go.WideShapes Go.ChangeAt Go.RowKit Go.Maps Go.Shelf
set_option linter.unusedVariables false
set_option linter.unusedSimpArgs false

theorem vs_of {W : World} (hL : laidMetH Tryd.prog Rows.seatsListsRow.laid W) : Tb W := tb_of (show laidMet Tryd.prog Rows.seatsListsRow.laid W from hL)
def i64s (l : List Int) : List Value := l.map fun n : Int => Value.int .i64 n
@[simp] theorem i64s_length (l : List Int) : (i64s l).length = l.length := by simp [i64s]
theorem i64s_one (l : List Int) : ∀ u ∈ i64s l, u.oneCell' = true := by
  intro u hu
  simp only [i64s, List.mem_map] at hu
  obtain ⟨_, _, rfl⟩ := hu
  rfl
theorem news_of_rd {w : World} {b o : Nat} {ws : List Int} (h : RdI w (some ⟨b, o, none⟩) ws) : ∀ j u, (i64s ws)[j]? = some u → w.cell? ((⟨b, o, none⟩ : Addr).add j) = some u := fun j u hu => by
  have hj : j < ws.length := by
    rcases Nat.lt_or_ge j (i64s ws).length with h' | h'
    · simpa using h'
    · rw [List.getElem?_eq_none h'] at hu; cases hu
  obtain ⟨b', o', e, c0⟩ := h j hj
  obtain ⟨eb, eo⟩ : b = b' ∧ o = o' := by simpa using e
  rw [← eb, ← eo] at c0
  rw [add_plain, c0]
  rw [← hu]
  simp [i64s, hj]
theorem rdi_of_row {w : World} {B g n cap : Nat} {ws : List Int} {ys : List Value} (h : w.ownsRow B 3 1 (.slice (some ⟨g, 0, none⟩) n cap) n (i64s ws ++ ys)) : RdI w (some ⟨g, 0, none⟩) ws := fun i hi => by
  have hl := h.1
  simp at hl
  refine ⟨g, 0, rfl, ?_⟩
  rw [Nat.zero_add, h.cellAt i (by omega), List.getElem?_append_left (by simpa using hi)]
  simp [i64s, hi]
theorem row_cap {w : World} {B g n cap : Nat} {xs : List Value} (h : w.ownsRow B 3 1 (.slice (some ⟨g, 0, none⟩) n cap) n xs) : n ≤ cap ∧ B ≤ g ∧ g < w.heap.size := by
  rcases h.2 with ⟨h0, _⟩ | ⟨g', cap', cur, h5, h3, h4, h6, _⟩
  · simp at h0
  · simp at h5
    obtain ⟨rfl, rfl⟩ := h5
    exact ⟨h6, h3, (Array.getElem?_eq_some_iff.1 h4).1⟩
/- A set's list makes the set. -/
theorem of_bl {s : Nat} (hs : s < 18446744073709551616) : ofR (zs (bl s)) = .tuple #[.int .u64 (s : Int), .int .i64 0] := by
  have h1 : (zs (bl s)).all sl = true := by
    rw [List.all_eq_true]
    intro z hz
    simp only [zs, List.mem_map] at hz
    obtain ⟨k, hk, rfl⟩ := hz
    exact sl_of (mem_bl.1 hk).1
  have h2 : nats (zs (bl s)) = bl s := by
    unfold nats zs
    rw [List.map_map]
    exact List.map_id' _
  unfold ofR
  rw [if_pos h1, h2, pf_bl hs]
theorem ofR_two (l : List Int) : ∃ p q : Int, ofR l = .tuple #[.int .u64 p, .int .i64 q] := by unfold ofR; split <;> exact ⟨_, _, rfl⟩
set_option maxRecDepth 100000 in
set_option maxHeartbeats 4000000 in
theorem walk_some (s : Nat) (hs : s < 18446744073709551616) (ad : Addr) (c n : Nat) (l : List Int) (hn : l.length = n) (w : World) (hl : n * 8 ≤ 140737488351232) (h4 : RdI w (some ad) l) (hnw : ∀ j u, (i64s l)[j]? = some u → w.cell? (ad.add j) = some u) (hT : Tb w) :
    Calls Tryd.prog 6 #[.int .u64 (s : Int), .slice (some ad) n c] w fun e w' => e = .returned (.bool true) ∧ Below w.heap.size w w' := by
  have H4 : Hid (RdI w (some ad) l) := h4
  have HW0 : Hid (∀ j u, (i64s l)[j]? = some u → w.cell? (ad.add j) = some u) := hnw
  clear h4 hnw
  obtain ⟨i0, hi, hz0, hz1, hz2⟩ := info_parts infoInt
  have HN : Hid (l.length = n) := hn
  clear hn
  go_enter Tryd.func6, Tryd.ntmps6
  go_wp2_with fail
  refine (lives_any w hT).mono ?_
  rintro e w1 ⟨rfl, hb1⟩
  have HB1 : Hid (Below w.heap.size w w1) := hb1
  clear hb1
  have HE0 : Hid ((w1.alloc (.cells #[] 3)).ownsRow w1.heap.size 3 1 (.slice (some ⟨w1.heap.size, 0, none⟩) 0 0) 0 []) :=
    ⟨rfl, Or.inr ⟨w1.heap.size, 0, #[], rfl, Nat.le_refl _, heap_alloc_last w1 _, Nat.le_refl _, Nat.zero_le _, rfl, rfl⟩⟩
  have HA0 : Hid (Below w1.heap.size w1 (w1.alloc (.cells #[] 3))) := (Below.refl _ w1).alloc (Nat.le_refl _) _
  have HNW : Hid (∀ j u, (i64s l)[j]? = some u → (w1.alloc (.cells #[] 3)).cell? (ad.add j) = some u) := fun j u hu => cell_later HA0.out (cell_later HB1.out (HW0.out j u hu))
  have HCL : Hid ((i64s l).length = n * 1) := by show (i64s l).length = n * 1; rw [i64s_length, HN.out]; omega
  go_wp2_with (first
    | (at_builtin; (refine wpList_append_own (w := _) rfl _ _ 32 rfl w1.heap.size 3 i0 _ 1 8 Tryd.underlying32 hi hz0 hz1 hz2 rfl (by decide) _ 0 [] rfl HE0.out ad n c (i64s l) rfl HCL.out HNW.out (i64s_one _) (by unfold maxLen; omega) (by omega) (by simp) ?_); (intro v2 w2 hown2 hgrow2 _; rw [Nat.zero_add, List.nil_append] at hown2; obtain ⟨a2, cap2, rfl⟩ := row_slice hown2; have HO2 : Hid (w2.ownsRow w1.heap.size 3 1 (.slice a2 n cap2) n (i64s l)) := hown2; have HG2 : Hid (Below w1.heap.size w1 w2) := below_grown HA0.out (show (w1.alloc (.cells #[] 3)).grownBy w2 (some w1.heap.size) from hgrow2) (by simp) (fun j hj => by cases hj; exact Nat.le_refl _); clear hown2 hgrow2))
    | (at_builtin; (refine wpList_append_own (w := _) rfl _ _ 32 rfl w1.heap.size 3 i0 _ 1 8 Tryd.underlying32 hi hz0 hz1 hz2 rfl (by decide) _ n (i64s l) rfl (HO2.out.alloc _) ⟨w2.heap.size, 0, none⟩ 1 1 [.int .i64 (-77)] rfl rfl (cell_one_new _ _ _) (by simp [Value.oneCell']) (by unfold maxLen; omega) (by omega) (by have := HG2.out.size; rw [World.size_alloc]; omega) ?_); intro v3 w3 hown3 hgrow3 hq3; obtain ⟨g3, cap3, rfl⟩ := ownsRow_succ hown3; have hcp := (row_cap hown3).1; have hcp1 : n ≤ cap3 := (by omega); have hcp2 : ((n : Nat) : Int) ≤ (cap3 : Int) := (by omega); have HO3 : Hid (w3.ownsRow w1.heap.size 3 1 (.slice (some ⟨g3, 0, none⟩) (n + 1) cap3) (n + 1) (i64s l ++ [.int .i64 (-77)])) := hown3; have HB3 : Hid (Below w1.heap.size w1 w3) := HG2.out.trans (row_grown HO2.out HG2.out.size hgrow3); clear hown3 hgrow3))
  obtain ⟨a, ha⟩ : ∃ a, a = some ad := ⟨_, rfl⟩
  rw [← ha] at H4 ⊢
  clear ha
  have HR3 : Hid (RdI w3 (some ⟨g3, 0, none⟩) l) := rdi_of_row HO3.out
  have HC3 : Hid (w3.cell? ⟨g3, n, none⟩ = some (.int .i64 (-77))) := by
    have h1 := HO3.out.cellAt n (by omega)
    rw [List.getElem?_append_right (by rw [i64s_length, HN.out]; exact Nat.le_refl _), i64s_length, HN.out, Nat.sub_self] at h1
    exact h1
  have HB03 : Hid (Below w.heap.size w w3) := HB1.out.trans (HB3.out.mono HB1.out.size)
  have hof := of_any (some ⟨g3, 0, none⟩) cap3 l w3 (by rw [HN.out]; omega) HR3.out
  rw [HN.out] at hof
  obtain ⟨P, Q, hPQ⟩ := ofR_two l
  rw [hPQ] at hof
  refine hof.mono ?_
  rintro e w4 ⟨rfl, hb4⟩
  clear hof
  have HB4 : Hid (Below w3.heap.size w3 w4) := hb4
  have hrof := rOf_any a c l w4 (by rw [HN.out]; omega) ((H4.out.later HB03.out).later hb4)
  rw [HN.out, hPQ] at hrof
  clear hb4 hPQ
  go_wp2_with fail
  refine hrof.mono ?_
  rintro e w5 ⟨rfl, hb5⟩
  clear hrof
  have HB5 : Hid (Below w3.heap.size w3 w5) := HB4.out.trans (hb5.mono HB4.out.size)
  have hc5 := cell_later HB5.out HC3.out
  have hsm := same_any (some ⟨g3, 0, none⟩) a cap3 c l w5 (by rw [HN.out]; omega) (HR3.out.later HB5.out) ((H4.out.later HB03.out).later HB5.out)
  rw [HN.out] at hsm
  clear hb5
  have i1 : (0 : Int) ≤ (n : Int) := by omega
  have i2 : (n : Int) < ((n + 1 : Nat) : Int) := by omega
  go_wp2_with fail
  refine hsm.mono ?_
  rintro e w6 ⟨rfl, hb6⟩
  have HX6 : Hid (Below w.heap.size w w6) := HB03.out.trans ((HB5.out.trans (hb6.mono HB5.out.size)).mono HB03.out.size)
  have hT6 := hT.later HX6.out
  clear hsm hb6 hc5
  go_wp2_with fail
  refine (list_any s hs w6 hT6).mono ?_
  rintro e w7 ⟨⟨vl, rfl, hvl⟩, hb7⟩
  go_wp2_with fail
  refine (list_any s hs w7 (hT6.later hb7)).mono ?_
  rintro e w8 ⟨⟨vk, rfl, hvk⟩, hb8⟩
  go_wp2_with fail
  refine (rList_any s hs w8).mono ?_
  rintro e w9 ⟨⟨vm, rfl, hvm⟩, hb9⟩
  have hofb := of_bl hs
  have hN64 := bl_len s
  obtain ⟨T, hTT⟩ : ∃ T, bl s = T := ⟨_, rfl⟩
  rw [hTT] at hvl hvk hvm hofb hN64
  clear hTT
  obtain ⟨al, cl, rfl, rl, pl⟩ := hvl.at'
  obtain ⟨ak, ck, rfl, rk, pk⟩ := hvk.at'
  obtain ⟨am, cm, rfl, rm, pm⟩ := hvm.at'
  obtain ⟨N, hNN⟩ : ∃ N, T.length = N := ⟨_, rfl⟩
  have HT : Hid (T.length = N) := hNN
  have HL9 : Hid (w9.ownsRow w6.heap.size 3 1 (.slice al N cl) N (nI T)) := by
    have h1 : w7.ownsRow w6.heap.size 3 1 (.slice al T.length cl) T.length (nI T) := hvl
    have h2 := row_below h1 hb7.size hb8
    have h3 := row_below h2 (Nat.le_trans hb7.size hb8.size) hb9
    rw [hNN] at h3
    exact h3
  have RL9 : Hid (RdI w9 al (zs T)) := (rl.later hb8).later hb9
  have RK9 : Hid (RdI w9 ak (zs T)) := rk.later hb9
  have RM9 : Hid (RdI w9 am (zs T)) := rm
  have HS9 : Hid (w6.heap.size ≤ w9.heap.size) := Nat.le_trans (Nat.le_trans hb7.size hb8.size) hb9.size
  have HS6 : Hid (w.heap.size ≤ w6.heap.size) := HX6.out.size
  have HNK : Hid (∀ b o, ak = some ⟨b, o, none⟩ → some b ≠ (Value.slice al N cl).ownBlock) := fun b o e h => by
    cases al with
    | none => simp [Value.ownBlock] at h
    | some d =>
      simp [Value.ownBlock] at h
      have h1 := (pk b o e).1
      rcases hvl.2 with ⟨h0, _⟩ | ⟨g, cap', cur, h5, h3, h4, _⟩
      · simp at h0
      · simp at h5
        have h6 := (Array.getElem?_eq_some_iff.1 h4).1
        obtain ⟨rfl, _⟩ := h5
        simp at h
        omega
  have HNM : Hid (∀ b o, am = some ⟨b, o, none⟩ → some b ≠ (Value.slice al N cl).ownBlock) := fun b o e h => by
    cases al with
    | none => simp [Value.ownBlock] at h
    | some d =>
      simp [Value.ownBlock] at h
      have h1 := (pm b o e).1
      have h7 := hb8.size
      rcases hvl.2 with ⟨h0, _⟩ | ⟨g, cap', cur, h5, h3, h4, _⟩
      · simp at h0
      · simp at h5
        have h6 := (Array.getElem?_eq_some_iff.1 h4).1
        obtain ⟨rfl, _⟩ := h5
        simp at h
        omega
  have HROW : Hid (∀ j, (Value.slice al N cl).ownBlock = some j → w.heap.size ≤ j) := fun j h => by
    cases al with
    | none => simp [Value.ownBlock] at h
    | some d =>
      simp [Value.ownBlock] at h
      have h7 := HS6.out
      rcases hvl.2 with ⟨h0, _⟩ | ⟨g, cap', cur, h5, h3, h4, _⟩
      · simp at h0
      · simp at h5
        obtain ⟨rfl, _⟩ := h5
        simp at h
        omega
  have HX9 : Hid (Below w.heap.size w w9) := HX6.out.trans (((hb7.trans (hb8.mono hb7.size)).trans (hb9.mono (Nat.le_trans hb7.size hb8.size))).mono HX6.out.size)
  have s1 := fun (W : World) (h : Below w9.heap.size w9 W) => same_any al am cl cm (zs T) W (by rw [zs_length]; omega) (RL9.out.later h) (RM9.out.later h)
  have s2 := fun (W : World) (h : Below w9.heap.size w9 W) => same_any ak am ck cm (zs T) W (by rw [zs_length]; omega) (RK9.out.later h) (RM9.out.later h)
  simp only [zs_length, hNN] at s1 s2
  rw [hNN] at hN64 ⊢
  have HN64 : Hid (N ≤ 64) := hN64
  have HOFB : Hid (ofR (zs T) = .tuple #[.int .u64 (s : Int), .int .i64 0]) := hofb
  clear hvl hvk hvm rl rk rm pl pk pm hb7 hb8 hb9 hT6 hNN hN64 hofb i1 i2
  go_wp2_with fail
  refine (s1 _ (Below.refl _ _)).mono ?_
  rintro e w10 ⟨rfl, hb10⟩
  clear s1
  go_wp2_with fail
  refine (s2 _ hb10).mono ?_
  rintro e w11 ⟨rfl, hb11⟩
  clear s2
  have HB11 : Hid (Below w9.heap.size w9 w11) := hb10.trans (hb11.mono hb10.size)
  clear hb10 hb11
  have HO11 : Hid (w11.ownsRow w6.heap.size 3 1 (.slice al N cl) N (nI T)) := row_below HL9.out HS9.out HB11.out
  have HK11 : Hid (RdI w11 ak (zs T)) := RK9.out.later HB11.out
  have HM11 : Hid (RdI w11 am (zs T)) := RM9.out.later HB11.out
  have HX11 : Hid (Below w.heap.size w w11) := HX9.out.trans (HB11.out.mono HX9.out.size)
  have HS11 : Hid (w6.heap.size ≤ w11.heap.size) := Nat.le_trans HS9.out HB11.out.size
  go_wp2_with fail
  have hN64 := HN64.out
  go_loopw [79] (fun i wr => ∃ k : Nat, k ≤ N ∧ i = .int .i64 (k : Int) ∧ w11.grownBy wr (Value.slice al N cl).ownBlock ∧ ∃ xs, wr.ownsRow w6.heap.size 3 1 (.slice al N cl) N xs) (fun i _ => N - (intOf i).toNat)
  case atStart => exact ⟨0, by omega, rfl, grown_refl _ _, _, HO11.out⟩
  case round =>
    obtain ⟨k, hk, rfl, hg, xs, ho⟩ := hrel
    have HG : Hid (w11.grownBy wr (Value.slice al N cl).ownBlock) := hg
    have HO : Hid (wr.ownsRow w6.heap.size 3 1 (.slice al N cl) N xs) := ho
    clear hg ho
    by_cases hkm : k < N
    · obtain ⟨g, rfl, hg1, hg2⟩ := row_some HO.out (by omega)
      obtain ⟨u0, q0⟩ := row_cell HO.out k (by omega)
      have f0 := HO.out.frozenAt k
      have i1 : (0 : Int) ≤ (k : Int) := by omega
      have i2 : (k : Int) < (N : Int) := by omega
      go_wp2_with fail
      go_roundw
      case rel =>
        have s1 := HO.out.stored k (.int .i64 (-1))
        exact ⟨k + 1, by omega, by go_num, grown_trans HG.out s1.2, _, s1.1⟩
      case measure => simp [intOf]; omega
    · have hkn' : decide ((k : Int) < (N : Int)) = false := by simp; omega
      go_wp2_with (at_builtin; refine wpList_append_own (w := _) rfl _ _ 32 rfl w6.heap.size 3 i0 _ 1 8 Tryd.underlying32 hi hz0 hz1 hz2 rfl (by decide) _ _ _ rfl (HO.out.alloc _) ⟨wr.heap.size, 0, none⟩ 1 1 [.int .i64 (-2)] rfl rfl (cell_one_new _ _ _) (by simp [Value.oneCell']) (by unfold maxLen; omega) (by omega) (by have := HG.out.size; have := HS11.out; simp; omega) ?_; intro v' w12 hown' hgrow _; obtain ⟨g', cap', rfl⟩ := ownsRow_succ hown')
      have HK12 : Hid (RdI w12 ak (zs T)) := by
        have h1 := HK11.out.far HG.out HNK.out
        exact (h1.later ((Below.refl _ wr).alloc (Nat.le_refl _) _)).far hgrow HNK.out
      have HM12 : Hid (RdI w12 am (zs T)) := by
        have h1 := HM11.out.far HG.out HNM.out
        exact (h1.later ((Below.refl _ wr).alloc (Nat.le_refl _) _)).far hgrow HNM.out
      have HX12 : Hid (Below w.heap.size w w12) := by
        have hs7 := HS11.out
        have hw1 := HS6.out
        have hrow := HROW.out
        have h1 := below_grown HX11.out HG.out (by omega) hrow
        have h2 := h1.alloc (Nat.le_trans (by omega) h1.size) (.cells #[.int .i64 (-2)] 3)
        exact below_grown h2 hgrow (by have := h1.size; simp; omega) hrow
      have hof := of_any ak ck (zs T) w12 (by rw [zs_length, HT.out]; omega) HK12.out
      rw [zs_length, HT.out, HOFB.out] at hof
      have hsame := fun (W : World) (h : Below w12.heap.size w12 W) => same_any ak am ck cm (zs T) W (by rw [zs_length, HT.out]; omega) (HK12.out.later h) (HM12.out.later h)
      simp only [zs_length, HT.out] at hsame
      clear hgrow hown'
      go_wp2_with fail
      refine hof.mono ?_
      rintro e w13 ⟨rfl, hb13⟩
      clear hof
      go_wp2_with fail
      refine (hsame _ hb13).mono ?_
      rintro e w14 ⟨rfl, hb14⟩
      clear hsame
      go_wp2_with fail
      go_ret
      exact ⟨rfl, HX12.out.trans ((hb13.trans (hb14.mono hb13.size)).mono HX12.out.size)⟩
set_option maxRecDepth 100000 in
set_option maxHeartbeats 4000000 in
theorem walk_nil (s : Nat) (hs : s < 18446744073709551616) (c n : Nat) (l : List Int) (hn : l.length = n) (h0 : n = 0) (hc : c = 0) (w : World) (hl : n * 8 ≤ 140737488351232) (h4 : RdI w none l) (hT : Tb w) :
    Calls Tryd.prog 6 #[.int .u64 (s : Int), .slice none n c] w fun e w' => e = .returned (.bool true) ∧ Below w.heap.size w w' := by
  have H4 : Hid (RdI w none l) := h4
  have H0 : Hid (n = 0) := h0
  have HC0 : Hid (c = 0) := hc
  clear h4 h0 hc
  obtain ⟨i0, hi, hz0, hz1, hz2⟩ := info_parts infoInt
  have HN : Hid (l.length = n) := hn
  clear hn
  go_enter Tryd.func6, Tryd.ntmps6
  go_wp2_with fail
  refine (lives_any w hT).mono ?_
  rintro e w1 ⟨rfl, hb1⟩
  have HB1 : Hid (Below w.heap.size w w1) := hb1
  clear hb1
  have HE0 : Hid ((w1.alloc (.cells #[] 3)).ownsRow w1.heap.size 3 1 (.slice (some ⟨w1.heap.size, 0, none⟩) 0 0) 0 []) :=
    ⟨rfl, Or.inr ⟨w1.heap.size, 0, #[], rfl, Nat.le_refl _, heap_alloc_last w1 _, Nat.le_refl _, Nat.zero_le _, rfl, rfl⟩⟩
  have HA0 : Hid (Below w1.heap.size w1 (w1.alloc (.cells #[] 3))) := (Below.refl _ w1).alloc (Nat.le_refl _) _
  have HL0 : Hid (l = []) := List.length_eq_zero_iff.1 (HN.out.trans H0.out)
  have HO1 : Hid ((w1.alloc (.cells #[] 3)).ownsRow w1.heap.size 3 1 (.slice (some ⟨w1.heap.size, 0, none⟩) n 0) n (i64s l)) := by
    show (w1.alloc (.cells #[] 3)).ownsRow w1.heap.size 3 1 (.slice (some ⟨w1.heap.size, 0, none⟩) n 0) n (i64s l)
    rw [HL0.out, H0.out]
    exact HE0.out
  go_wp2_with (first
    | (at_builtin; refine wpList_append_own_none rfl _ _ _ rfl w1.heap.size 3 i0 1 Tryd.underlying32 hi (.slice (some ⟨w1.heap.size, 0, none⟩) n 0) n (i64s l) (by show Value.slice _ 0 0 = _; rw [H0.out]) HO1.out (by show Value.slice none n c = _; rw [H0.out, HC0.out]) ?_; obtain ⟨w2, hw2⟩ : ∃ w2, w1.alloc (.cells #[] 3) = w2 := ⟨_, rfl⟩; rw [hw2] at HO1 HA0 ⊢; have HO2 : Hid (w2.ownsRow w1.heap.size 3 1 (.slice (some ⟨w1.heap.size, 0, none⟩) n 0) n (i64s l)) := HO1; have HG2 : Hid (Below w1.heap.size w1 w2) := HA0; clear hw2 HO1 HE0 HA0)
    | (at_builtin; (refine wpList_append_own (w := _) rfl _ _ 32 rfl w1.heap.size 3 i0 _ 1 8 Tryd.underlying32 hi hz0 hz1 hz2 rfl (by decide) _ n (i64s l) rfl (HO2.out.alloc _) ⟨w2.heap.size, 0, none⟩ 1 1 [.int .i64 (-77)] rfl rfl (cell_one_new _ _ _) (by simp [Value.oneCell']) (by unfold maxLen; omega) (by omega) (by have := HG2.out.size; rw [World.size_alloc]; omega) ?_); intro v3 w3 hown3 hgrow3 hq3; obtain ⟨g3, cap3, rfl⟩ := ownsRow_succ hown3; have hcp := (row_cap hown3).1; have hcp1 : n ≤ cap3 := (by omega); have hcp2 : ((n : Nat) : Int) ≤ (cap3 : Int) := (by omega); have HO3 : Hid (w3.ownsRow w1.heap.size 3 1 (.slice (some ⟨g3, 0, none⟩) (n + 1) cap3) (n + 1) (i64s l ++ [.int .i64 (-77)])) := hown3; have HB3 : Hid (Below w1.heap.size w1 w3) := HG2.out.trans (row_grown HO2.out HG2.out.size hgrow3); clear hown3 hgrow3))
  obtain ⟨a, ha⟩ : ∃ a, a = (none : Option Addr) := ⟨_, rfl⟩
  rw [← ha] at H4 ⊢
  clear ha
  have HR3 : Hid (RdI w3 (some ⟨g3, 0, none⟩) l) := rdi_of_row HO3.out
  have HC3 : Hid (w3.cell? ⟨g3, n, none⟩ = some (.int .i64 (-77))) := by
    have h1 := HO3.out.cellAt n (by omega)
    rw [List.getElem?_append_right (by rw [i64s_length, HN.out]; exact Nat.le_refl _), i64s_length, HN.out, Nat.sub_self] at h1
    exact h1
  have HB03 : Hid (Below w.heap.size w w3) := HB1.out.trans (HB3.out.mono HB1.out.size)
  have hof := of_any (some ⟨g3, 0, none⟩) cap3 l w3 (by rw [HN.out]; omega) HR3.out
  rw [HN.out] at hof
  obtain ⟨P, Q, hPQ⟩ := ofR_two l
  rw [hPQ] at hof
  refine hof.mono ?_
  rintro e w4 ⟨rfl, hb4⟩
  clear hof
  have HB4 : Hid (Below w3.heap.size w3 w4) := hb4
  have hrof := rOf_any a c l w4 (by rw [HN.out]; omega) ((H4.out.later HB03.out).later hb4)
  rw [HN.out, hPQ] at hrof
  clear hb4 hPQ
  go_wp2_with fail
  refine hrof.mono ?_
  rintro e w5 ⟨rfl, hb5⟩
  clear hrof
  have HB5 : Hid (Below w3.heap.size w3 w5) := HB4.out.trans (hb5.mono HB4.out.size)
  have hc5 := cell_later HB5.out HC3.out
  have hsm := same_any (some ⟨g3, 0, none⟩) a cap3 c l w5 (by rw [HN.out]; omega) (HR3.out.later HB5.out) ((H4.out.later HB03.out).later HB5.out)
  rw [HN.out] at hsm
  clear hb5
  have i1 : (0 : Int) ≤ (n : Int) := by omega
  have i2 : (n : Int) < ((n + 1 : Nat) : Int) := by omega
  go_wp2_with fail
  refine hsm.mono ?_
  rintro e w6 ⟨rfl, hb6⟩
  have HX6 : Hid (Below w.heap.size w w6) := HB03.out.trans ((HB5.out.trans (hb6.mono HB5.out.size)).mono HB03.out.size)
  have hT6 := hT.later HX6.out
  clear hsm hb6 hc5
  go_wp2_with fail
  refine (list_any s hs w6 hT6).mono ?_
  rintro e w7 ⟨⟨vl, rfl, hvl⟩, hb7⟩
  go_wp2_with fail
  refine (list_any s hs w7 (hT6.later hb7)).mono ?_
  rintro e w8 ⟨⟨vk, rfl, hvk⟩, hb8⟩
  go_wp2_with fail
  refine (rList_any s hs w8).mono ?_
  rintro e w9 ⟨⟨vm, rfl, hvm⟩, hb9⟩
  have hofb := of_bl hs
  have hN64 := bl_len s
  obtain ⟨T, hTT⟩ : ∃ T, bl s = T := ⟨_, rfl⟩
  rw [hTT] at hvl hvk hvm hofb hN64
  clear hTT
  obtain ⟨al, cl, rfl, rl, pl⟩ := hvl.at'
  obtain ⟨ak, ck, rfl, rk, pk⟩ := hvk.at'
  obtain ⟨am, cm, rfl, rm, pm⟩ := hvm.at'
  obtain ⟨N, hNN⟩ : ∃ N, T.length = N := ⟨_, rfl⟩
  have HT : Hid (T.length = N) := hNN
  have HL9 : Hid (w9.ownsRow w6.heap.size 3 1 (.slice al N cl) N (nI T)) := by
    have h1 : w7.ownsRow w6.heap.size 3 1 (.slice al T.length cl) T.length (nI T) := hvl
    have h2 := row_below h1 hb7.size hb8
    have h3 := row_below h2 (Nat.le_trans hb7.size hb8.size) hb9
    rw [hNN] at h3
    exact h3
  have RL9 : Hid (RdI w9 al (zs T)) := (rl.later hb8).later hb9
  have RK9 : Hid (RdI w9 ak (zs T)) := rk.later hb9
  have RM9 : Hid (RdI w9 am (zs T)) := rm
  have HS9 : Hid (w6.heap.size ≤ w9.heap.size) := Nat.le_trans (Nat.le_trans hb7.size hb8.size) hb9.size
  have HS6 : Hid (w.heap.size ≤ w6.heap.size) := HX6.out.size
  have HNK : Hid (∀ b o, ak = some ⟨b, o, none⟩ → some b ≠ (Value.slice al N cl).ownBlock) := fun b o e h => by
    cases al with
    | none => simp [Value.ownBlock] at h
    | some d =>
      simp [Value.ownBlock] at h
      have h1 := (pk b o e).1
      rcases hvl.2 with ⟨h0, _⟩ | ⟨g, cap', cur, h5, h3, h4, _⟩
      · simp at h0
      · simp at h5
        have h6 := (Array.getElem?_eq_some_iff.1 h4).1
        obtain ⟨rfl, _⟩ := h5
        simp at h
        omega
  have HNM : Hid (∀ b o, am = some ⟨b, o, none⟩ → some b ≠ (Value.slice al N cl).ownBlock) := fun b o e h => by
    cases al with
    | none => simp [Value.ownBlock] at h
    | some d =>
      simp [Value.ownBlock] at h
      have h1 := (pm b o e).1
      have h7 := hb8.size
      rcases hvl.2 with ⟨h0, _⟩ | ⟨g, cap', cur, h5, h3, h4, _⟩
      · simp at h0
      · simp at h5
        have h6 := (Array.getElem?_eq_some_iff.1 h4).1
        obtain ⟨rfl, _⟩ := h5
        simp at h
        omega
  have HROW : Hid (∀ j, (Value.slice al N cl).ownBlock = some j → w.heap.size ≤ j) := fun j h => by
    cases al with
    | none => simp [Value.ownBlock] at h
    | some d =>
      simp [Value.ownBlock] at h
      have h7 := HS6.out
      rcases hvl.2 with ⟨h0, _⟩ | ⟨g, cap', cur, h5, h3, h4, _⟩
      · simp at h0
      · simp at h5
        obtain ⟨rfl, _⟩ := h5
        simp at h
        omega
  have HX9 : Hid (Below w.heap.size w w9) := HX6.out.trans (((hb7.trans (hb8.mono hb7.size)).trans (hb9.mono (Nat.le_trans hb7.size hb8.size))).mono HX6.out.size)
  have s1 := fun (W : World) (h : Below w9.heap.size w9 W) => same_any al am cl cm (zs T) W (by rw [zs_length]; omega) (RL9.out.later h) (RM9.out.later h)
  have s2 := fun (W : World) (h : Below w9.heap.size w9 W) => same_any ak am ck cm (zs T) W (by rw [zs_length]; omega) (RK9.out.later h) (RM9.out.later h)
  simp only [zs_length, hNN] at s1 s2
  rw [hNN] at hN64 ⊢
  have HN64 : Hid (N ≤ 64) := hN64
  have HOFB : Hid (ofR (zs T) = .tuple #[.int .u64 (s : Int), .int .i64 0]) := hofb
  clear hvl hvk hvm rl rk rm pl pk pm hb7 hb8 hb9 hT6 hNN hN64 hofb i1 i2
  go_wp2_with fail
  refine (s1 _ (Below.refl _ _)).mono ?_
  rintro e w10 ⟨rfl, hb10⟩
  clear s1
  go_wp2_with fail
  refine (s2 _ hb10).mono ?_
  rintro e w11 ⟨rfl, hb11⟩
  clear s2
  have HB11 : Hid (Below w9.heap.size w9 w11) := hb10.trans (hb11.mono hb10.size)
  clear hb10 hb11
  have HO11 : Hid (w11.ownsRow w6.heap.size 3 1 (.slice al N cl) N (nI T)) := row_below HL9.out HS9.out HB11.out
  have HK11 : Hid (RdI w11 ak (zs T)) := RK9.out.later HB11.out
  have HM11 : Hid (RdI w11 am (zs T)) := RM9.out.later HB11.out
  have HX11 : Hid (Below w.heap.size w w11) := HX9.out.trans (HB11.out.mono HX9.out.size)
  have HS11 : Hid (w6.heap.size ≤ w11.heap.size) := Nat.le_trans HS9.out HB11.out.size
  go_wp2_with fail
  have hN64 := HN64.out
  go_loopw [79] (fun i wr => ∃ k : Nat, k ≤ N ∧ i = .int .i64 (k : Int) ∧ w11.grownBy wr (Value.slice al N cl).ownBlock ∧ ∃ xs, wr.ownsRow w6.heap.size 3 1 (.slice al N cl) N xs) (fun i _ => N - (intOf i).toNat)
  case atStart => exact ⟨0, by omega, rfl, grown_refl _ _, _, HO11.out⟩
  case round =>
    obtain ⟨k, hk, rfl, hg, xs, ho⟩ := hrel
    have HG : Hid (w11.grownBy wr (Value.slice al N cl).ownBlock) := hg
    have HO : Hid (wr.ownsRow w6.heap.size 3 1 (.slice al N cl) N xs) := ho
    clear hg ho
    by_cases hkm : k < N
    · obtain ⟨g, rfl, hg1, hg2⟩ := row_some HO.out (by omega)
      obtain ⟨u0, q0⟩ := row_cell HO.out k (by omega)
      have f0 := HO.out.frozenAt k
      have i1 : (0 : Int) ≤ (k : Int) := by omega
      have i2 : (k : Int) < (N : Int) := by omega
      go_wp2_with fail
      go_roundw
      case rel =>
        have s1 := HO.out.stored k (.int .i64 (-1))
        exact ⟨k + 1, by omega, by go_num, grown_trans HG.out s1.2, _, s1.1⟩
      case measure => simp [intOf]; omega
    · have hkn' : decide ((k : Int) < (N : Int)) = false := by simp; omega
      go_wp2_with (at_builtin; refine wpList_append_own (w := _) rfl _ _ 32 rfl w6.heap.size 3 i0 _ 1 8 Tryd.underlying32 hi hz0 hz1 hz2 rfl (by decide) _ _ _ rfl (HO.out.alloc _) ⟨wr.heap.size, 0, none⟩ 1 1 [.int .i64 (-2)] rfl rfl (cell_one_new _ _ _) (by simp [Value.oneCell']) (by unfold maxLen; omega) (by omega) (by have := HG.out.size; have := HS11.out; simp; omega) ?_; intro v' w12 hown' hgrow _; obtain ⟨g', cap', rfl⟩ := ownsRow_succ hown')
      have HK12 : Hid (RdI w12 ak (zs T)) := by
        have h1 := HK11.out.far HG.out HNK.out
        exact (h1.later ((Below.refl _ wr).alloc (Nat.le_refl _) _)).far hgrow HNK.out
      have HM12 : Hid (RdI w12 am (zs T)) := by
        have h1 := HM11.out.far HG.out HNM.out
        exact (h1.later ((Below.refl _ wr).alloc (Nat.le_refl _) _)).far hgrow HNM.out
      have HX12 : Hid (Below w.heap.size w w12) := by
        have hs7 := HS11.out
        have hw1 := HS6.out
        have hrow := HROW.out
        have h1 := below_grown HX11.out HG.out (by omega) hrow
        have h2 := h1.alloc (Nat.le_trans (by omega) h1.size) (.cells #[.int .i64 (-2)] 3)
        exact below_grown h2 hgrow (by have := h1.size; simp; omega) hrow
      have hof := of_any ak ck (zs T) w12 (by rw [zs_length, HT.out]; omega) HK12.out
      rw [zs_length, HT.out, HOFB.out] at hof
      have hsame := fun (W : World) (h : Below w12.heap.size w12 W) => same_any ak am ck cm (zs T) W (by rw [zs_length, HT.out]; omega) (HK12.out.later h) (HM12.out.later h)
      simp only [zs_length, HT.out] at hsame
      clear hgrow hown'
      go_wp2_with fail
      refine hof.mono ?_
      rintro e w13 ⟨rfl, hb13⟩
      clear hof
      go_wp2_with fail
      refine (hsame _ hb13).mono ?_
      rintro e w14 ⟨rfl, hb14⟩
      clear hsame
      go_wp2_with fail
      go_ret
      exact ⟨rfl, HX12.out.trans ((hb13.trans (hb14.mono hb13.size)).mono HX12.out.size)⟩
theorem walk (a0 : Int) (a : Option Addr) (c : Nat) (l : List Int) (w : World) (w0 : (Lit.int .u64 a0).wf = true) (rd : RdI w a l) (hl : l.length * 8 ≤ 140737488351232) (hn : a = none → c = 0) (hT : Tb w) :
    Calls Tryd.prog 6 #[.int .u64 a0, .slice a l.length c] w fun e w' => e = .returned (.bool true) ∧ Below w.heap.size w w' := by
  obtain ⟨s, rfl, hs⟩ := u64_wf w0
  cases a with
  | none =>
    have h0 : l = [] := by
      cases l with
      | nil => rfl
      | cons x r => obtain ⟨b, o, e, _⟩ := rd 0 (by simp); cases e
    exact walk_nil s hs c l.length l rfl (by rw [h0]; rfl) (hn rfl) w hl rd hT
  | some ad =>
    by_cases h0 : l = []
    · exact walk_some s hs ad c l.length l rfl w hl rd (fun j u hu => by rw [h0] at hu; simp [i64s] at hu) hT
    · obtain ⟨b, o, e, -⟩ := rd.spot h0
      cases e
      exact walk_some s hs _ c l.length l rfl w hl rd (news_of_rd rd) hT
theorem own : ownKnob Tryd.prog.godebug = none := by kernel_rfl
theorem laidOut : laidOutB Tryd.prog = true := by kernel_rfl
theorem contract (H : Type) (enc : TypeId × Value → H) (W : World) (base : Nat) (args : Array Value) (ds gs : List (DataW H)) (before : List MemPlace)
    (hval : ∀ (j : Nat) t v, Tryd.f6.params[j]? = some t → args[j]? = some v → Value.okWide Tryd.prog W .any base t v)
    (hW : DataW.Whole enc Tryd.prog Tryd.f6.params.toList Rows.seatsListsSpec.vars false W args.toList ds gs before)
    (hsz : (DataW.weightsEach Tryd.prog (Tryd.f6.params.toList ++ Rows.seatsListsSpec.plain.varTypes Tryd.prog) (ds ++ gs)).all (· ≤ reachBytes) = true)
    (hL : laidMetH Tryd.prog Rows.seatsListsRow.laid W) :
    Calls Tryd.prog 6 args W fun e W' => ∃ v, e = .returned v ∧ Rows.seatsListsSpec.post enc Tryd.prog Tryd.f6 false true false false W args v W' := by
  have hv := vs_of hL
  have hW' := hW
  obtain ⟨p, q, hA0, hV, rfl, hfz, hnd⟩ := hW
  have hA : DataW.TrodAll enc Tryd.prog W 0 (fun _ => true) true Tryd.f6.params.toList args.toList ds p := hA0
  rw [Tryd.params6] at hA hval hsz
  obtain ⟨v0, vs0, d0, ds0, p0, q0, hargs, rfl, rfl, h0, r0⟩ := trodAll_cons hA
  obtain ⟨v1, vs1, d1, ds1, p1, q1, rfl, rfl, rfl, h1, r1⟩ := trodAll_cons r0
  obtain ⟨rfl, rfl, rfl⟩ := trodAll_nil r1
  obtain rfl : args = #[v0, v1] := by cases args; simp_all
  obtain ⟨rfl, rfl⟩ := trodVars_none hV
  obtain ⟨a0, rfl, rfl, rfl, w0⟩ := open_int Tryd.underlying22 (hval 0 22 v0 rfl rfl) h0
  have k1 := h1
  have lt1 : ∀ x ∈ p1, x.block < W.heap.size := by obtain ⟨m, hm⟩ := k1; exact DataW.trod_lt m _ _ _ hm
  obtain ⟨a1, c1, l1, rfl, rd1, hl1, hn1⟩ := ints_of (fun es sp e => by subst e; have h := sized_slice hsz (j := 1) (t := 32) (e := 3) rfl rfl Tryd.underlying32; rw [bytesI] at h; exact h) (okWide_slice Tryd.underlying32 (hval 1 32 v1 rfl rfl)) h1
  clear hA0
  refine (walk a0 a1 c1 l1 W w0 rd1 hl1 hn1 hv).mono fun e W' ⟨he, bel⟩ => ?_
  subst he
  exact ⟨_, rfl, _, _, _, [], _, [], hW', trodAll_mk1 (shut_bool Tryd.underlying4 _), (trodAll_cons_mk (shut_int Tryd.underlying22 w0) (trodAll_cons_mk (Below.trod laidOut (by kernel_rfl) (of_decide_eq_true (by kernel_rfl)) k1 bel lt1) trodAll_mk0)), rfl, bel.frame _, fun h => by cases h⟩
set_option maxRecDepth 100000 in
theorem laid_met (os : Os) : laidMet Tryd.prog Rows.seatsListsRow.laid ((laidWorld os).forCall (fun _ _ => 0) ⟨#[], #[.int .u64 0, .slice none 0 0], []⟩).memory :=
  laidMet_of_run' 8 (by kernel_rfl) (by kernel_rfl)
set_option maxRecDepth 100000 in
theorem reads (os : Os) {H : Type} (enc : TypeId × Value → H) : ∃ places, DataW.whole enc Tryd.prog ((laidWorld os).forCall (fun _ _ => 0) ⟨#[], #[.int .u64 0, .slice none 0 0], []⟩).memory Tryd.f6.params.toList Rows.seatsListsSpec.vars false (#[.int .u64 0, .slice none 0 0] : Array Value).toList 8 = some ([.lit (.int .u64 0), .nil], [], places) :=
  ⟨[], by kernel_rfl⟩
set_option maxRecDepth 100000 in
theorem lifted (os : Os) (started : os.Started) (H : Type) (enc : TypeId × Value → H) (F : Stop.Interp) :
    ReturnsInHanded {} Tryd.checked os 6 .any ((OpenSpec.ofChange Rows.seatsListsSpec).preRow enc Tryd.prog Tryd.f6 Rows.seatsListsRow.domain false Rows.seatsListsRow.laid) (((OpenSpec.ofChange Rows.seatsListsSpec).at F).post enc Tryd.prog Tryd.f6 false true false false) := by
  obtain ⟨places, hx⟩ := reads os enc
  refine returnsInHanded_of_row (C := Tryd.checked) (s := (OpenSpec.ofChange Rows.seatsListsSpec)) own started (by kernel_rfl) Tryd.func6
    (witness_row_at (enc := enc) (C := Tryd.checked) false (laidWorld os) #[.int .u64 0, .slice none 0 0] rfl (by kernel_rfl) (by kernel_rfl) (by kernel_rfl)
      (OpenSpec.preRow_of_cond 8 hx (by kernel_rfl) (fun k hk => by cases hk) (by kernel_rfl) (laid_met os))) ?_
  intro W base args ds gs before hval hW hc1 hc2 hsz hL hsh _
  exact contract H enc W base args ds gs before hval hW hsz hL
theorem said : Rows.SeatsListsSaid :=
  OpenClaim.holds_of_cond 6 Tryd.f6 rfl rfl rfl rfl rfl rfl rfl ⟨rfl, rfl, rfl, rfl, rfl⟩ rfl rfl rfl rfl rfl (by kernel_rfl) Tryd.func6 (by kernel_rfl)
    (of_decide_eq_true (by kernel_rfl)) (by unfold Func.isWrapper; first | (rw [if_pos (by decide +kernel)]; kernel_rfl) | (rw [if_neg (by decide +kernel)]; exact ⟨rfl, rfl⟩))
    (fun os started H enc _ F => by rw [OpenClaim.pre_eq_preRow]; exact lifted os started H enc F)
theorem plain (f : FuncId) (fn : Func) (hf : Tryd.pinned.checked.prog.funcNamed "coterie/coterielaw08.SeatsLists" = some f) (hfn : Tryd.pinned.checked.prog.funcs[f]? = some fn) :
    true = Tryd.pinned.checked.prog.looks [] ∧ ∀ (j : Nat) t, fn.params[j]? = some t → Tryd.pinned.checked.prog.wantsStandIn t = false := by
  obtain rfl : f = 6 := Option.some.inj ((show Tryd.prog.funcNamed "coterie/coterielaw08.SeatsLists" = some 6 by kernel_rfl).symm.trans hf) |>.symm
  obtain rfl : fn = Tryd.f6 := (Option.some.inj (Tryd.func6.symm.trans hfn)).symm
  refine ⟨by kernel_rfl, fun j t ht => ?_⟩
  rw [Tryd.params6] at ht
  have h22 : Tryd.prog.wantsStandIn 22 = false := by kernel_rfl
  have h32 : Tryd.prog.wantsStandIn 32 = false := by kernel_rfl
  have hm := Array.mem_of_getElem? ht
  simp at hm
  rcases hm with rfl | rfl
  · exact h22
  · exact h32
end Go.Proofs.YtljbnhgcfmehoaaDoor.seatsLists
namespace Go.Proofs.YtljbnhgcfmehoaaDoor
theorem seatsLists_holds : Rows.SeatsListsCardSaid :=
  Claim7.holds_tied_plain_at .later [] _ _ _ _ seatsLists.said (fun _ h => by cases h) (by kernel_rfl) (fun _ h => by cases h) seatsLists_row_tie rfl ⟨rfl, rfl⟩ (by kernel_rfl) rfl seatsLists.plain (by kernel_rfl)
#print axioms seatsLists_holds
end Go.Proofs.YtljbnhgcfmehoaaDoor
