/- For every tree and any numbers: of the batch of right people that the numbers make, plan.Next refuses just what the epochs or the room refuse: PlanRefusals, in its first form (the listed variable as the program's text lays it), and the card. -/
import Derived.Test.YtedbnamekfgmhabDoorCards
import Derived.Test.YtedbnamekfgmhabDoorTie
import Derived.Test.YtedbnamekfgmhabDoorPlK
import Derived.Test.YtedbnamekfgmhabDoorRsK
import Derived.Test.YtedbnamekfgmhabDoorOpenTr
import Derived.Test.YtedbnamekfgmhabDoorRsMp
import Derived.Test.YtedbnamekfgmhabDoorRsJ1
import Derived.Test.YtedbnamekfgmhabDoorStJ3
import Derived.Deep.RegionHeld3
import Derived.WalkKit
import Derived.ProofKit
import Derived.OpenShut
import Derived.Deep.DeepHandedRow
import Derived.Deep.DeepWitnessRowRef
import Derived.SizedLaws
namespace Go.Proofs.YtedbnamekfgmhabDoor.planRefusals
open Go.ChangeShapes Go.WideShapes Go.ChangeAt Go.RowKit Go.Maps Go.Shelf
open Rs
set_option linter.unusedVariables false
set_option linter.unusedSimpArgs false

theorem vs_of {W : World} (hL : laidMetH Tryd.prog Rows.planRefusalsRow.laid W) : Tb W := tb_of (show laidMet Tryd.prog Rows.planRefusalsRow.laid W from hL)
def trD {H : Type} : DataW H := .agg [.lit (.int .i64 0), .lit (.int .i64 0), .agg (List.replicate 21 (.agg [.lit (.int .i64 0), .lit (.int .i64 0)])), roD]
def iv (l : List Int) : List Value := l.map (Value.int .i64)
@[simp] theorem iv_length (l : List Int) : (iv l).length = l.length := by simp [iv]
theorem iv_snoc (l : List Int) (x : Int) : iv (l ++ [x]) = iv l ++ [.int .i64 x] := by simp [iv]
theorem iv_get {l : List Int} {k : Nat} (h : k < l.length) : (iv l)[k]? = some (.int .i64 (l.getD k 0)) := by
  simp [iv, List.getElem?_eq_getElem h]
theorem refuse_E {t : Tr} (hk : tck t = true) (hf : t.fr ≤ 32683) {L J : List Int} (h : ft t.ro L J = if J.length > 64 - cnt t.ro + L.length then 18 else 0) : plE t L J = if t.ep = 200 then 19 else if J.length > 64 - cnt t.ro + L.length then 18 else 0 := by
  by_cases he : t.ep = 200
  · rw [if_pos he]; exact plE_spent hk he
  · rw [if_neg he]
    by_cases hj : J.length > 64 - cnt t.ro + L.length
    · rw [if_pos hj] at h ⊢
      rw [plE_fit hk he (by rw [h]; decide), h]
    · rw [if_neg hj] at h ⊢
      refine plE_ok hk he h ?_
      have h1 := Rs.ft_ok h
      have h2 := h1.cnt
      have h3 := h1.room
      have h4 := Rt.cu_le (plR t L) 21
      have h5 := Rs.cnt_le t.ro
      unfold plF
      omega
structure FX (w W : World) (t : Tr) (f : Nat → En) (bm Bb n : Nat) (vL vJ : Value) (S : List Int) : Prop where
  tr : TrAt W w.heap.size t
  rf : t.ro = f
  bel : Below w.heap.size w W
  bt : W.heap[Bb]? = some (.cells #[vL, vJ] 34 (0, 0))
  mi : Mi W bm n S
  o1 : w.heap.size < bm
  o2 : bm < Bb
theorem who_conv' (n : Int) : (IntKind.u64.wrap n).tmod 256 = who n ∧ IntKind.i64.wrap (who n) = who n := by
  have h0 : 0 ≤ IntKind.u64.wrap n := by simp only [IntKind.wrap_u64]; omega
  have h1 : 0 ≤ n % 256 := Int.emod_nonneg _ (by decide)
  have h2 : n % 256 < 256 := Int.emod_lt_of_pos _ (by decide)
  refine ⟨?_, ?_⟩
  · rw [Int.tmod_eq_emod_of_nonneg h0]
    unfold Rs.who
    simp only [IntKind.wrap_u64]
    omega
  · unfold Rs.who
    exact i64_fit _ (by omega) (by omega)
theorem mi_block {W W' : World} {b n : Nat} {l : List Int} (h : Mi W b n l) (he : W'.heap[b]? = W.heap[b]?) : Mi W' b n l := by
  obtain ⟨D, ⟨es, cl, hh, r⟩, h2⟩ := h
  exact ⟨D, ⟨es, cl, he.trans hh, r⟩, h2⟩
section
variable {w W W' : World} {t : Tr} {f : Nat → En} {bm Bb n : Nat} {vL vJ : Value} {S : List Int}
theorem FX.lt (h : FX w W t f bm Bb n vL vJ S) : Bb < W.heap.size := (Array.getElem?_eq_some_iff.1 h.bt).1
theorem FX.rost (h : FX w W t f bm Bb n vL vJ S) : (Instr.loadAt 29 (.pointer (some ⟨w.heap.size, 44, none⟩))).run Tryd.prog W = .ok (.agg (rcs f)) W := by rw [← h.rf]; exact h.tr.rost
theorem FX.later (h : FX w W t f bm Bb n vL vJ S) (hb : Below W.heap.size W W') : FX w W' t f bm Bb n vL vJ S := ⟨h.tr.later hb, h.rf, h.bel.trans (hb.mono h.bel.size), (hb.block _ h.lt).trans h.bt, h.mi.later hb, h.o1, h.o2⟩
theorem FX.cells (h : FX w W t f bm Bb n vL vJ S) : True ∧ W.cell? ⟨Bb, 0, none⟩ = some vL ∧ W.cell? ⟨Bb, 1, none⟩ = some vJ := ⟨trivial, cell_of_row W Bb 0 _ _ _ h.bt, cell_of_row W Bb 1 _ _ _ h.bt⟩
theorem FX.app {b : Nat} {e : TypeId} {sz m : Nat} {v : Value} {xs : List Value} {o : Obj} (h : FX w W t f bm Bb n vL vJ S) (hr : W.ownsRow b e sz v m xs) (hb : Bb < b) (hg : (W.alloc o).grownBy W' v.ownBlock) : FX w W' t f bm Bb n vL vJ S := by
  have h1 := h.o1
  have h2 := h.o2
  have h3 := h.lt
  exact ⟨(grown_low hr hg (by omega) (by omega)).trans h.tr, h.rf, grown_bel h.bel hr (by omega) hg, (grown_low hr hg (by omega) (by omega)).trans h.bt, mi_block h.mi (grown_low hr hg (by omega) (by omega)), h1, h2⟩
theorem FX.set0 (h : FX w W t f bm Bb n vL vJ S) (v : Value) : FX w (W.setCell ⟨Bb, 0, none⟩ v) t f bm Bb n v vJ S := by
  have h1 := h.o1
  have h2 := h.o2
  exact ⟨(other_setCell (by omega) _ _).trans h.tr, h.rf, h.bel.setCell (p := ⟨Bb, 0, none⟩) (by show w.heap.size ≤ Bb; omega) v, row_setCell h.bt 0 v, mi_block h.mi (other_setCell (by omega) _ _), h1, h2⟩
theorem FX.set1 (h : FX w W t f bm Bb n vL vJ S) (v : Value) : FX w (W.setCell ⟨Bb, 1, none⟩ v) t f bm Bb n vL v S := by
  have h1 := h.o1
  have h2 := h.o2
  exact ⟨(other_setCell (by omega) _ _).trans h.tr, h.rf, h.bel.setCell (p := ⟨Bb, 1, none⟩) (by show w.heap.size ≤ Bb; omega) v, row_setCell h.bt 1 v, mi_block h.mi (other_setCell (by omega) _ _), h1, h2⟩
theorem FX.mark {z : Int} (h : FX w W t f bm Bb n vL vJ S) (hm : Mi W' bm (n + 1) (S ++ [z])) (hg : W.grownBy W' (some bm)) : FX w W' t f bm Bb (n + 1) vL vJ (S ++ [z]) := by
  have h1 := h.o1
  have h2 := h.o2
  exact ⟨(hg.block _ h.tr.lt (by simp; omega)).trans h.tr, h.rf, below_grown h.bel hg h.bel.size (fun j hj => by simp at hj; omega), (hg.block _ h.lt (by simp; omega)).trans h.bt, hm, h1, h2⟩
end
theorem iv_rd {W : World} {b : Nat} {v : Value} {l : List Int} (h : W.ownsRow b 3 1 v l.length (iv l)) : ∃ a cap, v = .slice a l.length cap ∧ RdI W a l := by
  rcases h.2 with ⟨rfl, h0⟩ | ⟨g, cap, cur, rfl, h3, h4, _⟩
  · have : l = [] := List.length_eq_zero_iff.1 h0
    subst this
    exact ⟨none, 0, rfl, RdI.nil _ _⟩
  · refine ⟨some ⟨g, 0, none⟩, cap, rfl, fun i hi => ⟨g, 0, rfl, ?_⟩⟩
    rw [Nat.zero_add, World.ownsRow.cellAt h i (by omega), iv_get hi]
set_option maxRecDepth 100000 in
set_option maxHeartbeats 4000000 in
theorem walk (t : Tr) (a1 : Option Addr) (c1 : Nat) (l1 : List Int) (a2 : Option Addr) (c2 : Nat) (l2 : List Int) (w : World) (rd1 : RdI w a1 l1) (hl1 : l1.length * 8 ≤ 140737488351232) (rd2 : RdI w a2 l2) (hl2 : l2.length * 8 ≤ 140737488351232) (hT : Tb w) :
    Calls Tryd.prog 4 #[.agg (tcs t), .slice a1 l1.length c1, .slice a2 l2.length c2] w fun e w' => e = .returned (.bool true) ∧ Below w.heap.size w w' := by
  have hR := TrAt.new w t
  have hB := alloc_tr w t
  obtain ⟨i0, hi, hz0, hz1, hz2⟩ := info_parts infoInt
  obtain ⟨ct, hct⟩ : ∃ c, tcs t = c := ⟨_, rfl⟩
  have HT : Hid (tcs t = ct) := hct
  clear hct
  go_enter Tryd.func4, Tryd.ntmps4
  go_upto_region 1 with (fail)
  generalize w.alloc (.cells (tcs t) 31) = w1 at *
  rw [HT.out]
  have hl := lives_any w1 (hT.later hB)
  go_wp2_with fail
  refine hl.mono ?_
  rintro e w2 ⟨rfl, hb2⟩
  have hR2 := hR.later hb2
  have hB2 := hB.trans (hb2.mono hB.size)
  clear hR hB hb2 hl
  have hck := rCheck_any t w2
  rw [HT.out] at hck
  go_upto_region 3 with (fail)
  go_wp2_with (refine rdT hR2 HT.out _ rfl rfl rfl ?_)
  refine hck.mono ?_
  rintro e w3 ⟨rfl, hb3⟩
  have hR3 := hR2.later hb3
  have hB3 := hB2.trans (hb3.mono hB2.size)
  clear hck hb3 hR2 hB2
  cases hck : tck t with
  | false =>
    rw [tckE_ff hck]
    go_wp2_with fail
    go_ret
    exact ⟨rfl, hB3⟩
  | true =>
    rw [tckE_tt hck]
    obtain ⟨y0, y1⟩ := hR3.cells
    by_cases hfr : 32683 < t.fr
    · have hd : decide (32683 < t.fr) = true := decide_eq_true hfr
      clear hfr
      go_wp2_with fail
      go_ret
      exact ⟨rfl, hB3⟩
    · have hd : decide (32683 < t.fr) = false := decide_eq_false hfr
      have HFR : Hid (t.fr ≤ 32683) := by unfold Hid; omega
      clear hfr
      have hmm := @run_makeMap Tryd.prog
      go_upto_region 7 with (fail)
      have hb4 : Below w3.heap.size w3 ((w3.alloc (.map #[] 0)).alloc (.cells #[.slice none 0 0, .slice none 0 0] 34)) := ((Below.refl _ w3).alloc (Nat.le_refl _) _).alloc (by simp) _
      have hM4 : Mi ((w3.alloc (.map #[] 0)).alloc (.cells #[.slice none 0 0, .slice none 0 0] 34)) w3.heap.size 0 [] := (Mi.new w3).later ((Below.refl _ _).alloc (Nat.le_refl _) _)
      have hN4 := heap_alloc_last (w3.alloc (.map #[] 0)) (.cells #[.slice none 0 0, .slice none 0 0] 34)
      rw [World.size_alloc] at hN4
      obtain ⟨f, hf⟩ : ∃ f, t.ro = f := ⟨_, rfl⟩
      have hF4 : FX w ((w3.alloc (.map #[] 0)).alloc (.cells #[.slice none 0 0, .slice none 0 0] 34)) t f w3.heap.size (w3.heap.size + 1) 0 (.slice none 0 0) (.slice none 0 0) ([] ++ pick f true [] (l1.take 0)) := ⟨hR3.later hb4, hf, hB3.trans (hb4.mono hB3.size), hN4, hM4, hR3.lt, by omega⟩
      clear hf
      generalize (w3.alloc (.map #[] 0)).alloc (.cells #[.slice none 0 0, .slice none 0 0] 34) = w4 at *
      obtain ⟨Bb, hBbe⟩ : ∃ Bb, w3.heap.size + 1 = Bb := ⟨_, rfl⟩
      rw [hBbe] at hF4 ⊢
      generalize w3.heap.size = bm at *
      have HX0 : Hid (FX w w4 t f bm Bb 0 (.slice none 0 0) (.slice none 0 0) ([] ++ pick f true [] (l1.take 0))) := hF4
      have HR0 : Hid (w4.ownsRow (Bb + 1) 3 1 (.slice none 0 0) (pick f true [] (l1.take 0)).length (iv (pick f true [] (l1.take 0)))) := World.ownsRow_nil _ _ _ _
      clear hmm hb4 hM4 hN4 hF4 hR3 hB3 hBbe y0 y1
      go_wp2_with fail
      go_loopw [31] (fun i wx => ∃ (k n : Nat) (vl : Value), k ≤ l1.length ∧ i = .int .i64 (k : Int) ∧ n ≤ k ∧ FX w wx t f bm Bb n vl (.slice none 0 0) ([] ++ pick f true [] (l1.take k)) ∧ wx.ownsRow (Bb + 1) 3 1 vl (pick f true [] (l1.take k)).length (iv (pick f true [] (l1.take k)))) (fun i _ => l1.length - (intOf i).toNat)
      case atStart => exact ⟨0, 0, _, by omega, rfl, by omega, HX0.out, HR0.out⟩
      case round =>
        obtain ⟨k, n, vl, hk, rfl, hn, hfx, hrw⟩ := hrel
        have hpl := pick_len f true [] l1 k hk
        have HX : Hid (FX w wr t f bm Bb n vl (.slice none 0 0) ([] ++ pick f true [] (l1.take k))) := hfx
        have HR : Hid (wr.ownsRow (Bb + 1) 3 1 vl (pick f true [] (l1.take k)).length (iv (pick f true [] (l1.take k)))) := hrw
        skip
        clear hfx hrw HX0 HR0
        by_cases hkN : k < l1.length
        · have i1 : (0 : Int) ≤ (k : Int) := by omega
          have i2 : (k : Int) < (l1.length : Int) := by omega
          obtain ⟨b, o, hal, hcell⟩ := (rd1.later HX.out.bel) k hkN
          have HP : Hid (pick f true [] (l1.take (k + 1)) = pick1 f true [] (pick f true [] (l1.take k)) (l1.getD k 0)) := by show _ = _; rw [take_snoc hkN, pick_snoc]
          obtain ⟨z, hz⟩ : ∃ z, l1.getD k 0 = z := ⟨_, rfl⟩
          rw [hz] at hcell HP
          obtain ⟨A, hA⟩ : ∃ A, pick f true [] (l1.take k) = A := ⟨_, rfl⟩
          rw [hA] at hpl HX HR HP
          have hc1 := (who_conv' z).1
          have hc2 := (who_conv' z).2
          have hwx := wok_wf (who_wok z)
          have HP1 : Hid (pick1 f true [] A z = if decide (who z ∈ [] ++ A) then A else if decide (on f (who z) = true) then A ++ [who z] else A) := rfl
          have hlk := HX.out.mi.look hwx
          have HMK : Hid (mrk ([] ++ A) (who z) = if who z ∈ [] ++ A then 1 else 0) := rfl
          have HON : Hid (on f (who z) = decide (0 ≤ fnd f (who z))) := rfl
          have hfi := rFind_any f (who z) wr
          obtain ⟨x, hx⟩ : ∃ x, who z = x := ⟨_, rfl⟩
          rw [hx] at hc1 hc2 hwx HP1 hlk HMK HON hfi
          have HWX : Hid (x = x) := rfl
          clear hz hA hx
          subst hal
          by_cases hin : x ∈ [] ++ A
          · have hmk : mrk ([] ++ A) x = 1 := by rw [HMK.out, if_pos hin]
            rw [hmk] at hlk
            have HPX : Hid (pick f true [] (l1.take (k + 1)) = A) := by show _ = _; rw [HP.out, HP1.out, decide_eq_true hin, if_pos rfl]
            clear hin hmk hfi
            go_wp2_with fail
            go_roundw
            case rel => exact ⟨k + 1, n, vl, by omega, by go_num, by omega, by rw [HPX.out]; exact HX.out, by rw [HPX.out]; exact HR.out⟩
            case measure => simp [intOf]; omega
          · have hmk : mrk ([] ++ A) x = 0 := by rw [HMK.out, if_neg hin]
            rw [hmk] at hlk
            have HIN : Hid (decide (x ∈ [] ++ A) = false) := decide_eq_false hin
            clear hin hmk
            obtain ⟨fi, hfe⟩ : ∃ fi, fnd f x = fi := ⟨_, rfl⟩
            rw [hfe] at hfi HON
            clear hfe
            obtain ⟨cf, hcf⟩ : ∃ cf, rcs f = cf := ⟨_, rfl⟩
            have HCF : Hid (rcs f = cf) := hcf
            rw [hcf] at hfi
            clear hcf
            go_wp2_with (refine rd_guard (v := .agg cf) (by rfl) (by rw [← HCF.out]; exact ld_exec HX.out.rost rfl rfl) ?_)
            refine hfi.mono ?_
            rintro r w2 ⟨rfl, hb2⟩
            have HX2 : Hid (FX w w2 t f bm Bb n vl (.slice none 0 0) ([] ++ A)) := HX.out.later hb2
            have HR2 : Hid (w2.ownsRow (Bb + 1) 3 1 vl A.length (iv A)) := owns_later HR.out hb2
            have hs2 := hb2.size
            skip
            clear hfi hb2 hlk HX HR
            by_cases h0 : 0 ≤ fi
            · have d0 : decide (0 ≤ fi) = true := decide_eq_true h0
              have d1 : decide (fi < 0) = false := decide_eq_false (by omega)
              have HPX : Hid (pick f true [] (l1.take (k + 1)) = A ++ [x]) := by show _ = _; rw [HP.out, HP1.out, HIN.out, if_neg (by simp), decide_eq_true (by rw [HON.out, d0]), if_pos rfl]
              obtain ⟨aa, ca, rfl⟩ := owns_slice HR2.out
              obtain ⟨NA, hNA⟩ : ∃ NA, A.length = NA := ⟨_, rfl⟩
              have hrow : w2.ownsRow (Bb + 1) 3 1 (.slice aa NA ca) NA (iv A) := by have h := HR2.out; rw [hNA] at h; exact h
              have HNA : Hid (A.length = NA) := hNA
              rw [hNA] at hpl
              have hcb := HX2.out.cells.2.1
              rw [hNA] at hcb
              clear hNA
              have hBb := HX2.out.lt
              go_upto_region 13 with (at_builtin; (refine wpList_append_own _ rfl _ _ 32 rfl (Bb + 1) 3 i0 _ 1 8 Tryd.underlying32 hi hz0 hz1 hz2 rfl (by decide) (.slice aa NA ca) NA (iv A) rfl (hrow.alloc _) ⟨w2.heap.size, 0, none⟩ 1 1 [.int .i64 x] rfl rfl (cell_one_new _ _ _) (by simp [Value.oneCell']) (by unfold maxLen; omega) (by omega) (by simp; omega) ?_); intro v' w3 hown' hg3 _; obtain ⟨av, cv, rfl⟩ := owns_slice hown'; have hF3 := HX2.out.app hrow (by omega) hg3; have hc3 := hF3.cells.2.1; have hf3 := row_frozen hF3.bt 0)
              have HF4 : Hid (FX w (w3.setCell ⟨Bb, 0, none⟩ (.slice av (NA + 1) cv)) t f bm Bb n (.slice av (NA + 1) cv) (.slice none 0 0) ([] ++ A)) := hF3.set0 (.slice av (NA + 1) cv)
              have HR4 : Hid ((w3.setCell ⟨Bb, 0, none⟩ (.slice av (NA + 1) cv)).ownsRow (Bb + 1) 3 1 (.slice av (NA + 1) cv) (A ++ [x]).length (iv (A ++ [x]))) := by
                show World.ownsRow _ _ _ _ _ _ _
                rw [iv_snoc, List.length_append, HNA.out]
                exact owns_block hown' fun q hq _ => other_setCell (by omega) _ _
              skip
              clear hown' hg3 hrow hF3 hc3 hf3 hcb HX2 HR2
              generalize w3.setCell ⟨Bb, 0, none⟩ (.slice av (NA + 1) cv) = w4 at *
              go_wp2_with (refine Mi.upd HF4.out.mi (by omega) hwx rfl _ _ _ rfl rfl rfl rfl ?_; intro w5 hm5 hg5)
              go_roundw
              case rel =>
                have ho2 := HF4.out.o2
                refine ⟨k + 1, n + 1, .slice av (NA + 1) cv, by omega, by go_num, by omega, ?_, ?_⟩
                · rw [HPX.out, ← List.append_assoc]; exact HF4.out.mark hm5 hg5
                · rw [HPX.out]; exact owns_block HR4.out fun q hq hq2 => hg5.block q hq2 (by simp; omega)
                skip
              case measure => simp [intOf]; omega
            · have d0 : decide (0 ≤ fi) = false := decide_eq_false h0
              have d1 : decide (fi < 0) = true := decide_eq_true (by omega)
              have HPX : Hid (pick f true [] (l1.take (k + 1)) = A) := by show _ = _; rw [HP.out, HP1.out, HIN.out, if_neg (by simp), decide_eq_false (by rw [HON.out, d0]; simp), if_neg (by simp)]
              go_wp2_with fail
              go_roundw
              case rel => exact ⟨k + 1, n, vl, by omega, by go_num, by omega, by rw [HPX.out]; exact HX2.out, by rw [HPX.out]; exact HR2.out⟩
              case measure => simp [intOf]; omega
        · obtain rfl : k = l1.length := by omega
          have hdktrue : decide ((l1.length : Int) < (l1.length : Int)) = false := by simp
          obtain ⟨w6, hw6⟩ : ∃ w6, wr = w6 := ⟨_, rfl⟩
          rw [hw6] at HX HR ⊢
          clear hw6
          obtain ⟨LV, hLV⟩ : ∃ LV, pick f true [] l1 = LV := ⟨_, rfl⟩
          have HLV : Hid (pick f true [] l1 = LV) := hLV
          rw [List.take_length, hLV] at HX HR hpl
          clear hLV
          obtain ⟨aLV, cLV, rfl⟩ := owns_slice HR.out
          have HAP : Hid (∀ m, (Value.slice aLV LV.length cLV).ownBlock = some m → m < w6.heap.size) := fun m hm => by
            rcases HR.out.2 with ⟨h0, _⟩ | ⟨g, cap, cur, h0, h3, h4, _⟩
            · rw [h0] at hm; simp [Value.ownBlock] at hm
            · rw [h0] at hm
              simp [Value.ownBlock] at hm
              subst hm
              exact (Array.getElem?_eq_some_iff.1 h4).1
          have hBb6 := HX.out.lt
          obtain ⟨bJ, hbJ⟩ : ∃ bJ, w6.heap.size = bJ := ⟨_, rfl⟩
          rw [hbJ] at HAP hBb6
          have n1 := n
          obtain ⟨n1, hn1⟩ : ∃ n1, n = n1 := ⟨_, rfl⟩
          rw [hn1] at HX hn
          have HX0 : Hid (FX w w6 t f bm Bb n1 (.slice aLV LV.length cLV) (.slice none 0 0) (LV ++ pick f false LV (l2.take 0))) := by
            have h := HX.out
            show FX _ _ _ _ _ _ _ _ _ (LV ++ [])
            rw [List.append_nil]
            simpa using h
          have HR0 : Hid (w6.ownsRow bJ 3 1 (.slice none 0 0) (pick f false LV (l2.take 0)).length (iv (pick f false LV (l2.take 0)))) := World.ownsRow_nil _ _ _ _
          have HRL0 : Hid (w6.ownsRow (Bb + 1) 3 1 (.slice aLV LV.length cLV) LV.length (iv LV)) := HR.out
          have hbJ2 : bJ ≤ w6.heap.size := by omega
          clear HX HR hn1
          go_wp2_with fail
          go_loopw [61] (fun i wx => ∃ (k n : Nat) (vl : Value), k ≤ l2.length ∧ i = .int .i64 (k : Int) ∧ n ≤ l1.length + k ∧ FX w wx t f bm Bb n (.slice aLV LV.length cLV) vl (LV ++ pick f false LV (l2.take k)) ∧ wx.ownsRow bJ 3 1 vl (pick f false LV (l2.take k)).length (iv (pick f false LV (l2.take k))) ∧ wx.ownsRow (Bb + 1) 3 1 (.slice aLV LV.length cLV) LV.length (iv LV) ∧ bJ ≤ wx.heap.size) (fun i _ => l2.length - (intOf i).toNat)
          case atStart => exact ⟨0, n1, _, by omega, rfl, by omega, HX0.out, HR0.out, HRL0.out, hbJ2⟩
          case round =>
            obtain ⟨k, n, vl, hk, rfl, hn, hfx, hrw, hrl, hbj⟩ := hrel
            have hpl := pick_len f false LV l2 k hk
            have HX : Hid (FX w wr t f bm Bb n (.slice aLV LV.length cLV) vl (LV ++ pick f false LV (l2.take k))) := hfx
            have HR : Hid (wr.ownsRow bJ 3 1 vl (pick f false LV (l2.take k)).length (iv (pick f false LV (l2.take k)))) := hrw
            have HRL : Hid (wr.ownsRow (Bb + 1) 3 1 (.slice aLV LV.length cLV) LV.length (iv LV)) := hrl
            clear hrl HRL0
            clear hfx hrw HX0 HR0
            by_cases hkN : k < l2.length
            · have i1 : (0 : Int) ≤ (k : Int) := by omega
              have i2 : (k : Int) < (l2.length : Int) := by omega
              obtain ⟨b, o, hal, hcell⟩ := (rd2.later HX.out.bel) k hkN
              have HP : Hid (pick f false LV (l2.take (k + 1)) = pick1 f false LV (pick f false LV (l2.take k)) (l2.getD k 0)) := by show _ = _; rw [take_snoc hkN, pick_snoc]
              obtain ⟨z, hz⟩ : ∃ z, l2.getD k 0 = z := ⟨_, rfl⟩
              rw [hz] at hcell HP
              obtain ⟨A, hA⟩ : ∃ A, pick f false LV (l2.take k) = A := ⟨_, rfl⟩
              rw [hA] at hpl HX HR HP
              have hc1 := (who_conv' z).1
              have hc2 := (who_conv' z).2
              have hwx := wok_wf (who_wok z)
              have HP1 : Hid (pick1 f false LV A z = if decide (who z ∈ LV ++ A) then A else if decide (on f (who z) = false) then A ++ [who z] else A) := rfl
              have hlk := HX.out.mi.look hwx
              have HMK : Hid (mrk (LV ++ A) (who z) = if who z ∈ LV ++ A then 1 else 0) := rfl
              have HON : Hid (on f (who z) = decide (0 ≤ fnd f (who z))) := rfl
              have hfi := rFind_any f (who z) wr
              obtain ⟨x, hx⟩ : ∃ x, who z = x := ⟨_, rfl⟩
              rw [hx] at hc1 hc2 hwx HP1 hlk HMK HON hfi
              have HWX : Hid (x = x) := rfl
              clear hz hA hx
              subst hal
              by_cases hin : x ∈ LV ++ A
              · have hmk : mrk (LV ++ A) x = 1 := by rw [HMK.out, if_pos hin]
                rw [hmk] at hlk
                have HPX : Hid (pick f false LV (l2.take (k + 1)) = A) := by show _ = _; rw [HP.out, HP1.out, decide_eq_true hin, if_pos rfl]
                clear hin hmk hfi
                go_wp2_with fail
                go_roundw
                case rel => exact ⟨k + 1, n, vl, by omega, by go_num, by omega, by rw [HPX.out]; exact HX.out, by rw [HPX.out]; exact HR.out, HRL.out, hbj⟩
                case measure => simp [intOf]; omega
              · have hmk : mrk (LV ++ A) x = 0 := by rw [HMK.out, if_neg hin]
                rw [hmk] at hlk
                have HIN : Hid (decide (x ∈ LV ++ A) = false) := decide_eq_false hin
                clear hin hmk
                obtain ⟨fi, hfe⟩ : ∃ fi, fnd f x = fi := ⟨_, rfl⟩
                rw [hfe] at hfi HON
                clear hfe
                obtain ⟨cf, hcf⟩ : ∃ cf, rcs f = cf := ⟨_, rfl⟩
                have HCF : Hid (rcs f = cf) := hcf
                rw [hcf] at hfi
                clear hcf
                go_wp2_with (refine rd_guard (v := .agg cf) (by rfl) (by rw [← HCF.out]; exact ld_exec HX.out.rost rfl rfl) ?_)
                refine hfi.mono ?_
                rintro r w2 ⟨rfl, hb2⟩
                have HX2 : Hid (FX w w2 t f bm Bb n (.slice aLV LV.length cLV) vl (LV ++ A)) := HX.out.later hb2
                have HR2 : Hid (w2.ownsRow bJ 3 1 vl A.length (iv A)) := owns_later HR.out hb2
                have hs2 := hb2.size
                have HRL2 : Hid (w2.ownsRow (Bb + 1) 3 1 (.slice aLV LV.length cLV) LV.length (iv LV)) := owns_later HRL.out (by assumption)
                clear HRL
                clear hfi hb2 hlk HX HR
                by_cases h0 : 0 ≤ fi
                · have d0 : decide (0 ≤ fi) = true := decide_eq_true h0
                  have d1 : decide (fi < 0) = false := decide_eq_false (by omega)
                  have HPX : Hid (pick f false LV (l2.take (k + 1)) = A) := by show _ = _; rw [HP.out, HP1.out, HIN.out, if_neg (by simp), decide_eq_false (by rw [HON.out, d0]; simp), if_neg (by simp)]
                  go_wp2_with fail
                  go_roundw
                  case rel => exact ⟨k + 1, n, vl, by omega, by go_num, by omega, by rw [HPX.out]; exact HX2.out, by rw [HPX.out]; exact HR2.out, HRL2.out, by omega⟩
                  case measure => simp [intOf]; omega
                · have d0 : decide (0 ≤ fi) = false := decide_eq_false h0
                  have d1 : decide (fi < 0) = true := decide_eq_true (by omega)
                  have HPX : Hid (pick f false LV (l2.take (k + 1)) = A ++ [x]) := by show _ = _; rw [HP.out, HP1.out, HIN.out, if_neg (by simp), decide_eq_true (by rw [HON.out, d0]), if_pos rfl]
                  obtain ⟨aa, ca, rfl⟩ := owns_slice HR2.out
                  obtain ⟨NA, hNA⟩ : ∃ NA, A.length = NA := ⟨_, rfl⟩
                  have hrow : w2.ownsRow bJ 3 1 (.slice aa NA ca) NA (iv A) := by have h := HR2.out; rw [hNA] at h; exact h
                  have HNA : Hid (A.length = NA) := hNA
                  rw [hNA] at hpl
                  have hcb := HX2.out.cells.2.2
                  rw [hNA] at hcb
                  clear hNA
                  have hBb := HX2.out.lt
                  go_upto_region 21 with (at_builtin; (refine wpList_append_own _ rfl _ _ 32 rfl bJ 3 i0 _ 1 8 Tryd.underlying32 hi hz0 hz1 hz2 rfl (by decide) (.slice aa NA ca) NA (iv A) rfl (hrow.alloc _) ⟨w2.heap.size, 0, none⟩ 1 1 [.int .i64 x] rfl rfl (cell_one_new _ _ _) (by simp [Value.oneCell']) (by unfold maxLen; omega) (by omega) (by simp; omega) ?_); intro v' w3 hown' hg3 _; obtain ⟨av, cv, rfl⟩ := owns_slice hown'; have hF3 := HX2.out.app hrow (by omega) hg3; have hc3 := hF3.cells.2.2; have hf3 := row_frozen hF3.bt 1)
                  have HF4 : Hid (FX w (w3.setCell ⟨Bb, 1, none⟩ (.slice av (NA + 1) cv)) t f bm Bb n (.slice aLV LV.length cLV) (.slice av (NA + 1) cv) (LV ++ A)) := hF3.set1 (.slice av (NA + 1) cv)
                  have HR4 : Hid ((w3.setCell ⟨Bb, 1, none⟩ (.slice av (NA + 1) cv)).ownsRow bJ 3 1 (.slice av (NA + 1) cv) (A ++ [x]).length (iv (A ++ [x]))) := by
                    show World.ownsRow _ _ _ _ _ _ _
                    rw [iv_snoc, List.length_append, HNA.out]
                    exact owns_block hown' fun q hq _ => other_setCell (by omega) _ _
                  have HRL4 : Hid ((w3.setCell ⟨Bb, 1, none⟩ (.slice av (NA + 1) cv)).ownsRow (Bb + 1) 3 1 (.slice aLV LV.length cLV) LV.length (iv LV)) := owns_block ((HRL2.out.alloc _).kept hg3 (by
                    cases hv : (Value.slice aLV LV.length cLV).ownBlock with
                    | none => exact .inl rfl
                    | some q => exact .inr (row_far hrow (HAP.out q hv)))) fun q hq _ => other_setCell (by omega) _ _
                  have hs4 : bJ ≤ (w3.setCell ⟨Bb, 1, none⟩ (.slice av (NA + 1) cv)).heap.size := Nat.le_trans (show bJ ≤ w3.heap.size from Nat.le_trans (by omega) (Nat.le_trans (show w2.heap.size ≤ (w2.alloc (.cells #[.int .i64 x] 3)).heap.size by simp) hg3.size)) ((Below.refl 0 w3).setCell (p := ⟨Bb, 1, none⟩) (Nat.zero_le _) (.slice av (NA + 1) cv)).size
                  clear HRL2
                  clear hown' hg3 hrow hF3 hc3 hf3 hcb HX2 HR2
                  generalize w3.setCell ⟨Bb, 1, none⟩ (.slice av (NA + 1) cv) = w4 at *
                  go_wp2_with (refine Mi.upd HF4.out.mi (by omega) hwx rfl _ _ _ rfl rfl rfl rfl ?_; intro w5 hm5 hg5)
                  go_roundw
                  case rel =>
                    have ho2 := HF4.out.o2
                    refine ⟨k + 1, n + 1, .slice av (NA + 1) cv, by omega, by go_num, by omega, ?_, ?_, ?_, ?_⟩
                    · rw [HPX.out, ← List.append_assoc]; exact HF4.out.mark hm5 hg5
                    · rw [HPX.out]; exact owns_block HR4.out fun q hq hq2 => hg5.block q hq2 (by simp; omega)
                    · exact owns_block HRL4.out fun q hq hq2 => hg5.block q hq2 (by simp; omega)
                    · exact Nat.le_trans hs4 hg5.size
                  case measure => simp [intOf]; omega
            · obtain rfl : k = l2.length := by omega
              have hdkfalse : decide ((l2.length : Int) < (l2.length : Int)) = false := by simp
              rw [List.take_length] at HX HR hpl
              obtain ⟨JV, hJV⟩ : ∃ JV, pick f false LV l2 = JV := ⟨_, rfl⟩
              rw [hJV] at HX HR hpl
              have hfull := pick_ft (f := f) (by rw [← HX.out.rf]; exact (tck_right hck).ro) l1 l2
              rw [HLV.out, hJV, ← HX.out.rf] at hfull
              have HPE : Hid (plE t LV JV = if t.ep = 200 then 19 else if JV.length > 64 - cnt t.ro + LV.length then 18 else 0) := refuse_E hck HFR.out hfull
              have hc64 := cnt_le t.ro
              obtain ⟨aJV, cJV, rfl, rJV⟩ := iv_rd HR.out
              obtain ⟨aL2, cL2, hL2, rLV⟩ := iv_rd HRL.out
              simp only [Value.slice.injEq] at hL2
              obtain ⟨rfl, -, rfl⟩ := hL2
              have hlv : LV.length ≤ l1.length := by rw [← HLV.out]; have h := pick_len f true [] l1 l1.length (Nat.le_refl _); rw [List.take_length] at h; exact h
              have htx := rTaken_any t.ro
              have hcx := fun W => rCount_any (tk t.ro) (tk_lt t.ro) W
              rw [show (bl (tk t.ro)).length = cnt t.ro from rfl] at hcx
              obtain ⟨PF, hPF⟩ : ∃ PF, cnt t.ro = PF := ⟨_, rfl⟩
              rw [hPF] at hcx HPE hc64
              obtain ⟨tkv, htkv⟩ : ∃ x, tk t.ro = x := ⟨_, rfl⟩
              rw [htkv] at hcx htx
              obtain ⟨cf, hcf⟩ : ∃ cf, rcs t.ro = cf := ⟨_, rfl⟩
              have HCF : Hid (rcs t.ro = cf) := hcf
              rw [hcf] at htx
              clear hcf htkv hPF hfull
              have hnx := next_any t aLV aJV cLV cJV LV JV wr (hT.later HX.out.bel) (by omega) (by omega) rLV rJV
              rw [HT.out] at hnx
              have hTr := HX.out.tr
              have hBt : BtAt wr Bb aLV aJV LV.length JV.length cLV cJV := HX.out.bt
              have hBl := HX.out.bel
              have hw1 : IntKind.i64.wrap (64 - (PF : Int)) = 64 - (PF : Int) := i64_fit _ (by omega) (by omega)
              have hw2 : IntKind.i64.wrap (64 - (PF : Int) + (LV.length : Int)) = 64 - (PF : Int) + (LV.length : Int) := i64_fit _ (by omega) (by omega)
              clear hJV rJV rLV HR HRL HX
              obtain ⟨B, hBe⟩ : ∃ B, w.heap.size = B := ⟨_, rfl⟩
              rw [hBe] at hTr ⊢
              obtain ⟨d0, d1⟩ := hBt.cells
              go_wp2_with (refine rdT hTr HT.out _ rfl rfl rfl ?_)
              refine hnx.mono ?_
              rintro r u1 ⟨⟨vl, vj, vi, rfl, hNP⟩, hb1⟩
              obtain ⟨q1, k1, rfl⟩ := owns_slice hNP.left
              obtain ⟨q2, k2, rfl⟩ := owns_slice hNP.join
              obtain ⟨q3, k3, rfl⟩ := owns_slice hNP.item
              obtain ⟨E, hE⟩ : ∃ e, plE t LV JV = e := ⟨_, rfl⟩
              obtain ⟨nt, hnt⟩ : ∃ n, pnT t LV JV = n := ⟨_, rfl⟩
              obtain ⟨pp, hpp⟩ : ∃ n, pnP t LV JV = n := ⟨_, rfl⟩
              obtain ⟨n1', hn1'⟩ : ∃ n, (pnL t LV JV).length = n := ⟨_, rfl⟩
              obtain ⟨n2', hn2'⟩ : ∃ n, (pnJ t LV JV).length = n := ⟨_, rfl⟩
              obtain ⟨n3', hn3'⟩ : ∃ n, (pnI t LV JV).length = n := ⟨_, rfl⟩
              rw [hE] at HPE
              rw [hE, hnt, hpp, hn1', hn2', hn3']
              obtain ⟨cn, hcn⟩ : ∃ c, tcs nt = c := ⟨_, rfl⟩
              have HC : Hid (tcs nt = cn) := hcn
              rw [hcn]
              obtain ⟨t1, t2, W, hW, tT, tR, tB⟩ := two_boxes u1 nt cn #[.int .i64 pp, .slice q1 n1' k1, .slice q2 n2' k2, .slice q3 n3' k3] hcn
              have hb2 := hb1.trans (tB.mono hb1.size)
              have HTW : Hid (TrAt W B t) := hTr.later hb2
              have HBW : Hid (BtAt W Bb aLV aJV LV.length JV.length cLV cJV) := hBt.later hb2
              have HBL : Hid (Below w.heap.size w W) := hBl.trans (hb2.mono hBl.size)
              clear hnx hb1 hb2 hTr hBt hBl d0 d1 hNP hE hnt hpp hn1' hn2' hn3' hcn tB hpl hlv
              go_upto_region 24 with (first | (refine stTc t1 HC.out rfl _ _ rfl rfl rfl ?_) | (refine stRw infoRk (cs := rkz) rkz_size t2 _ rfl (rk_one _ _ _ _ _ _ _ _ _ _) rfl _ _ rfl rfl rfl ?_))
              clear t1 t2 hW tT tR
              obtain ⟨y0, y1⟩ := HTW.out.cells
              by_cases hep : t.ep = 200
              · have he2 : (t.ep == 200) = true := by simpa using hep
                obtain rfl : E = 19 := by rw [HPE.out, if_pos hep]
                clear hep
                go_wp2_with fail
                go_ret
                exact ⟨rfl, HBL.out⟩
              · have he2 : (t.ep == 200) = false := by simpa using hep
                have HPE2 : Hid (E = if JV.length > 64 - PF + LV.length then 18 else 0) := by unfold Hid; rw [HPE.out, if_neg hep]
                clear hep HPE
                go_upto_region 26 with (fail)
                clear y0 y1
                obtain ⟨NL, hNL⟩ : ∃ NL, LV.length = NL := ⟨_, rfl⟩
                obtain ⟨NJ, hNJ⟩ : ∃ NJ, JV.length = NJ := ⟨_, rfl⟩
                rw [hNL, hNJ] at HPE2 HBW
                rw [hNL] at hw2
                clear hNL hNJ
                obtain ⟨dg, hdg⟩ : ∃ dg, decide (64 - (PF : Int) + (NL : Int) < (NJ : Int)) = dg := ⟨_, rfl⟩
                have hS0 : Below W.heap.size W W.drew := drew_below _
                refine wp_region_held_drew (S := fun X => Below W.heap.size W X) (by kernel_rfl) hS0 (fun hHeld => ?_)
                refine wpAnyH_take (i := 0) (oi := { dst := some 101, op := Op.fieldAddr 34 (Operand.tmp 8) 1, type := _, pos := _, after := _, guard := none }) (v := .pointer (some ⟨Bb, 1, none⟩)) rfl (by kernel_rfl) (by kernel_rfl) (by kernel_rfl) (fun _ _ _ h => h) (Or.inl ⟨by rfl, fun w hSw => by (try dsimp only at hSw); go_simp⟩) (by assumption) ?_
                simp only [Act.put, List.setIfInBounds_toArray, List.set_cons_zero, List.set_cons_succ]
                refine wpAnyH_take (i := 1) (oi := { dst := some 102, op := Op.load 32 (Operand.tmp 101), type := _, pos := _, after := _, guard := none }) (v := .slice aJV NJ cJV) rfl (by kernel_rfl) (by kernel_rfl) (by kernel_rfl) (fun _ _ _ h => h) (Or.inl ⟨by rfl, fun w hSw => by obtain ⟨x0, x1⟩ := (HBW.out.later hSw).cells; clear hSw; go_simp⟩) (by assumption) ?_
                simp only [Act.put, List.setIfInBounds_toArray, List.set_cons_zero, List.set_cons_succ]
                refine wpAnyH_take (i := 2) (oi := { dst := some 103, op := Op.call { callee := Callee.builtin Builtin.len, args := #[(Operand.tmp 102)], argTypes := #[32] }, type := _, pos := _, after := _, guard := none }) (v := .int .i64 (NJ : Int)) rfl (by kernel_rfl) (by kernel_rfl) (by kernel_rfl) (fun _ _ _ h => h) (Or.inl ⟨by rfl, fun w hSw => by (try dsimp only at hSw); go_simp⟩) (by assumption) ?_
                simp only [Act.put, List.setIfInBounds_toArray, List.set_cons_zero, List.set_cons_succ]
                refine wpAnyH_take (i := 3) (oi := { dst := some 104, op := Op.fieldAddr 31 (Operand.tmp 3) 3, type := _, pos := _, after := _, guard := none }) (v := .pointer (some ⟨B, 44, none⟩)) rfl (by kernel_rfl) (by kernel_rfl) (by kernel_rfl) (fun _ _ _ h => h) (Or.inl ⟨by rfl, fun w hSw => by (try dsimp only at hSw); go_simp⟩) (by assumption) ?_
                simp only [Act.put, List.setIfInBounds_toArray, List.set_cons_zero, List.set_cons_succ]
                refine wpAnyH_take (i := 4) (oi := { dst := some 105, op := Op.load 29 (Operand.tmp 104), type := _, pos := _, after := _, guard := none }) (v := .agg cf) rfl (by kernel_rfl) (by kernel_rfl) (by kernel_rfl) (fun _ _ _ h => h) (Or.inl ⟨by rfl, fun w hSw => ld_exec (HCF.out ▸ (HTW.out.later hSw).rost) rfl rfl⟩) (by assumption) ?_
                simp only [Act.put, List.setIfInBounds_toArray, List.set_cons_zero, List.set_cons_succ]
                refine wpAnyH_take (i := 8) (oi := { dst := some 109, op := Op.fieldAddr 34 (Operand.tmp 8) 0, type := _, pos := _, after := _, guard := none }) (v := .pointer (some ⟨Bb, 0, none⟩)) rfl (by kernel_rfl) (by kernel_rfl) (by kernel_rfl) (fun _ _ _ h => h) (Or.inl ⟨by rfl, fun w hSw => by (try dsimp only at hSw); go_simp⟩) (by assumption) ?_
                simp only [Act.put, List.setIfInBounds_toArray, List.set_cons_zero, List.set_cons_succ]
                refine wpAnyH_take (i := 9) (oi := { dst := some 110, op := Op.load 32 (Operand.tmp 109), type := _, pos := _, after := _, guard := none }) (v := .slice aLV NL cLV) rfl (by kernel_rfl) (by kernel_rfl) (by kernel_rfl) (fun _ _ _ h => h) (Or.inl ⟨by rfl, fun w hSw => by obtain ⟨x0, x1⟩ := (HBW.out.later hSw).cells; clear hSw; go_simp⟩) (by assumption) ?_
                simp only [Act.put, List.setIfInBounds_toArray, List.set_cons_zero, List.set_cons_succ]
                refine wpAnyH_take (i := 10) (oi := { dst := some 111, op := Op.call { callee := Callee.builtin Builtin.len, args := #[(Operand.tmp 110)], argTypes := #[32] }, type := _, pos := _, after := _, guard := none }) (v := .int .i64 (NL : Int)) rfl (by kernel_rfl) (by kernel_rfl) (by kernel_rfl) (fun _ _ _ h => h) (Or.inl ⟨by rfl, fun w hSw => by (try dsimp only at hSw); go_simp⟩) (by assumption) ?_
                simp only [Act.put, List.setIfInBounds_toArray, List.set_cons_zero, List.set_cons_succ]
                refine wpAnyH_ready (rs := [5]) (by kernel_rfl) (by simp) ?_
                refine AllReadyH.cons rfl (fun K hK => ?_) AllReadyH.nil
                go_simp
                refine (htx _).mono ?_
                rintro r u7 ⟨rfl, hb7⟩
                go_wp2_with fail
                refine hK.out _ _ (hHeld.trans (hb7.mono hHeld.size)) (fun hHeld2 => ?_)
                clear hHeld hb7
                clear hK K
                try simp only [Act.put, List.setIfInBounds_toArray, List.set_cons_zero, List.set_cons_succ]
                refine wpAnyH_ready (rs := [6]) (by kernel_rfl) (by simp) ?_
                refine AllReadyH.cons rfl (fun K hK => ?_) AllReadyH.nil
                go_simp
                refine (hcx _).mono ?_
                rintro r u8 ⟨rfl, hb8⟩
                go_wp2_with fail
                refine hK.out _ _ (hHeld2.trans (hb8.mono hHeld2.size)) (fun hHeld3 => ?_)
                clear hHeld2 hb8
                clear hK K
                try simp only [Act.put, List.setIfInBounds_toArray, List.set_cons_zero, List.set_cons_succ]
                refine wpAnyH_take (i := 7) (oi := { dst := some 108, op := Op.binOp BinOp.sub 3 (Operand.const (Value.int IntKind.i64 64)) (Operand.tmp 107) 3, type := _, pos := _, after := _, guard := none }) (v := .int .i64 (64 - (PF : Int))) rfl (by kernel_rfl) (by kernel_rfl) (by kernel_rfl) (fun _ _ _ h => h) (Or.inl ⟨by rfl, fun w hSw => by (try dsimp only at hSw); go_simp⟩) (by assumption) ?_
                simp only [Act.put, List.setIfInBounds_toArray, List.set_cons_zero, List.set_cons_succ]
                refine wpAnyH_take (i := 11) (oi := { dst := some 112, op := Op.binOp BinOp.add 3 (Operand.tmp 108) (Operand.tmp 111) 3, type := _, pos := _, after := _, guard := none }) (v := .int .i64 (64 - (PF : Int) + (NL : Int))) rfl (by kernel_rfl) (by kernel_rfl) (by kernel_rfl) (fun _ _ _ h => h) (Or.inl ⟨by rfl, fun w hSw => by (try dsimp only at hSw); go_simp⟩) (by assumption) ?_
                simp only [Act.put, List.setIfInBounds_toArray, List.set_cons_zero, List.set_cons_succ]
                refine wpAnyH_take (i := 12) (oi := { dst := some 113, op := Op.binOp BinOp.gtr 3 (Operand.tmp 103) (Operand.tmp 112) 3, type := _, pos := _, after := _, guard := none }) (v := .bool dg) rfl (by kernel_rfl) (by kernel_rfl) (by kernel_rfl) (fun _ _ _ h => h) (Or.inl ⟨by rfl, fun w hSw => by (try dsimp only at hSw); go_simp⟩) (by assumption) ?_
                simp only [Act.put, List.setIfInBounds_toArray, List.set_cons_zero, List.set_cons_succ]
                refine wpAnyH_done (by kernel_rfl) ?_ _
                have HBU : Hid (Below w.heap.size w u8) := HBL.out.trans (hHeld3.mono HBL.out.size)
                clear hHeld3 hS0 htx hcx
                cases hdd : dg with
                | true =>
                    obtain rfl : E = 18 := by
                      rw [HPE2.out, if_pos]
                      rw [hdd] at hdg
                      have := of_decide_eq_true hdg
                      omega
                    clear hdg
                    go_wp2_with fail
                    go_ret
                    exact ⟨rfl, HBU.out⟩
                | false =>
                    obtain rfl : E = 0 := by
                      rw [HPE2.out, if_neg]
                      rw [hdd] at hdg
                      have := of_decide_eq_false hdg
                      omega
                    clear hdg
                    go_wp2_with fail
                    go_ret
                    exact ⟨rfl, HBU.out⟩
theorem own : ownKnob Tryd.prog.godebug = none := by kernel_rfl
theorem laidOut : laidOutB Tryd.prog = true := by kernel_rfl
set_option maxRecDepth 20000 in
theorem contract (H : Type) (enc : TypeId × Value → H) (W : World) (base : Nat) (args : Array Value) (ds gs : List (DataW H)) (before : List MemPlace)
    (hval : ∀ (j : Nat) t v, Tryd.f4.params[j]? = some t → args[j]? = some v → Value.okWide Tryd.prog W .any base t v)
    (hW : DataW.Whole enc Tryd.prog Tryd.f4.params.toList Rows.planRefusalsSpec.vars false W args.toList ds gs before)
    (hsz : (DataW.weightsEach Tryd.prog (Tryd.f4.params.toList ++ Rows.planRefusalsSpec.plain.varTypes Tryd.prog) (ds ++ gs)).all (· ≤ reachBytes) = true)
    (hL : laidMetH Tryd.prog Rows.planRefusalsRow.laid W) :
    Calls Tryd.prog 4 args W fun e W' => ∃ v, e = .returned v ∧ Rows.planRefusalsSpec.post enc Tryd.prog Tryd.f4 false true false false W args v W' := by
  have hv := vs_of hL
  have hW' := hW
  obtain ⟨p, q, hA0, hV, rfl, hfz, hnd⟩ := hW
  have hA : DataW.TrodAll enc Tryd.prog W 0 (fun _ => true) true Tryd.f4.params.toList args.toList ds p := hA0
  rw [Tryd.params4] at hA hval hsz
  obtain ⟨v0, vs0, d0, ds0, p0, q0, hargs, rfl, rfl, h0, r0⟩ := trodAll_cons hA
  obtain ⟨v1, vs1, d1, ds1, p1, q1, rfl, rfl, rfl, h1, r1⟩ := trodAll_cons r0
  obtain ⟨v2, vs2, d2, ds2, p2, q2, rfl, rfl, rfl, h2, r2⟩ := trodAll_cons r1
  obtain ⟨rfl, rfl, rfl⟩ := trodAll_nil r2
  obtain rfl : args = #[v0, v1, v2] := by cases args; simp_all
  obtain ⟨rfl, rfl⟩ := trodVars_none hV
  have k0 := h0
  have lt0 : ∀ x ∈ p0, x.block < W.heap.size := by obtain ⟨m, hm⟩ := k0; exact DataW.trod_lt m _ _ _ hm
  obtain ⟨f0, rfl⟩ := open_tr (hval 0 31 v0 rfl rfl) h0
  have k1 := h1
  have lt1 : ∀ x ∈ p1, x.block < W.heap.size := by obtain ⟨m, hm⟩ := k1; exact DataW.trod_lt m _ _ _ hm
  obtain ⟨a1, c1, l1, rfl, rd1, hl1⟩ := open_sl (fun es sp e => by subst e; have h := sized_slice hsz (j := 1) (t := 32) (e := 3) rfl rfl Tryd.underlying32; rw [bytesI] at h; exact h) (okWide_slice Tryd.underlying32 (hval 1 32 v1 rfl rfl)) h1
  have k2 := h2
  have lt2 : ∀ x ∈ p2, x.block < W.heap.size := by obtain ⟨m, hm⟩ := k2; exact DataW.trod_lt m _ _ _ hm
  obtain ⟨a2, c2, l2, rfl, rd2, hl2⟩ := open_sl (fun es sp e => by subst e; have h := sized_slice hsz (j := 2) (t := 32) (e := 3) rfl rfl Tryd.underlying32; rw [bytesI] at h; exact h) (okWide_slice Tryd.underlying32 (hval 2 32 v2 rfl rfl)) h2
  clear hA0
  refine (walk f0 a1 c1 l1 a2 c2 l2 W rd1 hl1 rd2 hl2 hv).mono fun e W' ⟨he, bel⟩ => ?_
  subst he
  exact ⟨_, rfl, _, _, _, [], _, [], hW', trodAll_mk1 (shut_bool Tryd.underlying4 _), (trodAll_cons_mk (Below.trod laidOut (by kernel_rfl) (of_decide_eq_true (by kernel_rfl)) k0 bel lt0) (trodAll_cons_mk (Below.trod laidOut (by kernel_rfl) (of_decide_eq_true (by kernel_rfl)) k1 bel lt1) (trodAll_cons_mk (Below.trod laidOut (by kernel_rfl) (of_decide_eq_true (by kernel_rfl)) k2 bel lt2) trodAll_mk0))), rfl, bel.frame _, fun h => by cases h⟩
set_option maxRecDepth 100000 in
theorem laid_met (os : Os) : laidMet Tryd.prog Rows.planRefusalsRow.laid ((laidWorld os).forCall (fun _ _ => 0) ⟨#[], #[.agg (tcs (tz 0)), .slice none 0 0, .slice none 0 0], []⟩).memory :=
  laidMet_of_run' 8 (by kernel_rfl) (by kernel_rfl)
set_option maxRecDepth 100000 in
theorem reads (os : Os) {H : Type} (enc : TypeId × Value → H) : ∃ places, DataW.whole enc Tryd.prog ((laidWorld os).forCall (fun _ _ => 0) ⟨#[], #[.agg (tcs (tz 0)), .slice none 0 0, .slice none 0 0], []⟩).memory Tryd.f4.params.toList Rows.planRefusalsSpec.vars false (#[.agg (tcs (tz 0)), .slice none 0 0, .slice none 0 0] : Array Value).toList 8 = some ([trD, .nil, .nil], [], places) :=
  ⟨[], by kernel_rfl⟩
set_option maxRecDepth 100000 in
theorem lifted (os : Os) (started : os.Started) (H : Type) (enc : TypeId × Value → H) (F : Stop.Interp) :
    ReturnsInHanded {} Tryd.checked os 4 .any ((OpenSpec.ofChange Rows.planRefusalsSpec).preRow enc Tryd.prog Tryd.f4 Rows.planRefusalsRow.domain false Rows.planRefusalsRow.laid) (((OpenSpec.ofChange Rows.planRefusalsSpec).at F).post enc Tryd.prog Tryd.f4 false true false false) := by
  obtain ⟨places, hx⟩ := reads os enc
  refine returnsInHanded_of_row (C := Tryd.checked) (s := (OpenSpec.ofChange Rows.planRefusalsSpec)) own started (by kernel_rfl) Tryd.func4
    (witness_row_at (enc := enc) (C := Tryd.checked) false (laidWorld os) #[.agg (tcs (tz 0)), .slice none 0 0, .slice none 0 0] rfl (by kernel_rfl) (by kernel_rfl) (by kernel_rfl)
      (OpenSpec.preRow_of_cond 8 hx (by kernel_rfl) (fun k hk => by cases hk) (by kernel_rfl) (laid_met os))) ?_
  intro W base args ds gs before hval hW hc1 hc2 hsz hL hsh _
  exact contract H enc W base args ds gs before hval hW hsz hL
theorem said : Rows.PlanRefusalsSaid :=
  OpenClaim.holds_of_cond 4 Tryd.f4 rfl rfl rfl rfl rfl rfl rfl ⟨rfl, rfl, rfl, rfl, rfl⟩ rfl rfl rfl rfl rfl (by kernel_rfl) Tryd.func4 (by kernel_rfl)
    (of_decide_eq_true (by kernel_rfl)) (by unfold Func.isWrapper; first | (rw [if_pos (by decide +kernel)]; kernel_rfl) | (rw [if_neg (by decide +kernel)]; exact ⟨rfl, rfl⟩))
    (fun os started H enc _ F => by rw [OpenClaim.pre_eq_preRow]; exact lifted os started H enc F)
theorem plain (f : FuncId) (fn : Func) (hf : Tryd.pinned.checked.prog.funcNamed "coterie/coterielaw12.PlanRefusals" = some f) (hfn : Tryd.pinned.checked.prog.funcs[f]? = some fn) :
    false = Tryd.pinned.checked.prog.looks [] ∧ ∀ (j : Nat) t, fn.params[j]? = some t → Tryd.pinned.checked.prog.wantsStandIn t = false := by
  obtain rfl : f = 4 := Option.some.inj ((show Tryd.prog.funcNamed "coterie/coterielaw12.PlanRefusals" = some 4 by kernel_rfl).symm.trans hf) |>.symm
  obtain rfl : fn = Tryd.f4 := (Option.some.inj (Tryd.func4.symm.trans hfn)).symm
  refine ⟨by kernel_rfl, fun j t ht => ?_⟩
  rw [Tryd.params4] at ht
  have h31 : Tryd.prog.wantsStandIn 31 = false := by kernel_rfl
  have h32 : Tryd.prog.wantsStandIn 32 = false := by kernel_rfl
  have hm := Array.mem_of_getElem? ht
  simp at hm
  rcases hm with rfl | rfl
  · exact h31
  · exact h32
end Go.Proofs.YtedbnamekfgmhabDoor.planRefusals
namespace Go.Proofs.YtedbnamekfgmhabDoor
theorem planRefusals_holds : Rows.PlanRefusalsCardSaid :=
  Claim7.holds_tied_plain_at .later [] _ _ _ _ planRefusals.said (fun _ h => by cases h) (by kernel_rfl) (fun _ h => by cases h) planRefusals_row_tie rfl ⟨rfl, rfl⟩ (by kernel_rfl) rfl planRefusals.plain (by kernel_rfl)
#print axioms planRefusals_holds
end Go.Proofs.YtedbnamekfgmhabDoor
