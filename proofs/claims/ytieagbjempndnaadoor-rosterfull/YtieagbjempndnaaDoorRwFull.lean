/- The walk of RosterFull. -/
import Derived.Test.YtieagbjempndnaaDoorRsK
import Derived.Test.YtieagbjempndnaaDoorOpenCa
import Derived.Test.YtieagbjempndnaaDoorRsMp
import Derived.Test.YtieagbjempndnaaDoorRsQ
import Derived.Test.YtieagbjempndnaaDoorRsMath9
import Derived.Deep.RegionHeld3
namespace Go.Proofs.YtieagbjempndnaaDoor.rosterFull
open Go.RowKit Go.Maps Go.Shelf
set_option linter.unusedVariables false
set_option linter.unusedSimpArgs false

structure FX (w W : World) (f : Nat → En) (bm Bb n : Nat) (vL vJ : Value) (S : List Int) : Prop where
  ro : RoAt W w.heap.size f
  bel : Below w.heap.size w W
  bt : W.heap[Bb]? = some (.cells #[vL, vJ] 37 (0, 0))
  mi : Mi W bm n S
  o1 : w.heap.size < bm
  o2 : bm < Bb
theorem who_conv' (n : Int) : (IntKind.u64.wrap n).tmod 256 = who n ∧ IntKind.i64.wrap (who n) = who n := by
  have h0 : 0 ≤ IntKind.u64.wrap n := by simp only [IntKind.wrap_u64]; omega
  have h1 : 0 ≤ n % 256 := Int.emod_nonneg _ (by decide)
  have h2 : n % 256 < 256 := Int.emod_lt_of_pos _ (by decide)
  refine ⟨?_, ?_⟩
  · rw [Int.tmod_eq_emod_of_nonneg h0]
    unfold who
    simp only [IntKind.wrap_u64]
    omega
  · unfold who
    exact i64_fit _ (by omega) (by omega)
theorem mi_block {W W' : World} {b n : Nat} {l : List Int} (h : Mi W b n l) (he : W'.heap[b]? = W.heap[b]?) : Mi W' b n l := by
  obtain ⟨D, ⟨es, cl, hh, r⟩, h2⟩ := h
  exact ⟨D, ⟨es, cl, he.trans hh, r⟩, h2⟩
section
variable {w W W' : World} {f : Nat → En} {bm Bb n : Nat} {vL vJ : Value} {S : List Int}
theorem FX.lt (h : FX w W f bm Bb n vL vJ S) : Bb < W.heap.size := (Array.getElem?_eq_some_iff.1 h.bt).1
theorem FX.later (h : FX w W f bm Bb n vL vJ S) (hb : Below W.heap.size W W') : FX w W' f bm Bb n vL vJ S := ⟨h.ro.later hb, h.bel.trans (hb.mono h.bel.size), (hb.block _ h.lt).trans h.bt, h.mi.later hb, h.o1, h.o2⟩
theorem FX.cells (h : FX w W f bm Bb n vL vJ S) : True ∧ W.cell? ⟨Bb, 0, none⟩ = some vL ∧ W.cell? ⟨Bb, 1, none⟩ = some vJ := ⟨trivial, cell_of_row W Bb 0 _ _ _ h.bt, cell_of_row W Bb 1 _ _ _ h.bt⟩
theorem FX.app {b : Nat} {e : TypeId} {sz m : Nat} {v : Value} {xs : List Value} {o : Obj} (h : FX w W f bm Bb n vL vJ S) (hr : W.ownsRow b e sz v m xs) (hb : Bb < b) (hg : (W.alloc o).grownBy W' v.ownBlock) : FX w W' f bm Bb n vL vJ S := by
  have h1 := h.o1
  have h2 := h.o2
  have h3 := h.lt
  exact ⟨(grown_low hr hg (by omega) (by omega)).trans h.ro, grown_bel h.bel hr (by omega) hg, (grown_low hr hg (by omega) (by omega)).trans h.bt, mi_block h.mi (grown_low hr hg (by omega) (by omega)), h1, h2⟩
theorem FX.set0 (h : FX w W f bm Bb n vL vJ S) (v : Value) : FX w (W.setCell ⟨Bb, 0, none⟩ v) f bm Bb n v vJ S := by
  have h1 := h.o1
  have h2 := h.o2
  exact ⟨h.ro.other (by omega) _ _, h.bel.setCell (p := ⟨Bb, 0, none⟩) (by show w.heap.size ≤ Bb; omega) v, row_setCell h.bt 0 v, mi_block h.mi (other_setCell (by omega) _ _), h1, h2⟩
theorem FX.set1 (h : FX w W f bm Bb n vL vJ S) (v : Value) : FX w (W.setCell ⟨Bb, 1, none⟩ v) f bm Bb n vL v S := by
  have h1 := h.o1
  have h2 := h.o2
  exact ⟨h.ro.other (by omega) _ _, h.bel.setCell (p := ⟨Bb, 1, none⟩) (by show w.heap.size ≤ Bb; omega) v, row_setCell h.bt 1 v, mi_block h.mi (other_setCell (by omega) _ _), h1, h2⟩
theorem FX.mark {z : Int} (h : FX w W f bm Bb n vL vJ S) (hm : Mi W' bm (n + 1) (S ++ [z])) (hg : W.grownBy W' (some bm)) : FX w W' f bm Bb (n + 1) vL vJ (S ++ [z]) := by
  have h1 := h.o1
  have h2 := h.o2
  exact ⟨(hg.block _ h.ro.lt (by simp; omega)).trans h.ro, below_grown h.bel hg h.bel.size (fun j hj => by simp at hj; omega), (hg.block _ h.lt (by simp; omega)).trans h.bt, hm, h1, h2⟩
end
theorem iv_rd {W : World} {b : Nat} {v : Value} {l : List Int} (h : W.ownsRow b 3 1 v l.length (iv l)) : ∃ a cap, v = .slice a l.length cap ∧ RdI W a l := by
  rcases h.2 with ⟨rfl, h0⟩ | ⟨g, cap, cur, rfl, h3, h4, _⟩
  · have : l = [] := List.length_eq_zero_iff.1 h0
    subst this
    exact ⟨none, 0, rfl, RdI.nil _ _⟩
  · refine ⟨some ⟨g, 0, none⟩, cap, rfl, fun i hi => ⟨g, 0, rfl, ?_⟩⟩
    rw [Nat.zero_add, World.ownsRow.cellAt h i (by omega), iv_get hi]
theorem drew_below (w : World) : Below w.heap.size w w.drew := ⟨rfl, rfl, rfl, Nat.le_refl _, fun _ _ => rfl⟩
theorem rPeople_len (f : Nat → En) (w : World) : Calls Tryd.prog 17 #[.agg (rcs f)] w fun e w' => (∃ a c, e = .returned (.slice a (ppl f).length c)) ∧ Below w.heap.size w w' := by
  refine (rPeople_any f w).mono ?_
  rintro e w' ⟨⟨v, rfl, hr⟩, hb⟩
  obtain ⟨a, c, rfl⟩ := owns_slice hr
  exact ⟨⟨a, c, rfl⟩, hb⟩
set_option maxRecDepth 100000 in
set_option maxHeartbeats 4000000 in
theorem walk (f : Nat → En) (a1 : Option Addr) (c1 : Nat) (l1 : List Int) (a2 : Option Addr) (c2 : Nat) (l2 : List Int) (w : World) (wf : ∀ i, i < 64 → (Lit.int .i64 (f i).who).wf = true ∧ (Lit.int .i64 (f i).bas).wf = true ∧ (Lit.int .i64 (f i).snc).wf = true) (rd1 : RdI w a1 l1) (hl1 : l1.length * 8 ≤ 140737488351232) (rd2 : RdI w a2 l2) (hl2 : l2.length * 8 ≤ 140737488351232) (hT : Tb w) :
    Calls Tryd.prog 7 #[.agg (rcs f), .slice a1 l1.length c1, .slice a2 l2.length c2] w fun e w' => e = .returned (.bool true) ∧ Below w.heap.size w w' := by
  have hR := RoAt.new w f
  have hB := alloc_ro w f
  obtain ⟨i0, hi, hz0, hz1, hz2⟩ := info_parts infoInt
  clear wf
  go_enter Tryd.func7, Tryd.ntmps7
  go_upto_region 1 with (fail)
  generalize w.alloc (.cells (rcs f) 25) = w1 at *
  go_wp2_with fail
  refine (lives_any _ (hT.later hB)).mono ?_
  rintro e w2 ⟨rfl, hb2⟩
  have hR2 := hR.later hb2
  have hB2 := hB.trans (hb2.mono hB.size)
  clear hR hB hb2
  go_upto_region 3 with (fail)
  refine wp_region_lit ?_
  refine ld25 hR2 rfl _ rfl rfl ?_
  have hck := rCheck_any f w2
  go_wp2_with fail
  refine hck.mono ?_
  rintro e w3 ⟨rfl, hb3⟩
  have hR3 := hR2.later hb3
  have hB3 := hB2.trans (hb3.mono hB2.size)
  clear hck hb3 hR2 hB2
  cases hck : chk f with
  | false =>
    rw [chkE_ff hck]
    go_upto_region 4 with (fail)
    refine wp_region_lit ?_
    refine ld25 hR3 rfl _ rfl rfl ?_
    have hft := fits_any f a1 a2 c1 c2 l1 l2 w3 (by omega) (by omega) (rd1.later hB3) (rd2.later hB3)
    rw [ft_tree _ _ hck] at hft
    go_wp2_with fail
    refine hft.mono ?_
    rintro e w4 ⟨rfl, hb4⟩
    clear hft
    go_wp2_with fail
    go_ret
    exact ⟨rfl, hB3.trans (hb4.mono hB3.size)⟩
  | true =>
    rw [chkE_tt hck]
    have hmm := @run_makeMap Tryd.prog
    go_upto_region 7 with (fail)
    have hb4 : Below w3.heap.size w3 ((w3.alloc (.map #[] 0)).alloc (.cells #[.slice none 0 0, .slice none 0 0] 37)) := ((Below.refl _ w3).alloc (Nat.le_refl _) _).alloc (by simp) _
    have hM4 : Mi ((w3.alloc (.map #[] 0)).alloc (.cells #[.slice none 0 0, .slice none 0 0] 37)) w3.heap.size 0 [] := (Mi.new w3).later ((Below.refl _ _).alloc (Nat.le_refl _) _)
    have hN4 := heap_alloc_last (w3.alloc (.map #[] 0)) (.cells #[.slice none 0 0, .slice none 0 0] 37)
    rw [World.size_alloc] at hN4
    have hF4 : FX w ((w3.alloc (.map #[] 0)).alloc (.cells #[.slice none 0 0, .slice none 0 0] 37)) f w3.heap.size (w3.heap.size + 1) 0 (.slice none 0 0) (.slice none 0 0) ([] ++ pick f true [] (l1.take 0)) := ⟨hR3.later hb4, hB3.trans (hb4.mono hB3.size), hN4, hM4, hR3.lt, by omega⟩
    generalize (w3.alloc (.map #[] 0)).alloc (.cells #[.slice none 0 0, .slice none 0 0] 37) = w4 at *
    obtain ⟨Bb, hBbe⟩ : ∃ Bb, w3.heap.size + 1 = Bb := ⟨_, rfl⟩
    rw [hBbe] at hF4 ⊢
    generalize w3.heap.size = bm at *
    have HX0 : Hid (FX w w4 f bm Bb 0 (.slice none 0 0) (.slice none 0 0) ([] ++ pick f true [] (l1.take 0))) := hF4
    have HR0 : Hid (w4.ownsRow (Bb + 1) 3 1 (.slice none 0 0) (pick f true [] (l1.take 0)).length (iv (pick f true [] (l1.take 0)))) := World.ownsRow_nil _ _ _ _
    clear hmm hb4 hM4 hN4 hF4 hR3 hB3 hBbe
    obtain ⟨cf0, hcf0⟩ : ∃ cf0, rcs f = cf0 := ⟨_, rfl⟩
    rw [hcf0]
    clear hcf0
    go_wp2_with fail
    go_loopw [31] (fun i wx => ∃ (k n : Nat) (vl : Value), k ≤ l1.length ∧ i = .int .i64 (k : Int) ∧ n ≤ k ∧ FX w wx f bm Bb n vl (.slice none 0 0) ([] ++ pick f true [] (l1.take k)) ∧ wx.ownsRow (Bb + 1) 3 1 vl (pick f true [] (l1.take k)).length (iv (pick f true [] (l1.take k)))) (fun i _ => l1.length - (intOf i).toNat)
    case atStart => exact ⟨0, 0, _, by omega, rfl, by omega, HX0.out, HR0.out⟩
    case round =>
      obtain ⟨k, n, vl, hk, rfl, hn, hfx, hrw⟩ := hrel
      have hpl := pick_len f true [] l1 k hk
      have HX : Hid (FX w wr f bm Bb n vl (.slice none 0 0) ([] ++ pick f true [] (l1.take k))) := hfx
      have HR : Hid (wr.ownsRow (Bb + 1) 3 1 vl (pick f true [] (l1.take k)).length (iv (pick f true [] (l1.take k)))) := hrw
      skip
      clear hfx hrw HX0 HR0
      by_cases hkN : k < l1.length
      · have i1 : (0 : Int) ≤ (k : Int) := by omega
        have i2 : (k : Int) < (l1.length : Int) := by omega
        obtain ⟨b, o, hal, hcell⟩ := (rd1.later HX.out.bel) k hkN
        have HP : Hid (pick f true [] (l1.take (k + 1)) = pick1 f true [] (pick f true [] (l1.take k)) (l1.getD k 0)) := by show _ = _; rw [take_snoc hkN, pick_snoc]
        obtain ⟨z, hz⟩ : ∃ z, l1.getD k 0 = z := ⟨_, rfl⟩
        rw [hz] at hcell HP
        obtain ⟨A, hA⟩ : ∃ A, pick f true [] (l1.take k) = A := ⟨_, rfl⟩
        rw [hA] at hpl HX HR HP
        have hc1 := (who_conv' z).1
        have hc2 := (who_conv' z).2
        have hwx := wok_wf (who_wok z)
        have HP1 : Hid (pick1 f true [] A z = if decide (who z ∈ [] ++ A) then A else if decide (on f (who z) = true) then A ++ [who z] else A) := rfl
        have hlk := HX.out.mi.look hwx
        have HMK : Hid (mrk ([] ++ A) (who z) = if who z ∈ [] ++ A then 1 else 0) := rfl
        have HON : Hid (on f (who z) = decide (0 ≤ fnd f (who z))) := rfl
        have hfi := rFind_any f (who z) wr
        obtain ⟨x, hx⟩ : ∃ x, who z = x := ⟨_, rfl⟩
        rw [hx] at hc1 hc2 hwx HP1 hlk HMK HON hfi
        have HWX : Hid (x = x) := rfl
        clear hz hA hx
        subst hal
        by_cases hin : x ∈ [] ++ A
        · have hmk : mrk ([] ++ A) x = 1 := by rw [HMK.out, if_pos hin]
          rw [hmk] at hlk
          have HPX : Hid (pick f true [] (l1.take (k + 1)) = A) := by show _ = _; rw [HP.out, HP1.out, decide_eq_true hin, if_pos rfl]
          clear hin hmk hfi
          go_wp2_with fail
          go_roundw
          case rel => exact ⟨k + 1, n, vl, by omega, by go_num, by omega, by rw [HPX.out]; exact HX.out, by rw [HPX.out]; exact HR.out⟩
          case measure => simp [intOf]; omega
        · have hmk : mrk ([] ++ A) x = 0 := by rw [HMK.out, if_neg hin]
          rw [hmk] at hlk
          have HIN : Hid (decide (x ∈ [] ++ A) = false) := decide_eq_false hin
          clear hin hmk
          obtain ⟨fi, hfe⟩ : ∃ fi, fnd f x = fi := ⟨_, rfl⟩
          rw [hfe] at hfi HON
          clear hfe
          obtain ⟨cf, hcf⟩ : ∃ cf, rcs f = cf := ⟨_, rfl⟩
          have HCF : Hid (rcs f = cf) := hcf
          rw [hcf] at hfi
          clear hcf
          go_wp2_with (refine rd_guard (v := .agg cf) (by rfl) (by rw [← HCF.out]; exact ld25_exec HX.out.ro rfl rfl) ?_)
          refine hfi.mono ?_
          rintro r w2 ⟨rfl, hb2⟩
          have HX2 : Hid (FX w w2 f bm Bb n vl (.slice none 0 0) ([] ++ A)) := HX.out.later hb2
          have HR2 : Hid (w2.ownsRow (Bb + 1) 3 1 vl A.length (iv A)) := owns_later HR.out hb2
          have hs2 := hb2.size
          skip
          clear hfi hb2 hlk HX HR
          by_cases h0 : 0 ≤ fi
          · have d0 : decide (0 ≤ fi) = true := decide_eq_true h0
            have d1 : decide (fi < 0) = false := decide_eq_false (by omega)
            have HPX : Hid (pick f true [] (l1.take (k + 1)) = A ++ [x]) := by show _ = _; rw [HP.out, HP1.out, HIN.out, if_neg (by simp), decide_eq_true (by rw [HON.out, d0]), if_pos rfl]
            obtain ⟨aa, ca, rfl⟩ := owns_slice HR2.out
            obtain ⟨NA, hNA⟩ : ∃ NA, A.length = NA := ⟨_, rfl⟩
            have hrow : w2.ownsRow (Bb + 1) 3 1 (.slice aa NA ca) NA (iv A) := by have h := HR2.out; rw [hNA] at h; exact h
            have HNA : Hid (A.length = NA) := hNA
            rw [hNA] at hpl
            have hcb := HX2.out.cells.2.1
            rw [hNA] at hcb
            clear hNA
            have hBb := HX2.out.lt
            go_upto_region 13 with (at_builtin; (refine wpList_append_own _ rfl _ _ 32 rfl (Bb + 1) 3 i0 _ 1 8 Tryd.underlying32 hi hz0 hz1 hz2 rfl (by decide) (.slice aa NA ca) NA (iv A) rfl (hrow.alloc _) ⟨w2.heap.size, 0, none⟩ 1 1 [.int .i64 x] rfl rfl (cell_one_new _ _ _) (by simp [Value.oneCell']) (by unfold maxLen; omega) (by omega) (by simp; omega) ?_); intro v' w3 hown' hg3 _; obtain ⟨av, cv, rfl⟩ := owns_slice hown'; have hF3 := HX2.out.app hrow (by omega) hg3; have hc3 := hF3.cells.2.1; have hf3 := row_frozen hF3.bt 0)
            have HF4 : Hid (FX w (w3.setCell ⟨Bb, 0, none⟩ (.slice av (NA + 1) cv)) f bm Bb n (.slice av (NA + 1) cv) (.slice none 0 0) ([] ++ A)) := hF3.set0 (.slice av (NA + 1) cv)
            have HR4 : Hid ((w3.setCell ⟨Bb, 0, none⟩ (.slice av (NA + 1) cv)).ownsRow (Bb + 1) 3 1 (.slice av (NA + 1) cv) (A ++ [x]).length (iv (A ++ [x]))) := by
              show World.ownsRow _ _ _ _ _ _ _
              rw [iv_snoc, List.length_append, HNA.out]
              exact owns_block hown' fun q hq _ => other_setCell (by omega) _ _
            skip
            clear hown' hg3 hrow hF3 hc3 hf3 hcb HX2 HR2
            generalize w3.setCell ⟨Bb, 0, none⟩ (.slice av (NA + 1) cv) = w4 at *
            go_wp2_with (refine Mi.upd HF4.out.mi (by omega) hwx rfl _ _ _ rfl rfl rfl rfl ?_; intro w5 hm5 hg5)
            go_roundw
            case rel =>
              have ho2 := HF4.out.o2
              refine ⟨k + 1, n + 1, .slice av (NA + 1) cv, by omega, by go_num, by omega, ?_, ?_⟩
              · rw [HPX.out, ← List.append_assoc]; exact HF4.out.mark hm5 hg5
              · rw [HPX.out]; exact owns_block HR4.out fun q hq hq2 => hg5.block q hq2 (by simp; omega)
              skip
            case measure => simp [intOf]; omega
          · have d0 : decide (0 ≤ fi) = false := decide_eq_false h0
            have d1 : decide (fi < 0) = true := decide_eq_true (by omega)
            have HPX : Hid (pick f true [] (l1.take (k + 1)) = A) := by show _ = _; rw [HP.out, HP1.out, HIN.out, if_neg (by simp), decide_eq_false (by rw [HON.out, d0]; simp), if_neg (by simp)]
            go_wp2_with fail
            go_roundw
            case rel => exact ⟨k + 1, n, vl, by omega, by go_num, by omega, by rw [HPX.out]; exact HX2.out, by rw [HPX.out]; exact HR2.out⟩
            case measure => simp [intOf]; omega
      · obtain rfl : k = l1.length := by omega
        have hdktrue : decide ((l1.length : Int) < (l1.length : Int)) = false := by simp
        obtain ⟨w6, hw6⟩ : ∃ w6, wr = w6 := ⟨_, rfl⟩
        rw [hw6] at HX HR ⊢
        clear hw6
        obtain ⟨LV, hLV⟩ : ∃ LV, pick f true [] l1 = LV := ⟨_, rfl⟩
        have HLV : Hid (pick f true [] l1 = LV) := hLV
        rw [List.take_length, hLV] at HX HR hpl
        clear hLV
        obtain ⟨aLV, cLV, rfl⟩ := owns_slice HR.out
        have HAP : Hid (∀ m, (Value.slice aLV LV.length cLV).ownBlock = some m → m < w6.heap.size) := fun m hm => by
          rcases HR.out.2 with ⟨h0, _⟩ | ⟨g, cap, cur, h0, h3, h4, _⟩
          · rw [h0] at hm; simp [Value.ownBlock] at hm
          · rw [h0] at hm
            simp [Value.ownBlock] at hm
            subst hm
            exact (Array.getElem?_eq_some_iff.1 h4).1
        have hBb6 := HX.out.lt
        obtain ⟨bJ, hbJ⟩ : ∃ bJ, w6.heap.size = bJ := ⟨_, rfl⟩
        rw [hbJ] at HAP hBb6
        have n1 := n
        obtain ⟨n1, hn1⟩ : ∃ n1, n = n1 := ⟨_, rfl⟩
        rw [hn1] at HX hn
        have HX0 : Hid (FX w w6 f bm Bb n1 (.slice aLV LV.length cLV) (.slice none 0 0) (LV ++ pick f false LV (l2.take 0))) := by
          have h := HX.out
          show FX _ _ _ _ _ _ _ _ (LV ++ [])
          rw [List.append_nil]
          simpa using h
        have HR0 : Hid (w6.ownsRow bJ 3 1 (.slice none 0 0) (pick f false LV (l2.take 0)).length (iv (pick f false LV (l2.take 0)))) := World.ownsRow_nil _ _ _ _
        have HRL0 : Hid (w6.ownsRow (Bb + 1) 3 1 (.slice aLV LV.length cLV) LV.length (iv LV)) := HR.out
        have hbJ2 : bJ ≤ w6.heap.size := by omega
        clear HX HR hn1
        go_wp2_with fail
        go_loopw [60] (fun i wx => ∃ (k n : Nat) (vl : Value), k ≤ l2.length ∧ i = .int .i64 (k : Int) ∧ n ≤ l1.length + k ∧ FX w wx f bm Bb n (.slice aLV LV.length cLV) vl (LV ++ pick f false LV (l2.take k)) ∧ wx.ownsRow bJ 3 1 vl (pick f false LV (l2.take k)).length (iv (pick f false LV (l2.take k))) ∧ wx.ownsRow (Bb + 1) 3 1 (.slice aLV LV.length cLV) LV.length (iv LV) ∧ bJ ≤ wx.heap.size) (fun i _ => l2.length - (intOf i).toNat)
        case atStart => exact ⟨0, n1, _, by omega, rfl, by omega, HX0.out, HR0.out, HRL0.out, hbJ2⟩
        case round =>
          obtain ⟨k, n, vl, hk, rfl, hn, hfx, hrw, hrl, hbj⟩ := hrel
          have hpl := pick_len f false LV l2 k hk
          have HX : Hid (FX w wr f bm Bb n (.slice aLV LV.length cLV) vl (LV ++ pick f false LV (l2.take k))) := hfx
          have HR : Hid (wr.ownsRow bJ 3 1 vl (pick f false LV (l2.take k)).length (iv (pick f false LV (l2.take k)))) := hrw
          have HRL : Hid (wr.ownsRow (Bb + 1) 3 1 (.slice aLV LV.length cLV) LV.length (iv LV)) := hrl
          clear hrl HRL0
          clear hfx hrw HX0 HR0
          by_cases hkN : k < l2.length
          · have i1 : (0 : Int) ≤ (k : Int) := by omega
            have i2 : (k : Int) < (l2.length : Int) := by omega
            obtain ⟨b, o, hal, hcell⟩ := (rd2.later HX.out.bel) k hkN
            have HP : Hid (pick f false LV (l2.take (k + 1)) = pick1 f false LV (pick f false LV (l2.take k)) (l2.getD k 0)) := by show _ = _; rw [take_snoc hkN, pick_snoc]
            obtain ⟨z, hz⟩ : ∃ z, l2.getD k 0 = z := ⟨_, rfl⟩
            rw [hz] at hcell HP
            obtain ⟨A, hA⟩ : ∃ A, pick f false LV (l2.take k) = A := ⟨_, rfl⟩
            rw [hA] at hpl HX HR HP
            have hc1 := (who_conv' z).1
            have hc2 := (who_conv' z).2
            have hwx := wok_wf (who_wok z)
            have HP1 : Hid (pick1 f false LV A z = if decide (who z ∈ LV ++ A) then A else if decide (on f (who z) = false) then A ++ [who z] else A) := rfl
            have hlk := HX.out.mi.look hwx
            have HMK : Hid (mrk (LV ++ A) (who z) = if who z ∈ LV ++ A then 1 else 0) := rfl
            have HON : Hid (on f (who z) = decide (0 ≤ fnd f (who z))) := rfl
            have hfi := rFind_any f (who z) wr
            obtain ⟨x, hx⟩ : ∃ x, who z = x := ⟨_, rfl⟩
            rw [hx] at hc1 hc2 hwx HP1 hlk HMK HON hfi
            have HWX : Hid (x = x) := rfl
            clear hz hA hx
            subst hal
            by_cases hin : x ∈ LV ++ A
            · have hmk : mrk (LV ++ A) x = 1 := by rw [HMK.out, if_pos hin]
              rw [hmk] at hlk
              have HPX : Hid (pick f false LV (l2.take (k + 1)) = A) := by show _ = _; rw [HP.out, HP1.out, decide_eq_true hin, if_pos rfl]
              clear hin hmk hfi
              go_wp2_with fail
              go_roundw
              case rel => exact ⟨k + 1, n, vl, by omega, by go_num, by omega, by rw [HPX.out]; exact HX.out, by rw [HPX.out]; exact HR.out, HRL.out, hbj⟩
              case measure => simp [intOf]; omega
            · have hmk : mrk (LV ++ A) x = 0 := by rw [HMK.out, if_neg hin]
              rw [hmk] at hlk
              have HIN : Hid (decide (x ∈ LV ++ A) = false) := decide_eq_false hin
              clear hin hmk
              obtain ⟨fi, hfe⟩ : ∃ fi, fnd f x = fi := ⟨_, rfl⟩
              rw [hfe] at hfi HON
              clear hfe
              obtain ⟨cf, hcf⟩ : ∃ cf, rcs f = cf := ⟨_, rfl⟩
              have HCF : Hid (rcs f = cf) := hcf
              rw [hcf] at hfi
              clear hcf
              go_wp2_with (refine rd_guard (v := .agg cf) (by rfl) (by rw [← HCF.out]; exact ld25_exec HX.out.ro rfl rfl) ?_)
              refine hfi.mono ?_
              rintro r w2 ⟨rfl, hb2⟩
              have HX2 : Hid (FX w w2 f bm Bb n (.slice aLV LV.length cLV) vl (LV ++ A)) := HX.out.later hb2
              have HR2 : Hid (w2.ownsRow bJ 3 1 vl A.length (iv A)) := owns_later HR.out hb2
              have hs2 := hb2.size
              have HRL2 : Hid (w2.ownsRow (Bb + 1) 3 1 (.slice aLV LV.length cLV) LV.length (iv LV)) := owns_later HRL.out (by assumption)
              clear HRL
              clear hfi hb2 hlk HX HR
              by_cases h0 : 0 ≤ fi
              · have d0 : decide (0 ≤ fi) = true := decide_eq_true h0
                have d1 : decide (fi < 0) = false := decide_eq_false (by omega)
                have HPX : Hid (pick f false LV (l2.take (k + 1)) = A) := by show _ = _; rw [HP.out, HP1.out, HIN.out, if_neg (by simp), decide_eq_false (by rw [HON.out, d0]; simp), if_neg (by simp)]
                go_wp2_with fail
                go_roundw
                case rel => exact ⟨k + 1, n, vl, by omega, by go_num, by omega, by rw [HPX.out]; exact HX2.out, by rw [HPX.out]; exact HR2.out, HRL2.out, by omega⟩
                case measure => simp [intOf]; omega
              · have d0 : decide (0 ≤ fi) = false := decide_eq_false h0
                have d1 : decide (fi < 0) = true := decide_eq_true (by omega)
                have HPX : Hid (pick f false LV (l2.take (k + 1)) = A ++ [x]) := by show _ = _; rw [HP.out, HP1.out, HIN.out, if_neg (by simp), decide_eq_true (by rw [HON.out, d0]), if_pos rfl]
                obtain ⟨aa, ca, rfl⟩ := owns_slice HR2.out
                obtain ⟨NA, hNA⟩ : ∃ NA, A.length = NA := ⟨_, rfl⟩
                have hrow : w2.ownsRow bJ 3 1 (.slice aa NA ca) NA (iv A) := by have h := HR2.out; rw [hNA] at h; exact h
                have HNA : Hid (A.length = NA) := hNA
                rw [hNA] at hpl
                have hcb := HX2.out.cells.2.2
                rw [hNA] at hcb
                clear hNA
                have hBb := HX2.out.lt
                go_upto_region 21 with (at_builtin; (refine wpList_append_own _ rfl _ _ 32 rfl bJ 3 i0 _ 1 8 Tryd.underlying32 hi hz0 hz1 hz2 rfl (by decide) (.slice aa NA ca) NA (iv A) rfl (hrow.alloc _) ⟨w2.heap.size, 0, none⟩ 1 1 [.int .i64 x] rfl rfl (cell_one_new _ _ _) (by simp [Value.oneCell']) (by unfold maxLen; omega) (by omega) (by simp; omega) ?_); intro v' w3 hown' hg3 _; obtain ⟨av, cv, rfl⟩ := owns_slice hown'; have hF3 := HX2.out.app hrow (by omega) hg3; have hc3 := hF3.cells.2.2; have hf3 := row_frozen hF3.bt 1)
                have HF4 : Hid (FX w (w3.setCell ⟨Bb, 1, none⟩ (.slice av (NA + 1) cv)) f bm Bb n (.slice aLV LV.length cLV) (.slice av (NA + 1) cv) (LV ++ A)) := hF3.set1 (.slice av (NA + 1) cv)
                have HR4 : Hid ((w3.setCell ⟨Bb, 1, none⟩ (.slice av (NA + 1) cv)).ownsRow bJ 3 1 (.slice av (NA + 1) cv) (A ++ [x]).length (iv (A ++ [x]))) := by
                  show World.ownsRow _ _ _ _ _ _ _
                  rw [iv_snoc, List.length_append, HNA.out]
                  exact owns_block hown' fun q hq _ => other_setCell (by omega) _ _
                have HRL4 : Hid ((w3.setCell ⟨Bb, 1, none⟩ (.slice av (NA + 1) cv)).ownsRow (Bb + 1) 3 1 (.slice aLV LV.length cLV) LV.length (iv LV)) := owns_block ((HRL2.out.alloc _).kept hg3 (by
                  cases hv : (Value.slice aLV LV.length cLV).ownBlock with
                  | none => exact .inl rfl
                  | some q => exact .inr (row_far hrow (HAP.out q hv)))) fun q hq _ => other_setCell (by omega) _ _
                have hs4 : bJ ≤ (w3.setCell ⟨Bb, 1, none⟩ (.slice av (NA + 1) cv)).heap.size := Nat.le_trans (show bJ ≤ w3.heap.size from Nat.le_trans (by omega) (Nat.le_trans (show w2.heap.size ≤ (w2.alloc (.cells #[.int .i64 x] 3)).heap.size by simp) hg3.size)) ((Below.refl 0 w3).setCell (p := ⟨Bb, 1, none⟩) (Nat.zero_le _) (.slice av (NA + 1) cv)).size
                clear HRL2
                clear hown' hg3 hrow hF3 hc3 hf3 hcb HX2 HR2
                generalize w3.setCell ⟨Bb, 1, none⟩ (.slice av (NA + 1) cv) = w4 at *
                go_wp2_with (refine Mi.upd HF4.out.mi (by omega) hwx rfl _ _ _ rfl rfl rfl rfl ?_; intro w5 hm5 hg5)
                go_roundw
                case rel =>
                  have ho2 := HF4.out.o2
                  refine ⟨k + 1, n + 1, .slice av (NA + 1) cv, by omega, by go_num, by omega, ?_, ?_, ?_, ?_⟩
                  · rw [HPX.out, ← List.append_assoc]; exact HF4.out.mark hm5 hg5
                  · rw [HPX.out]; exact owns_block HR4.out fun q hq hq2 => hg5.block q hq2 (by simp; omega)
                  · exact owns_block HRL4.out fun q hq hq2 => hg5.block q hq2 (by simp; omega)
                  · exact Nat.le_trans hs4 hg5.size
                case measure => simp [intOf]; omega
          · obtain rfl : k = l2.length := by omega
            have hdkfalse : decide ((l2.length : Int) < (l2.length : Int)) = false := by simp
            rw [List.take_length] at HX HR hpl
            obtain ⟨JV, hJV⟩ : ∃ JV, pick f false LV l2 = JV := ⟨_, rfl⟩
            rw [hJV] at HX HR hpl
            have hfull := pick_ft hck l1 l2
            rw [HLV.out, hJV, ← ppl_cnt (chk_rt.1 hck)] at hfull
            have hpe := rPeople_len f
            have hp64 := ppl_len f
            obtain ⟨PF, hPF⟩ : ∃ PF, (ppl f).length = PF := ⟨_, rfl⟩
            rw [hPF] at hfull hpe hp64
            obtain ⟨aJV, cJV, rfl, rJV⟩ := iv_rd HR.out
            obtain ⟨aL2, cL2, hL2, rLV⟩ := iv_rd HRL.out
            simp only [Value.slice.injEq] at hL2
            obtain ⟨rfl, -, rfl⟩ := hL2
            have hlv : LV.length ≤ l1.length := by rw [← HLV.out]; have h := pick_len f true [] l1 l1.length (Nat.le_refl _); rw [List.take_length] at h; exact h
            have hw1 : IntKind.i64.wrap (64 - (PF : Int)) = 64 - (PF : Int) := i64_fit _ (by omega) (by omega)
            have hw2 : IntKind.i64.wrap (64 - (PF : Int) + (LV.length : Int)) = 64 - (PF : Int) + (LV.length : Int) := i64_fit _ (by omega) (by omega)
            have RJ : Hid (RdI wr aJV JV) := rJV
            have RL : Hid (RdI wr aLV LV) := rLV
            clear hJV hPF rJV rLV HR HRL
            obtain ⟨NL, hNL⟩ : ∃ NL, LV.length = NL := ⟨_, rfl⟩
            obtain ⟨NJ, hNJ⟩ : ∃ NJ, JV.length = NJ := ⟨_, rfl⟩
            have HNL : Hid (LV.length = NL) := hNL
            have HNJ : Hid (JV.length = NJ) := hNJ
            rw [hNL] at hw2 HX hfull hlv ⊢
            rw [hNJ] at HX hpl hfull
            clear hNL hNJ
            have HFULL : Hid (ft f LV JV = if NJ > 64 - PF + NL then 18 else 0) := hfull
            clear hfull
            go_upto_region 23 with (fail)
            have hS0 := HX.out.later (drew_below wr)
            refine wp_region_held_drew (S := fun W => FX w W f bm Bb n (.slice aLV NL cLV) (.slice aJV NJ cJV) (LV ++ JV)) (by kernel_rfl) hS0 (fun hH0 => ?_)
            have RJ0 : Hid (RdI wr.drew aJV JV) := RJ.out.later (drew_below wr)
            have RL0 : Hid (RdI wr.drew aLV LV) := RL.out.later (drew_below wr)
            refine wpAnyH_take (i := 0) (oi := { dst := some 87, op := Op.load 25 (Operand.tmp 3), type := _, pos := _, after := _, guard := none }) (v := .agg (rcs f)) rfl (by kernel_rfl) (by kernel_rfl) (by kernel_rfl) (fun _ _ _ h => h) (Or.inl ⟨by rfl, fun w hSw => ld25_exec (FX.ro hSw) rfl rfl⟩) (by assumption) ?_
            simp only [Act.put, List.setIfInBounds_toArray, List.set_cons_zero, List.set_cons_succ]
            refine wpAnyH_take (i := 4) (oi := { dst := some 91, op := Op.fieldAddr 37 (Operand.tmp 8) 0, type := _, pos := _, after := _, guard := none }) (v := .pointer (some ⟨Bb, 0, none⟩)) rfl (by kernel_rfl) (by kernel_rfl) (by kernel_rfl) (fun _ _ _ h => h) (Or.inl ⟨by rfl, fun w hSw => by (try dsimp only at hSw); go_simp⟩) (by assumption) ?_
            simp only [Act.put, List.setIfInBounds_toArray, List.set_cons_zero, List.set_cons_succ]
            refine wpAnyH_take (i := 5) (oi := { dst := some 92, op := Op.load 32 (Operand.tmp 91), type := _, pos := _, after := _, guard := none }) (v := .slice aLV NL cLV) rfl (by kernel_rfl) (by kernel_rfl) (by kernel_rfl) (fun _ _ _ h => h) (Or.inl ⟨by rfl, fun w hSw => by obtain ⟨-, y0, y1⟩ := FX.cells hSw; clear hSw; go_simp⟩) (by assumption) ?_
            simp only [Act.put, List.setIfInBounds_toArray, List.set_cons_zero, List.set_cons_succ]
            refine wpAnyH_take (i := 6) (oi := { dst := some 93, op := Op.call { callee := Callee.builtin Builtin.len, args := #[(Operand.tmp 92)], argTypes := #[32] }, type := _, pos := _, after := _, guard := none }) (v := .int .i64 (NL : Int)) rfl (by kernel_rfl) (by kernel_rfl) (by kernel_rfl) (fun _ _ _ h => h) (Or.inl ⟨by rfl, fun w hSw => by (try dsimp only at hSw); go_simp⟩) (by assumption) ?_
            simp only [Act.put, List.setIfInBounds_toArray, List.set_cons_zero, List.set_cons_succ]
            refine wpAnyH_ready (rs := [1]) (by kernel_rfl) (by simp) ?_
            refine AllReadyH.cons rfl (fun K hK => ?_) AllReadyH.nil
            go_simp
            refine (hpe _).mono ?_
            rintro e u1 ⟨⟨pa, pc, rfl⟩, hb1⟩
            have RJ1 : Hid (RdI u1 aJV JV) := RJ0.out.later hb1
            have RL1 : Hid (RdI u1 aLV LV) := RL0.out.later hb1
            go_wp2_with fail
            refine hK.out _ _ (FX.later hH0 hb1) (fun hH1 => ?_)
            clear hb1 hH0
            clear hK K
            try simp only [Act.put, List.setIfInBounds_toArray, List.set_cons_zero, List.set_cons_succ]
            refine wpAnyH_take (i := 2) (oi := { dst := some 89, op := Op.call { callee := Callee.builtin Builtin.len, args := #[(Operand.tmp 88)], argTypes := #[32] }, type := _, pos := _, after := _, guard := none }) (v := .int .i64 (PF : Int)) rfl (by kernel_rfl) (by kernel_rfl) (by kernel_rfl) (fun _ _ _ h => h) (Or.inl ⟨by rfl, fun w hSw => by (try dsimp only at hSw); go_simp⟩) (by assumption) ?_
            simp only [Act.put, List.setIfInBounds_toArray, List.set_cons_zero, List.set_cons_succ]
            refine wpAnyH_take (i := 3) (oi := { dst := some 90, op := Op.binOp BinOp.sub 3 (Operand.const (Value.int IntKind.i64 64)) (Operand.tmp 89) 3, type := _, pos := _, after := _, guard := none }) (v := .int .i64 (64 - (PF : Int))) rfl (by kernel_rfl) (by kernel_rfl) (by kernel_rfl) (fun _ _ _ h => h) (Or.inl ⟨by rfl, fun w hSw => by (try dsimp only at hSw); go_simp⟩) (by assumption) ?_
            simp only [Act.put, List.setIfInBounds_toArray, List.set_cons_zero, List.set_cons_succ]
            refine wpAnyH_take (i := 7) (oi := { dst := some 94, op := Op.binOp BinOp.add 3 (Operand.tmp 90) (Operand.tmp 93) 3, type := _, pos := _, after := _, guard := none }) (v := .int .i64 (64 - (PF : Int) + (NL : Int))) rfl (by kernel_rfl) (by kernel_rfl) (by kernel_rfl) (fun _ _ _ h => h) (Or.inl ⟨by rfl, fun w hSw => by (try dsimp only at hSw); go_simp⟩) (by assumption) ?_
            simp only [Act.put, List.setIfInBounds_toArray, List.set_cons_zero, List.set_cons_succ]
            refine wpAnyH_take (i := 8) (oi := { dst := some 15, op := Op.assign (Operand.tmp 94), type := _, pos := _, after := _, guard := none }) (v := .int .i64 (64 - (PF : Int) + (NL : Int))) rfl (by kernel_rfl) (by kernel_rfl) (by kernel_rfl) (fun _ _ _ h => h) (Or.inl ⟨by rfl, fun w hSw => by (try dsimp only at hSw); go_simp⟩) (by assumption) ?_
            simp only [Act.put, List.setIfInBounds_toArray, List.set_cons_zero, List.set_cons_succ]
            refine wpAnyH_done (by kernel_rfl) ?_ _
            clear hpe hS0 HX RJ RL RJ0 RL0
            go_upto_region 24 with (fail)
            refine wp_region_lit ?_
            refine ld25 (FX.ro hH1) rfl _ rfl rfl ?_
            obtain ⟨-, y0, y1⟩ := FX.cells hH1
            have hft := fits_any f aLV aJV cLV cJV LV JV u1 (by rw [HNL.out]; omega) (by rw [HNJ.out]; omega) RL1.out RJ1.out
            rw [HNL.out, HNJ.out, HFULL.out] at hft
            obtain ⟨cf, hcf⟩ : ∃ cf, rcs f = cf := ⟨_, rfl⟩
            rw [hcf] at hft ⊢
            clear hcf
            go_wp2_with fail
            refine hft.mono ?_
            rintro e u2 ⟨rfl, hb2⟩
            have hF2 := FX.later hH1 hb2
            obtain ⟨-, y2, y3⟩ := FX.cells hF2
            have hB2 := hF2.bel
            clear hft hH1 hb2 hF2 y0 y1
            by_cases hgt : 64 - (PF : Int) + (NL : Int) < (NJ : Int)
            · rw [if_pos (by omega)]
              have d1 : decide (64 - (PF : Int) + (NL : Int) < (NJ : Int)) = true := decide_eq_true hgt
              go_wp2_with fail
              go_ret
              exact ⟨rfl, hB2⟩
            · rw [if_neg (by omega)]
              have d1 : decide (64 - (PF : Int) + (NL : Int) < (NJ : Int)) = false := decide_eq_false hgt
              go_wp2_with fail
              go_ret
              exact ⟨rfl, hB2⟩
end Go.Proofs.YtieagbjempndnaaDoor.rosterFull
