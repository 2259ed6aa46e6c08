/- RsL, RsSm, joined. -/
import Derived.Test.YtpimbpfefhkojabGreatDoorRsJ4
import Derived.Test.YtpimbpfefhkojabGreatDoorRsJ1
namespace Go.Proofs.YtpimbpfefhkojabGreatDoor.Rs
open Go.RowKit Go.Maps
set_option linter.unusedVariables false
set_option linter.unusedSimpArgs false

theorem FS.set3 {w W : World} {g : Nat → En} {aL aJ : Option Addr} {nL nJ cL cJ : Nat} (h : FS w W g aL aJ nL nJ cL cJ) (k : Nat) (hk : k < 64) (a b c : Int) :
    FS w (((W.setCell ⟨w.heap.size, k * 3, none⟩ (.int .i64 a)).setCell ⟨w.heap.size, k * 3 + 1, none⟩ (.int .i64 b)).setCell ⟨w.heap.size, k * 3 + 2, none⟩ (.int .i64 c)) (upd g k ⟨a, b, c⟩) aL aJ nL nJ cL cJ :=
  ⟨h.ro.set3 k hk a b c, (set3_other (by omega) _ _ _ _ _ _).trans h.bt, set3_below h.bel (Nat.le_refl _) _ _ _ _ _ _⟩
theorem MV.set3 {w W : World} {g : Nat → En} {aL aJ : Option Addr} {nL nJ cL cJ : Nat} (h : MV w W g aL aJ nL nJ cL cJ) (k : Nat) (hk : k < 64) (a b c : Int) :
    MV w (((W.setCell ⟨w.heap.size, k * 3, none⟩ (.int .i64 a)).setCell ⟨w.heap.size, k * 3 + 1, none⟩ (.int .i64 b)).setCell ⟨w.heap.size, k * 3 + 2, none⟩ (.int .i64 c)) (upd g k ⟨a, b, c⟩) aL aJ nL nJ cL cJ :=
  ⟨h.fs.set3 k hk a b c, (set3_other (by omega) _ _ _ _ _ _).trans h.ze⟩
theorem grown_low {W W1 : World} {b : Nat} {e : TypeId} {sz : Nat} {v : Value} {n : Nat} {xs : List Value} {o : Obj} (h : W.ownsRow b e sz v n xs) (hg : (W.alloc o).grownBy W1 v.ownBlock) {k : Nat} (hk : k < b) (hs : k < W.heap.size) : W1.heap[k]? = W.heap[k]? := by
  rw [hg.block k (by simp; omega) (row_far h hk)]
  exact ((Below.refl _ W).alloc (Nat.le_refl _) o).block k hs
theorem grown_bel {w W W1 : World} {b : Nat} {e : TypeId} {sz : Nat} {v : Value} {n : Nat} {xs : List Value} {o : Obj} (hb : Below w.heap.size w W) (h : W.ownsRow b e sz v n xs) (hn : w.heap.size ≤ b) (hg : (W.alloc o).grownBy W1 v.ownBlock) : Below w.heap.size w W1 := by
  have b1 := hb.alloc hb.size o
  refine below_grown b1 hg (by have := hb.size; simp; omega) fun j hj => ?_
  rcases Nat.lt_or_ge j b with hlt | hge
  · exact absurd hj.symm (row_far h hlt)
  · omega
theorem MV.app {w W W1 : World} {g : Nat → En} {aL aJ : Option Addr} {nL nJ cL cJ : Nat} {b : Nat} {e : TypeId} {sz : Nat} {v : Value} {n : Nat} {xs : List Value} {o : Obj} (h : MV w W g aL aJ nL nJ cL cJ) (hr : W.ownsRow b e sz v n xs) (hn : w.heap.size + 3 ≤ b) (hg : (W.alloc o).grownBy W1 v.ownBlock) : MV w W1 g aL aJ nL nJ cL cJ := by
  have hs := h.ze.lt
  exact ⟨⟨(grown_low hr hg (by omega) (by omega)).trans h.fs.ro, (grown_low hr hg (by omega) (by omega)).trans h.fs.bt, grown_bel h.fs.bel hr (by omega) hg⟩, (grown_low hr hg (by omega) (by omega)).trans h.ze⟩
set_option maxRecDepth 100000 in
set_option maxHeartbeats 4000000 in
theorem rMove_any (f : Nat → En) (aL aJ : Option Addr) (cL cJ : Nat) (L J : List Int) (sc bs : Int) (w : World) (lL : L.length < 1152921504606846976) (lJ : J.length < 1152921504606846976) (rL : RdI w aL L) (rJ : RdI w aJ J) :
    Calls Tryz.prog 40 #[.agg (rcs f), .agg #[.slice aL L.length cL, .slice aJ J.length cJ], .int .i64 sc, .int .i64 bs] w fun e w' => MoveA w w' f L J sc bs e ∧ Below w.heap.size w w' := by
  have hM0 := MV.new w f aL aJ L.length J.length cL cJ
  obtain ⟨i0, hi, hz0, hz1, hz2⟩ := infoSeat_parts
  go_enter Tryz.func40, Tryz.ntmps40
  go_upto_region 1 with (fail)
  rw [zero25]
  generalize ((w.alloc (.cells (rcs f) 45)).alloc (.cells #[.slice aL L.length cL, .slice aJ J.length cJ] 66)).alloc (.cells (rcs fun _ => zE) 45) = w1 at *
  refine wp_region_lit ?_
  refine ld25 hM0.fs.ro rfl _ rfl rfl ?_
  obtain ⟨cl, cj⟩ := hM0.fs.cells
  have hfi := rFits_any f aL aJ cL cJ L J w1 lL lJ (rL.later hM0.fs.bel) (rJ.later hM0.fs.bel)
  obtain ⟨cf, hc⟩ : ∃ cf, rcs f = cf := ⟨_, rfl⟩
  rw [hc] at hfi ⊢
  clear hc
  go_wp2_with fail
  refine hfi.mono ?_
  rintro r w2 ⟨rfl, hb2⟩
  have hM2 := hM0.later hb2
  clear hM0 hb2 hfi cl cj
  by_cases hft : ft f L J = 0
  · rw [hft]
    cases hek : eok sc with
    | false =>
      have HEK : Hid (eok sc = (decide (1 ≤ sc) && decide (sc ≤ 200))) := rfl
      by_cases h1 : sc < 1
      · go_wp2_with (refine st25 (g := fun _ => zE) hM2.ze rfl _ _ rfl rfl zero25' ?_)
        refine bodyPost_ret (results_ro4 (p := 8) (t := 9) (u := 10) (v := 11) rfl _ _ (w.heap.size + 2) (fun _ => zE) rfl (hM2.ze.row _)) rfl ?_
        exact ⟨MoveA.no (mvE_ep hft hek) (by decide), setRow_below (by omega) hM2.fs.bel _⟩
      · have h2 : 200 < sc := by
          have := HEK.out
          rw [hek] at this
          simp at this
          omega
        go_wp2_with (refine st25 (g := fun _ => zE) hM2.ze rfl _ _ rfl rfl zero25' ?_)
        refine bodyPost_ret (results_ro4 (p := 8) (t := 9) (u := 10) (v := 11) rfl _ _ (w.heap.size + 2) (fun _ => zE) rfl (hM2.ze.row _)) rfl ?_
        exact ⟨MoveA.no (mvE_ep hft hek) (by decide), setRow_below (by omega) hM2.fs.bel _⟩
    | true =>
      have s1 : ¬ sc < 1 := by simp [eok] at hek; omega
      have s2 : ¬ 200 < sc := by simp [eok] at hek; omega
      obtain ⟨cl, cj⟩ := hM2.fs.cells
      have HFR : Hid (fre f bs J.length = (decide (J.length = 0) || (decide (1 ≤ bs) && decide (bs ≤ 32768 - (J.length : Int)) && frA f bs J.length 64))) := rfl
      have hsub : IntKind.i64.wrap (32768 - (J.length : Int)) = 32768 - (J.length : Int) := i64_fit _ (by omega) (by omega)
      have HOK : Hid (FitOk f L J) := ft_ok hft
      by_cases hn0 : J.length = 0
      · have hfr : fre f bs J.length = true := by rw [HFR.out, hn0]; rfl
        have n2 : decide ((0 : Int) < (J.length : Int)) = false := decide_eq_false (by omega)
        have n3 : (0 < J.length) = False := propext ⟨fun h => by omega, False.elim⟩
        have HN0 : Hid (J.length = 0) := hn0
        clear hn0
        go_wp2_with fail
        go_loop [14] (fun i => i = .int .i64 0) (fun _ => 0)
        case atStart => rfl
        case round =>
          subst hrel
          have hfrg : True := trivial
          have HM : Hid (MV w w2 f aL aJ L.length J.length cL cJ) := hM2
          clear hM2 cl cj
          go_upto_region 15 with (fail)
          obtain ⟨cl, cj⟩ := HM.out.fs.cells
          have HROW : Hid (w2.ownsRow (w.heap.size + 3) 107 2 (.slice none 0 0) 0 (ps [])) := World.ownsRow_nil _ _ _ _
          clear hfrg
          go_wp2_with fail
          go_loopw [15, 81] (fun v i wx => ∃ (k : Nat) (vl : Value), k ≤ L.length ∧ i = .int .i64 (k : Int) ∧ vl = v ∧ MV w wx (evs f (L.take k)) aL aJ L.length J.length cL cJ ∧ wx.ownsRow (w.heap.size + 3) 107 2 vl (evl f (L.take k)).length (ps (evl f (L.take k)))) (fun _ i _ => L.length - (intOf i).toNat)
          case atStart => exact ⟨0, _, by omega, rfl, rfl, HM.out, HROW.out⟩
          case round =>
            obtain ⟨k, vl, hk, rfl, rfl, hev, hrw⟩ := hrel
            have HE : Hid (MV w wr (evs f (L.take k)) aL aJ L.length J.length cL cJ) := hev
            have HR : Hid (wr.ownsRow (w.heap.size + 3) 107 2 vl (evl f (L.take k)).length (ps (evl f (L.take k)))) := hrw
            clear hev hrw HROW HM
            by_cases hkN : k < L.length
            · have i1 : (0 : Int) ≤ (k : Int) := by omega
              have i2 : (k : Int) < (L.length : Int) := by omega
              obtain ⟨b, o, hal, hcell⟩ := (rL.later HE.out.fs.bel) k hkN
              have HT : Hid (L.take (k + 1) = L.take k ++ [L.getD k 0]) := take_getD hkN
              have hok := HOK.out.out k hkN
              have hlen : (evl f (L.take k)).length = k := by simp; omega
              have lL64 := HOK.out.lenL
              obtain ⟨x, hx⟩ : ∃ x, L.getD k 0 = x := ⟨_, rfl⟩
              rw [hx] at hcell HT hok
              obtain ⟨g, hg⟩ : ∃ g, evs f (L.take k) = g := ⟨_, rfl⟩
              obtain ⟨l, hl⟩ : ∃ l, evl f (L.take k) = l := ⟨_, rfl⟩
              rw [hg] at HE hok
              rw [hl] at hlen HR
              have HG : Hid (evs f (L.take k) = g) := hg
              have HL : Hid (evl f (L.take k) = l) := hl
              obtain ⟨j, hj, hj64⟩ := fnd_on hok
              have hfi2 := rFind_any g x wr
              rw [hj] at hfi2
              have HJ : Hid (fnd g x = (j : Int)) := hj
              clear hx hg hl hok hj
              subst hal
              obtain ⟨a1, cap1, rfl⟩ := owns_slice HR.out
              rw [hlen]
              have HLEN : Hid (l.length = k) := hlen
              clear hlen
              go_upto_region 18 with (fail)
              refine wp_region_lit ?_
              refine ld25 HE.out.fs.ro rfl _ rfl rfl ?_
              obtain ⟨cg, hcg⟩ : ∃ cg, rcs g = cg := ⟨_, rfl⟩
              rw [hcg] at hfi2 ⊢
              clear hcg
              go_wp2_with fail
              refine hfi2.mono ?_
              rintro r w3 ⟨rfl, hb3⟩
              have HE3 : Hid (MV w w3 g (some ⟨b, o, none⟩) aJ L.length J.length cL cJ) := HE.out.later hb3
              have hrow : w3.ownsRow (w.heap.size + 3) 107 2 (.slice a1 k cap1) k (ps l) := by have h := owns_later HR.out hb3; rw [HLEN.out] at h; exact h
              have hsz := HE3.out.ze.lt
              clear hfi2 hb3 HE HR
              go_upto_region 20 with (at_builtin; (refine wpList_append_own _ rfl _ _ 52 rfl (w.heap.size + 3) 107 i0 (.agg #[.int .i64 0, .int .i64 0]) 2 16 Tryz.underlying52 hi hz0 hz1 hz2 rfl (by decide) (.slice a1 k cap1) k (ps l) rfl (hrow.alloc _) ⟨w3.heap.size, 0, none⟩ 1 1 [.int .i64 x, .int .i64 (j : Int)] rfl rfl (cell_two_new _ _ _ _) (by simp [Value.oneCell']) (by unfold maxLen; omega) (by omega) (by simp; omega) ?_); intro v' w4 hown' hg4 _)
              have HE4 : Hid (MV w w4 g (some ⟨b, o, none⟩) aJ L.length J.length cL cJ) := HE3.out.app hrow (Nat.le_refl _) hg4
              have HR4 : Hid (w4.ownsRow (w.heap.size + 3) 107 2 v' (l ++ [(x, (j : Int))]).length (ps (l ++ [(x, (j : Int))]))) := by
                show w4.ownsRow _ _ _ _ _ _
                rw [List.length_append, ps_snoc, HLEN.out]
                exact hown'
              clear hown' hg4 hrow hsz HE3
              have j1 : (j : Int) < 64 := by omega
              obtain ⟨c0, c1, c2⟩ := HE4.out.fs.ro.cells j hj64
              have z0 := row_frozen HE4.out.fs.ro (j * 3)
              have z1 := row_frozen HE4.out.fs.ro (j * 3 + 1)
              have z2 := row_frozen HE4.out.fs.ro (j * 3 + 2)
              have HE5 : Hid (MV w (((w4.setCell ⟨w.heap.size, j * 3, none⟩ (.int .i64 0)).setCell ⟨w.heap.size, j * 3 + 1, none⟩ (.int .i64 0)).setCell ⟨w.heap.size, j * 3 + 2, none⟩ (.int .i64 0)) (upd g j ⟨0, 0, 0⟩) (some ⟨b, o, none⟩) aJ L.length J.length cL cJ) := HE4.out.set3 j hj64 0 0 0
              have HR5 : Hid ((((w4.setCell ⟨w.heap.size, j * 3, none⟩ (.int .i64 0)).setCell ⟨w.heap.size, j * 3 + 1, none⟩ (.int .i64 0)).setCell ⟨w.heap.size, j * 3 + 2, none⟩ (.int .i64 0)).ownsRow (w.heap.size + 3) 107 2 v' (l ++ [(x, (j : Int))]).length (ps (l ++ [(x, (j : Int))]))) := owns_block HR4.out fun m hm _ => set3_other (by omega) _ _ _ _ _ _
              go_wp2_with fail
              go_roundw
              case rel =>
                have e1 : evs f (L.take (k + 1)) = upd g j ⟨0, 0, 0⟩ := by rw [HT.out, evs_snoc, HG.out, ev1_on HJ.out]; rfl
                have e2 : evl f (L.take (k + 1)) = l ++ [(x, (j : Int))] := by rw [HT.out, evl_snoc, HG.out, HL.out, HJ.out]
                refine ⟨k + 1, _, by omega, by go_num, rfl, ?_, ?_⟩
                · rw [e1]; exact HE5.out
                · rw [e2]; exact HR5.out
              case measure => simp [intOf]; omega
            · obtain rfl : k = L.length := by omega
              have hdk : decide ((L.length : Int) < (L.length : Int)) = false := by simp
              have HE1 : Hid (MV w wr (evs f L) aL aJ L.length J.length cL cJ) := by have h := HE.out; rw [List.take_length] at h; exact h
              have HR1 : Hid (wr.ownsRow (w.heap.size + 3) 107 2 vl L.length (ps (evl f L))) := by have h := HR.out; rw [List.take_length, evl_length] at h; exact h
              obtain ⟨cl, cj⟩ := HE1.out.fs.cells
              clear HE HR
              go_upto_region 22 with (fail)
              obtain ⟨w5, hw5⟩ : ∃ w5, wr = w5 := ⟨_, rfl⟩
              rw [hw5] at HE1 HR1 cl cj ⊢
              clear hw5
              have HAP : Hid (∀ m, vl.ownBlock = some m → m < w5.heap.size) := fun m hm => by
                rcases HR1.out.2 with ⟨h0, _⟩ | ⟨g, cap, cur, h0, h3, h4, _⟩
                · rw [h0] at hm; simp [Value.ownBlock] at hm
                · rw [h0] at hm
                  simp [Value.ownBlock] at hm
                  subst hm
                  exact (Array.getElem?_eq_some_iff.1 h4).1
              have HTL : Hid ((mvT f L J).length = J.length) := HOK.out.lenT
              have HBS : Hid (J ≠ [] → 1 ≤ bs ∧ bs + (J.length : Int) ≤ 32768) := fre_bs hfr
              obtain ⟨e0, he0⟩ : ∃ e0, evs f L = e0 := ⟨_, rfl⟩
              rw [he0] at HE1
              have HE0 : Hid (evs f L = e0) := he0
              clear he0
              have hs5 := HE1.out.ze.lt
              have HJ0 : Hid (w5.ownsRow w5.heap.size 107 2 (.slice none 0 0) 0 (ps [])) := World.ownsRow_nil _ _ _ _
              go_wp2_with fail
              go_loopw [16, 101] (fun v i wx => ∃ (k : Nat) (vj : Value), k ≤ J.length ∧ i = .int .i64 (k : Int) ∧ vj = v ∧ MV w wx (adm e0 (mvT f L J) J sc bs k) aL aJ L.length J.length cL cJ ∧ wx.ownsRow w5.heap.size 107 2 vj (adl (mvT f L J) J k).length (ps (adl (mvT f L J) J k)) ∧ wx.ownsRow (w.heap.size + 3) 107 2 vl L.length (ps (evl f L)) ∧ w5.heap.size ≤ wx.heap.size) (fun _ i _ => J.length - (intOf i).toNat)
              case atStart => exact ⟨0, _, by omega, rfl, rfl, HE1.out, HJ0.out, HR1.out, Nat.le_refl _⟩
              case round =>
                obtain ⟨k, vj, hk, rfl, rfl, hev, hrw, hrl, hsw⟩ := hrel
                have HS : Hid (w5.heap.size ≤ wr.heap.size) := hsw
                have HE : Hid (MV w wr (adm e0 (mvT f L J) J sc bs k) aL aJ L.length J.length cL cJ) := hev
                have HR : Hid (wr.ownsRow w5.heap.size 107 2 vj (adl (mvT f L J) J k).length (ps (adl (mvT f L J) J k))) := hrw
                have HRL : Hid (wr.ownsRow (w.heap.size + 3) 107 2 vl L.length (ps (evl f L))) := hrl
                clear hev hrw hrl hsw HE1 HR1 HJ0
                by_cases hkN : k < J.length
                · have i1 : (0 : Int) ≤ (k : Int) := by omega
                  have i2 : (k : Int) < (J.length : Int) := by omega
                  have lJ64 := HOK.out.lenJ
                  obtain ⟨b1, b2⟩ := HBS.out (fun e => by rw [e] at hkN; simp at hkN)
                  obtain ⟨b, o, hal, hcell⟩ := (rJ.later HE.out.fs.bel) k hkN
                  have hsl := HOK.out.slots (sc := sc) b1 hkN
                  rw [HE0.out] at hsl
                  have HA : Hid (adm e0 (mvT f L J) J sc bs (k + 1) = upd (adm e0 (mvT f L J) J sc bs k) ((mvT f L J).getD k 0) ⟨J.getD k 0, bs + (k : Int), sc⟩) := rfl
                  have HL : Hid (adl (mvT f L J) J (k + 1) = adl (mvT f L J) J k ++ [(J.getD k 0, (((mvT f L J).getD k 0 : Nat) : Int))]) := rfl
                  have hlen : (adl (mvT f L J) J k).length = k := adl_length _ _ _
                  have hsum : IntKind.i64.wrap (bs + (k : Int)) = bs + (k : Int) := i64_fit _ (by omega) (by omega)
                  have hj64 := hsl.lt
                  have hfree := hsl.free
                  have hlow := hsl.low
                  obtain ⟨x, hx⟩ : ∃ x, J.getD k 0 = x := ⟨_, rfl⟩
                  rw [hx] at hcell HA HL
                  obtain ⟨j, hj⟩ : ∃ j, (mvT f L J).getD k 0 = j := ⟨_, rfl⟩
                  rw [hj] at hj64 HA HL hfree hlow
                  clear hx hj b1 b2 hsl
                  obtain ⟨g, hg⟩ : ∃ g, adm e0 (mvT f L J) J sc bs k = g := ⟨_, rfl⟩
                  rw [hg] at HE HA hfree hlow
                  clear hg
                  obtain ⟨l, hl⟩ : ∃ l, adl (mvT f L J) J k = l := ⟨_, rfl⟩
                  rw [hl] at HR HL hlen
                  clear hl
                  subst hal
                  obtain ⟨a1, cap1, rfl⟩ := owns_slice HR.out
                  rw [hlen]
                  have HLEN : Hid (l.length = k) := hlen
                  clear hlen
                  have HFR : Hid (tkn (g j) = false) := hfree
                  have HLO : Hid (∀ i, i < j → tkn (g i) = true) := hlow
                  clear hfree hlow
                  go_wp2_with fail
                  go_loop [22] (fun i => ∃ m : Nat, m ≤ j ∧ i = .int .i64 (m : Int)) (fun i => j - (intOf i).toNat)
                  case atStart => exact ⟨0, by omega, rfl⟩
                  case round =>
                    obtain ⟨m, hm, rfl⟩ := hrel
                    have m8 : (m : Int) < 64 := by omega
                    obtain ⟨c0, c1, c2⟩ := HE.out.fs.ro.cells m (by omega)
                    by_cases hmj : m < j
                    · have ht := HLO.out m hmj
                      have q1 : ((g m).bas != 0) = true := by simp [tkn_pos ht]
                      generalize g m = em at *
                      clear ht
                      go_wp2_with fail
                      go_round
                      case rel => exact ⟨m + 1, by omega, by go_num⟩
                      case measure => simp [intOf]; omega
                    · obtain rfl : m = j := by omega
                      have ht := HFR.out
                      have q1 : ((g m).bas != 0) = false := by simp [tkn_neg ht]
                      obtain ⟨em, hem⟩ : ∃ em, g m = em := ⟨_, rfl⟩
                      rw [hem] at c0 c1 c2 q1
                      clear ht hem
                      have z0 := row_frozen HE.out.fs.ro (m * 3)
                      have z1 := row_frozen HE.out.fs.ro (m * 3 + 1)
                      have z2 := row_frozen HE.out.fs.ro (m * 3 + 2)
                      have HE5 : Hid (MV w (((wr.setCell ⟨w.heap.size, m * 3, none⟩ (.int .i64 x)).setCell ⟨w.heap.size, m * 3 + 1, none⟩ (.int .i64 (bs + (k : Int)))).setCell ⟨w.heap.size, m * 3 + 2, none⟩ (.int .i64 sc)) (upd g m ⟨x, bs + (k : Int), sc⟩) aL (some ⟨b, o, none⟩) L.length J.length cL cJ) := HE.out.set3 m hj64 x (bs + (k : Int)) sc
                      have HR5 : Hid ((((wr.setCell ⟨w.heap.size, m * 3, none⟩ (.int .i64 x)).setCell ⟨w.heap.size, m * 3 + 1, none⟩ (.int .i64 (bs + (k : Int)))).setCell ⟨w.heap.size, m * 3 + 2, none⟩ (.int .i64 sc)).ownsRow w5.heap.size 107 2 (.slice a1 k cap1) k (ps l)) := by
                        have h := HR.out
                        rw [HLEN.out] at h
                        exact owns_block h fun q hq _ => set3_other (by omega) _ _ _ _ _ _
                      have HL5 : Hid ((((wr.setCell ⟨w.heap.size, m * 3, none⟩ (.int .i64 x)).setCell ⟨w.heap.size, m * 3 + 1, none⟩ (.int .i64 (bs + (k : Int)))).setCell ⟨w.heap.size, m * 3 + 2, none⟩ (.int .i64 sc)).ownsRow (w.heap.size + 3) 107 2 vl L.length (ps (evl f L))) := owns_block HRL.out fun q hq _ => set3_other (by omega) _ _ _ _ _ _
                      have HS6 : Hid (w5.heap.size ≤ (((wr.setCell ⟨w.heap.size, m * 3, none⟩ (.int .i64 x)).setCell ⟨w.heap.size, m * 3 + 1, none⟩ (.int .i64 (bs + (k : Int)))).setCell ⟨w.heap.size, m * 3 + 2, none⟩ (.int .i64 sc)).heap.size) := Nat.le_trans HS.out (set3_below (Below.refl 0 wr) (Nat.zero_le _) _ _ _ _ _ _).size
                      go_upto_region 29 with (fail)
                      generalize ((wr.setCell ⟨w.heap.size, m * 3, none⟩ (.int .i64 x)).setCell ⟨w.heap.size, m * 3 + 1, none⟩ (.int .i64 (bs + (k : Int)))).setCell ⟨w.heap.size, m * 3 + 2, none⟩ (.int .i64 sc) = w6 at *
                      have hrow := HR5.out
                      have hsz := HE5.out.ze.lt
                      have hsz6 : w5.heap.size ≤ w6.heap.size := HS6.out
                      go_upto_region 30 with (at_builtin; (refine wpList_append_own _ rfl _ _ 52 rfl w5.heap.size 107 i0 (.agg #[.int .i64 0, .int .i64 0]) 2 16 Tryz.underlying52 hi hz0 hz1 hz2 rfl (by decide) (.slice a1 k cap1) k (ps l) rfl (hrow.alloc _) ⟨w6.heap.size, 0, none⟩ 1 1 [.int .i64 x, .int .i64 (m : Int)] rfl rfl (cell_two_new _ _ _ _) (by simp [Value.oneCell']) (by unfold maxLen; omega) (by omega) (by simp; omega) ?_); intro v' w7 hown' hg7 _)
                      have HE7 : Hid (MV w w7 (upd g m ⟨x, bs + (k : Int), sc⟩) aL (some ⟨b, o, none⟩) L.length J.length cL cJ) := HE5.out.app hrow (by omega) hg7
                      have HR7 : Hid (w7.ownsRow w5.heap.size 107 2 v' (l ++ [(x, (m : Int))]).length (ps (l ++ [(x, (m : Int))]))) := by
                        show w7.ownsRow _ _ _ _ _ _
                        rw [List.length_append, ps_snoc, HLEN.out]
                        exact hown'
                      have HL7 : Hid (w7.ownsRow (w.heap.size + 3) 107 2 vl L.length (ps (evl f L))) := (HL5.out.alloc _).kept hg7 (by
                        cases hv : vl.ownBlock with
                        | none => exact .inl rfl
                        | some q => exact .inr (row_far hrow (HAP.out q hv)))
                      have HS7 : Hid (w5.heap.size ≤ w7.heap.size) := Nat.le_trans hsz6 (Nat.le_trans (by simp) hg7.size)
                      clear hown' hg7 hrow hsz hsz6 HE5 HR5 HL5 HS6
                      go_wp2_with fail
                      go_roundw
                      case rel =>
                        refine ⟨k + 1, _, by omega, by go_num, rfl, ?_, ?_, HL7.out, HS7.out⟩
                        · rw [HA.out]; exact HE7.out
                        · rw [HL.out]; exact HR7.out
                      case measure => simp [intOf]; omega
                · obtain rfl : k = J.length := by omega
                  have hdk2 : decide ((J.length : Int) < (J.length : Int)) = false := by simp
                  have HEE : Hid (mvE f L J sc bs = 0) := mvE_of HOK.out hek hfr
                  have HMR : Hid (mvR f L J sc bs = adm e0 (mvT f L J) J sc bs J.length) := by show mvR f L J sc bs = _; unfold mvR; rw [HEE.out, if_pos rfl, HE0.out]
                  have HML : Hid (mvL f L J sc bs = evl f L) := by show mvL f L J sc bs = _; unfold mvL; rw [HEE.out, if_pos rfl]
                  have HMJ : Hid (mvJ f L J sc bs = adl (mvT f L J) J J.length) := by show mvJ f L J sc bs = _; unfold mvJ; rw [HEE.out, if_pos rfl]
                  clear HBS
                  go_upto_region 31 with (fail)
                  refine wp_region_lit ?_
                  refine ld25 HE.out.fs.ro rfl _ rfl rfl ?_
                  go_wp2_with (refine st25 HE.out.ze rfl _ _ rfl rfl rfl ?_)
                  refine bodyPost_ret (results_ro4 (p := 8) (t := 9) (u := 10) (v := 11) rfl _ _ (w.heap.size + 2) _ rfl (HE.out.ze.row _)) rfl ?_
                  refine ⟨⟨vl, vj, ?_, ?_, ?_, ?_⟩, setRow_below (by omega) HE.out.fs.bel _⟩
                  · rw [HMR.out, HEE.out]; rfl
                  · rw [HML.out, evl_length]
                    exact owns_wide (owns_type HRL.out HE.out.ze (by decide) _) (by omega)
                  · rw [HMJ.out]
                    exact owns_wide (owns_type HR.out HE.out.ze (by decide) _) (by omega)
                  · cases hv : vl.ownBlock with
                    | none => exact .inl rfl
                    | some q => exact .inr (row_far HR.out (HAP.out q hv))
      · have n1 : (0 : Int) < (J.length : Int) := by omega
        have HD : Hid (decide (J.length = 0) = false) := decide_eq_false hn0
        by_cases h1 : bs < 1
        · have HD1 : Hid (decide (1 ≤ bs) = false) := decide_eq_false (by omega)
          go_wp2_with (refine st25 (g := fun _ => zE) hM2.ze rfl _ _ rfl rfl zero25' ?_)
          refine bodyPost_ret (results_ro4 (p := 8) (t := 9) (u := 10) (v := 11) rfl _ _ (w.heap.size + 2) (fun _ => zE) rfl (hM2.ze.row _)) rfl ?_
          exact ⟨MoveA.no (mvE_key hft hek (by rw [HFR.out, HD.out, HD1.out]; rfl)) (by decide), setRow_below (by omega) hM2.fs.bel _⟩
        · have HD1 : Hid (decide (1 ≤ bs) = true) := decide_eq_true (by omega)
          by_cases h2 : 32768 - (J.length : Int) < bs
          · have HD2 : Hid (decide (bs ≤ 32768 - (J.length : Int)) = false) := decide_eq_false (by omega)
            go_wp2_with (refine st25 (g := fun _ => zE) hM2.ze rfl _ _ rfl rfl zero25' ?_)
            refine bodyPost_ret (results_ro4 (p := 8) (t := 9) (u := 10) (v := 11) rfl _ _ (w.heap.size + 2) (fun _ => zE) rfl (hM2.ze.row _)) rfl ?_
            exact ⟨MoveA.no (mvE_key hft hek (by rw [HFR.out, HD.out, HD1.out, HD2.out]; rfl)) (by decide), setRow_below (by omega) hM2.fs.bel _⟩
          · have HD2 : Hid (decide (bs ≤ 32768 - (J.length : Int)) = true) := decide_eq_true (by omega)
            have hsum : IntKind.i64.wrap (bs + (J.length : Int)) = bs + (J.length : Int) := i64_fit _ (by omega) (by omega)
            go_wp2_with fail
            go_loop [14] (fun i => ∃ k : Nat, k ≤ 64 ∧ i = .int .i64 (k : Int) ∧ frA f bs J.length k = true) (fun i => 64 - (intOf i).toNat)
            case atStart => exact ⟨0, by omega, rfl, rfl⟩
            case round =>
              obtain ⟨k, hk, rfl, hf⟩ := hrel
              have HF : Hid (frA f bs J.length k = true) := hf
              clear hf
              by_cases hk8 : k < 64
              · have k8 : (k : Int) < 64 := by omega
                obtain ⟨c0, c1, c2⟩ := hM2.fs.ro.cells k hk8
                have HS : Hid (frA f bs J.length (k + 1) = (frA f bs J.length k && !(decide (bs ≤ (f k).bas) && decide ((f k).bas < bs + (J.length : Int))))) := rfl
                have HBAD : Hid ((decide (bs ≤ (f k).bas) && decide ((f k).bas < bs + (J.length : Int))) = true → frA f bs J.length 64 = false) := frA_bad hk8
                obtain ⟨e, he⟩ : ∃ e, f k = e := ⟨_, rfl⟩
                rw [he] at c0 c1 c2 HS HBAD
                clear he
                by_cases g1 : bs ≤ e.bas
                · by_cases g2 : e.bas < bs + (J.length : Int)
                  · go_wp2_with (refine st25 (g := fun _ => zE) hM2.ze rfl _ _ rfl rfl zero25' ?_)
                    refine bodyPost_ret (results_ro4 (p := 8) (t := 9) (u := 10) (v := 11) rfl _ _ (w.heap.size + 2) (fun _ => zE) rfl (hM2.ze.row _)) rfl ?_
                    exact ⟨MoveA.no (mvE_key hft hek (by rw [HFR.out, HD.out, HD1.out, HD2.out, HBAD.out (by simp [g1, g2])]; rfl)) (by decide), setRow_below (by omega) hM2.fs.bel _⟩
                  · go_wp2_with fail
                    go_round
                    case rel => exact ⟨k + 1, by omega, by go_num, by rw [HS.out, HF.out]; simp; omega⟩
                    case measure => simp [intOf]; omega
                · go_wp2_with fail
                  go_round
                  case rel => exact ⟨k + 1, by omega, by go_num, by rw [HS.out, HF.out]; simp; omega⟩
                  case measure => simp [intOf]; omega
              · obtain rfl : k = 64 := by omega
                have hfr : fre f bs J.length = true := by rw [HFR.out, HD.out, HD1.out, HD2.out, HF.out]; rfl
                have hfrg := HF.out
                have HM : Hid (MV w w2 f aL aJ L.length J.length cL cJ) := hM2
                clear hM2 cl cj
                go_upto_region 15 with (fail)
                obtain ⟨cl, cj⟩ := HM.out.fs.cells
                have HROW : Hid (w2.ownsRow (w.heap.size + 3) 107 2 (.slice none 0 0) 0 (ps [])) := World.ownsRow_nil _ _ _ _
                clear hfrg
                go_wp2_with fail
                go_loopw [15, 81] (fun v i wx => ∃ (k : Nat) (vl : Value), k ≤ L.length ∧ i = .int .i64 (k : Int) ∧ vl = v ∧ MV w wx (evs f (L.take k)) aL aJ L.length J.length cL cJ ∧ wx.ownsRow (w.heap.size + 3) 107 2 vl (evl f (L.take k)).length (ps (evl f (L.take k)))) (fun _ i _ => L.length - (intOf i).toNat)
                case atStart => exact ⟨0, _, by omega, rfl, rfl, HM.out, HROW.out⟩
                case round =>
                  obtain ⟨k, vl, hk, rfl, rfl, hev, hrw⟩ := hrel
                  have HE : Hid (MV w wr (evs f (L.take k)) aL aJ L.length J.length cL cJ) := hev
                  have HR : Hid (wr.ownsRow (w.heap.size + 3) 107 2 vl (evl f (L.take k)).length (ps (evl f (L.take k)))) := hrw
                  clear hev hrw HROW HM
                  by_cases hkN : k < L.length
                  · have i1 : (0 : Int) ≤ (k : Int) := by omega
                    have i2 : (k : Int) < (L.length : Int) := by omega
                    obtain ⟨b, o, hal, hcell⟩ := (rL.later HE.out.fs.bel) k hkN
                    have HT : Hid (L.take (k + 1) = L.take k ++ [L.getD k 0]) := take_getD hkN
                    have hok := HOK.out.out k hkN
                    have hlen : (evl f (L.take k)).length = k := by simp; omega
                    have lL64 := HOK.out.lenL
                    obtain ⟨x, hx⟩ : ∃ x, L.getD k 0 = x := ⟨_, rfl⟩
                    rw [hx] at hcell HT hok
                    obtain ⟨g, hg⟩ : ∃ g, evs f (L.take k) = g := ⟨_, rfl⟩
                    obtain ⟨l, hl⟩ : ∃ l, evl f (L.take k) = l := ⟨_, rfl⟩
                    rw [hg] at HE hok
                    rw [hl] at hlen HR
                    have HG : Hid (evs f (L.take k) = g) := hg
                    have HL : Hid (evl f (L.take k) = l) := hl
                    obtain ⟨j, hj, hj64⟩ := fnd_on hok
                    have hfi2 := rFind_any g x wr
                    rw [hj] at hfi2
                    have HJ : Hid (fnd g x = (j : Int)) := hj
                    clear hx hg hl hok hj
                    subst hal
                    obtain ⟨a1, cap1, rfl⟩ := owns_slice HR.out
                    rw [hlen]
                    have HLEN : Hid (l.length = k) := hlen
                    clear hlen
                    go_upto_region 18 with (fail)
                    refine wp_region_lit ?_
                    refine ld25 HE.out.fs.ro rfl _ rfl rfl ?_
                    obtain ⟨cg, hcg⟩ : ∃ cg, rcs g = cg := ⟨_, rfl⟩
                    rw [hcg] at hfi2 ⊢
                    clear hcg
                    go_wp2_with fail
                    refine hfi2.mono ?_
                    rintro r w3 ⟨rfl, hb3⟩
                    have HE3 : Hid (MV w w3 g (some ⟨b, o, none⟩) aJ L.length J.length cL cJ) := HE.out.later hb3
                    have hrow : w3.ownsRow (w.heap.size + 3) 107 2 (.slice a1 k cap1) k (ps l) := by have h := owns_later HR.out hb3; rw [HLEN.out] at h; exact h
                    have hsz := HE3.out.ze.lt
                    clear hfi2 hb3 HE HR
                    go_upto_region 20 with (at_builtin; (refine wpList_append_own _ rfl _ _ 52 rfl (w.heap.size + 3) 107 i0 (.agg #[.int .i64 0, .int .i64 0]) 2 16 Tryz.underlying52 hi hz0 hz1 hz2 rfl (by decide) (.slice a1 k cap1) k (ps l) rfl (hrow.alloc _) ⟨w3.heap.size, 0, none⟩ 1 1 [.int .i64 x, .int .i64 (j : Int)] rfl rfl (cell_two_new _ _ _ _) (by simp [Value.oneCell']) (by unfold maxLen; omega) (by omega) (by simp; omega) ?_); intro v' w4 hown' hg4 _)
                    have HE4 : Hid (MV w w4 g (some ⟨b, o, none⟩) aJ L.length J.length cL cJ) := HE3.out.app hrow (Nat.le_refl _) hg4
                    have HR4 : Hid (w4.ownsRow (w.heap.size + 3) 107 2 v' (l ++ [(x, (j : Int))]).length (ps (l ++ [(x, (j : Int))]))) := by
                      show w4.ownsRow _ _ _ _ _ _
                      rw [List.length_append, ps_snoc, HLEN.out]
                      exact hown'
                    clear hown' hg4 hrow hsz HE3
                    have j1 : (j : Int) < 64 := by omega
                    obtain ⟨c0, c1, c2⟩ := HE4.out.fs.ro.cells j hj64
                    have z0 := row_frozen HE4.out.fs.ro (j * 3)
                    have z1 := row_frozen HE4.out.fs.ro (j * 3 + 1)
                    have z2 := row_frozen HE4.out.fs.ro (j * 3 + 2)
                    have HE5 : Hid (MV w (((w4.setCell ⟨w.heap.size, j * 3, none⟩ (.int .i64 0)).setCell ⟨w.heap.size, j * 3 + 1, none⟩ (.int .i64 0)).setCell ⟨w.heap.size, j * 3 + 2, none⟩ (.int .i64 0)) (upd g j ⟨0, 0, 0⟩) (some ⟨b, o, none⟩) aJ L.length J.length cL cJ) := HE4.out.set3 j hj64 0 0 0
                    have HR5 : Hid ((((w4.setCell ⟨w.heap.size, j * 3, none⟩ (.int .i64 0)).setCell ⟨w.heap.size, j * 3 + 1, none⟩ (.int .i64 0)).setCell ⟨w.heap.size, j * 3 + 2, none⟩ (.int .i64 0)).ownsRow (w.heap.size + 3) 107 2 v' (l ++ [(x, (j : Int))]).length (ps (l ++ [(x, (j : Int))]))) := owns_block HR4.out fun m hm _ => set3_other (by omega) _ _ _ _ _ _
                    go_wp2_with fail
                    go_roundw
                    case rel =>
                      have e1 : evs f (L.take (k + 1)) = upd g j ⟨0, 0, 0⟩ := by rw [HT.out, evs_snoc, HG.out, ev1_on HJ.out]; rfl
                      have e2 : evl f (L.take (k + 1)) = l ++ [(x, (j : Int))] := by rw [HT.out, evl_snoc, HG.out, HL.out, HJ.out]
                      refine ⟨k + 1, _, by omega, by go_num, rfl, ?_, ?_⟩
                      · rw [e1]; exact HE5.out
                      · rw [e2]; exact HR5.out
                    case measure => simp [intOf]; omega
                  · obtain rfl : k = L.length := by omega
                    have hdk : decide ((L.length : Int) < (L.length : Int)) = false := by simp
                    have HE1 : Hid (MV w wr (evs f L) aL aJ L.length J.length cL cJ) := by have h := HE.out; rw [List.take_length] at h; exact h
                    have HR1 : Hid (wr.ownsRow (w.heap.size + 3) 107 2 vl L.length (ps (evl f L))) := by have h := HR.out; rw [List.take_length, evl_length] at h; exact h
                    obtain ⟨cl, cj⟩ := HE1.out.fs.cells
                    clear HE HR
                    go_upto_region 22 with (fail)
                    obtain ⟨w5, hw5⟩ : ∃ w5, wr = w5 := ⟨_, rfl⟩
                    rw [hw5] at HE1 HR1 cl cj ⊢
                    clear hw5
                    have HAP : Hid (∀ m, vl.ownBlock = some m → m < w5.heap.size) := fun m hm => by
                      rcases HR1.out.2 with ⟨h0, _⟩ | ⟨g, cap, cur, h0, h3, h4, _⟩
                      · rw [h0] at hm; simp [Value.ownBlock] at hm
                      · rw [h0] at hm
                        simp [Value.ownBlock] at hm
                        subst hm
                        exact (Array.getElem?_eq_some_iff.1 h4).1
                    have HTL : Hid ((mvT f L J).length = J.length) := HOK.out.lenT
                    have HBS : Hid (J ≠ [] → 1 ≤ bs ∧ bs + (J.length : Int) ≤ 32768) := fre_bs hfr
                    obtain ⟨e0, he0⟩ : ∃ e0, evs f L = e0 := ⟨_, rfl⟩
                    rw [he0] at HE1
                    have HE0 : Hid (evs f L = e0) := he0
                    clear he0
                    have hs5 := HE1.out.ze.lt
                    have HJ0 : Hid (w5.ownsRow w5.heap.size 107 2 (.slice none 0 0) 0 (ps [])) := World.ownsRow_nil _ _ _ _
                    go_wp2_with fail
                    go_loopw [16, 101] (fun v i wx => ∃ (k : Nat) (vj : Value), k ≤ J.length ∧ i = .int .i64 (k : Int) ∧ vj = v ∧ MV w wx (adm e0 (mvT f L J) J sc bs k) aL aJ L.length J.length cL cJ ∧ wx.ownsRow w5.heap.size 107 2 vj (adl (mvT f L J) J k).length (ps (adl (mvT f L J) J k)) ∧ wx.ownsRow (w.heap.size + 3) 107 2 vl L.length (ps (evl f L)) ∧ w5.heap.size ≤ wx.heap.size) (fun _ i _ => J.length - (intOf i).toNat)
                    case atStart => exact ⟨0, _, by omega, rfl, rfl, HE1.out, HJ0.out, HR1.out, Nat.le_refl _⟩
                    case round =>
                      obtain ⟨k, vj, hk, rfl, rfl, hev, hrw, hrl, hsw⟩ := hrel
                      have HS : Hid (w5.heap.size ≤ wr.heap.size) := hsw
                      have HE : Hid (MV w wr (adm e0 (mvT f L J) J sc bs k) aL aJ L.length J.length cL cJ) := hev
                      have HR : Hid (wr.ownsRow w5.heap.size 107 2 vj (adl (mvT f L J) J k).length (ps (adl (mvT f L J) J k))) := hrw
                      have HRL : Hid (wr.ownsRow (w.heap.size + 3) 107 2 vl L.length (ps (evl f L))) := hrl
                      clear hev hrw hrl hsw HE1 HR1 HJ0
                      by_cases hkN : k < J.length
                      · have i1 : (0 : Int) ≤ (k : Int) := by omega
                        have i2 : (k : Int) < (J.length : Int) := by omega
                        have lJ64 := HOK.out.lenJ
                        obtain ⟨b1, b2⟩ := HBS.out (fun e => by rw [e] at hkN; simp at hkN)
                        obtain ⟨b, o, hal, hcell⟩ := (rJ.later HE.out.fs.bel) k hkN
                        have hsl := HOK.out.slots (sc := sc) b1 hkN
                        rw [HE0.out] at hsl
                        have HA : Hid (adm e0 (mvT f L J) J sc bs (k + 1) = upd (adm e0 (mvT f L J) J sc bs k) ((mvT f L J).getD k 0) ⟨J.getD k 0, bs + (k : Int), sc⟩) := rfl
                        have HL : Hid (adl (mvT f L J) J (k + 1) = adl (mvT f L J) J k ++ [(J.getD k 0, (((mvT f L J).getD k 0 : Nat) : Int))]) := rfl
                        have hlen : (adl (mvT f L J) J k).length = k := adl_length _ _ _
                        have hsum : IntKind.i64.wrap (bs + (k : Int)) = bs + (k : Int) := i64_fit _ (by omega) (by omega)
                        have hj64 := hsl.lt
                        have hfree := hsl.free
                        have hlow := hsl.low
                        obtain ⟨x, hx⟩ : ∃ x, J.getD k 0 = x := ⟨_, rfl⟩
                        rw [hx] at hcell HA HL
                        obtain ⟨j, hj⟩ : ∃ j, (mvT f L J).getD k 0 = j := ⟨_, rfl⟩
                        rw [hj] at hj64 HA HL hfree hlow
                        clear hx hj b1 b2 hsl
                        obtain ⟨g, hg⟩ : ∃ g, adm e0 (mvT f L J) J sc bs k = g := ⟨_, rfl⟩
                        rw [hg] at HE HA hfree hlow
                        clear hg
                        obtain ⟨l, hl⟩ : ∃ l, adl (mvT f L J) J k = l := ⟨_, rfl⟩
                        rw [hl] at HR HL hlen
                        clear hl
                        subst hal
                        obtain ⟨a1, cap1, rfl⟩ := owns_slice HR.out
                        rw [hlen]
                        have HLEN : Hid (l.length = k) := hlen
                        clear hlen
                        have HFR : Hid (tkn (g j) = false) := hfree
                        have HLO : Hid (∀ i, i < j → tkn (g i) = true) := hlow
                        clear hfree hlow
                        go_wp2_with fail
                        go_loop [22] (fun i => ∃ m : Nat, m ≤ j ∧ i = .int .i64 (m : Int)) (fun i => j - (intOf i).toNat)
                        case atStart => exact ⟨0, by omega, rfl⟩
                        case round =>
                          obtain ⟨m, hm, rfl⟩ := hrel
                          have m8 : (m : Int) < 64 := by omega
                          obtain ⟨c0, c1, c2⟩ := HE.out.fs.ro.cells m (by omega)
                          by_cases hmj : m < j
                          · have ht := HLO.out m hmj
                            have q1 : ((g m).bas != 0) = true := by simp [tkn_pos ht]
                            generalize g m = em at *
                            clear ht
                            go_wp2_with fail
                            go_round
                            case rel => exact ⟨m + 1, by omega, by go_num⟩
                            case measure => simp [intOf]; omega
                          · obtain rfl : m = j := by omega
                            have ht := HFR.out
                            have q1 : ((g m).bas != 0) = false := by simp [tkn_neg ht]
                            obtain ⟨em, hem⟩ : ∃ em, g m = em := ⟨_, rfl⟩
                            rw [hem] at c0 c1 c2 q1
                            clear ht hem
                            have z0 := row_frozen HE.out.fs.ro (m * 3)
                            have z1 := row_frozen HE.out.fs.ro (m * 3 + 1)
                            have z2 := row_frozen HE.out.fs.ro (m * 3 + 2)
                            have HE5 : Hid (MV w (((wr.setCell ⟨w.heap.size, m * 3, none⟩ (.int .i64 x)).setCell ⟨w.heap.size, m * 3 + 1, none⟩ (.int .i64 (bs + (k : Int)))).setCell ⟨w.heap.size, m * 3 + 2, none⟩ (.int .i64 sc)) (upd g m ⟨x, bs + (k : Int), sc⟩) aL (some ⟨b, o, none⟩) L.length J.length cL cJ) := HE.out.set3 m hj64 x (bs + (k : Int)) sc
                            have HR5 : Hid ((((wr.setCell ⟨w.heap.size, m * 3, none⟩ (.int .i64 x)).setCell ⟨w.heap.size, m * 3 + 1, none⟩ (.int .i64 (bs + (k : Int)))).setCell ⟨w.heap.size, m * 3 + 2, none⟩ (.int .i64 sc)).ownsRow w5.heap.size 107 2 (.slice a1 k cap1) k (ps l)) := by
                              have h := HR.out
                              rw [HLEN.out] at h
                              exact owns_block h fun q hq _ => set3_other (by omega) _ _ _ _ _ _
                            have HL5 : Hid ((((wr.setCell ⟨w.heap.size, m * 3, none⟩ (.int .i64 x)).setCell ⟨w.heap.size, m * 3 + 1, none⟩ (.int .i64 (bs + (k : Int)))).setCell ⟨w.heap.size, m * 3 + 2, none⟩ (.int .i64 sc)).ownsRow (w.heap.size + 3) 107 2 vl L.length (ps (evl f L))) := owns_block HRL.out fun q hq _ => set3_other (by omega) _ _ _ _ _ _
                            have HS6 : Hid (w5.heap.size ≤ (((wr.setCell ⟨w.heap.size, m * 3, none⟩ (.int .i64 x)).setCell ⟨w.heap.size, m * 3 + 1, none⟩ (.int .i64 (bs + (k : Int)))).setCell ⟨w.heap.size, m * 3 + 2, none⟩ (.int .i64 sc)).heap.size) := Nat.le_trans HS.out (set3_below (Below.refl 0 wr) (Nat.zero_le _) _ _ _ _ _ _).size
                            go_upto_region 29 with (fail)
                            generalize ((wr.setCell ⟨w.heap.size, m * 3, none⟩ (.int .i64 x)).setCell ⟨w.heap.size, m * 3 + 1, none⟩ (.int .i64 (bs + (k : Int)))).setCell ⟨w.heap.size, m * 3 + 2, none⟩ (.int .i64 sc) = w6 at *
                            have hrow := HR5.out
                            have hsz := HE5.out.ze.lt
                            have hsz6 : w5.heap.size ≤ w6.heap.size := HS6.out
                            go_upto_region 30 with (at_builtin; (refine wpList_append_own _ rfl _ _ 52 rfl w5.heap.size 107 i0 (.agg #[.int .i64 0, .int .i64 0]) 2 16 Tryz.underlying52 hi hz0 hz1 hz2 rfl (by decide) (.slice a1 k cap1) k (ps l) rfl (hrow.alloc _) ⟨w6.heap.size, 0, none⟩ 1 1 [.int .i64 x, .int .i64 (m : Int)] rfl rfl (cell_two_new _ _ _ _) (by simp [Value.oneCell']) (by unfold maxLen; omega) (by omega) (by simp; omega) ?_); intro v' w7 hown' hg7 _)
                            have HE7 : Hid (MV w w7 (upd g m ⟨x, bs + (k : Int), sc⟩) aL (some ⟨b, o, none⟩) L.length J.length cL cJ) := HE5.out.app hrow (by omega) hg7
                            have HR7 : Hid (w7.ownsRow w5.heap.size 107 2 v' (l ++ [(x, (m : Int))]).length (ps (l ++ [(x, (m : Int))]))) := by
                              show w7.ownsRow _ _ _ _ _ _
                              rw [List.length_append, ps_snoc, HLEN.out]
                              exact hown'
                            have HL7 : Hid (w7.ownsRow (w.heap.size + 3) 107 2 vl L.length (ps (evl f L))) := (HL5.out.alloc _).kept hg7 (by
                              cases hv : vl.ownBlock with
                              | none => exact .inl rfl
                              | some q => exact .inr (row_far hrow (HAP.out q hv)))
                            have HS7 : Hid (w5.heap.size ≤ w7.heap.size) := Nat.le_trans hsz6 (Nat.le_trans (by simp) hg7.size)
                            clear hown' hg7 hrow hsz hsz6 HE5 HR5 HL5 HS6
                            go_wp2_with fail
                            go_roundw
                            case rel =>
                              refine ⟨k + 1, _, by omega, by go_num, rfl, ?_, ?_, HL7.out, HS7.out⟩
                              · rw [HA.out]; exact HE7.out
                              · rw [HL.out]; exact HR7.out
                            case measure => simp [intOf]; omega
                      · obtain rfl : k = J.length := by omega
                        have hdk2 : decide ((J.length : Int) < (J.length : Int)) = false := by simp
                        have HEE : Hid (mvE f L J sc bs = 0) := mvE_of HOK.out hek hfr
                        have HMR : Hid (mvR f L J sc bs = adm e0 (mvT f L J) J sc bs J.length) := by show mvR f L J sc bs = _; unfold mvR; rw [HEE.out, if_pos rfl, HE0.out]
                        have HML : Hid (mvL f L J sc bs = evl f L) := by show mvL f L J sc bs = _; unfold mvL; rw [HEE.out, if_pos rfl]
                        have HMJ : Hid (mvJ f L J sc bs = adl (mvT f L J) J J.length) := by show mvJ f L J sc bs = _; unfold mvJ; rw [HEE.out, if_pos rfl]
                        clear HBS
                        go_upto_region 31 with (fail)
                        refine wp_region_lit ?_
                        refine ld25 HE.out.fs.ro rfl _ rfl rfl ?_
                        go_wp2_with (refine st25 HE.out.ze rfl _ _ rfl rfl rfl ?_)
                        refine bodyPost_ret (results_ro4 (p := 8) (t := 9) (u := 10) (v := 11) rfl _ _ (w.heap.size + 2) _ rfl (HE.out.ze.row _)) rfl ?_
                        refine ⟨⟨vl, vj, ?_, ?_, ?_, ?_⟩, setRow_below (by omega) HE.out.fs.bel _⟩
                        · rw [HMR.out, HEE.out]; rfl
                        · rw [HML.out, evl_length]
                          exact owns_wide (owns_type HRL.out HE.out.ze (by decide) _) (by omega)
                        · rw [HMJ.out]
                          exact owns_wide (owns_type HR.out HE.out.ze (by decide) _) (by omega)
                        · cases hv : vl.ownBlock with
                          | none => exact .inl rfl
                          | some q => exact .inr (row_far HR.out (HAP.out q hv))
  · have h1 : (ft f L J == 0) = false := by simp [hft]
    have HFT : Hid (¬ ft f L J = 0) := hft
    clear hft
    have HE : Hid (mvE f L J sc bs = ft f L J) := mvE_fit HFT.out
    go_wp2_with (refine st25 (g := fun _ => zE) hM2.ze rfl _ _ rfl rfl zero25' ?_)
    refine bodyPost_ret (results_ro4 (p := 8) (t := 9) (u := 10) (v := 11) rfl _ _ (w.heap.size + 2) (fun _ => zE) rfl (hM2.ze.row _)) rfl ?_
    exact ⟨MoveA.no HE.out HFT.out, setRow_below (by omega) hM2.fs.bel _⟩

/- A list of seats that lies in memory. -/
def RdS (w : World) (a : Option Addr) (l : List (Int × Int)) : Prop := ∀ i, i < l.length → ∃ b, a = some ⟨b, 0, none⟩ ∧ w.cell? ⟨b, i * 2, none⟩ = some (.int .i64 (l.getD i (0, 0)).1) ∧ w.cell? ⟨b, i * 2 + 1, none⟩ = some (.int .i64 (l.getD i (0, 0)).2)
theorem RdS.later {w w' : World} {a : Option Addr} {l : List (Int × Int)} (h : RdS w a l) (hb : Below w.heap.size w w') : RdS w' a l := fun i hi => by
  obtain ⟨b, e, c0, c1⟩ := h i hi
  exact ⟨b, e, cell_later hb c0, cell_later hb c1⟩
theorem ps_get (l : List (Int × Int)) : ∀ i, i < l.length → (ps l)[i * 2]? = some (.int .i64 (l.getD i (0, 0)).1) ∧ (ps l)[i * 2 + 1]? = some (.int .i64 (l.getD i (0, 0)).2) := by
  induction l with
  | nil => intro i hi; cases hi
  | cons p l ih =>
    intro i hi
    have e : ps (p :: l) = .int .i64 p.1 :: .int .i64 p.2 :: ps l := rfl
    rw [e]
    cases i with
    | zero => exact ⟨rfl, rfl⟩
    | succ i =>
      have := ih i (by simpa using hi)
      rw [show (i + 1) * 2 = i * 2 + 1 + 1 by omega, show i * 2 + 1 + 1 + 1 = (i * 2 + 1) + 1 + 1 by omega]
      simpa using this
theorem owns_rd {W : World} {b : Nat} {v : Value} {l : List (Int × Int)} (h : W.ownsRow b 107 2 v l.length (ps l)) : ∃ a cap, v = .slice a l.length cap ∧ RdS W a l ∧ ∀ g o, a = some ⟨g, o, none⟩ → v.ownBlock = some g := by
  rcases h.2 with ⟨rfl, h0⟩ | ⟨g, cap, cur, rfl, h3, h4, h5, h6, h7, h8⟩
  · have : l = [] := List.length_eq_zero_iff.1 h0
    subst this
    exact ⟨none, 0, rfl, (fun i hi => by cases hi), fun g o e => by cases e⟩
  · refine ⟨some ⟨g, 0, none⟩, cap, rfl, fun i hi => ⟨g, rfl, ?_⟩, fun g' o e => by simp at e; simp [Value.ownBlock, e.1]⟩
    obtain ⟨p0, p1⟩ := ps_get l i hi
    have cell : ∀ j v, j < l.length * 2 → (ps l)[j]? = some v → W.cell? ⟨g, j, none⟩ = some v := fun j v hj hv => by
      rw [cell_of_row W g j _ _ _ h4, ← hv, ← h8, List.getElem?_take_of_lt hj]
      simp
    exact ⟨cell _ _ (by omega) p0, cell _ _ (by omega) p1⟩
end Go.Proofs.YtpimbpfefhkojabGreatDoor.Rs
