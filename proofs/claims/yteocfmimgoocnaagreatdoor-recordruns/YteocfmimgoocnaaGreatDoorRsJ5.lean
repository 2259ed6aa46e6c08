/- RsL, RsSm, OpenRs, RsMm, PlP0, joined. -/
import Derived.Test.YteocfmimgoocnaaGreatDoorRsJ4
import Derived.Test.YteocfmimgoocnaaGreatDoorRsJ1
import Derived.ProofKit
import Derived.OpenShut
import Derived.Below
import Derived.Lib.SmallJoins
import Derived.Deep.SlicePairs
import Derived.Deep.Slices
import Derived.Deep.Strs
import Derived.ChangeSlices
import Derived.SizedLaws
import Derived.Laws.AppendOwnNone
import Derived.Maps.AppendAt
/- Contracts: the document's Move. -/
namespace Go.Proofs.YteocfmimgoocnaaGreatDoor.Rs
open Go.RowKit Go.Maps
set_option linter.unusedVariables false
set_option linter.unusedSimpArgs false

theorem FS.set3 {w W : World} {g : Nat → En} {aL aJ : Option Addr} {nL nJ cL cJ : Nat} (h : FS w W g aL aJ nL nJ cL cJ) (k : Nat) (hk : k < 64) (a b c : Int) :
    FS w (((W.setCell ⟨w.heap.size, k * 3, none⟩ (.int .i64 a)).setCell ⟨w.heap.size, k * 3 + 1, none⟩ (.int .i64 b)).setCell ⟨w.heap.size, k * 3 + 2, none⟩ (.int .i64 c)) (upd g k ⟨a, b, c⟩) aL aJ nL nJ cL cJ :=
  ⟨h.ro.set3 k hk a b c, (set3_other (by omega) _ _ _ _ _ _).trans h.bt, set3_below h.bel (Nat.le_refl _) _ _ _ _ _ _⟩
theorem MV.set3 {w W : World} {g : Nat → En} {aL aJ : Option Addr} {nL nJ cL cJ : Nat} (h : MV w W g aL aJ nL nJ cL cJ) (k : Nat) (hk : k < 64) (a b c : Int) :
    MV w (((W.setCell ⟨w.heap.size, k * 3, none⟩ (.int .i64 a)).setCell ⟨w.heap.size, k * 3 + 1, none⟩ (.int .i64 b)).setCell ⟨w.heap.size, k * 3 + 2, none⟩ (.int .i64 c)) (upd g k ⟨a, b, c⟩) aL aJ nL nJ cL cJ :=
  ⟨h.fs.set3 k hk a b c, (set3_other (by omega) _ _ _ _ _ _).trans h.ze⟩
theorem grown_low {W W1 : World} {b : Nat} {e : TypeId} {sz : Nat} {v : Value} {n : Nat} {xs : List Value} {o : Obj} (h : W.ownsRow b e sz v n xs) (hg : (W.alloc o).grownBy W1 v.ownBlock) {k : Nat} (hk : k < b) (hs : k < W.heap.size) : W1.heap[k]? = W.heap[k]? := by
  rw [hg.block k (by simp; omega) (row_far h hk)]
  exact ((Below.refl _ W).alloc (Nat.le_refl _) o).block k hs
theorem grown_bel {w W W1 : World} {b : Nat} {e : TypeId} {sz : Nat} {v : Value} {n : Nat} {xs : List Value} {o : Obj} (hb : Below w.heap.size w W) (h : W.ownsRow b e sz v n xs) (hn : w.heap.size ≤ b) (hg : (W.alloc o).grownBy W1 v.ownBlock) : Below w.heap.size w W1 := by
  have b1 := hb.alloc hb.size o
  refine below_grown b1 hg (by have := hb.size; simp; omega) fun j hj => ?_
  rcases Nat.lt_or_ge j b with hlt | hge
  · exact absurd hj.symm (row_far h hlt)
  · omega
theorem MV.app {w W W1 : World} {g : Nat → En} {aL aJ : Option Addr} {nL nJ cL cJ : Nat} {b : Nat} {e : TypeId} {sz : Nat} {v : Value} {n : Nat} {xs : List Value} {o : Obj} (h : MV w W g aL aJ nL nJ cL cJ) (hr : W.ownsRow b e sz v n xs) (hn : w.heap.size + 3 ≤ b) (hg : (W.alloc o).grownBy W1 v.ownBlock) : MV w W1 g aL aJ nL nJ cL cJ := by
  have hs := h.ze.lt
  exact ⟨⟨(grown_low hr hg (by omega) (by omega)).trans h.fs.ro, (grown_low hr hg (by omega) (by omega)).trans h.fs.bt, grown_bel h.fs.bel hr (by omega) hg⟩, (grown_low hr hg (by omega) (by omega)).trans h.ze⟩
set_option maxRecDepth 100000 in
set_option maxHeartbeats 4000000 in
theorem rMove_any (f : Nat → En) (aL aJ : Option Addr) (cL cJ : Nat) (L J : List Int) (sc bs : Int) (w : World) (lL : L.length < 1152921504606846976) (lJ : J.length < 1152921504606846976) (rL : RdI w aL L) (rJ : RdI w aJ J) :
    Calls Tryz.prog 45 #[.agg (rcs f), .agg #[.slice aL L.length cL, .slice aJ J.length cJ], .int .i64 sc, .int .i64 bs] w fun e w' => MoveA w w' f L J sc bs e ∧ Below w.heap.size w w' := by
  have hM0 := MV.new w f aL aJ L.length J.length cL cJ
  obtain ⟨i0, hi, hz0, hz1, hz2⟩ := infoSeat_parts
  go_enter Tryz.func45, Tryz.ntmps45
  go_upto_region 1 with (fail)
  rw [zero25]
  generalize ((w.alloc (.cells (rcs f) 29)).alloc (.cells #[.slice aL L.length cL, .slice aJ J.length cJ] 34)).alloc (.cells (rcs fun _ => zE) 29) = w1 at *
  refine wp_region_lit ?_
  refine ld25 hM0.fs.ro rfl _ rfl rfl ?_
  obtain ⟨cl, cj⟩ := hM0.fs.cells
  have hfi := rFits_any f aL aJ cL cJ L J w1 lL lJ (rL.later hM0.fs.bel) (rJ.later hM0.fs.bel)
  obtain ⟨cf, hc⟩ : ∃ cf, rcs f = cf := ⟨_, rfl⟩
  rw [hc] at hfi ⊢
  clear hc
  go_wp2_with fail
  refine hfi.mono ?_
  rintro r w2 ⟨rfl, hb2⟩
  have hM2 := hM0.later hb2
  clear hM0 hb2 hfi cl cj
  by_cases hft : ft f L J = 0
  · rw [hft]
    cases hek : eok sc with
    | false =>
      have HEK : Hid (eok sc = (decide (1 ≤ sc) && decide (sc ≤ 200))) := rfl
      by_cases h1 : sc < 1
      · go_wp2_with (refine st25 (g := fun _ => zE) hM2.ze rfl _ _ rfl rfl zero25' ?_)
        refine bodyPost_ret (results_ro4 (p := 8) (t := 9) (u := 10) (v := 11) rfl _ _ (w.heap.size + 2) (fun _ => zE) rfl (hM2.ze.row _)) rfl ?_
        exact ⟨MoveA.no (mvE_ep hft hek) (by decide), setRow_below (by omega) hM2.fs.bel _⟩
      · have h2 : 200 < sc := by
          have := HEK.out
          rw [hek] at this
          simp at this
          omega
        go_wp2_with (refine st25 (g := fun _ => zE) hM2.ze rfl _ _ rfl rfl zero25' ?_)
        refine bodyPost_ret (results_ro4 (p := 8) (t := 9) (u := 10) (v := 11) rfl _ _ (w.heap.size + 2) (fun _ => zE) rfl (hM2.ze.row _)) rfl ?_
        exact ⟨MoveA.no (mvE_ep hft hek) (by decide), setRow_below (by omega) hM2.fs.bel _⟩
    | true =>
      have s1 : ¬ sc < 1 := by simp [eok] at hek; omega
      have s2 : ¬ 200 < sc := by simp [eok] at hek; omega
      obtain ⟨cl, cj⟩ := hM2.fs.cells
      have HFR : Hid (fre f bs J.length = (decide (J.length = 0) || (decide (1 ≤ bs) && decide (bs ≤ 32768 - (J.length : Int)) && frA f bs J.length 64))) := rfl
      have hsub : IntKind.i64.wrap (32768 - (J.length : Int)) = 32768 - (J.length : Int) := i64_fit _ (by omega) (by omega)
      have HOK : Hid (FitOk f L J) := ft_ok hft
      by_cases hn0 : J.length = 0
      · have hfr : fre f bs J.length = true := by rw [HFR.out, hn0]; rfl
        have n2 : decide ((0 : Int) < (J.length : Int)) = false := decide_eq_false (by omega)
        have n3 : (0 < J.length) = False := propext ⟨fun h => by omega, False.elim⟩
        have HN0 : Hid (J.length = 0) := hn0
        clear hn0
        go_wp2_with fail
        go_loop [14] (fun i => i = .int .i64 0) (fun _ => 0)
        case atStart => rfl
        case round =>
          subst hrel
          have hfrg : True := trivial
          have HM : Hid (MV w w2 f aL aJ L.length J.length cL cJ) := hM2
          clear hM2 cl cj
          go_upto_region 15 with (fail)
          obtain ⟨cl, cj⟩ := HM.out.fs.cells
          have HROW : Hid (w2.ownsRow (w.heap.size + 3) 62 2 (.slice none 0 0) 0 (ps [])) := World.ownsRow_nil _ _ _ _
          clear hfrg
          go_wp2_with fail
          go_loopw [15, 81] (fun v i wx => ∃ (k : Nat) (vl : Value), k ≤ L.length ∧ i = .int .i64 (k : Int) ∧ vl = v ∧ MV w wx (evs f (L.take k)) aL aJ L.length J.length cL cJ ∧ wx.ownsRow (w.heap.size + 3) 62 2 vl (evl f (L.take k)).length (ps (evl f (L.take k)))) (fun _ i _ => L.length - (intOf i).toNat)
          case atStart => exact ⟨0, _, by omega, rfl, rfl, HM.out, HROW.out⟩
          case round =>
            obtain ⟨k, vl, hk, rfl, rfl, hev, hrw⟩ := hrel
            have HE : Hid (MV w wr (evs f (L.take k)) aL aJ L.length J.length cL cJ) := hev
            have HR : Hid (wr.ownsRow (w.heap.size + 3) 62 2 vl (evl f (L.take k)).length (ps (evl f (L.take k)))) := hrw
            clear hev hrw HROW HM
            by_cases hkN : k < L.length
            · have i1 : (0 : Int) ≤ (k : Int) := by omega
              have i2 : (k : Int) < (L.length : Int) := by omega
              obtain ⟨b, o, hal, hcell⟩ := (rL.later HE.out.fs.bel) k hkN
              have HT : Hid (L.take (k + 1) = L.take k ++ [L.getD k 0]) := take_getD hkN
              have hok := HOK.out.out k hkN
              have hlen : (evl f (L.take k)).length = k := by simp; omega
              have lL64 := HOK.out.lenL
              obtain ⟨x, hx⟩ : ∃ x, L.getD k 0 = x := ⟨_, rfl⟩
              rw [hx] at hcell HT hok
              obtain ⟨g, hg⟩ : ∃ g, evs f (L.take k) = g := ⟨_, rfl⟩
              obtain ⟨l, hl⟩ : ∃ l, evl f (L.take k) = l := ⟨_, rfl⟩
              rw [hg] at HE hok
              rw [hl] at hlen HR
              have HG : Hid (evs f (L.take k) = g) := hg
              have HL : Hid (evl f (L.take k) = l) := hl
              obtain ⟨j, hj, hj64⟩ := fnd_on hok
              have hfi2 := rFind_any g x wr
              rw [hj] at hfi2
              have HJ : Hid (fnd g x = (j : Int)) := hj
              clear hx hg hl hok hj
              subst hal
              obtain ⟨a1, cap1, rfl⟩ := owns_slice HR.out
              rw [hlen]
              have HLEN : Hid (l.length = k) := hlen
              clear hlen
              go_upto_region 18 with (fail)
              refine wp_region_lit ?_
              refine ld25 HE.out.fs.ro rfl _ rfl rfl ?_
              obtain ⟨cg, hcg⟩ : ∃ cg, rcs g = cg := ⟨_, rfl⟩
              rw [hcg] at hfi2 ⊢
              clear hcg
              go_wp2_with fail
              refine hfi2.mono ?_
              rintro r w3 ⟨rfl, hb3⟩
              have HE3 : Hid (MV w w3 g (some ⟨b, o, none⟩) aJ L.length J.length cL cJ) := HE.out.later hb3
              have hrow : w3.ownsRow (w.heap.size + 3) 62 2 (.slice a1 k cap1) k (ps l) := by have h := owns_later HR.out hb3; rw [HLEN.out] at h; exact h
              have hsz := HE3.out.ze.lt
              clear hfi2 hb3 HE HR
              go_upto_region 20 with (at_builtin; (refine wpList_append_own _ rfl _ _ 36 rfl (w.heap.size + 3) 62 i0 (.agg #[.int .i64 0, .int .i64 0]) 2 16 Tryz.underlying36 hi hz0 hz1 hz2 rfl (by decide) (.slice a1 k cap1) k (ps l) rfl (hrow.alloc _) ⟨w3.heap.size, 0, none⟩ 1 1 [.int .i64 x, .int .i64 (j : Int)] rfl rfl (cell_two_new _ _ _ _) (by simp [Value.oneCell']) (by unfold maxLen; omega) (by omega) (by simp; omega) ?_); intro v' w4 hown' hg4 _)
              have HE4 : Hid (MV w w4 g (some ⟨b, o, none⟩) aJ L.length J.length cL cJ) := HE3.out.app hrow (Nat.le_refl _) hg4
              have HR4 : Hid (w4.ownsRow (w.heap.size + 3) 62 2 v' (l ++ [(x, (j : Int))]).length (ps (l ++ [(x, (j : Int))]))) := by
                show w4.ownsRow _ _ _ _ _ _
                rw [List.length_append, ps_snoc, HLEN.out]
                exact hown'
              clear hown' hg4 hrow hsz HE3
              have j1 : (j : Int) < 64 := by omega
              obtain ⟨c0, c1, c2⟩ := HE4.out.fs.ro.cells j hj64
              have z0 := row_frozen HE4.out.fs.ro (j * 3)
              have z1 := row_frozen HE4.out.fs.ro (j * 3 + 1)
              have z2 := row_frozen HE4.out.fs.ro (j * 3 + 2)
              have HE5 : Hid (MV w (((w4.setCell ⟨w.heap.size, j * 3, none⟩ (.int .i64 0)).setCell ⟨w.heap.size, j * 3 + 1, none⟩ (.int .i64 0)).setCell ⟨w.heap.size, j * 3 + 2, none⟩ (.int .i64 0)) (upd g j ⟨0, 0, 0⟩) (some ⟨b, o, none⟩) aJ L.length J.length cL cJ) := HE4.out.set3 j hj64 0 0 0
              have HR5 : Hid ((((w4.setCell ⟨w.heap.size, j * 3, none⟩ (.int .i64 0)).setCell ⟨w.heap.size, j * 3 + 1, none⟩ (.int .i64 0)).setCell ⟨w.heap.size, j * 3 + 2, none⟩ (.int .i64 0)).ownsRow (w.heap.size + 3) 62 2 v' (l ++ [(x, (j : Int))]).length (ps (l ++ [(x, (j : Int))]))) := owns_block HR4.out fun m hm _ => set3_other (by omega) _ _ _ _ _ _
              go_wp2_with fail
              go_roundw
              case rel =>
                have e1 : evs f (L.take (k + 1)) = upd g j ⟨0, 0, 0⟩ := by rw [HT.out, evs_snoc, HG.out, ev1_on HJ.out]; rfl
                have e2 : evl f (L.take (k + 1)) = l ++ [(x, (j : Int))] := by rw [HT.out, evl_snoc, HG.out, HL.out, HJ.out]
                refine ⟨k + 1, _, by omega, by go_num, rfl, ?_, ?_⟩
                · rw [e1]; exact HE5.out
                · rw [e2]; exact HR5.out
              case measure => simp [intOf]; omega
            · obtain rfl : k = L.length := by omega
              have hdk : decide ((L.length : Int) < (L.length : Int)) = false := by simp
              have HE1 : Hid (MV w wr (evs f L) aL aJ L.length J.length cL cJ) := by have h := HE.out; rw [List.take_length] at h; exact h
              have HR1 : Hid (wr.ownsRow (w.heap.size + 3) 62 2 vl L.length (ps (evl f L))) := by have h := HR.out; rw [List.take_length, evl_length] at h; exact h
              obtain ⟨cl, cj⟩ := HE1.out.fs.cells
              clear HE HR
              go_upto_region 22 with (fail)
              obtain ⟨w5, hw5⟩ : ∃ w5, wr = w5 := ⟨_, rfl⟩
              rw [hw5] at HE1 HR1 cl cj ⊢
              clear hw5
              have HAP : Hid (∀ m, vl.ownBlock = some m → m < w5.heap.size) := fun m hm => by
                rcases HR1.out.2 with ⟨h0, _⟩ | ⟨g, cap, cur, h0, h3, h4, _⟩
                · rw [h0] at hm; simp [Value.ownBlock] at hm
                · rw [h0] at hm
                  simp [Value.ownBlock] at hm
                  subst hm
                  exact (Array.getElem?_eq_some_iff.1 h4).1
              have HTL : Hid ((mvT f L J).length = J.length) := HOK.out.lenT
              have HBS : Hid (J ≠ [] → 1 ≤ bs ∧ bs + (J.length : Int) ≤ 32768) := fre_bs hfr
              obtain ⟨e0, he0⟩ : ∃ e0, evs f L = e0 := ⟨_, rfl⟩
              rw [he0] at HE1
              have HE0 : Hid (evs f L = e0) := he0
              clear he0
              have hs5 := HE1.out.ze.lt
              have HJ0 : Hid (w5.ownsRow w5.heap.size 62 2 (.slice none 0 0) 0 (ps [])) := World.ownsRow_nil _ _ _ _
              go_wp2_with fail
              go_loopw [16, 101] (fun v i wx => ∃ (k : Nat) (vj : Value), k ≤ J.length ∧ i = .int .i64 (k : Int) ∧ vj = v ∧ MV w wx (adm e0 (mvT f L J) J sc bs k) aL aJ L.length J.length cL cJ ∧ wx.ownsRow w5.heap.size 62 2 vj (adl (mvT f L J) J k).length (ps (adl (mvT f L J) J k)) ∧ wx.ownsRow (w.heap.size + 3) 62 2 vl L.length (ps (evl f L)) ∧ w5.heap.size ≤ wx.heap.size) (fun _ i _ => J.length - (intOf i).toNat)
              case atStart => exact ⟨0, _, by omega, rfl, rfl, HE1.out, HJ0.out, HR1.out, Nat.le_refl _⟩
              case round =>
                obtain ⟨k, vj, hk, rfl, rfl, hev, hrw, hrl, hsw⟩ := hrel
                have HS : Hid (w5.heap.size ≤ wr.heap.size) := hsw
                have HE : Hid (MV w wr (adm e0 (mvT f L J) J sc bs k) aL aJ L.length J.length cL cJ) := hev
                have HR : Hid (wr.ownsRow w5.heap.size 62 2 vj (adl (mvT f L J) J k).length (ps (adl (mvT f L J) J k))) := hrw
                have HRL : Hid (wr.ownsRow (w.heap.size + 3) 62 2 vl L.length (ps (evl f L))) := hrl
                clear hev hrw hrl hsw HE1 HR1 HJ0
                by_cases hkN : k < J.length
                · have i1 : (0 : Int) ≤ (k : Int) := by omega
                  have i2 : (k : Int) < (J.length : Int) := by omega
                  have lJ64 := HOK.out.lenJ
                  obtain ⟨b1, b2⟩ := HBS.out (fun e => by rw [e] at hkN; simp at hkN)
                  obtain ⟨b, o, hal, hcell⟩ := (rJ.later HE.out.fs.bel) k hkN
                  have hsl := HOK.out.slots (sc := sc) b1 hkN
                  rw [HE0.out] at hsl
                  have HA : Hid (adm e0 (mvT f L J) J sc bs (k + 1) = upd (adm e0 (mvT f L J) J sc bs k) ((mvT f L J).getD k 0) ⟨J.getD k 0, bs + (k : Int), sc⟩) := rfl
                  have HL : Hid (adl (mvT f L J) J (k + 1) = adl (mvT f L J) J k ++ [(J.getD k 0, (((mvT f L J).getD k 0 : Nat) : Int))]) := rfl
                  have hlen : (adl (mvT f L J) J k).length = k := adl_length _ _ _
                  have hsum : IntKind.i64.wrap (bs + (k : Int)) = bs + (k : Int) := i64_fit _ (by omega) (by omega)
                  have hj64 := hsl.lt
                  have hfree := hsl.free
                  have hlow := hsl.low
                  obtain ⟨x, hx⟩ : ∃ x, J.getD k 0 = x := ⟨_, rfl⟩
                  rw [hx] at hcell HA HL
                  obtain ⟨j, hj⟩ : ∃ j, (mvT f L J).getD k 0 = j := ⟨_, rfl⟩
                  rw [hj] at hj64 HA HL hfree hlow
                  clear hx hj b1 b2 hsl
                  obtain ⟨g, hg⟩ : ∃ g, adm e0 (mvT f L J) J sc bs k = g := ⟨_, rfl⟩
                  rw [hg] at HE HA hfree hlow
                  clear hg
                  obtain ⟨l, hl⟩ : ∃ l, adl (mvT f L J) J k = l := ⟨_, rfl⟩
                  rw [hl] at HR HL hlen
                  clear hl
                  subst hal
                  obtain ⟨a1, cap1, rfl⟩ := owns_slice HR.out
                  rw [hlen]
                  have HLEN : Hid (l.length = k) := hlen
                  clear hlen
                  have HFR : Hid (tkn (g j) = false) := hfree
                  have HLO : Hid (∀ i, i < j → tkn (g i) = true) := hlow
                  clear hfree hlow
                  go_wp2_with fail
                  go_loop [22] (fun i => ∃ m : Nat, m ≤ j ∧ i = .int .i64 (m : Int)) (fun i => j - (intOf i).toNat)
                  case atStart => exact ⟨0, by omega, rfl⟩
                  case round =>
                    obtain ⟨m, hm, rfl⟩ := hrel
                    have m8 : (m : Int) < 64 := by omega
                    obtain ⟨c0, c1, c2⟩ := HE.out.fs.ro.cells m (by omega)
                    by_cases hmj : m < j
                    · have ht := HLO.out m hmj
                      have q1 : ((g m).bas != 0) = true := by simp [tkn_pos ht]
                      generalize g m = em at *
                      clear ht
                      go_wp2_with fail
                      go_round
                      case rel => exact ⟨m + 1, by omega, by go_num⟩
                      case measure => simp [intOf]; omega
                    · obtain rfl : m = j := by omega
                      have ht := HFR.out
                      have q1 : ((g m).bas != 0) = false := by simp [tkn_neg ht]
                      obtain ⟨em, hem⟩ : ∃ em, g m = em := ⟨_, rfl⟩
                      rw [hem] at c0 c1 c2 q1
                      clear ht hem
                      have z0 := row_frozen HE.out.fs.ro (m * 3)
                      have z1 := row_frozen HE.out.fs.ro (m * 3 + 1)
                      have z2 := row_frozen HE.out.fs.ro (m * 3 + 2)
                      have HE5 : Hid (MV w (((wr.setCell ⟨w.heap.size, m * 3, none⟩ (.int .i64 x)).setCell ⟨w.heap.size, m * 3 + 1, none⟩ (.int .i64 (bs + (k : Int)))).setCell ⟨w.heap.size, m * 3 + 2, none⟩ (.int .i64 sc)) (upd g m ⟨x, bs + (k : Int), sc⟩) aL (some ⟨b, o, none⟩) L.length J.length cL cJ) := HE.out.set3 m hj64 x (bs + (k : Int)) sc
                      have HR5 : Hid ((((wr.setCell ⟨w.heap.size, m * 3, none⟩ (.int .i64 x)).setCell ⟨w.heap.size, m * 3 + 1, none⟩ (.int .i64 (bs + (k : Int)))).setCell ⟨w.heap.size, m * 3 + 2, none⟩ (.int .i64 sc)).ownsRow w5.heap.size 62 2 (.slice a1 k cap1) k (ps l)) := by
                        have h := HR.out
                        rw [HLEN.out] at h
                        exact owns_block h fun q hq _ => set3_other (by omega) _ _ _ _ _ _
                      have HL5 : Hid ((((wr.setCell ⟨w.heap.size, m * 3, none⟩ (.int .i64 x)).setCell ⟨w.heap.size, m * 3 + 1, none⟩ (.int .i64 (bs + (k : Int)))).setCell ⟨w.heap.size, m * 3 + 2, none⟩ (.int .i64 sc)).ownsRow (w.heap.size + 3) 62 2 vl L.length (ps (evl f L))) := owns_block HRL.out fun q hq _ => set3_other (by omega) _ _ _ _ _ _
                      have HS6 : Hid (w5.heap.size ≤ (((wr.setCell ⟨w.heap.size, m * 3, none⟩ (.int .i64 x)).setCell ⟨w.heap.size, m * 3 + 1, none⟩ (.int .i64 (bs + (k : Int)))).setCell ⟨w.heap.size, m * 3 + 2, none⟩ (.int .i64 sc)).heap.size) := Nat.le_trans HS.out (set3_below (Below.refl 0 wr) (Nat.zero_le _) _ _ _ _ _ _).size
                      go_upto_region 29 with (fail)
                      generalize ((wr.setCell ⟨w.heap.size, m * 3, none⟩ (.int .i64 x)).setCell ⟨w.heap.size, m * 3 + 1, none⟩ (.int .i64 (bs + (k : Int)))).setCell ⟨w.heap.size, m * 3 + 2, none⟩ (.int .i64 sc) = w6 at *
                      have hrow := HR5.out
                      have hsz := HE5.out.ze.lt
                      have hsz6 : w5.heap.size ≤ w6.heap.size := HS6.out
                      go_upto_region 30 with (at_builtin; (refine wpList_append_own _ rfl _ _ 36 rfl w5.heap.size 62 i0 (.agg #[.int .i64 0, .int .i64 0]) 2 16 Tryz.underlying36 hi hz0 hz1 hz2 rfl (by decide) (.slice a1 k cap1) k (ps l) rfl (hrow.alloc _) ⟨w6.heap.size, 0, none⟩ 1 1 [.int .i64 x, .int .i64 (m : Int)] rfl rfl (cell_two_new _ _ _ _) (by simp [Value.oneCell']) (by unfold maxLen; omega) (by omega) (by simp; omega) ?_); intro v' w7 hown' hg7 _)
                      have HE7 : Hid (MV w w7 (upd g m ⟨x, bs + (k : Int), sc⟩) aL (some ⟨b, o, none⟩) L.length J.length cL cJ) := HE5.out.app hrow (by omega) hg7
                      have HR7 : Hid (w7.ownsRow w5.heap.size 62 2 v' (l ++ [(x, (m : Int))]).length (ps (l ++ [(x, (m : Int))]))) := by
                        show w7.ownsRow _ _ _ _ _ _
                        rw [List.length_append, ps_snoc, HLEN.out]
                        exact hown'
                      have HL7 : Hid (w7.ownsRow (w.heap.size + 3) 62 2 vl L.length (ps (evl f L))) := (HL5.out.alloc _).kept hg7 (by
                        cases hv : vl.ownBlock with
                        | none => exact .inl rfl
                        | some q => exact .inr (row_far hrow (HAP.out q hv)))
                      have HS7 : Hid (w5.heap.size ≤ w7.heap.size) := Nat.le_trans hsz6 (Nat.le_trans (by simp) hg7.size)
                      clear hown' hg7 hrow hsz hsz6 HE5 HR5 HL5 HS6
                      go_wp2_with fail
                      go_roundw
                      case rel =>
                        refine ⟨k + 1, _, by omega, by go_num, rfl, ?_, ?_, HL7.out, HS7.out⟩
                        · rw [HA.out]; exact HE7.out
                        · rw [HL.out]; exact HR7.out
                      case measure => simp [intOf]; omega
                · obtain rfl : k = J.length := by omega
                  have hdk2 : decide ((J.length : Int) < (J.length : Int)) = false := by simp
                  have HEE : Hid (mvE f L J sc bs = 0) := mvE_of HOK.out hek hfr
                  have HMR : Hid (mvR f L J sc bs = adm e0 (mvT f L J) J sc bs J.length) := by show mvR f L J sc bs = _; unfold mvR; rw [HEE.out, if_pos rfl, HE0.out]
                  have HML : Hid (mvL f L J sc bs = evl f L) := by show mvL f L J sc bs = _; unfold mvL; rw [HEE.out, if_pos rfl]
                  have HMJ : Hid (mvJ f L J sc bs = adl (mvT f L J) J J.length) := by show mvJ f L J sc bs = _; unfold mvJ; rw [HEE.out, if_pos rfl]
                  clear HBS
                  go_upto_region 31 with (fail)
                  refine wp_region_lit ?_
                  refine ld25 HE.out.fs.ro rfl _ rfl rfl ?_
                  go_wp2_with (refine st25 HE.out.ze rfl _ _ rfl rfl rfl ?_)
                  refine bodyPost_ret (results_ro4 (p := 8) (t := 9) (u := 10) (v := 11) rfl _ _ (w.heap.size + 2) _ rfl (HE.out.ze.row _)) rfl ?_
                  refine ⟨⟨vl, vj, ?_, ?_, ?_, ?_⟩, setRow_below (by omega) HE.out.fs.bel _⟩
                  · rw [HMR.out, HEE.out]; rfl
                  · rw [HML.out, evl_length]
                    exact owns_wide (owns_type HRL.out HE.out.ze (by decide) _) (by omega)
                  · rw [HMJ.out]
                    exact owns_wide (owns_type HR.out HE.out.ze (by decide) _) (by omega)
                  · cases hv : vl.ownBlock with
                    | none => exact .inl rfl
                    | some q => exact .inr (row_far HR.out (HAP.out q hv))
      · have n1 : (0 : Int) < (J.length : Int) := by omega
        have HD : Hid (decide (J.length = 0) = false) := decide_eq_false hn0
        by_cases h1 : bs < 1
        · have HD1 : Hid (decide (1 ≤ bs) = false) := decide_eq_false (by omega)
          go_wp2_with (refine st25 (g := fun _ => zE) hM2.ze rfl _ _ rfl rfl zero25' ?_)
          refine bodyPost_ret (results_ro4 (p := 8) (t := 9) (u := 10) (v := 11) rfl _ _ (w.heap.size + 2) (fun _ => zE) rfl (hM2.ze.row _)) rfl ?_
          exact ⟨MoveA.no (mvE_key hft hek (by rw [HFR.out, HD.out, HD1.out]; rfl)) (by decide), setRow_below (by omega) hM2.fs.bel _⟩
        · have HD1 : Hid (decide (1 ≤ bs) = true) := decide_eq_true (by omega)
          by_cases h2 : 32768 - (J.length : Int) < bs
          · have HD2 : Hid (decide (bs ≤ 32768 - (J.length : Int)) = false) := decide_eq_false (by omega)
            go_wp2_with (refine st25 (g := fun _ => zE) hM2.ze rfl _ _ rfl rfl zero25' ?_)
            refine bodyPost_ret (results_ro4 (p := 8) (t := 9) (u := 10) (v := 11) rfl _ _ (w.heap.size + 2) (fun _ => zE) rfl (hM2.ze.row _)) rfl ?_
            exact ⟨MoveA.no (mvE_key hft hek (by rw [HFR.out, HD.out, HD1.out, HD2.out]; rfl)) (by decide), setRow_below (by omega) hM2.fs.bel _⟩
          · have HD2 : Hid (decide (bs ≤ 32768 - (J.length : Int)) = true) := decide_eq_true (by omega)
            have hsum : IntKind.i64.wrap (bs + (J.length : Int)) = bs + (J.length : Int) := i64_fit _ (by omega) (by omega)
            go_wp2_with fail
            go_loop [14] (fun i => ∃ k : Nat, k ≤ 64 ∧ i = .int .i64 (k : Int) ∧ frA f bs J.length k = true) (fun i => 64 - (intOf i).toNat)
            case atStart => exact ⟨0, by omega, rfl, rfl⟩
            case round =>
              obtain ⟨k, hk, rfl, hf⟩ := hrel
              have HF : Hid (frA f bs J.length k = true) := hf
              clear hf
              by_cases hk8 : k < 64
              · have k8 : (k : Int) < 64 := by omega
                obtain ⟨c0, c1, c2⟩ := hM2.fs.ro.cells k hk8
                have HS : Hid (frA f bs J.length (k + 1) = (frA f bs J.length k && !(decide (bs ≤ (f k).bas) && decide ((f k).bas < bs + (J.length : Int))))) := rfl
                have HBAD : Hid ((decide (bs ≤ (f k).bas) && decide ((f k).bas < bs + (J.length : Int))) = true → frA f bs J.length 64 = false) := frA_bad hk8
                obtain ⟨e, he⟩ : ∃ e, f k = e := ⟨_, rfl⟩
                rw [he] at c0 c1 c2 HS HBAD
                clear he
                by_cases g1 : bs ≤ e.bas
                · by_cases g2 : e.bas < bs + (J.length : Int)
                  · go_wp2_with (refine st25 (g := fun _ => zE) hM2.ze rfl _ _ rfl rfl zero25' ?_)
                    refine bodyPost_ret (results_ro4 (p := 8) (t := 9) (u := 10) (v := 11) rfl _ _ (w.heap.size + 2) (fun _ => zE) rfl (hM2.ze.row _)) rfl ?_
                    exact ⟨MoveA.no (mvE_key hft hek (by rw [HFR.out, HD.out, HD1.out, HD2.out, HBAD.out (by simp [g1, g2])]; rfl)) (by decide), setRow_below (by omega) hM2.fs.bel _⟩
                  · go_wp2_with fail
                    go_round
                    case rel => exact ⟨k + 1, by omega, by go_num, by rw [HS.out, HF.out]; simp; omega⟩
                    case measure => simp [intOf]; omega
                · go_wp2_with fail
                  go_round
                  case rel => exact ⟨k + 1, by omega, by go_num, by rw [HS.out, HF.out]; simp; omega⟩
                  case measure => simp [intOf]; omega
              · obtain rfl : k = 64 := by omega
                have hfr : fre f bs J.length = true := by rw [HFR.out, HD.out, HD1.out, HD2.out, HF.out]; rfl
                have hfrg := HF.out
                have HM : Hid (MV w w2 f aL aJ L.length J.length cL cJ) := hM2
                clear hM2 cl cj
                go_upto_region 15 with (fail)
                obtain ⟨cl, cj⟩ := HM.out.fs.cells
                have HROW : Hid (w2.ownsRow (w.heap.size + 3) 62 2 (.slice none 0 0) 0 (ps [])) := World.ownsRow_nil _ _ _ _
                clear hfrg
                go_wp2_with fail
                go_loopw [15, 81] (fun v i wx => ∃ (k : Nat) (vl : Value), k ≤ L.length ∧ i = .int .i64 (k : Int) ∧ vl = v ∧ MV w wx (evs f (L.take k)) aL aJ L.length J.length cL cJ ∧ wx.ownsRow (w.heap.size + 3) 62 2 vl (evl f (L.take k)).length (ps (evl f (L.take k)))) (fun _ i _ => L.length - (intOf i).toNat)
                case atStart => exact ⟨0, _, by omega, rfl, rfl, HM.out, HROW.out⟩
                case round =>
                  obtain ⟨k, vl, hk, rfl, rfl, hev, hrw⟩ := hrel
                  have HE : Hid (MV w wr (evs f (L.take k)) aL aJ L.length J.length cL cJ) := hev
                  have HR : Hid (wr.ownsRow (w.heap.size + 3) 62 2 vl (evl f (L.take k)).length (ps (evl f (L.take k)))) := hrw
                  clear hev hrw HROW HM
                  by_cases hkN : k < L.length
                  · have i1 : (0 : Int) ≤ (k : Int) := by omega
                    have i2 : (k : Int) < (L.length : Int) := by omega
                    obtain ⟨b, o, hal, hcell⟩ := (rL.later HE.out.fs.bel) k hkN
                    have HT : Hid (L.take (k + 1) = L.take k ++ [L.getD k 0]) := take_getD hkN
                    have hok := HOK.out.out k hkN
                    have hlen : (evl f (L.take k)).length = k := by simp; omega
                    have lL64 := HOK.out.lenL
                    obtain ⟨x, hx⟩ : ∃ x, L.getD k 0 = x := ⟨_, rfl⟩
                    rw [hx] at hcell HT hok
                    obtain ⟨g, hg⟩ : ∃ g, evs f (L.take k) = g := ⟨_, rfl⟩
                    obtain ⟨l, hl⟩ : ∃ l, evl f (L.take k) = l := ⟨_, rfl⟩
                    rw [hg] at HE hok
                    rw [hl] at hlen HR
                    have HG : Hid (evs f (L.take k) = g) := hg
                    have HL : Hid (evl f (L.take k) = l) := hl
                    obtain ⟨j, hj, hj64⟩ := fnd_on hok
                    have hfi2 := rFind_any g x wr
                    rw [hj] at hfi2
                    have HJ : Hid (fnd g x = (j : Int)) := hj
                    clear hx hg hl hok hj
                    subst hal
                    obtain ⟨a1, cap1, rfl⟩ := owns_slice HR.out
                    rw [hlen]
                    have HLEN : Hid (l.length = k) := hlen
                    clear hlen
                    go_upto_region 18 with (fail)
                    refine wp_region_lit ?_
                    refine ld25 HE.out.fs.ro rfl _ rfl rfl ?_
                    obtain ⟨cg, hcg⟩ : ∃ cg, rcs g = cg := ⟨_, rfl⟩
                    rw [hcg] at hfi2 ⊢
                    clear hcg
                    go_wp2_with fail
                    refine hfi2.mono ?_
                    rintro r w3 ⟨rfl, hb3⟩
                    have HE3 : Hid (MV w w3 g (some ⟨b, o, none⟩) aJ L.length J.length cL cJ) := HE.out.later hb3
                    have hrow : w3.ownsRow (w.heap.size + 3) 62 2 (.slice a1 k cap1) k (ps l) := by have h := owns_later HR.out hb3; rw [HLEN.out] at h; exact h
                    have hsz := HE3.out.ze.lt
                    clear hfi2 hb3 HE HR
                    go_upto_region 20 with (at_builtin; (refine wpList_append_own _ rfl _ _ 36 rfl (w.heap.size + 3) 62 i0 (.agg #[.int .i64 0, .int .i64 0]) 2 16 Tryz.underlying36 hi hz0 hz1 hz2 rfl (by decide) (.slice a1 k cap1) k (ps l) rfl (hrow.alloc _) ⟨w3.heap.size, 0, none⟩ 1 1 [.int .i64 x, .int .i64 (j : Int)] rfl rfl (cell_two_new _ _ _ _) (by simp [Value.oneCell']) (by unfold maxLen; omega) (by omega) (by simp; omega) ?_); intro v' w4 hown' hg4 _)
                    have HE4 : Hid (MV w w4 g (some ⟨b, o, none⟩) aJ L.length J.length cL cJ) := HE3.out.app hrow (Nat.le_refl _) hg4
                    have HR4 : Hid (w4.ownsRow (w.heap.size + 3) 62 2 v' (l ++ [(x, (j : Int))]).length (ps (l ++ [(x, (j : Int))]))) := by
                      show w4.ownsRow _ _ _ _ _ _
                      rw [List.length_append, ps_snoc, HLEN.out]
                      exact hown'
                    clear hown' hg4 hrow hsz HE3
                    have j1 : (j : Int) < 64 := by omega
                    obtain ⟨c0, c1, c2⟩ := HE4.out.fs.ro.cells j hj64
                    have z0 := row_frozen HE4.out.fs.ro (j * 3)
                    have z1 := row_frozen HE4.out.fs.ro (j * 3 + 1)
                    have z2 := row_frozen HE4.out.fs.ro (j * 3 + 2)
                    have HE5 : Hid (MV w (((w4.setCell ⟨w.heap.size, j * 3, none⟩ (.int .i64 0)).setCell ⟨w.heap.size, j * 3 + 1, none⟩ (.int .i64 0)).setCell ⟨w.heap.size, j * 3 + 2, none⟩ (.int .i64 0)) (upd g j ⟨0, 0, 0⟩) (some ⟨b, o, none⟩) aJ L.length J.length cL cJ) := HE4.out.set3 j hj64 0 0 0
                    have HR5 : Hid ((((w4.setCell ⟨w.heap.size, j * 3, none⟩ (.int .i64 0)).setCell ⟨w.heap.size, j * 3 + 1, none⟩ (.int .i64 0)).setCell ⟨w.heap.size, j * 3 + 2, none⟩ (.int .i64 0)).ownsRow (w.heap.size + 3) 62 2 v' (l ++ [(x, (j : Int))]).length (ps (l ++ [(x, (j : Int))]))) := owns_block HR4.out fun m hm _ => set3_other (by omega) _ _ _ _ _ _
                    go_wp2_with fail
                    go_roundw
                    case rel =>
                      have e1 : evs f (L.take (k + 1)) = upd g j ⟨0, 0, 0⟩ := by rw [HT.out, evs_snoc, HG.out, ev1_on HJ.out]; rfl
                      have e2 : evl f (L.take (k + 1)) = l ++ [(x, (j : Int))] := by rw [HT.out, evl_snoc, HG.out, HL.out, HJ.out]
                      refine ⟨k + 1, _, by omega, by go_num, rfl, ?_, ?_⟩
                      · rw [e1]; exact HE5.out
                      · rw [e2]; exact HR5.out
                    case measure => simp [intOf]; omega
                  · obtain rfl : k = L.length := by omega
                    have hdk : decide ((L.length : Int) < (L.length : Int)) = false := by simp
                    have HE1 : Hid (MV w wr (evs f L) aL aJ L.length J.length cL cJ) := by have h := HE.out; rw [List.take_length] at h; exact h
                    have HR1 : Hid (wr.ownsRow (w.heap.size + 3) 62 2 vl L.length (ps (evl f L))) := by have h := HR.out; rw [List.take_length, evl_length] at h; exact h
                    obtain ⟨cl, cj⟩ := HE1.out.fs.cells
                    clear HE HR
                    go_upto_region 22 with (fail)
                    obtain ⟨w5, hw5⟩ : ∃ w5, wr = w5 := ⟨_, rfl⟩
                    rw [hw5] at HE1 HR1 cl cj ⊢
                    clear hw5
                    have HAP : Hid (∀ m, vl.ownBlock = some m → m < w5.heap.size) := fun m hm => by
                      rcases HR1.out.2 with ⟨h0, _⟩ | ⟨g, cap, cur, h0, h3, h4, _⟩
                      · rw [h0] at hm; simp [Value.ownBlock] at hm
                      · rw [h0] at hm
                        simp [Value.ownBlock] at hm
                        subst hm
                        exact (Array.getElem?_eq_some_iff.1 h4).1
                    have HTL : Hid ((mvT f L J).length = J.length) := HOK.out.lenT
                    have HBS : Hid (J ≠ [] → 1 ≤ bs ∧ bs + (J.length : Int) ≤ 32768) := fre_bs hfr
                    obtain ⟨e0, he0⟩ : ∃ e0, evs f L = e0 := ⟨_, rfl⟩
                    rw [he0] at HE1
                    have HE0 : Hid (evs f L = e0) := he0
                    clear he0
                    have hs5 := HE1.out.ze.lt
                    have HJ0 : Hid (w5.ownsRow w5.heap.size 62 2 (.slice none 0 0) 0 (ps [])) := World.ownsRow_nil _ _ _ _
                    go_wp2_with fail
                    go_loopw [16, 101] (fun v i wx => ∃ (k : Nat) (vj : Value), k ≤ J.length ∧ i = .int .i64 (k : Int) ∧ vj = v ∧ MV w wx (adm e0 (mvT f L J) J sc bs k) aL aJ L.length J.length cL cJ ∧ wx.ownsRow w5.heap.size 62 2 vj (adl (mvT f L J) J k).length (ps (adl (mvT f L J) J k)) ∧ wx.ownsRow (w.heap.size + 3) 62 2 vl L.length (ps (evl f L)) ∧ w5.heap.size ≤ wx.heap.size) (fun _ i _ => J.length - (intOf i).toNat)
                    case atStart => exact ⟨0, _, by omega, rfl, rfl, HE1.out, HJ0.out, HR1.out, Nat.le_refl _⟩
                    case round =>
                      obtain ⟨k, vj, hk, rfl, rfl, hev, hrw, hrl, hsw⟩ := hrel
                      have HS : Hid (w5.heap.size ≤ wr.heap.size) := hsw
                      have HE : Hid (MV w wr (adm e0 (mvT f L J) J sc bs k) aL aJ L.length J.length cL cJ) := hev
                      have HR : Hid (wr.ownsRow w5.heap.size 62 2 vj (adl (mvT f L J) J k).length (ps (adl (mvT f L J) J k))) := hrw
                      have HRL : Hid (wr.ownsRow (w.heap.size + 3) 62 2 vl L.length (ps (evl f L))) := hrl
                      clear hev hrw hrl hsw HE1 HR1 HJ0
                      by_cases hkN : k < J.length
                      · have i1 : (0 : Int) ≤ (k : Int) := by omega
                        have i2 : (k : Int) < (J.length : Int) := by omega
                        have lJ64 := HOK.out.lenJ
                        obtain ⟨b1, b2⟩ := HBS.out (fun e => by rw [e] at hkN; simp at hkN)
                        obtain ⟨b, o, hal, hcell⟩ := (rJ.later HE.out.fs.bel) k hkN
                        have hsl := HOK.out.slots (sc := sc) b1 hkN
                        rw [HE0.out] at hsl
                        have HA : Hid (adm e0 (mvT f L J) J sc bs (k + 1) = upd (adm e0 (mvT f L J) J sc bs k) ((mvT f L J).getD k 0) ⟨J.getD k 0, bs + (k : Int), sc⟩) := rfl
                        have HL : Hid (adl (mvT f L J) J (k + 1) = adl (mvT f L J) J k ++ [(J.getD k 0, (((mvT f L J).getD k 0 : Nat) : Int))]) := rfl
                        have hlen : (adl (mvT f L J) J k).length = k := adl_length _ _ _
                        have hsum : IntKind.i64.wrap (bs + (k : Int)) = bs + (k : Int) := i64_fit _ (by omega) (by omega)
                        have hj64 := hsl.lt
                        have hfree := hsl.free
                        have hlow := hsl.low
                        obtain ⟨x, hx⟩ : ∃ x, J.getD k 0 = x := ⟨_, rfl⟩
                        rw [hx] at hcell HA HL
                        obtain ⟨j, hj⟩ : ∃ j, (mvT f L J).getD k 0 = j := ⟨_, rfl⟩
                        rw [hj] at hj64 HA HL hfree hlow
                        clear hx hj b1 b2 hsl
                        obtain ⟨g, hg⟩ : ∃ g, adm e0 (mvT f L J) J sc bs k = g := ⟨_, rfl⟩
                        rw [hg] at HE HA hfree hlow
                        clear hg
                        obtain ⟨l, hl⟩ : ∃ l, adl (mvT f L J) J k = l := ⟨_, rfl⟩
                        rw [hl] at HR HL hlen
                        clear hl
                        subst hal
                        obtain ⟨a1, cap1, rfl⟩ := owns_slice HR.out
                        rw [hlen]
                        have HLEN : Hid (l.length = k) := hlen
                        clear hlen
                        have HFR : Hid (tkn (g j) = false) := hfree
                        have HLO : Hid (∀ i, i < j → tkn (g i) = true) := hlow
                        clear hfree hlow
                        go_wp2_with fail
                        go_loop [22] (fun i => ∃ m : Nat, m ≤ j ∧ i = .int .i64 (m : Int)) (fun i => j - (intOf i).toNat)
                        case atStart => exact ⟨0, by omega, rfl⟩
                        case round =>
                          obtain ⟨m, hm, rfl⟩ := hrel
                          have m8 : (m : Int) < 64 := by omega
                          obtain ⟨c0, c1, c2⟩ := HE.out.fs.ro.cells m (by omega)
                          by_cases hmj : m < j
                          · have ht := HLO.out m hmj
                            have q1 : ((g m).bas != 0) = true := by simp [tkn_pos ht]
                            generalize g m = em at *
                            clear ht
                            go_wp2_with fail
                            go_round
                            case rel => exact ⟨m + 1, by omega, by go_num⟩
                            case measure => simp [intOf]; omega
                          · obtain rfl : m = j := by omega
                            have ht := HFR.out
                            have q1 : ((g m).bas != 0) = false := by simp [tkn_neg ht]
                            obtain ⟨em, hem⟩ : ∃ em, g m = em := ⟨_, rfl⟩
                            rw [hem] at c0 c1 c2 q1
                            clear ht hem
                            have z0 := row_frozen HE.out.fs.ro (m * 3)
                            have z1 := row_frozen HE.out.fs.ro (m * 3 + 1)
                            have z2 := row_frozen HE.out.fs.ro (m * 3 + 2)
                            have HE5 : Hid (MV w (((wr.setCell ⟨w.heap.size, m * 3, none⟩ (.int .i64 x)).setCell ⟨w.heap.size, m * 3 + 1, none⟩ (.int .i64 (bs + (k : Int)))).setCell ⟨w.heap.size, m * 3 + 2, none⟩ (.int .i64 sc)) (upd g m ⟨x, bs + (k : Int), sc⟩) aL (some ⟨b, o, none⟩) L.length J.length cL cJ) := HE.out.set3 m hj64 x (bs + (k : Int)) sc
                            have HR5 : Hid ((((wr.setCell ⟨w.heap.size, m * 3, none⟩ (.int .i64 x)).setCell ⟨w.heap.size, m * 3 + 1, none⟩ (.int .i64 (bs + (k : Int)))).setCell ⟨w.heap.size, m * 3 + 2, none⟩ (.int .i64 sc)).ownsRow w5.heap.size 62 2 (.slice a1 k cap1) k (ps l)) := by
                              have h := HR.out
                              rw [HLEN.out] at h
                              exact owns_block h fun q hq _ => set3_other (by omega) _ _ _ _ _ _
                            have HL5 : Hid ((((wr.setCell ⟨w.heap.size, m * 3, none⟩ (.int .i64 x)).setCell ⟨w.heap.size, m * 3 + 1, none⟩ (.int .i64 (bs + (k : Int)))).setCell ⟨w.heap.size, m * 3 + 2, none⟩ (.int .i64 sc)).ownsRow (w.heap.size + 3) 62 2 vl L.length (ps (evl f L))) := owns_block HRL.out fun q hq _ => set3_other (by omega) _ _ _ _ _ _
                            have HS6 : Hid (w5.heap.size ≤ (((wr.setCell ⟨w.heap.size, m * 3, none⟩ (.int .i64 x)).setCell ⟨w.heap.size, m * 3 + 1, none⟩ (.int .i64 (bs + (k : Int)))).setCell ⟨w.heap.size, m * 3 + 2, none⟩ (.int .i64 sc)).heap.size) := Nat.le_trans HS.out (set3_below (Below.refl 0 wr) (Nat.zero_le _) _ _ _ _ _ _).size
                            go_upto_region 29 with (fail)
                            generalize ((wr.setCell ⟨w.heap.size, m * 3, none⟩ (.int .i64 x)).setCell ⟨w.heap.size, m * 3 + 1, none⟩ (.int .i64 (bs + (k : Int)))).setCell ⟨w.heap.size, m * 3 + 2, none⟩ (.int .i64 sc) = w6 at *
                            have hrow := HR5.out
                            have hsz := HE5.out.ze.lt
                            have hsz6 : w5.heap.size ≤ w6.heap.size := HS6.out
                            go_upto_region 30 with (at_builtin; (refine wpList_append_own _ rfl _ _ 36 rfl w5.heap.size 62 i0 (.agg #[.int .i64 0, .int .i64 0]) 2 16 Tryz.underlying36 hi hz0 hz1 hz2 rfl (by decide) (.slice a1 k cap1) k (ps l) rfl (hrow.alloc _) ⟨w6.heap.size, 0, none⟩ 1 1 [.int .i64 x, .int .i64 (m : Int)] rfl rfl (cell_two_new _ _ _ _) (by simp [Value.oneCell']) (by unfold maxLen; omega) (by omega) (by simp; omega) ?_); intro v' w7 hown' hg7 _)
                            have HE7 : Hid (MV w w7 (upd g m ⟨x, bs + (k : Int), sc⟩) aL (some ⟨b, o, none⟩) L.length J.length cL cJ) := HE5.out.app hrow (by omega) hg7
                            have HR7 : Hid (w7.ownsRow w5.heap.size 62 2 v' (l ++ [(x, (m : Int))]).length (ps (l ++ [(x, (m : Int))]))) := by
                              show w7.ownsRow _ _ _ _ _ _
                              rw [List.length_append, ps_snoc, HLEN.out]
                              exact hown'
                            have HL7 : Hid (w7.ownsRow (w.heap.size + 3) 62 2 vl L.length (ps (evl f L))) := (HL5.out.alloc _).kept hg7 (by
                              cases hv : vl.ownBlock with
                              | none => exact .inl rfl
                              | some q => exact .inr (row_far hrow (HAP.out q hv)))
                            have HS7 : Hid (w5.heap.size ≤ w7.heap.size) := Nat.le_trans hsz6 (Nat.le_trans (by simp) hg7.size)
                            clear hown' hg7 hrow hsz hsz6 HE5 HR5 HL5 HS6
                            go_wp2_with fail
                            go_roundw
                            case rel =>
                              refine ⟨k + 1, _, by omega, by go_num, rfl, ?_, ?_, HL7.out, HS7.out⟩
                              · rw [HA.out]; exact HE7.out
                              · rw [HL.out]; exact HR7.out
                            case measure => simp [intOf]; omega
                      · obtain rfl : k = J.length := by omega
                        have hdk2 : decide ((J.length : Int) < (J.length : Int)) = false := by simp
                        have HEE : Hid (mvE f L J sc bs = 0) := mvE_of HOK.out hek hfr
                        have HMR : Hid (mvR f L J sc bs = adm e0 (mvT f L J) J sc bs J.length) := by show mvR f L J sc bs = _; unfold mvR; rw [HEE.out, if_pos rfl, HE0.out]
                        have HML : Hid (mvL f L J sc bs = evl f L) := by show mvL f L J sc bs = _; unfold mvL; rw [HEE.out, if_pos rfl]
                        have HMJ : Hid (mvJ f L J sc bs = adl (mvT f L J) J J.length) := by show mvJ f L J sc bs = _; unfold mvJ; rw [HEE.out, if_pos rfl]
                        clear HBS
                        go_upto_region 31 with (fail)
                        refine wp_region_lit ?_
                        refine ld25 HE.out.fs.ro rfl _ rfl rfl ?_
                        go_wp2_with (refine st25 HE.out.ze rfl _ _ rfl rfl rfl ?_)
                        refine bodyPost_ret (results_ro4 (p := 8) (t := 9) (u := 10) (v := 11) rfl _ _ (w.heap.size + 2) _ rfl (HE.out.ze.row _)) rfl ?_
                        refine ⟨⟨vl, vj, ?_, ?_, ?_, ?_⟩, setRow_below (by omega) HE.out.fs.bel _⟩
                        · rw [HMR.out, HEE.out]; rfl
                        · rw [HML.out, evl_length]
                          exact owns_wide (owns_type HRL.out HE.out.ze (by decide) _) (by omega)
                        · rw [HMJ.out]
                          exact owns_wide (owns_type HR.out HE.out.ze (by decide) _) (by omega)
                        · cases hv : vl.ownBlock with
                          | none => exact .inl rfl
                          | some q => exact .inr (row_far HR.out (HAP.out q hv))
  · have h1 : (ft f L J == 0) = false := by simp [hft]
    have HFT : Hid (¬ ft f L J = 0) := hft
    clear hft
    have HE : Hid (mvE f L J sc bs = ft f L J) := mvE_fit HFT.out
    go_wp2_with (refine st25 (g := fun _ => zE) hM2.ze rfl _ _ rfl rfl zero25' ?_)
    refine bodyPost_ret (results_ro4 (p := 8) (t := 9) (u := 10) (v := 11) rfl _ _ (w.heap.size + 2) (fun _ => zE) rfl (hM2.ze.row _)) rfl ?_
    exact ⟨MoveA.no HE.out HFT.out, setRow_below (by omega) hM2.fs.bel _⟩
end Go.Proofs.YteocfmimgoocnaaGreatDoor.Rs
/- Contracts: lists of seats that are read; the document's Same over them. -/
namespace Go.Proofs.YteocfmimgoocnaaGreatDoor.Rs
open Go.RowKit Go.Maps
set_option linter.unusedVariables false
set_option linter.unusedSimpArgs false

/- A list of seats that lies in memory. -/
def RdS (w : World) (a : Option Addr) (l : List (Int × Int)) : Prop := ∀ i, i < l.length → ∃ b, a = some ⟨b, 0, none⟩ ∧ w.cell? ⟨b, i * 2, none⟩ = some (.int .i64 (l.getD i (0, 0)).1) ∧ w.cell? ⟨b, i * 2 + 1, none⟩ = some (.int .i64 (l.getD i (0, 0)).2)
theorem RdS.later {w w' : World} {a : Option Addr} {l : List (Int × Int)} (h : RdS w a l) (hb : Below w.heap.size w w') : RdS w' a l := fun i hi => by
  obtain ⟨b, e, c0, c1⟩ := h i hi
  exact ⟨b, e, cell_later hb c0, cell_later hb c1⟩
theorem ps_get (l : List (Int × Int)) : ∀ i, i < l.length → (ps l)[i * 2]? = some (.int .i64 (l.getD i (0, 0)).1) ∧ (ps l)[i * 2 + 1]? = some (.int .i64 (l.getD i (0, 0)).2) := by
  induction l with
  | nil => intro i hi; cases hi
  | cons p l ih =>
    intro i hi
    have e : ps (p :: l) = .int .i64 p.1 :: .int .i64 p.2 :: ps l := rfl
    rw [e]
    cases i with
    | zero => exact ⟨rfl, rfl⟩
    | succ i =>
      have := ih i (by simpa using hi)
      rw [show (i + 1) * 2 = i * 2 + 1 + 1 by omega, show i * 2 + 1 + 1 + 1 = (i * 2 + 1) + 1 + 1 by omega]
      simpa using this
theorem owns_rd {W : World} {b : Nat} {v : Value} {l : List (Int × Int)} (h : W.ownsRow b 62 2 v l.length (ps l)) : ∃ a cap, v = .slice a l.length cap ∧ RdS W a l ∧ ∀ g o, a = some ⟨g, o, none⟩ → v.ownBlock = some g := by
  rcases h.2 with ⟨rfl, h0⟩ | ⟨g, cap, cur, rfl, h3, h4, h5, h6, h7, h8⟩
  · have : l = [] := List.length_eq_zero_iff.1 h0
    subst this
    exact ⟨none, 0, rfl, (fun i hi => by cases hi), fun g o e => by cases e⟩
  · refine ⟨some ⟨g, 0, none⟩, cap, rfl, fun i hi => ⟨g, rfl, ?_⟩, fun g' o e => by simp at e; simp [Value.ownBlock, e.1]⟩
    obtain ⟨p0, p1⟩ := ps_get l i hi
    have cell : ∀ j v, j < l.length * 2 → (ps l)[j]? = some v → W.cell? ⟨g, j, none⟩ = some v := fun j v hj hv => by
      rw [cell_of_row W g j _ _ _ h4, ← hv, ← h8, List.getElem?_take_of_lt hj]
      simp
    exact ⟨cell _ _ (by omega) p0, cell _ _ (by omega) p1⟩
set_option maxHeartbeats 400000 in
theorem sameS_none (a b : Option Addr) (c d : Nat) (w : World) :
    Calls Tryz.prog 19 #[.slice a 0 c, .slice b 0 d] w fun e w' => e = .returned (.bool true) ∧ Below w.heap.size w w' := by
  go_enter Tryz.func19, Tryz.ntmps19
  go_wp2_with fail
  go_loop [13] (fun i => i = .int .i64 0) (fun _ => 0)
  case atStart => rfl
  case round =>
    subst hrel
    go_wp2_with fail
    go_ret
    exact ⟨rfl, Below.refl _ _⟩
set_option maxRecDepth 100000 in
set_option maxHeartbeats 400000 in
theorem sameS_some (b c b' c' : Nat) (l : List (Int × Int)) (w : World) (hl : l.length < 4611686018427387904)
    (h1 : ∀ i, i < l.length → w.cell? ⟨b, i * 2, none⟩ = some (.int .i64 (l.getD i (0, 0)).1) ∧ w.cell? ⟨b, i * 2 + 1, none⟩ = some (.int .i64 (l.getD i (0, 0)).2))
    (h2 : ∀ i, i < l.length → w.cell? ⟨b', i * 2, none⟩ = some (.int .i64 (l.getD i (0, 0)).1) ∧ w.cell? ⟨b', i * 2 + 1, none⟩ = some (.int .i64 (l.getD i (0, 0)).2)) :
    Calls Tryz.prog 19 #[.slice (some ⟨b, 0, none⟩) l.length c, .slice (some ⟨b', 0, none⟩) l.length c'] w fun e w' => e = .returned (.bool true) ∧ Below w.heap.size w w' := by
  go_enter Tryz.func19, Tryz.ntmps19
  go_wp2_with fail
  go_loopw [13] (fun i wx => ∃ k : Nat, k ≤ l.length ∧ i = .int .i64 (k : Int) ∧ ∃ q, wx = w.drewN q) (fun i _ => l.length - (intOf i).toNat)
  case atStart => exact ⟨0, by omega, rfl, 0, rfl⟩
  case round =>
    obtain ⟨k, hk, rfl, q, rfl⟩ := hrel
    by_cases hkn : k < l.length
    · obtain ⟨c0, c1⟩ := h1 k hkn
      obtain ⟨d0, d1⟩ := h2 k hkn
      have e0 := cell_later (drewN_below w q) c0
      have e1 := cell_later (drewN_below w q) c1
      have f0 := cell_later (drewN_below w q) d0
      have f1 := cell_later (drewN_below w q) d1
      have i1 : (0 : Int) ≤ (k : Int) := by omega
      have i2 : (k : Int) < (l.length : Int) := by omega
      have HQ : Hid (∀ n, ∃ m, (w.drewN q).drewN n = w.drewN m) := fun n => ⟨q + n, by simp [World.drewN, Nat.add_assoc]⟩
      generalize (l.getD k (0, 0)).1 = x at *
      generalize (l.getD k (0, 0)).2 = y at *
      generalize w.drewN q = wq at *
      clear c0 c1 d0 d1 h1 h2
      go_wp2_with fail
      go_quiet (fail)
      go_wp2_with fail
      go_roundw
      case rel =>
        obtain ⟨m, hm⟩ := HQ.out nq
        exact ⟨k + 1, by omega, by go_num, m, hm⟩
      case measure => simp [intOf]; omega
    · obtain rfl : k = l.length := by omega
      have hdk : decide ((l.length : Int) < (l.length : Int)) = false := by simp
      go_wp2_with fail
      go_ret
      exact ⟨rfl, drewN_below w q⟩
theorem sameS_any (a a' : Option Addr) (c c' : Nat) (l : List (Int × Int)) (w : World) (hl : l.length < 4611686018427387904) (h1 : RdS w a l) (h2 : RdS w a' l) :
    Calls Tryz.prog 19 #[.slice a l.length c, .slice a' l.length c'] w fun e w' => e = .returned (.bool true) ∧ Below w.heap.size w w' := by
  cases l with
  | nil => exact sameS_none a a' c c' w
  | cons p l =>
    obtain ⟨b, rfl, _⟩ := h1 0 (by simp)
    obtain ⟨b', rfl, _⟩ := h2 0 (by simp)
    refine sameS_some b c b' c' (p :: l) w hl (fun i hi => ?_) fun i hi => ?_
    · obtain ⟨d, e, c0, c1⟩ := h1 i hi
      simp at e
      subst e
      exact ⟨c0, c1⟩
    · obtain ⟨d, e, c0, c1⟩ := h2 i hi
      simp at e
      subst e
      exact ⟨c0, c1⟩
end Go.Proofs.YteocfmimgoocnaaGreatDoor.Rs
/- Opening rosters, batches and cases that came in as arguments. -/
namespace Go.Proofs.YteocfmimgoocnaaGreatDoor.Rs
open Go.ChangeShapes Go.WideShapes Go.ChangeAt Go.RowKit Go.Joins Go.Deep
set_option linter.unusedVariables false
set_option maxRecDepth 20000
set_option linter.unusedSimpArgs false

/- The zero roster as data. -/
def roD {H : Type} : DataW H := .agg (List.replicate 64 (.agg [.lit (.int .i64 0), .lit (.int .i64 0), .lit (.int .i64 0)]))
theorem bytesI : Tryz.prog.bytesOf 3 = 8 := by kernel_rfl
theorem cellsI : Tryz.prog.cellsOf 3 = 1 := by kernel_rfl
theorem cellsSl : Tryz.prog.cellsOf 32 = 1 := by kernel_rfl
theorem cellsEn : Tryz.prog.cellsOf 27 = 3 := by kernel_rfl
theorem cellsRo : Tryz.prog.cellsOf 29 = 192 := by kernel_rfl
theorem cellsBt : Tryz.prog.cellsOf 34 = 2 := by kernel_rfl
theorem add_plain (b o i : Nat) : (⟨b, o, none⟩ : Addr).add i = ⟨b, o + i, none⟩ := by unfold Addr.add; split <;> simp_all
section
variable {H : Type} {enc : TypeId × Value → H} {W : World} {base : Nat} {spare : Nat → Bool} {held : Bool}
theorem ints_raw {fuel : Nat} {cs : List Value} {x : DataW H × List MemPlace} (hs : ∀ es sp, x.1 = .slice es sp → (es.length + sp.length) * 8 ≤ reachBytes) (hf : DataW.trod enc Tryz.prog W base spare held fuel 32 cs = some x) :
    ∃ (a : Option Addr) (cap : Nat) (ws : List Int), cs = [.slice a ws.length cap] ∧ RdI W a ws ∧ ws.length * 8 ≤ 140737488351232 := by
  rcases open_ints Tryz.underlying32 Tryz.underlying3 (by kernel_rfl) hf with ⟨rfl, _⟩ | ⟨a, len, cap, zs, rfl, _, hl, _, hm, hx, hc, _⟩
  · exact ⟨none, 0, [], rfl, RdI.nil _ _, by simp⟩
  · have hlm : len ≤ zs.length := by rw [hm]; split <;> omega
    have hlen : (zs.take len).length = len := by rw [List.length_take]; omega
    refine ⟨some a, cap, zs.take len, by rw [hlen], fun i hi => ?_, ?_⟩
    · have hi' : i < len := by rw [hlen] at hi; exact hi
      have c0 := hc i (by omega)
      obtain ⟨b, o, sp⟩ := a
      have hsp : sp = none := by simpa [Addr.add] using World.cell?_spot (hc 0 (by omega))
      subst hsp
      have e : (zs.take len).getD i 0 = zs.getD i 0 := by simp [hi']
      rw [e]
      rw [add_plain] at c0
      exact ⟨b, o, rfl, c0⟩
    · have h1 := hs (lits .i64 (zs.take len)) (lits .i64 (zs.drop len)) (by rw [hx])
      simp [lits, reachBytes] at h1
      rw [hlen]
      omega
theorem one_int {fuel : Nat} {cs : List Value} {x : DataW H × List MemPlace} (hf : DataW.trod enc Tryz.prog W base spare held fuel 3 cs = some x) : ∃ a : Int, cs = [.int .i64 a] ∧ (Lit.int .i64 a).wf = true := by
  obtain ⟨a, q, _, wa⟩ := DataW.trod_int Tryz.underlying3 hf
  exact ⟨a, q, wa⟩
theorem take_cell {cs : List Value} {k : Nat} {v : Value} (h : (cs.drop k).take 1 = [v]) : cs[k]? = some v := by
  have := congrArg (·[0]?) h
  simpa using this
set_option maxRecDepth 100000 in
theorem ro_raw {fuel : Nat} {cs : List Value} {x : DataW H × List MemPlace} (hf : DataW.trod enc Tryz.prog W base spare held fuel 29 cs = some x) :
    ∃ f : Nat → En, cs = (rcs f).toList ∧ ∀ i, i < 64 → (Lit.int .i64 (f i).who).wf = true ∧ (Lit.int .i64 (f i).bas).wf = true ∧ (Lit.int .i64 (f i).snc).wf = true := by
  obtain ⟨xs, m, _, _, hlen, hl, hx⟩ := DataW.trod_array Tryz.underlying29 hf
  rw [cellsRo] at hlen
  have each : ∀ i, i < 64 → ∃ e : En, (cs[i * 3]? = some (.int .i64 e.who) ∧ cs[i * 3 + 1]? = some (.int .i64 e.bas) ∧ cs[i * 3 + 2]? = some (.int .i64 e.snc)) ∧ (Lit.int .i64 e.who).wf = true ∧ (Lit.int .i64 e.bas).wf = true ∧ (Lit.int .i64 e.snc).wf = true := fun i hi => by
    have g := hx i hi
    rw [List.getElem?_eq_getElem (by omega), cellsEn] at g
    obtain ⟨y0, y1, y2, n, _, _, g0, g1, g2⟩ := trod_struct3 Tryz.underlying27 g
    obtain ⟨a, q0, wa⟩ := one_int g0
    obtain ⟨b, q1, wb⟩ := one_int g1
    obtain ⟨c, q2, wc⟩ := one_int g2
    rw [cellsI] at q0 q1 q2
    refine ⟨⟨a, b, c⟩, ⟨?_, ?_, ?_⟩, wa, wb, wc⟩
    · have := take_cell q0; simpa using this
    · have := take_cell q1; simpa using this
    · have := take_cell q2; simpa using this
  haveI : Inhabited En := ⟨zE⟩
  obtain ⟨f, hfs⟩ := choose_lt each
  refine ⟨f, ?_, fun i hi => (hfs i hi).2⟩
  apply List.ext_getElem?
  intro j
  rcases Nat.lt_or_ge j 192 with hj | hj
  · rw [show (rcs f).toList[j]? = (rcs f)[j]? by simp, rcs_at f j hj]
    obtain ⟨⟨c0, c1, c2⟩, _⟩ := hfs (j / 3) (by omega)
    have hr : j % 3 = 0 ∨ j % 3 = 1 ∨ j % 3 = 2 := by omega
    rcases hr with hr | hr | hr
    · rw [hr]; have e : j = j / 3 * 3 := by omega
      rw [← e] at c0; exact c0
    · rw [hr]; have e : j = j / 3 * 3 + 1 := by omega
      rw [← e] at c1; exact c1
    · rw [hr]; have e : j = j / 3 * 3 + 2 := by omega
      rw [← e] at c2; exact c2
  · rw [List.getElem?_eq_none (by omega), List.getElem?_eq_none (by simp; omega)]
theorem open_ro {r : Reach} {b0 : Nat} {v : Value} {d : DataW H} {ps : List MemPlace} (hv : Value.okWide Tryz.prog W r b0 29 v) (h : DataW.Trod enc Tryz.prog W base spare held 29 v d ps) :
    ∃ f : Nat → En, v = .agg (rcs f) ∧ ∀ i, i < 64 → (Lit.int .i64 (f i).who).wf = true ∧ (Lit.int .i64 (f i).bas).wf = true ∧ (Lit.int .i64 (f i).snc).wf = true := by
  unfold Value.okWide at hv
  rw [Tryz.underlying29 ] at hv
  obtain ⟨cs, rfl, _⟩ := hv
  obtain ⟨fuel, hf⟩ := h
  obtain ⟨f, h1, h2⟩ := ro_raw hf
  exact ⟨f, by rw [show cs = rcs f from Array.ext' h1], h2⟩
theorem sized_agg {P : Program} {ts : List TypeId} {ds : List (DataW H)} (h : (DataW.weightsEach P ts ds).all (· ≤ reachBytes) = true) {j : Nat} {t : TypeId} {parts : List (DataW H)} {fs : Array Field} (ht : ts[j]? = some t) (hd : ds[j]? = some (.agg parts)) (hu : P.underlying t = some (.struct fs)) :
    (DataW.weightsEach P (fs.toList.map (·.type)) parts).all (· ≤ reachBytes) = true := by
  rw [List.all_eq_true] at h ⊢
  intro n hn
  exact h n (DataW.weights_mem_each ht hd n (by simpa [DataW.weights, hu] using hn))
set_option maxRecDepth 100000 in
theorem bt_raw {fuel : Nat} {cs : List Value} {x : DataW H × List MemPlace} (hs : ∀ parts, x.1 = .agg parts → (DataW.weightsEach Tryz.prog [ 32, 32 ] parts).all (· ≤ reachBytes) = true) (hf : DataW.trod enc Tryz.prog W base spare held fuel 34 cs = some x) :
    ∃ (a a' : Option Addr) (c c' : Nat) (L J : List Int), cs = [.slice a L.length c, .slice a' J.length c'] ∧ RdI W a L ∧ RdI W a' J ∧ L.length * 8 ≤ 140737488351232 ∧ J.length * 8 ≤ 140737488351232 := by
  obtain ⟨y0, y1, n, hx, hl, h0, h1⟩ := trod_struct2 Tryz.underlying34 hf
  rw [cellsBt] at hl
  have hw := hs [y0.1, y1.1] (by rw [hx])
  match cs, hl with
  | [v0, v1], _ =>
    simp [cellsSl] at h0 h1
    obtain ⟨a, c, L, e0, r0, l0⟩ := ints_raw (fun es sp e => by have := sized_slice hw (j := 0) (t := 32) (e := 3) rfl (by rw [← e]; rfl) Tryz.underlying32; rw [bytesI] at this; exact this) h0
    obtain ⟨a', c', J, e1, r1, l1⟩ := ints_raw (fun es sp e => by have := sized_slice hw (j := 1) (t := 32) (e := 3) rfl (by rw [← e]; rfl) Tryz.underlying32; rw [bytesI] at this; exact this) h1
    simp at e0 e1
    exact ⟨a, a', c, c', L, J, by rw [e0, e1], r0, r1, l0, l1⟩
set_option maxRecDepth 100000 in
theorem open_bt {r : Reach} {b0 : Nat} {v : Value} {d : DataW H} {ps : List MemPlace} (hs : ∀ parts, d = .agg parts → (DataW.weightsEach Tryz.prog [ 32, 32 ] parts).all (· ≤ reachBytes) = true) (hv : Value.okWide Tryz.prog W r b0 34 v) (h : DataW.Trod enc Tryz.prog W base spare held 34 v d ps) :
    ∃ (a a' : Option Addr) (c c' : Nat) (L J : List Int), v = .agg #[.slice a L.length c, .slice a' J.length c'] ∧ RdI W a L ∧ RdI W a' J ∧ L.length * 8 ≤ 140737488351232 ∧ J.length * 8 ≤ 140737488351232 := by
  unfold Value.okWide at hv
  rw [Tryz.underlying34 ] at hv
  obtain ⟨cs, rfl, _⟩ := hv
  obtain ⟨fuel, hf⟩ := h
  obtain ⟨a, a', c, c', L, J, e, r0, r1, l0, l1⟩ := bt_raw hs hf
  exact ⟨a, a', c, c', L, J, by rw [show cs = #[.slice a L.length c, .slice a' J.length c'] from Array.ext' e], r0, r1, l0, l1⟩
theorem open_sl {v : Value} {d : DataW H} {ps : List MemPlace} (hs : ∀ es sp, d = .slice es sp → (es.length + sp.length) * 8 ≤ reachBytes) (hv : ∃ a len cap, v = .slice a len cap) (h : DataW.Trod enc Tryz.prog W base spare held 32 v d ps) :
    ∃ (a : Option Addr) (cap : Nat) (ws : List Int), v = .slice a ws.length cap ∧ RdI W a ws ∧ ws.length * 8 ≤ 140737488351232 := by
  obtain ⟨a0, len0, cap0, rfl⟩ := hv
  obtain ⟨fuel, hf⟩ := h
  obtain ⟨a, c, L, e, r, l⟩ := ints_raw hs hf
  simp [Value.cells] at e
  exact ⟨a, c, L, by rw [e.1, e.2.1, e.2.2], r, l⟩
end
end Go.Proofs.YteocfmimgoocnaaGreatDoor.Rs
/- Lists that are copied, lists that are written to, and what stays. -/
namespace Go.Proofs.YteocfmimgoocnaaGreatDoor.Rs
open Go.RowKit Go.Maps
set_option linter.unusedVariables false
set_option linter.unusedSimpArgs false

def i64s (l : List Int) : List Value := l.map fun n : Int => Value.int .i64 n
@[simp] theorem i64s_length (l : List Int) : (i64s l).length = l.length := by simp [i64s]
theorem i64s_one (l : List Int) : ∀ u ∈ i64s l, u.oneCell' = true := by
  intro u hu
  simp only [i64s, List.mem_map] at hu
  obtain ⟨_, _, rfl⟩ := hu
  rfl
theorem news_of_rd {w : World} {b o : Nat} {ws : List Int} (h : RdI w (some ⟨b, o, none⟩) ws) : ∀ j u, (i64s ws)[j]? = some u → w.cell? ((⟨b, o, none⟩ : Addr).add j) = some u := fun j u hu => by
  have hj : j < ws.length := by
    rcases Nat.lt_or_ge j (i64s ws).length with h' | h'
    · simpa using h'
    · rw [List.getElem?_eq_none h'] at hu; cases hu
  obtain ⟨b', o', e, c0⟩ := h j hj
  obtain ⟨eb, eo⟩ : b = b' ∧ o = o' := by simpa using e
  rw [← eb, ← eo] at c0
  rw [add_plain, c0]
  rw [← hu]
  simp [i64s, hj]
theorem rdi_of_row {w : World} {B g n cap : Nat} {ws : List Int} {ys : List Value} (h : w.ownsRow B 3 1 (.slice (some ⟨g, 0, none⟩) n cap) n (i64s ws ++ ys)) : RdI w (some ⟨g, 0, none⟩) ws := fun i hi => by
  have hl := h.1
  simp at hl
  refine ⟨g, 0, rfl, ?_⟩
  rw [Nat.zero_add, h.cellAt i (by omega), List.getElem?_append_left (by simpa using hi)]
  simp [i64s, hi]
theorem row_cap {w : World} {B g n cap : Nat} {xs : List Value} (h : w.ownsRow B 3 1 (.slice (some ⟨g, 0, none⟩) n cap) n xs) : n ≤ cap ∧ B ≤ g ∧ g < w.heap.size := by
  rcases h.2 with ⟨h0, _⟩ | ⟨g', cap', cur, h5, h3, h4, h6, _⟩
  · simp at h0
  · simp at h5
    obtain ⟨rfl, rfl⟩ := h5
    exact ⟨h6, h3, (Array.getElem?_eq_some_iff.1 h4).1⟩
theorem run_append_none_c {P : Program} {w : World} (base : Nat) (t ty e : TypeId) (i : TypeInfo) (size : Nat) (ht : P.underlying t = some (.slice e)) (hi : P.info? e = some i) (v : Value) (n : Nat) (xs : List Value) (hown : w.ownsRow base e size v n xs) (c : Nat) :
    (Builtin.append_ #[t, t] ty #[v, .slice none 0 c]).run P w = .ok v w := by
  rcases hown.2 with ⟨rfl, rfl⟩ | ⟨g, cap, cur, rfl, _, _, hnc, _⟩
  · simp [Builtin.append_, run_underlying ht, sizeOf, typeInfo, hi, Builtin.lenOf, Builtin.firstCells]
  · simp [Builtin.append_, run_underlying ht, sizeOf, typeInfo, hi, Builtin.lenOf, Builtin.firstCells, hnc, storeCells]
theorem append_rd {w : World} {ops : Array Oper} {rest : List Oper} {o : Oper} {a : Act} {Q : Exit → Act → World → Prop} (hgd : o.guard = none) (s x : Operand)
    (ho : o.op = .call { callee := .builtin .append, args := #[s, x], argTypes := #[ 32, 32 ] })
    (base : Nat) (v : Value) (n : Nat) (xs : List Value) (hs : a.eval s = v) (hown : w.ownsRow base 3 1 v n xs) (src : Option Addr) (c : Nat) (ws : List Int) (hx : a.eval x = .slice src ws.length c) (hrd : RdI w src ws)
    (h63 : n + ws.length ≤ maxLen) (hbytes : (n + ws.length) * 8 ≤ 140737488355328) (hbase : base ≤ w.heap.size)
    (h : ∀ v' w', w'.ownsRow base 3 1 v' (n + ws.length) (xs ++ i64s ws) → w.grownBy w' v.ownBlock → wpList Tryz.prog ops Q rest (a.put o.dst v') w') : wpList Tryz.prog ops Q (o :: rest) a w := by
  obtain ⟨i0, hi, hz0, hz1, hz2⟩ := info_parts infoInt
  cases src with
  | none =>
    have h0 : ws = [] := by
      cases ws with
      | nil => rfl
      | cons y r => obtain ⟨b, o, e, _⟩ := hrd 0 (by simp); cases e
    subst h0
    refine wpList_plain hgd fun K hK => ?_
    have hrun := run_append_none_c (P := Tryz.prog) (w := w) base 32 o.type 3 i0 1 Tryz.underlying32 hi v n xs hown c
    rw [List.length_nil] at hx
    unfold Oper.wp
    simp [execOp, ho, resolve, invoke, builtin, hs, hx, hrun, Result.andThen]
    exact hK _ _ (h v w (by simpa [i64s] using hown) (grown_refl _ _))
  | some ad =>
    refine wpList_append_own _ hgd s x 32 ho base 3 i0 _ 1 8 Tryz.underlying32 hi hz0 hz1 hz2 rfl (by decide) v n xs hs hown ad ws.length c (i64s ws) hx (by simp) ?_ (i64s_one _) h63 hbytes hbase fun v' w' h1 h2 _ => h v' w' h1 h2
    by_cases h0 : ws = []
    · intro j u hu
      rw [h0] at hu
      simp [i64s] at hu
    · obtain ⟨b, o', e, -⟩ := hrd.spot h0
      cases e
      exact news_of_rd hrd
/- A block of cells that may be written. -/
def Slot (W : World) (g : Nat) (t : TypeId) (n : Nat) : Prop := ∃ cs, W.heap[g]? = some (.cells cs t (0, 0)) ∧ n ≤ cs.size
theorem Slot.set {W : World} {g : Nat} {t : TypeId} {n : Nat} (h : Slot W g t n) (g' j : Nat) (u : Value) : Slot (W.setCell ⟨g', j, none⟩ u) g t n := by
  obtain ⟨cs, h1, h2⟩ := h
  by_cases e : g = g'
  · subst e
    exact ⟨_, row_setCell h1 j u, by simpa using h2⟩
  · exact ⟨cs, (other_setCell e j u).trans h1, h2⟩
theorem Slot.kept {W W' : World} {g : Nat} {t : TypeId} {n : Nat} (h : Slot W g t n) (he : W'.heap[g]? = W.heap[g]?) : Slot W' g t n := by
  obtain ⟨cs, h1, h2⟩ := h
  exact ⟨cs, he.trans h1, h2⟩
theorem Slot.lt {W : World} {g : Nat} {t : TypeId} {n : Nat} (h : Slot W g t n) : g < W.heap.size := by
  obtain ⟨cs, h1, h2⟩ := h
  exact (Array.getElem?_eq_some_iff.1 h1).1
theorem Slot.cell {W : World} {g : Nat} {t : TypeId} {n : Nat} (h : Slot W g t n) {j : Nat} (hj : j < n) : (∃ u, W.cell? ⟨g, j, none⟩ = some u) ∧ W.frozen? ⟨g, j, none⟩ = false := by
  obtain ⟨cs, h1, h2⟩ := h
  exact ⟨⟨cs[j]'(by omega), by rw [cell_of_row W g j _ _ _ h1]; exact Array.getElem?_eq_getElem (by omega)⟩, row_frozen h1 j⟩
theorem Slot.of_row {W : World} {b : Nat} {e : TypeId} {g n cap : Nat} {xs : List Value} (h : W.ownsRow b e 1 (.slice (some ⟨g, 0, none⟩) n cap) n xs) : Slot W g e n := by
  rcases h.2 with ⟨h0, _⟩ | ⟨g', cap', cur, h5, h3, h4, h6, h7, h8, _⟩
  · simp at h0
  · simp at h5
    obtain ⟨rfl, rfl⟩ := h5
    exact ⟨cur, h4, by omega⟩
theorem own_ge {W : World} {b : Nat} {e : TypeId} {sz : Nat} {v : Value} {n : Nat} {xs : List Value} (h : W.ownsRow b e sz v n xs) {g : Nat} (hg : v.ownBlock = some g) : b ≤ g ∧ g < W.heap.size := by
  rcases h.2 with ⟨rfl, _⟩ | ⟨g', cap, cur, rfl, h3, h4, _⟩
  · simp [Value.ownBlock] at hg
  · simp [Value.ownBlock] at hg
    subst hg
    exact ⟨h3, (Array.getElem?_eq_some_iff.1 h4).1⟩
theorem own_ne {W : World} {b : Nat} {e t : TypeId} {sz : Nat} {v : Value} {n m : Nat} {xs : List Value} (h : W.ownsRow b e sz v n xs) {g : Nat} (hs : Slot W g t m) (hne : e ≠ t) : v.ownBlock ≠ some g := fun hg => by
  rcases h.2 with ⟨rfl, _⟩ | ⟨g', cap, cur, rfl, h3, h4, _⟩
  · simp [Value.ownBlock] at hg
  · simp [Value.ownBlock] at hg
    subst hg
    obtain ⟨cs, h1, _⟩ := hs
    rw [h4] at h1
    simp at h1
    exact hne h1.2
theorem own_other {W W' : World} {b : Nat} {e : TypeId} {sz : Nat} {v : Value} {n : Nat} {xs : List Value} (h : W.ownsRow b e sz v n xs) (hk : ∀ g, v.ownBlock = some g → W'.heap[g]? = W.heap[g]?) : W'.ownsRow b e sz v n xs := by
  obtain ⟨h1, h2⟩ := h
  refine ⟨h1, ?_⟩
  rcases h2 with h2 | ⟨g, cap, cur, rfl, h3, h4, r⟩
  · exact .inl h2
  · exact .inr ⟨g, cap, cur, rfl, h3, (hk g (by simp [Value.ownBlock])).trans h4, r⟩
theorem own_set {W : World} {b : Nat} {e : TypeId} {sz : Nat} {v : Value} {n : Nat} {xs : List Value} (h : W.ownsRow b e sz v n xs) (g' j : Nat) (u : Value) : ∃ ys, (W.setCell ⟨g', j, none⟩ u).ownsRow b e sz v n ys := by
  rcases h.2 with ⟨rfl, h0⟩ | ⟨g, cap, cur, rfl, h3, h4, _⟩
  · exact ⟨xs, h.1, .inl ⟨rfl, h0⟩⟩
  · by_cases he : g = g'
    · subst he
      exact ⟨_, (h.stored j u).1⟩
    · refine ⟨xs, own_other h fun k hk => other_setCell ?_ j u⟩
      simp [Value.ownBlock] at hk
      subst hk
      exact he
theorem own_set_type {W : World} {b : Nat} {e t : TypeId} {sz : Nat} {v : Value} {n m : Nat} {xs : List Value} (h : W.ownsRow b e sz v n xs) {g' : Nat} (hs : Slot W g' t m) (hne : e ≠ t) (j : Nat) (u : Value) : (W.setCell ⟨g', j, none⟩ u).ownsRow b e sz v n xs :=
  own_other h fun k hk => other_setCell (fun he => own_ne h hs hne (by rw [hk, he])) j u
theorem own_cells {W : World} {b : Nat} {e : TypeId} {a : Option Addr} {n cap : Nat} {xs : List Value} (h : W.ownsRow b e 2 (.slice a n cap) n xs) {k : Nat} (hk : k < n) : ∃ g u0 u1, a = some ⟨g, 0, none⟩ ∧ W.cell? ⟨g, k * 2, none⟩ = some u0 ∧ W.cell? ⟨g, k * 2 + 1, none⟩ = some u1 ∧ W.frozen? ⟨g, k * 2, none⟩ = false ∧ W.frozen? ⟨g, k * 2 + 1, none⟩ = false := by
  rcases h.2 with ⟨h0, h00⟩ | ⟨g, cap', cur, h5, h3, h4, h6, h7, h8, _⟩
  · omega
  · simp at h5
    obtain ⟨rfl, rfl⟩ := h5
    exact ⟨g, cur[k * 2]'(by omega), cur[k * 2 + 1]'(by omega), rfl, by rw [cell_of_row W g _ _ _ _ h4]; exact Array.getElem?_eq_getElem (by omega), by rw [cell_of_row W g _ _ _ _ h4]; exact Array.getElem?_eq_getElem (by omega), row_frozen h4 _, row_frozen h4 _⟩
/- What stays, but for the blocks of P. -/
structure Ke (P : Nat → Prop) (V W : World) : Prop where
  size : V.heap.size ≤ W.heap.size
  block : ∀ k, k < V.heap.size → ¬ P k → W.heap[k]? = V.heap[k]?
theorem Ke.refl (P : Nat → Prop) (V : World) : Ke P V V := ⟨Nat.le_refl _, fun _ _ _ => rfl⟩
theorem Ke.set {P : Nat → Prop} {V W : World} (h : Ke P V W) {g : Nat} (hg : P g) (j : Nat) (u : Value) : Ke P V (W.setCell ⟨g, j, none⟩ u) :=
  ⟨by simpa using h.size, fun k hk hn => (other_setCell (fun e => hn (by rw [e]; exact hg)) j u).trans (h.block k hk hn)⟩
theorem Ke.grown {P : Nat → Prop} {V W W' : World} (h : Ke P V W) {o : Obj} {r : Option Nat} (hg : (W.alloc o).grownBy W' r) (hr : ∀ j, r = some j → j < V.heap.size → P j) : Ke P V W' := by
  have h1 := h.size
  have h2 := hg.size
  rw [World.size_alloc] at h2
  refine ⟨by omega, fun k hk hn => ?_⟩
  rw [hg.block k (by simp; omega) (fun e => hn (hr k e.symm hk))]
  exact (((Below.refl _ W).alloc (Nat.le_refl _) o).block k (by omega)).trans (h.block k hk hn)
theorem RdS.ke {P : Nat → Prop} {V W : World} {a : Option Addr} {l : List (Int × Int)} (h : RdS V a l) (hk : Ke P V W) (hne : ∀ b, a = some ⟨b, 0, none⟩ → ¬ P b) : RdS W a l := fun i hi => by
  obtain ⟨b, e, c0, c1⟩ := h i hi
  have hlt := World.block_lt_of_cell? V _ c0
  have hb := hk.block b hlt (hne b e)
  exact ⟨b, e, (World.cell?_of_block hb).trans c0, (World.cell?_of_block hb).trans c1⟩
/- Two rows of seats and two of numbers that are written to. -/
structure PA (w V W : World) (P : Nat → Prop) (s : Nat) (vl : Value) (NL : Nat) (Xl : List Value) (vj : Value) (NJ : Nat) (Xj : List Value) (ga gb nL nJ : Nat) : Prop where
  ke : Ke P V W
  bel : Below w.heap.size w W
  sa : Slot W ga 3 nL
  sb : Slot W gb 3 nJ
  ol : W.ownsRow s 62 2 vl NL Xl
  oj : W.ownsRow s 62 2 vj NJ Xj
  ap : vl.ownBlock = none ∨ vl.ownBlock ≠ vj.ownBlock
  ws : w.heap.size ≤ s
  wa : w.heap.size ≤ ga
  wb : w.heap.size ≤ gb
  vs : s ≤ V.heap.size
section
variable {w V W W' : World} {P : Nat → Prop} {s : Nat} {vl : Value} {NL : Nat} {Xl : List Value} {vj : Value} {NJ : Nat} {Xj : List Value} {ga gb nL nJ : Nat}
theorem PA.setS (h : PA w V W P s vl NL Xl vj NJ Xj ga gb nL nJ) {g : Nat} (hg : P g) (hw : w.heap.size ≤ g) (j : Nat) (u : Value) : ∃ Yl Yj, PA w V (W.setCell ⟨g, j, none⟩ u) P s vl NL Yl vj NJ Yj ga gb nL nJ := by
  obtain ⟨Yl, hl⟩ := own_set h.ol g j u
  obtain ⟨Yj, hj⟩ := own_set h.oj g j u
  exact ⟨Yl, Yj, h.ke.set hg j u, h.bel.setCell (p := ⟨g, j, none⟩) hw u, h.sa.set g j u, h.sb.set g j u, hl, hj, h.ap, h.ws, h.wa, h.wb, h.vs⟩
theorem PA.set2 (h : PA w V W P s vl NL Xl vj NJ Xj ga gb nL nJ) {g : Nat} (hg : P g) (hw : w.heap.size ≤ g) (j j' : Nat) (u u' : Value) : ∃ Yl Yj, PA w V ((W.setCell ⟨g, j, none⟩ u).setCell ⟨g, j', none⟩ u') P s vl NL Yl vj NJ Yj ga gb nL nJ := by
  obtain ⟨_, _, h1⟩ := h.setS hg hw j u
  exact h1.setS hg hw j' u'
theorem PA.setI (h : PA w V W P s vl NL Xl vj NJ Xj ga gb nL nJ) {g m : Nat} (hs : Slot W g 3 m) (hg : P g) (hw : w.heap.size ≤ g) (j : Nat) (u : Value) : PA w V (W.setCell ⟨g, j, none⟩ u) P s vl NL Xl vj NJ Xj ga gb nL nJ :=
  ⟨h.ke.set hg j u, h.bel.setCell (p := ⟨g, j, none⟩) hw u, h.sa.set g j u, h.sb.set g j u, own_set_type h.ol hs (by decide) j u, own_set_type h.oj hs (by decide) j u, h.ap, h.ws, h.wa, h.wb, h.vs⟩
theorem PA.appl {v' : Value} {n' : Nat} {X' : List Value} {o : Obj} (h : PA w V W P s vl NL Xl vj NJ Xj ga gb nL nJ) (hown : W'.ownsRow s 62 2 v' n' X') (hg : (W.alloc o).grownBy W' vl.ownBlock) (hat : v'.ownBlock = vl.ownBlock ∨ v'.ownBlock = some (W.alloc o).heap.size) (hP : ∀ g, vl.ownBlock = some g → g < V.heap.size → P g) : PA w V W' P s v' n' X' vj NJ Xj ga gb nL nJ := by
  have hs := h.ke.size
  have hv := h.vs
  have hw := h.ws
  have lt : ∀ g, g < W.heap.size → vl.ownBlock ≠ some g → W'.heap[g]? = W.heap[g]? := fun g hlt hne => by
    rw [hg.block g (by simp; omega) (fun e => hne e.symm)]
    exact ((Below.refl _ W).alloc (Nat.le_refl _) o).block g hlt
  have hj : W'.ownsRow s 62 2 vj NJ Xj := own_other h.oj fun g hgj => lt g (own_ge h.oj hgj).2 (fun e => by
    rcases h.ap with h0 | h0
    · rw [h0] at e; cases e
    · exact h0 (e.trans hgj.symm))
  refine ⟨h.ke.grown hg hP, ?_, h.sa.kept (lt _ h.sa.lt (own_ne h.ol h.sa (by decide))), h.sb.kept (lt _ h.sb.lt (own_ne h.ol h.sb (by decide))), hown, hj, ?_, hw, h.wa, h.wb, hv⟩
  · exact grown_bel h.bel h.ol hw hg
  · rcases hat with e | e
    · rw [e]; exact h.ap
    · refine .inr fun e2 => ?_
      rw [e] at e2
      have := (own_ge h.oj e2.symm).2
      simp at this
      omega
theorem PA.appj {v' : Value} {n' : Nat} {X' : List Value} {o : Obj} (h : PA w V W P s vl NL Xl vj NJ Xj ga gb nL nJ) (hown : W'.ownsRow s 62 2 v' n' X') (hg : (W.alloc o).grownBy W' vj.ownBlock) (hat : v'.ownBlock = vj.ownBlock ∨ v'.ownBlock = some (W.alloc o).heap.size) (hP : ∀ g, vj.ownBlock = some g → g < V.heap.size → P g) : PA w V W' P s vl NL Xl v' n' X' ga gb nL nJ := by
  have hs := h.ke.size
  have hv := h.vs
  have hw := h.ws
  have lt : ∀ g, g < W.heap.size → vj.ownBlock ≠ some g → W'.heap[g]? = W.heap[g]? := fun g hlt hne => by
    rw [hg.block g (by simp; omega) (fun e => hne e.symm)]
    exact ((Below.refl _ W).alloc (Nat.le_refl _) o).block g hlt
  have hl : W'.ownsRow s 62 2 vl NL Xl := own_other h.ol fun g hgj => lt g (own_ge h.ol hgj).2 (fun e => by
    rcases h.ap with h0 | h0
    · rw [h0] at hgj; cases hgj
    · exact h0 (hgj.trans e.symm))
  refine ⟨h.ke.grown hg hP, ?_, h.sa.kept (lt _ h.sa.lt (own_ne h.oj h.sa (by decide))), h.sb.kept (lt _ h.sb.lt (own_ne h.oj h.sb (by decide))), hl, hown, ?_, hw, h.wa, h.wb, hv⟩
  · exact grown_bel h.bel h.oj hw hg
  · rcases hat with e | e
    · rw [e]; exact h.ap
    · refine .inr fun e2 => ?_
      rw [e] at e2
      have := (own_ge h.ol e2).2
      simp at this
      omega
end
theorem row_last {W : World} {b : Nat} {e : TypeId} {v : Value} {n : Nat} {X : List Value} {x y : Value} (h : W.ownsRow b e 2 v (n + 1) (X ++ [x, y])) : ∃ g cap, v = .slice (some ⟨g, 0, none⟩) (n + 1) cap ∧ W.cell? ⟨g, n * 2, none⟩ = some x := by
  have hl := h.1
  simp at hl
  rcases h.2 with ⟨_, h0⟩ | ⟨g, cap, cur, rfl, h3, h4, _⟩
  · omega
  · refine ⟨g, cap, rfl, ?_⟩
    rw [h.cellAt (n * 2) (by omega), List.getElem?_append_right (by omega), show n * 2 - X.length = 0 by omega]
    rfl
theorem mvL_len (f : Nat → En) (L J : List Int) (sc bs : Int) (h : L.length * 8 ≤ 140737488351232) : (mvL f L J sc bs).length ≤ 256 := by
  unfold mvL
  split
  · rename_i h0
    rw [evl_length]
    exact Nat.le_trans (mvE_zero h0).1.lenL (by decide)
  · simp
theorem mvJ_len (f : Nat → En) (L J : List Int) (sc bs : Int) (h : J.length * 8 ≤ 140737488351232) : (mvJ f L J sc bs).length ≤ 1024 := by
  unfold mvJ
  split
  · rename_i h0
    rw [adl_length]
    have h1 := (mvE_zero h0).1.room
    have h2 := (mvE_zero h0).1.lenL
    omega
  · simp
end Go.Proofs.YteocfmimgoocnaaGreatDoor.Rs
/- Lists of pairs that came in as arguments (they may lie anywhere in a block). -/
namespace Go.Proofs.YteocfmimgoocnaaGreatDoor
open Go.RowKit Go.Maps
open Rs (RdS RdI ps evl cell_later)
set_option linter.unusedVariables false
set_option linter.unusedSimpArgs false

def RdP (w : World) (a : Option Addr) (l : List (Int × Int)) : Prop := ∀ i, i < l.length → ∃ b o, a = some ⟨b, o, none⟩ ∧ w.cell? ⟨b, o + i * 2, none⟩ = some (.int .i64 (l.getD i (0, 0)).1) ∧ w.cell? ⟨b, o + i * 2 + 1, none⟩ = some (.int .i64 (l.getD i (0, 0)).2)
theorem RdP.later {w w' : World} {a : Option Addr} {l : List (Int × Int)} (h : RdP w a l) (hb : Below w.heap.size w w') : RdP w' a l := fun i hi => by
  obtain ⟨b, o, e, c0, c1⟩ := h i hi
  exact ⟨b, o, e, cell_later hb c0, cell_later hb c1⟩
theorem ps_one (l : List (Int × Int)) : ∀ u ∈ ps l, u.oneCell' = true := by
  intro u hu
  unfold Rs.ps at hu
  rw [List.mem_flatMap] at hu
  obtain ⟨p, _, h⟩ := hu
  simp at h
  rcases h with rfl | rfl <;> rfl
/- A copy of such a list. -/
theorem ps_len (l : List (Int × Int)) : (ps l).length = l.length * 2 := by
  induction l with
  | nil => rfl
  | cons p l ih =>
    have e : ps (p :: l) = .int .i64 p.1 :: .int .i64 p.2 :: ps l := rfl
    rw [e]
    simp [ih]
    omega
theorem news_of_rdP {w : World} {b o : Nat} {ws : List (Int × Int)} (h : RdP w (some ⟨b, o, none⟩) ws) : ∀ j u, (ps ws)[j]? = some u → w.cell? ((⟨b, o, none⟩ : Addr).add j) = some u := fun j u hu => by
  have hj : j < ws.length * 2 := by
    rcases Nat.lt_or_ge j (ps ws).length with h' | h'
    · rw [ps_len] at h'; exact h'
    · rw [List.getElem?_eq_none h'] at hu; cases hu
  obtain ⟨b', o', e, c0, c1⟩ := h (j / 2) (by omega)
  obtain ⟨eb, eo⟩ : b = b' ∧ o = o' := by simpa using e
  rw [← eb, ← eo] at c0 c1
  obtain ⟨p0, p1⟩ := Rs.ps_get ws (j / 2) (by omega)
  rw [Rs.add_plain]
  rcases Nat.mod_two_eq_zero_or_one j with hr | hr
  · have e2 : j / 2 * 2 = j := by omega
    rw [e2] at p0
    rw [show o + j / 2 * 2 = o + j by omega] at c0
    rw [c0, ← p0, hu]
  · have e2 : j / 2 * 2 + 1 = j := by omega
    rw [e2] at p1
    rw [show o + j / 2 * 2 + 1 = o + j by omega] at c1
    rw [c1, ← p1, hu]
theorem run_append_none2 {P : Program} {w : World} (base : Nat) (t ty e : TypeId) (i : TypeInfo) (size : Nat) (ht : P.underlying t = some (.slice e)) (hi : P.info? e = some i) (v : Value) (n : Nat) (xs : List Value) (hown : w.ownsRow base e size v n xs) (c : Nat) :
    (Builtin.append_ #[t, t] ty #[v, .slice none 0 c]).run P w = .ok v w := by
  rcases hown.2 with ⟨rfl, rfl⟩ | ⟨g, cap, cur, rfl, _, _, hnc, _⟩
  · simp [Builtin.append_, run_underlying ht, sizeOf, typeInfo, hi, Builtin.lenOf, Builtin.firstCells]
  · simp [Builtin.append_, run_underlying ht, sizeOf, typeInfo, hi, Builtin.lenOf, Builtin.firstCells, hnc, storeCells]
theorem append_rdP {w : World} {ops : Array Oper} {rest : List Oper} {o : Oper} {a : Act} {Q : Exit → Act → World → Prop} (hgd : o.guard = none) (s x : Operand)
    (ho : o.op = .call { callee := .builtin .append, args := #[s, x], argTypes := #[ 36, 36 ] })
    (base : Nat) (v : Value) (n : Nat) (xs : List Value) (hs : a.eval s = v) (hown : w.ownsRow base 62 2 v n xs) (src : Option Addr) (c : Nat) (ws : List (Int × Int)) (hx : a.eval x = .slice src ws.length c) (hrd : RdP w src ws)
    (h63 : n + ws.length ≤ maxLen) (hbytes : (n + ws.length) * 16 ≤ 140737488355328) (hbase : base ≤ w.heap.size)
    (h : ∀ v' w', w'.ownsRow base 62 2 v' (n + ws.length) (xs ++ ps ws) → w.grownBy w' v.ownBlock → wpList Tryz.prog ops Q rest (a.put o.dst v') w') : wpList Tryz.prog ops Q (o :: rest) a w := by
  obtain ⟨i0, hi, hz0, hz1, hz2⟩ := Rs.infoSeat_parts
  cases src with
  | none =>
    have h0 : ws = [] := by
      cases ws with
      | nil => rfl
      | cons y r => obtain ⟨b, o, e, _⟩ := hrd 0 (by simp); cases e
    subst h0
    refine wpList_plain hgd fun K hK => ?_
    have hrun := run_append_none2 (P := Tryz.prog) (w := w) base 36 o.type 62 i0 2 Tryz.underlying36 hi v n xs hown c
    rw [List.length_nil] at hx
    unfold Oper.wp
    simp [execOp, ho, resolve, invoke, builtin, hs, hx, hrun, Result.andThen]
    exact hK _ _ (h v w (by simpa [Rs.ps] using hown) ⟨rfl, rfl, rfl, Nat.le_refl _, fun _ _ _ => rfl⟩)
  | some ad =>
    refine wpList_append_own _ hgd s x 36 ho base 62 i0 _ 2 16 Tryz.underlying36 hi hz0 hz1 hz2 rfl (by decide) v n xs hs hown ad ws.length c (ps ws) hx (by rw [ps_len]) ?_ (ps_one _) h63 hbytes hbase fun v' w' h1 h2 _ => h v' w' h1 h2
    by_cases h0 : ws = []
    · intro j u hu
      rw [h0] at hu
      simp [Rs.ps] at hu
    · obtain ⟨b, o', e, -⟩ := hrd 0 (List.length_pos_iff.2 h0)
      cases e
      exact news_of_rdP hrd
end Go.Proofs.YteocfmimgoocnaaGreatDoor
