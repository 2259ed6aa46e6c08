/- Contracts over lists of boxes: what keys and boxes give (the top's closed, follows). -/
import Derived.Test.YtedbnamekfgmhabDoorPlJ3
namespace Go.Proofs.YtedbnamekfgmhabDoor
open Go.RowKit Go.Maps
open Rt (Ky zK)
open Rs (RdS ps cell_later)
set_option linter.unusedVariables false
set_option linter.unusedSimpArgs false

def bcs (x : It) : List Value := [.int .i64 x.un.bas, .int .i64 x.un.stp, .int .i64 x.ld.bas, .int .i64 x.ld.stp]
def bsl (l : List It) : List Value := l.flatMap bcs
theorem bsl_snoc (l : List It) (x : It) : bsl (l ++ [x]) = bsl l ++ bcs x := by simp [bsl]
theorem bsl_len (l : List It) : (bsl l).length = l.length * 4 := by
  induction l with
  | nil => rfl
  | cons x l ih =>
    have e : bsl (x :: l) = bcs x ++ bsl l := rfl
    rw [e, List.length_append, ih, List.length_cons]
    show 4 + _ = _
    omega
theorem bsl_get : ∀ (l : List It) (i k : Nat), i < l.length → k < 4 → (bsl l)[i * 4 + k]? = (bcs (l.getD i ⟨0, 0, zK, zK⟩))[k]?
  | [], i, k, hi, _ => by cases hi
  | x :: l, 0, k, _, hk => by
    have e : bsl (x :: l) = bcs x ++ bsl l := rfl
    rw [e, Nat.zero_mul, Nat.zero_add, List.getElem?_append_left (by show k < 4; exact hk)]
    rfl
  | x :: l, i + 1, k, hi, hk => by
    have e : bsl (x :: l) = bcs x ++ bsl l := rfl
    rw [e, List.getElem?_append_right (by show 4 ≤ _; omega), show (i + 1) * 4 + k - (bcs x).length = i * 4 + k by show _ - 4 = _; omega, bsl_get l i k (by simpa using hi) hk]
    rfl
def RdX (w : World) (a : Option Addr) (l : List It) : Prop := ∀ i, i < l.length → ∃ b, a = some ⟨b, 0, none⟩ ∧ ∀ k v, (bcs (l.getD i ⟨0, 0, zK, zK⟩))[k]? = some v → w.cell? ⟨b, i * 4 + k, none⟩ = some v
theorem RdX.later {w w' : World} {a : Option Addr} {l : List It} (h : RdX w a l) (hb : Below w.heap.size w w') : RdX w' a l := fun i hi => by
  obtain ⟨b, e, hc⟩ := h i hi
  exact ⟨b, e, fun k v hv => cell_later hb (hc k v hv)⟩
theorem RdX.cells {w : World} {a : Option Addr} {l : List It} (h : RdX w a l) {i : Nat} (hi : i < l.length) {y : It} (hy : l.getD i ⟨0, 0, zK, zK⟩ = y) : ∃ b, a = some ⟨b, 0, none⟩ ∧ w.cell? ⟨b, i * 4, none⟩ = some (.int .i64 y.un.bas) ∧ w.cell? ⟨b, i * 4 + 1, none⟩ = some (.int .i64 y.un.stp) ∧ w.cell? ⟨b, i * 4 + 2, none⟩ = some (.int .i64 y.ld.bas) ∧ w.cell? ⟨b, i * 4 + 3, none⟩ = some (.int .i64 y.ld.stp) := by
  obtain ⟨b, e, hc⟩ := h i hi
  rw [hy] at hc
  exact ⟨b, e, hc 0 _ rfl, hc 1 _ rfl, hc 2 _ rfl, hc 3 _ rfl⟩
theorem owns_rdX {W : World} {b : Nat} {a : Option Addr} {cap : Nat} {l : List It} (h : W.ownsRow b 59 4 (.slice a l.length cap) l.length (bsl l)) : RdX W a l := fun i hi => by
  rcases h.2 with ⟨h0, h1⟩ | ⟨g, cap', cur, e, h3, h4, h5, h6, h7, h8⟩
  · omega
  · simp at e
    obtain ⟨rfl, rfl⟩ := e
    refine ⟨g, rfl, fun k v hv => ?_⟩
    have hk : k < 4 := by
      rcases Nat.lt_or_ge k 4 with c | c
      · exact c
      · rw [List.getElem?_eq_none (by show 4 ≤ k; exact c)] at hv; cases hv
    rw [h.cellAt (i * 4 + k) (by omega), bsl_get l i k hi hk]
    exact hv
set_option maxRecDepth 100000 in
set_option maxHeartbeats 4000000 in
theorem closed_any (a : Option Addr) (c : Nat) (ks : List (Int × Int)) (a' : Option Addr) (c' : Nat) (bx : List It) (w : World) (hl : ks.length ≤ 1000000000) (hl' : bx.length ≤ 1000000000) (hr : RdS w a ks) (hr' : RdX w a' bx) (hwk : ∀ k ∈ ks, Wi k.1 ∧ Wi k.2) (hwb : ∀ x ∈ bx, Wi x.un.bas ∧ Wi x.ld.bas ∧ Wi x.ld.stp) :
    Calls Tryd.prog 23 #[.slice a ks.length c, .slice a' bx.length c'] w fun e w' => DerP w w' ks bx e := by
  have hM0 : DM w (w.alloc (.map #[] 0)) w.heap.size 0 (fun _ => none) := ⟨Mh.new w, below_alloc _ _, Nat.le_refl _⟩
  have hS0 : Snd ks bx (fun _ => none) := ⟨fun I _ _ b s h => by cases h⟩
  have hmm := @run_makeMap Tryd.prog
  go_enter Tryd.func23, Tryd.ntmps23
  go_upto_region 2 with (fail)
  clear hmm
  generalize w.alloc (.map #[] 0) = w1 at *
  obtain ⟨b, hb⟩ : ∃ b, w.heap.size = b := ⟨_, rfl⟩
  rw [hb] at hM0
  rw [hb]
  clear hb
  have HM0 : Hid (DM w w1 b 0 (fun _ => none)) := hM0
  have HS0 : Hid (Snd ks bx (fun _ => none)) := hS0
  clear hM0 hS0
  go_wp2_with fail
  go_loopw [19] (fun i wx => ∃ (k n : Nat) (H : Int → Option Int), k ≤ ks.length ∧ i = .int .i64 (k : Int) ∧ n ≤ k ∧ DM w wx b n H ∧ Snd ks bx H ∧ HasTo ks k H) (fun i _ => ks.length - (intOf i).toNat)
  case atStart => exact ⟨0, 0, _, by omega, rfl, by omega, HM0.out, HS0.out, ⟨fun j hj => by omega⟩⟩
  case round =>
    obtain ⟨k, n, H, hk, rfl, hn, hM, hS, hH⟩ := hrel
    have HM : Hid (DM w wr b n H) := hM
    have HS : Hid (Snd ks bx H) := hS
    have HH : Hid (HasTo ks k H) := hH
    clear hM hS hH HM0 HS0
    by_cases hkN : k < ks.length
    · have i1 : (0 : Int) ≤ (k : Int) := by omega
      have i2 : (k : Int) < (ks.length : Int) := by omega
      obtain ⟨g, hal, hc0, hc1⟩ := (hr.later HM.out.bel) k hkN
      have HIN : Hid (ks.getD k (0, 0) ∈ ks) := getD_in hkN
      obtain ⟨p, hp⟩ : ∃ p, ks.getD k (0, 0) = p := ⟨_, rfl⟩
      have HP : Hid (ks.getD k (0, 0) = p) := hp
      rw [hp] at hc0 hc1 HIN
      obtain ⟨kb, kt⟩ := p
      obtain ⟨wb, wt⟩ := hwk _ HIN.out
      dsimp only at hc0 hc1 wb wt
      clear hp
      subst hal
      have HM1 : Hid (DM w (wr.alloc (.cells #[.int .i64 kb, .int .i64 kt] 23)) b n H) := HM.out.later (below_alloc _ _)
      have hmh := HM1.out.mh
      have hn62 : n < 4611686018427387904 := by omega
      rcases hH : H kb with _ | u
      · have hlk := look_no hmh wb hH
        have HLE : Hid (le1 H kb kt = false) := le1_none hH
        clear hH hmh
        go_wp2_with (refine HM1.out.mh.upd hn62 wb wt rfl _ _ _ rfl rfl rfl rfl ?_; intro w' hm' hg')
        go_roundw
        case rel => exact ⟨k + 1, n + 1, _, by omega, by go_num, by omega, HM1.out.upd hm' hg', HS.out.key (k := (kb, kt)) HIN.out, (HH.out.up HLE.out).one (by rw [HP.out]; exact le1_new _ _ _)⟩
        case measure => simp [intOf]; omega
      · have hlk := look_yes hmh wb hH
        by_cases hlt : kt < u
        · have hd : decide (kt < u) = true := decide_eq_true hlt
          have HLE : Hid (le1 H kb kt = false) := le1_no hH hlt
          clear hH hmh hlt
          go_wp2_with (refine HM1.out.mh.upd hn62 wb wt rfl _ _ _ rfl rfl rfl rfl ?_; intro w' hm' hg')
          go_roundw
          case rel => exact ⟨k + 1, n + 1, _, by omega, by go_num, by omega, HM1.out.upd hm' hg', HS.out.key (k := (kb, kt)) HIN.out, (HH.out.up HLE.out).one (by rw [HP.out]; exact le1_new _ _ _)⟩
          case measure => simp [intOf]; omega
        · have hd : decide (kt < u) = false := decide_eq_false hlt
          have HLE : Hid (le1 H kb kt = true) := le1_yes hH (by omega)
          clear hH hmh hlt
          go_wp2_with fail
          go_roundw
          case rel => exact ⟨k + 1, n, _, by omega, by go_num, by omega, HM1.out, HS.out, HH.out.one (by rw [HP.out]; exact HLE.out)⟩
          case measure => simp [intOf]; omega
    · obtain rfl : k = ks.length := by omega
      have hdk : decide ((ks.length : Int) < (ks.length : Int)) = false := by simp
      obtain ⟨K0, hK0⟩ : ∃ K0, n + ust bx H = K0 := ⟨_, rfl⟩
      have HK0 : Hid (K0 ≤ 2000000000) := by have := ust_le (bx := bx) (H := H); unfold Hid; omega
      have HR : Hid (n + ust bx H ≤ K0) := by unfold Hid; omega
      clear hK0
      go_wp2_with fail
      go_loopg [10] (2 * ust bx H + 1) (fun gk m wx => ∃ (n : Nat) (H : Int → Option Int) (mb : Bool), m = .bool mb ∧ DM w wx b n H ∧ n + ust bx H ≤ K0 ∧ Snd ks bx H ∧ HasTo ks ks.length H ∧ (mb = false → ShutTo bx bx.length H) ∧ gk = 2 * ust bx H + (if mb then 1 else 0))
      case atStart => exact ⟨n, H, true, rfl, HM.out, HR.out, HS.out, HH.out, fun e => (by cases e), rfl⟩
      case round =>
        obtain ⟨n, H, mb, rfl, hM, hR, hS, hH, hSh, rfl⟩ := hrel
        have HM2 : Hid (DM w wr b n H) := hM
        have HSH : Hid (mb = false → ShutTo bx bx.length H) := hSh
        have HP0 : Hid (Pass ks bx K0 n H 0 n H false) := ⟨hS, hH, hR, fun _ => ⟨rfl, rfl, ⟨fun j hj => by omega⟩⟩, fun e => (by cases e), Nat.le_refl _⟩
        clear hM hR hS hH hSh HM HR HS HH
        cases mb with
        | false =>
          have HSH2 : Hid (ShutTo bx bx.length H) := HSH.out rfl
          clear HSH
          go_wp2_with fail
          go_ret
          exact DerP.of HM2.out HP0.out.snd HP0.out.has HSH2.out
        | true =>
          go_wp2_with fail
          go_loopw [10, 47] (fun m i wx => ∃ (k n' : Nat) (G : Int → Option Int) (m' : Bool), k ≤ bx.length ∧ i = .int .i64 (k : Int) ∧ m = .bool m' ∧ DM w wx b n' G ∧ Pass ks bx K0 n H k n' G m') (fun _ i _ => bx.length - (intOf i).toNat)
          case atStart => exact ⟨0, n, H, false, by omega, rfl, rfl, HM2.out, HP0.out⟩
          case round =>
            obtain ⟨k, n', G, m', hk, rfl, rfl, hM, hP⟩ := hrel
            have HM : Hid (DM w wr b n' G) := hM
            have HP : Hid (Pass ks bx K0 n H k n' G m') := hP
            clear hM hP HM2 HP0
            by_cases hkN : k < bx.length
            · have i1 : (0 : Int) ≤ (k : Int) := by omega
              have i2 : (k : Int) < (bx.length : Int) := by omega
              obtain ⟨y, hy⟩ : ∃ y, bx.getD k ⟨0, 0, zK, zK⟩ = y := ⟨_, rfl⟩
              have HY : Hid (bx.getD k ⟨0, 0, zK, zK⟩ = y) := hy
              have hin : y ∈ bx := hy ▸ getD_in hkN
              obtain ⟨g, hal, x0, x1, x2, x3⟩ := (hr'.later HM.out.bel).cells hkN hy
              obtain ⟨wu, wb, wt⟩ := hwb y hin
              subst hal
              have HM1 : Hid (DM w (wr.alloc (.cells #[.int .i64 y.un.bas, .int .i64 y.un.stp, .int .i64 y.ld.bas, .int .i64 y.ld.stp] 59)) b n' G) := HM.out.later (below_alloc _ _)
              have hmh := HM1.out.mh
              have hn62 : n' < 4611686018427387904 := by have := HP.out.room; have := HK0.out; omega
              clear hy hin HM
              rcases hU : G y.un.bas with _ | u
              · have hlk := look_no hmh wu hU
                have HN : Hid (Pass ks bx K0 n H (k + 1) n' G m') := HP.out.skip HY.out (fun h => by rw [le1_none hU] at h; cases h)
                clear hU hmh
                go_wp2_with fail
                go_roundw
                case rel => exact ⟨k + 1, n', G, m', by omega, by go_num, rfl, HM1.out, HN.out⟩
                case measure => simp [intOf]; omega
              · have hlk := look_yes hmh wu hU
                by_cases hgt : y.un.stp < u
                · have hd : decide (y.un.stp < u) = true := decide_eq_true hgt
                  have HN : Hid (Pass ks bx K0 n H (k + 1) n' G m') := HP.out.skip HY.out (fun h => by rw [le1_no hU hgt] at h; cases h)
                  clear hU hmh hgt
                  go_wp2_with fail
                  go_roundw
                  case rel => exact ⟨k + 1, n', G, m', by omega, by go_num, rfl, HM1.out, HN.out⟩
                  case measure => simp [intOf]; omega
                · have hd : decide (y.un.stp < u) = false := decide_eq_false hgt
                  have HU : Hid (le1 G y.un.bas y.un.stp = true) := le1_yes hU (by omega)
                  clear hU hgt
                  rcases hL : G y.ld.bas with _ | s
                  · have hlk2 := look_no hmh wb hL
                    have HN : Hid (Pass ks bx K0 n H (k + 1) (n' + 1) (hup G y.ld.bas y.ld.stp) true) := HP.out.take hkN HY.out HU.out (le1_none hL)
                    clear hL hmh
                    go_wp2_with (refine HM1.out.mh.upd hn62 wb wt rfl _ _ _ rfl rfl rfl rfl ?_; intro w' hm' hg')
                    go_roundw
                    case rel => exact ⟨k + 1, n' + 1, _, true, by omega, by go_num, rfl, HM1.out.upd hm' hg', HN.out⟩
                    case measure => simp [intOf]; omega
                  · have hlk2 := look_yes hmh wb hL
                    by_cases hlt : y.ld.stp < s
                    · have hd2 : decide (y.ld.stp < s) = true := decide_eq_true hlt
                      have HN : Hid (Pass ks bx K0 n H (k + 1) (n' + 1) (hup G y.ld.bas y.ld.stp) true) := HP.out.take hkN HY.out HU.out (le1_no hL hlt)
                      clear hL hmh hlt
                      go_wp2_with (refine HM1.out.mh.upd hn62 wb wt rfl _ _ _ rfl rfl rfl rfl ?_; intro w' hm' hg')
                      go_roundw
                      case rel => exact ⟨k + 1, n' + 1, _, true, by omega, by go_num, rfl, HM1.out.upd hm' hg', HN.out⟩
                      case measure => simp [intOf]; omega
                    · have hd2 : decide (y.ld.stp < s) = false := decide_eq_false hlt
                      have HN : Hid (Pass ks bx K0 n H (k + 1) n' G m') := HP.out.skip HY.out (fun _ => le1_yes hL (by omega))
                      clear hL hmh hlt
                      go_wp2_with fail
                      go_roundw
                      case rel => exact ⟨k + 1, n', G, m', by omega, by go_num, rfl, HM1.out, HN.out⟩
                      case measure => simp [intOf]; omega
            · obtain rfl : k = bx.length := by omega
              have hdk : decide ((bx.length : Int) < (bx.length : Int)) = false := by simp
              have HLT : Hid (2 * ust bx G + (if m' then 1 else 0) < 2 * ust bx H + (if true then 1 else 0)) := by
                have h1 := HP.out.on
                have h2 := HP.out.off
                unfold Hid
                cases m' with
                | true => have := h1 rfl; simp; omega
                | false => rw [(h2 rfl).1]; simp
              go_wp2_with fail
              go_roundg (2 * ust bx G + (if m' then 1 else 0))
              case measure => exact HLT.out
              case rel => exact ⟨n', G, m', rfl, HM.out, HP.out.room, HP.out.snd, HP.out.has, fun e => (HP.out.off e).2.2, rfl⟩
set_option maxRecDepth 100000 in
theorem followT_any (w : World) (b n : Nat) (H : Int → Option Int) (hm : Mh w b n H) (kb kt : Int) (hw : Wi kb) : Calls Tryd.prog 25 #[.map (some b), .agg #[.int .i64 kb, .int .i64 kt] ] w fun e w' => e = .returned (.bool (le1 H kb kt)) ∧ Below w.heap.size w w' := by
  have hm1 := hm.later (below_alloc w (.cells #[.int .i64 kb, .int .i64 kt] 23))
  have hB : Below w.heap.size w (w.alloc (.cells #[.int .i64 kb, .int .i64 kt] 23)) := below_alloc _ _
  rcases hH : H kb with _ | u
  · have hlk := look_no hm1 hw hH
    rw [le1_none hH]
    clear hH hm1 hm
    go_enter Tryd.func25, Tryd.ntmps25
    go_wp2_with fail
    go_ret
    exact ⟨rfl, hB⟩
  · have hlk := look_yes hm1 hw hH
    by_cases hle : u ≤ kt
    · have hd : decide (u ≤ kt) = true := decide_eq_true hle
      rw [le1_yes hH hle]
      clear hH hm1 hm hle
      go_enter Tryd.func25, Tryd.ntmps25
      go_wp2_with fail
      go_ret
      exact ⟨rfl, hB⟩
    · have hd : decide (u ≤ kt) = false := decide_eq_false hle
      rw [le1_no hH (by omega)]
      clear hH hm1 hm hle
      go_enter Tryd.func25, Tryd.ntmps25
      go_wp2_with fail
      go_ret
      exact ⟨rfl, hB⟩
end Go.Proofs.YtedbnamekfgmhabDoor
