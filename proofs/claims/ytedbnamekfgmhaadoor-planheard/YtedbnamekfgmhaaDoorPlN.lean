/- Contracts: derived, known. -/
import Derived.Test.YtedbnamekfgmhaaDoorPlM
namespace Go.Proofs.YtedbnamekfgmhaaDoor
open Go.RowKit Go.Maps
open Rt (Ky zK)
open Rs (RdS ps)
set_option linter.unusedVariables false
set_option linter.unusedSimpArgs false

def Wi (x : Int) : Prop := (Lit.int .i64 x).wf = true
structure DM (w W : World) (b n : Nat) (H : Int → Option Int) : Prop where
  mh : Mh W b n H
  bel : Below w.heap.size w W
  ge : w.heap.size ≤ b
theorem DM.later {w W W' : World} {b n : Nat} {H : Int → Option Int} (h : DM w W b n H) (hb : Below W.heap.size W W') : DM w W' b n H := ⟨h.mh.later hb, h.bel.trans (hb.mono h.bel.size), h.ge⟩
theorem DM.upd {w W W' : World} {b n : Nat} {H G : Int → Option Int} (h : DM w W b n H) (hm : Mh W' b (n + 1) G) (hg : W.grownBy W' (some b)) : DM w W' b (n + 1) G :=
  ⟨hm, Below.grown h.bel hg h.bel.size (fun k hk => by cases hk; exact h.ge), h.ge⟩
theorem look_no {W : World} {b n : Nat} {H : Int → Option Int} (h : Mh W b n H) {x : Int} (hx : Wi x) (e : H x = none) : (Instr.lookup 54 (.map (some b)) (.int .i64 x) true).run Tryd.prog W = .ok (.tuple #[.int .i64 0, .bool false]) W := by
  have := h.look hx
  rw [e] at this
  exact this
theorem look_yes {W : World} {b n : Nat} {H : Int → Option Int} (h : Mh W b n H) {x s : Int} (hx : Wi x) (e : H x = some s) : (Instr.lookup 54 (.map (some b)) (.int .i64 x) true).run Tryd.prog W = .ok (.tuple #[.int .i64 s, .bool true]) W := by
  have := h.look hx
  rw [e] at this
  exact this
theorem le1_none {H : Int → Option Int} {b s : Int} (e : H b = none) : le1 H b s = false := by unfold le1; rw [e]; rfl
theorem le1_yes {H : Int → Option Int} {b s u : Int} (e : H b = some u) (h : u ≤ s) : le1 H b s = true := le1_iff.2 ⟨u, e, h⟩
theorem le1_no {H : Int → Option Int} {b s u : Int} (e : H b = some u) (h : s < u) : le1 H b s = false := by
  unfold le1
  rw [e]
  simp
  omega
theorem ItAt.cells {w : World} {B : Nat} {x : It} (h : ItAt w B x) : w.cell? ⟨B, 0, none⟩ = some (.int .i64 x.nd) ∧ w.cell? ⟨B, 1, none⟩ = some (.int .i64 x.fm) ∧ w.cell? ⟨B, 2, none⟩ = some (.int .i64 x.un.bas) ∧ w.cell? ⟨B, 3, none⟩ = some (.int .i64 x.un.stp) ∧ w.cell? ⟨B, 4, none⟩ = some (.int .i64 x.ld.bas) ∧ w.cell? ⟨B, 5, none⟩ = some (.int .i64 x.ld.stp) :=
  ⟨cell_of_row w B 0 _ _ _ h, cell_of_row w B 1 _ _ _ h, cell_of_row w B 2 _ _ _ h, cell_of_row w B 3 _ _ _ h, cell_of_row w B 4 _ _ _ h, cell_of_row w B 5 _ _ _ h⟩
theorem ItAt.later {w w' : World} {B : Nat} {x : It} (h : ItAt w B x) (hb : Below w.heap.size w w') : ItAt w' B x := (hb.block B (Array.getElem?_eq_some_iff.1 h).1).trans h
structure HasTo (ks : List (Int × Int)) (k : Nat) (H : Int → Option Int) : Prop where
  all : ∀ j, j < k → le1 H (ks.getD j (0, 0)).1 (ks.getD j (0, 0)).2 = true
theorem HasTo.up {ks : List (Int × Int)} {k : Nat} {H : Int → Option Int} (h : HasTo ks k H) {b s : Int} (hn : le1 H b s = false) : HasTo ks k (hup H b s) := ⟨fun j hj => le1_up (h.all j hj) hn⟩
theorem HasTo.one {ks : List (Int × Int)} {k : Nat} {H : Int → Option Int} (h : HasTo ks k H) (h1 : le1 H (ks.getD k (0, 0)).1 (ks.getD k (0, 0)).2 = true) : HasTo ks (k + 1) H := ⟨fun j hj => by
  rcases Nat.lt_or_ge j k with c | c
  · exact h.all j c
  · obtain rfl : j = k := by omega
    exact h1⟩
theorem getD_in {α : Type} {l : List α} {k : Nat} {d : α} (h : k < l.length) : l.getD k d ∈ l := by
  rw [List.getD_eq_getElem?_getD, List.getElem?_eq_getElem h]
  exact List.getElem_mem _
structure ShutTo (bx : List It) (k : Nat) (H : Int → Option Int) : Prop where
  all : ∀ j, j < k → le1 H (bx.getD j ⟨0, 0, zK, zK⟩).un.bas (bx.getD j ⟨0, 0, zK, zK⟩).un.stp = true → le1 H (bx.getD j ⟨0, 0, zK, zK⟩).ld.bas (bx.getD j ⟨0, 0, zK, zK⟩).ld.stp = true
theorem ShutTo.one {bx : List It} {k : Nat} {H : Int → Option Int} (h : ShutTo bx k H) {y : It} (hy : bx.getD k ⟨0, 0, zK, zK⟩ = y) (h1 : le1 H y.un.bas y.un.stp = true → le1 H y.ld.bas y.ld.stp = true) : ShutTo bx (k + 1) H := ⟨fun j hj => by
  rcases Nat.lt_or_ge j k with c | c
  · exact h.all j c
  · obtain rfl : j = k := by omega
    rw [hy]
    exact h1⟩
/- What stands in a pass: the map as it was at its beginning, or nearer the end. -/
structure Pass (ks : List (Int × Int)) (bx : List It) (K0 : Nat) (n0 : Nat) (H0 : Int → Option Int) (k n : Nat) (H : Int → Option Int) (m : Bool) : Prop where
  snd : Snd ks bx H
  has : HasTo ks ks.length H
  room : n + ust bx H ≤ K0
  off : m = false → H = H0 ∧ n = n0 ∧ ShutTo bx k H
  on : m = true → ust bx H < ust bx H0
  le : ust bx H ≤ ust bx H0
theorem Pass.skip {ks : List (Int × Int)} {bx : List It} {K0 n0 : Nat} {H0 : Int → Option Int} {k n : Nat} {H : Int → Option Int} {m : Bool} (h : Pass ks bx K0 n0 H0 k n H m) {y : It} (hy : bx.getD k ⟨0, 0, zK, zK⟩ = y) (h1 : le1 H y.un.bas y.un.stp = true → le1 H y.ld.bas y.ld.stp = true) : Pass ks bx K0 n0 H0 (k + 1) n H m :=
  ⟨h.snd, h.has, h.room, fun e => ⟨(h.off e).1, (h.off e).2.1, (h.off e).2.2.one hy h1⟩, h.on, h.le⟩
theorem Pass.take {ks : List (Int × Int)} {bx : List It} {K0 n0 : Nat} {H0 : Int → Option Int} {k n : Nat} {H : Int → Option Int} {m : Bool} (h : Pass ks bx K0 n0 H0 k n H m) {y : It} (hk : k < bx.length) (hy : bx.getD k ⟨0, 0, zK, zK⟩ = y) (h1 : le1 H y.un.bas y.un.stp = true) (h2 : le1 H y.ld.bas y.ld.stp = false) : Pass ks bx K0 n0 H0 (k + 1) (n + 1) (hup H y.ld.bas y.ld.stp) true := by
  have hin : y ∈ bx := hy ▸ getD_in hk
  have hlt : ust bx (hup H y.ld.bas y.ld.stp) < ust bx H := ust_lt bx (fun b s hb => le1_up hb h2) y hin h2 (le1_new _ _ _)
  have := h.room
  have := h.le
  exact ⟨h.snd.box hin h1, h.has.up h2, by omega, fun e => (by cases e), fun _ => by omega, by omega⟩
def DerP (w w' : World) (ks : List (Int × Int)) (bx : List It) (e : Ending) : Prop := ∃ b n H, e = .returned (.map (some b)) ∧ DM w w' b n H ∧ Clos ks bx H
theorem mem_all {α : Type} {l : List α} {d : α} {P : α → Prop} (h : ∀ j, j < l.length → P (l.getD j d)) : ∀ x ∈ l, P x := fun x hx => by
  obtain ⟨j, hj, e⟩ := List.mem_iff_getElem.1 hx
  have := h j hj
  rw [List.getD_eq_getElem?_getD, List.getElem?_eq_getElem hj, Option.getD_some, e] at this
  exact this
theorem DerP.of {w w' : World} {ks : List (Int × Int)} {bx : List It} {b n : Nat} {H : Int → Option Int} (h : DM w w' b n H) (h1 : Snd ks bx H) (h2 : HasTo ks ks.length H) (h3 : ShutTo bx bx.length H) : DerP w w' ks bx (.returned (.map (some b))) :=
  ⟨b, n, H, rfl, h, h1, mem_all h2.all, mem_all h3.all⟩
set_option maxRecDepth 100000 in
set_option maxHeartbeats 4000000 in
theorem derived_any (a : Option Addr) (c : Nat) (ks : List (Int × Int)) (a' : Option Addr) (c' : Nat) (bx : List It) (w : World) (hl : ks.length ≤ 1000000000) (hl' : bx.length ≤ 1000000000) (hr : RdS w a ks) (hr' : RdT w a' bx) (hwk : ∀ k ∈ ks, Wi k.1 ∧ Wi k.2) (hwb : ∀ x ∈ bx, Wi x.un.bas ∧ Wi x.ld.bas ∧ Wi x.ld.stp) :
    Calls Tryd.prog 23 #[.slice a ks.length c, .slice a' bx.length c'] w fun e w' => DerP w w' ks bx e := by
  have hM0 : DM w (w.alloc (.map #[] 0)) w.heap.size 0 (fun _ => none) := ⟨Mh.new w, below_alloc _ _, Nat.le_refl _⟩
  have hS0 : Snd ks bx (fun _ => none) := ⟨fun I _ _ b s h => by cases h⟩
  have hmm := @run_makeMap Tryd.prog
  go_enter Tryd.func23, Tryd.ntmps23
  go_upto_region 2 with (fail)
  clear hmm
  generalize w.alloc (.map #[] 0) = w1 at *
  obtain ⟨b, hb⟩ : ∃ b, w.heap.size = b := ⟨_, rfl⟩
  rw [hb] at hM0
  rw [hb]
  clear hb
  have HM0 : Hid (DM w w1 b 0 (fun _ => none)) := hM0
  have HS0 : Hid (Snd ks bx (fun _ => none)) := hS0
  clear hM0 hS0
  go_wp2_with fail
  go_loopw [19] (fun i wx => ∃ (k n : Nat) (H : Int → Option Int), k ≤ ks.length ∧ i = .int .i64 (k : Int) ∧ n ≤ k ∧ DM w wx b n H ∧ Snd ks bx H ∧ HasTo ks k H) (fun i _ => ks.length - (intOf i).toNat)
  case atStart => exact ⟨0, 0, _, by omega, rfl, by omega, HM0.out, HS0.out, ⟨fun j hj => by omega⟩⟩
  case round =>
    obtain ⟨k, n, H, hk, rfl, hn, hM, hS, hH⟩ := hrel
    have HM : Hid (DM w wr b n H) := hM
    have HS : Hid (Snd ks bx H) := hS
    have HH : Hid (HasTo ks k H) := hH
    clear hM hS hH HM0 HS0
    by_cases hkN : k < ks.length
    · have i1 : (0 : Int) ≤ (k : Int) := by omega
      have i2 : (k : Int) < (ks.length : Int) := by omega
      obtain ⟨g, hal, hc0, hc1⟩ := (hr.later HM.out.bel) k hkN
      have HIN : Hid (ks.getD k (0, 0) ∈ ks) := getD_in hkN
      obtain ⟨p, hp⟩ : ∃ p, ks.getD k (0, 0) = p := ⟨_, rfl⟩
      have HP : Hid (ks.getD k (0, 0) = p) := hp
      rw [hp] at hc0 hc1 HIN
      obtain ⟨kb, kt⟩ := p
      obtain ⟨wb, wt⟩ := hwk _ HIN.out
      dsimp only at hc0 hc1 wb wt
      clear hp
      subst hal
      have HM1 : Hid (DM w (wr.alloc (.cells #[.int .i64 kb, .int .i64 kt] 23)) b n H) := HM.out.later (below_alloc _ _)
      have hmh := HM1.out.mh
      have hn62 : n < 4611686018427387904 := by omega
      rcases hH : H kb with _ | u
      · have hlk := look_no hmh wb hH
        have HLE : Hid (le1 H kb kt = false) := le1_none hH
        clear hH hmh
        go_wp2_with (refine HM1.out.mh.upd hn62 wb wt rfl _ _ _ rfl rfl rfl rfl ?_; intro w' hm' hg')
        go_roundw
        case rel => exact ⟨k + 1, n + 1, _, by omega, by go_num, by omega, HM1.out.upd hm' hg', HS.out.key (k := (kb, kt)) HIN.out, (HH.out.up HLE.out).one (by rw [HP.out]; exact le1_new _ _ _)⟩
        case measure => simp [intOf]; omega
      · have hlk := look_yes hmh wb hH
        by_cases hlt : kt < u
        · have hd : decide (kt < u) = true := decide_eq_true hlt
          have HLE : Hid (le1 H kb kt = false) := le1_no hH hlt
          clear hH hmh hlt
          go_wp2_with (refine HM1.out.mh.upd hn62 wb wt rfl _ _ _ rfl rfl rfl rfl ?_; intro w' hm' hg')
          go_roundw
          case rel => exact ⟨k + 1, n + 1, _, by omega, by go_num, by omega, HM1.out.upd hm' hg', HS.out.key (k := (kb, kt)) HIN.out, (HH.out.up HLE.out).one (by rw [HP.out]; exact le1_new _ _ _)⟩
          case measure => simp [intOf]; omega
        · have hd : decide (kt < u) = false := decide_eq_false hlt
          have HLE : Hid (le1 H kb kt = true) := le1_yes hH (by omega)
          clear hH hmh hlt
          go_wp2_with fail
          go_roundw
          case rel => exact ⟨k + 1, n, _, by omega, by go_num, by omega, HM1.out, HS.out, HH.out.one (by rw [HP.out]; exact HLE.out)⟩
          case measure => simp [intOf]; omega
    · obtain rfl : k = ks.length := by omega
      have hdk : decide ((ks.length : Int) < (ks.length : Int)) = false := by simp
      obtain ⟨K0, hK0⟩ : ∃ K0, n + ust bx H = K0 := ⟨_, rfl⟩
      have HK0 : Hid (K0 ≤ 2000000000) := by have := ust_le (bx := bx) (H := H); unfold Hid; omega
      have HR : Hid (n + ust bx H ≤ K0) := by unfold Hid; omega
      clear hK0
      go_wp2_with fail
      go_loopg [10] (2 * ust bx H + 1) (fun gk m wx => ∃ (n : Nat) (H : Int → Option Int) (mb : Bool), m = .bool mb ∧ DM w wx b n H ∧ n + ust bx H ≤ K0 ∧ Snd ks bx H ∧ HasTo ks ks.length H ∧ (mb = false → ShutTo bx bx.length H) ∧ gk = 2 * ust bx H + (if mb then 1 else 0))
      case atStart => exact ⟨n, H, true, rfl, HM.out, HR.out, HS.out, HH.out, fun e => (by cases e), rfl⟩
      case round =>
        obtain ⟨n, H, mb, rfl, hM, hR, hS, hH, hSh, rfl⟩ := hrel
        have HM2 : Hid (DM w wr b n H) := hM
        have HSH : Hid (mb = false → ShutTo bx bx.length H) := hSh
        have HP0 : Hid (Pass ks bx K0 n H 0 n H false) := ⟨hS, hH, hR, fun _ => ⟨rfl, rfl, ⟨fun j hj => by omega⟩⟩, fun e => (by cases e), Nat.le_refl _⟩
        clear hM hR hS hH hSh HM HR HS HH
        cases mb with
        | false =>
          have HSH2 : Hid (ShutTo bx bx.length H) := HSH.out rfl
          clear HSH
          go_wp2_with fail
          go_ret
          exact DerP.of HM2.out HP0.out.snd HP0.out.has HSH2.out
        | true =>
          go_wp2_with fail
          go_loopw [10, 47] (fun m i wx => ∃ (k n' : Nat) (G : Int → Option Int) (m' : Bool), k ≤ bx.length ∧ i = .int .i64 (k : Int) ∧ m = .bool m' ∧ DM w wx b n' G ∧ Pass ks bx K0 n H k n' G m') (fun _ i _ => bx.length - (intOf i).toNat)
          case atStart => exact ⟨0, n, H, false, by omega, rfl, rfl, HM2.out, HP0.out⟩
          case round =>
            obtain ⟨k, n', G, m', hk, rfl, rfl, hM, hP⟩ := hrel
            have HM : Hid (DM w wr b n' G) := hM
            have HP : Hid (Pass ks bx K0 n H k n' G m') := hP
            clear hM hP HM2 HP0
            by_cases hkN : k < bx.length
            · have i1 : (0 : Int) ≤ (k : Int) := by omega
              have i2 : (k : Int) < (bx.length : Int) := by omega
              obtain ⟨y, hy⟩ : ∃ y, bx.getD k ⟨0, 0, zK, zK⟩ = y := ⟨_, rfl⟩
              have HY : Hid (bx.getD k ⟨0, 0, zK, zK⟩ = y) := hy
              have hin : y ∈ bx := hy ▸ getD_in hkN
              obtain ⟨g, hal, x0, x1, x2, x3, x4, x5⟩ := (hr'.later HM.out.bel).cells hkN hy
              obtain ⟨wu, wb, wt⟩ := hwb y hin
              subst hal
              have HM1 : Hid (DM w (wr.alloc (.cells #[.int .i64 y.nd, .int .i64 y.fm, .int .i64 y.un.bas, .int .i64 y.un.stp, .int .i64 y.ld.bas, .int .i64 y.ld.stp] 70)) b n' G) := HM.out.later (below_alloc _ _)
              have hmh := HM1.out.mh
              have hn62 : n' < 4611686018427387904 := by have := HP.out.room; have := HK0.out; omega
              clear hy hin HM
              rcases hU : G y.un.bas with _ | u
              · have hlk := look_no hmh wu hU
                have HN : Hid (Pass ks bx K0 n H (k + 1) n' G m') := HP.out.skip HY.out (fun h => by rw [le1_none hU] at h; cases h)
                clear hU hmh
                go_wp2_with fail
                go_roundw
                case rel => exact ⟨k + 1, n', G, m', by omega, by go_num, rfl, HM1.out, HN.out⟩
                case measure => simp [intOf]; omega
              · have hlk := look_yes hmh wu hU
                by_cases hgt : y.un.stp < u
                · have hd : decide (y.un.stp < u) = true := decide_eq_true hgt
                  have HN : Hid (Pass ks bx K0 n H (k + 1) n' G m') := HP.out.skip HY.out (fun h => by rw [le1_no hU hgt] at h; cases h)
                  clear hU hmh hgt
                  go_wp2_with fail
                  go_roundw
                  case rel => exact ⟨k + 1, n', G, m', by omega, by go_num, rfl, HM1.out, HN.out⟩
                  case measure => simp [intOf]; omega
                · have hd : decide (y.un.stp < u) = false := decide_eq_false hgt
                  have HU : Hid (le1 G y.un.bas y.un.stp = true) := le1_yes hU (by omega)
                  clear hU hgt
                  rcases hL : G y.ld.bas with _ | s
                  · have hlk2 := look_no hmh wb hL
                    have HN : Hid (Pass ks bx K0 n H (k + 1) (n' + 1) (hup G y.ld.bas y.ld.stp) true) := HP.out.take hkN HY.out HU.out (le1_none hL)
                    clear hL hmh
                    go_wp2_with (refine HM1.out.mh.upd hn62 wb wt rfl _ _ _ rfl rfl rfl rfl ?_; intro w' hm' hg')
                    go_roundw
                    case rel => exact ⟨k + 1, n' + 1, _, true, by omega, by go_num, rfl, HM1.out.upd hm' hg', HN.out⟩
                    case measure => simp [intOf]; omega
                  · have hlk2 := look_yes hmh wb hL
                    by_cases hlt : y.ld.stp < s
                    · have hd2 : decide (y.ld.stp < s) = true := decide_eq_true hlt
                      have HN : Hid (Pass ks bx K0 n H (k + 1) (n' + 1) (hup G y.ld.bas y.ld.stp) true) := HP.out.take hkN HY.out HU.out (le1_no hL hlt)
                      clear hL hmh hlt
                      go_wp2_with (refine HM1.out.mh.upd hn62 wb wt rfl _ _ _ rfl rfl rfl rfl ?_; intro w' hm' hg')
                      go_roundw
                      case rel => exact ⟨k + 1, n' + 1, _, true, by omega, by go_num, rfl, HM1.out.upd hm' hg', HN.out⟩
                      case measure => simp [intOf]; omega
                    · have hd2 : decide (y.ld.stp < s) = false := decide_eq_false hlt
                      have HN : Hid (Pass ks bx K0 n H (k + 1) n' G m') := HP.out.skip HY.out (fun _ => le1_yes hL (by omega))
                      clear hL hmh hlt
                      go_wp2_with fail
                      go_roundw
                      case rel => exact ⟨k + 1, n', G, m', by omega, by go_num, rfl, HM1.out, HN.out⟩
                      case measure => simp [intOf]; omega
            · obtain rfl : k = bx.length := by omega
              have hdk : decide ((bx.length : Int) < (bx.length : Int)) = false := by simp
              have HLT : Hid (2 * ust bx G + (if m' then 1 else 0) < 2 * ust bx H + (if true then 1 else 0)) := by
                have h1 := HP.out.on
                have h2 := HP.out.off
                unfold Hid
                cases m' with
                | true => have := h1 rfl; simp; omega
                | false => rw [(h2 rfl).1]; simp
              go_wp2_with fail
              go_roundg (2 * ust bx G + (if m' then 1 else 0))
              case measure => exact HLT.out
              case rel => exact ⟨n', G, m', rfl, HM.out, HP.out.room, HP.out.snd, HP.out.has, fun e => (HP.out.off e).2.2, rfl⟩
set_option maxRecDepth 100000 in
theorem known_any (w : World) (b n : Nat) (H : Int → Option Int) (hm : Mh w b n H) (kb kt : Int) (hw : Wi kb) : Calls Tryd.prog 24 #[.map (some b), .agg #[.int .i64 kb, .int .i64 kt] ] w fun e w' => e = .returned (.bool (le1 H kb kt)) ∧ Below w.heap.size w w' := by
  have hm1 := hm.later (below_alloc w (.cells #[.int .i64 kb, .int .i64 kt] 23))
  have hB : Below w.heap.size w (w.alloc (.cells #[.int .i64 kb, .int .i64 kt] 23)) := below_alloc _ _
  rcases hH : H kb with _ | u
  · have hlk := look_no hm1 hw hH
    rw [le1_none hH]
    clear hH hm1 hm
    go_enter Tryd.func24, Tryd.ntmps24
    go_wp2_with fail
    go_ret
    exact ⟨rfl, hB⟩
  · have hlk := look_yes hm1 hw hH
    by_cases hle : u ≤ kt
    · have hd : decide (u ≤ kt) = true := decide_eq_true hle
      rw [le1_yes hH hle]
      clear hH hm1 hm hle
      go_enter Tryd.func24, Tryd.ntmps24
      go_wp2_with fail
      go_ret
      exact ⟨rfl, hB⟩
    · have hd : decide (u ≤ kt) = false := decide_eq_false hle
      rw [le1_no hH (by omega)]
      clear hH hm1 hm hle
      go_enter Tryd.func24, Tryd.ntmps24
      go_wp2_with fail
      go_ret
      exact ⟨rfl, hB⟩
end Go.Proofs.YtedbnamekfgmhaaDoor
