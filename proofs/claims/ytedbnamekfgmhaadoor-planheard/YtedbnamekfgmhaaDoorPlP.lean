/- Contract: what the message's item for a node, from another one, gives to who has the key. -/
import Derived.Test.YtedbnamekfgmhaaDoorPlO
import Derived.Test.YtedbnamekfgmhaaDoorKeyJ
namespace Go.Proofs.YtedbnamekfgmhaaDoor
open Go.RowKit Go.Maps
open Rt (Ky zK KyAt Gd gv)
open Rs (En zE tkn RdS RdI ps evl)
set_option linter.unusedVariables false
set_option linter.unusedSimpArgs false

def hasI (l : List It) (v c : Int) : Bool := l.any fun x => x.nd == v && x.fm == c
theorem hasI_no {l : List It} {v c : Int} (h : ∀ x ∈ l, ¬ (x.nd = v ∧ x.fm = c)) : hasI l v c = false := by
  unfold hasI
  rw [List.any_eq_false]
  intro x hx
  have := h x hx
  simpa using this
theorem hasI_yes {l : List It} {v c : Int} {x : It} (hx : x ∈ l) (h1 : x.nd = v) (h2 : x.fm = c) : hasI l v c = true := by
  unfold hasI
  rw [List.any_eq_true]
  exact ⟨x, hx, by simp [h1, h2]⟩
structure OS (w W : World) (M K R : Nat) (cs : Array Value) (k e : Ky) : Prop where
  rk : RkAt W M cs
  ky : KyAt W K k
  rs : KyAt W R e
  bel : Below w.heap.size w W
  ge : w.heap.size ≤ R
theorem OS.later {w W W' : World} {M K R : Nat} {cs : Array Value} {k e : Ky} (h : OS w W M K R cs k e) (hb : Below W.heap.size W W') : OS w W' M K R cs k e := ⟨h.rk.later hb, h.ky.later hb, h.rs.later hb, h.bel.trans (hb.mono h.bel.size), h.ge⟩
theorem OS.new (w : World) (cs : Array Value) (k : Ky) : OS w (((w.alloc (.cells cs 39)).alloc (.cells #[.int .i64 k.bas, .int .i64 k.stp] 23)).alloc (.cells #[.int .i64 0, .int .i64 0] 23)) w.heap.size (w.heap.size + 1) (w.heap.size + 2) cs k zK := by
  have h1 : RkAt (w.alloc (.cells cs 39)) w.heap.size cs := heap_alloc_last w _
  have b1 : Below w.heap.size w (w.alloc (.cells cs 39)) := below_alloc _ _
  have e1 : (w.alloc (.cells cs 39)).heap.size = w.heap.size + 1 := World.size_alloc _ _
  generalize w.alloc (.cells cs 39) = w1 at *
  have h2 := Rt.KyAt.new w1 k
  have b2 := below_alloc w1 (.cells #[.int .i64 k.bas, .int .i64 k.stp] 23)
  have e2 : (w1.alloc (.cells #[.int .i64 k.bas, .int .i64 k.stp] 23)).heap.size = w1.heap.size + 1 := World.size_alloc _ _
  generalize w1.alloc (.cells #[.int .i64 k.bas, .int .i64 k.stp] 23) = w2 at *
  have h3 := Rt.KyAt.new w2 zK
  have b3 := below_alloc w2 (.cells #[.int .i64 0, .int .i64 0] 23)
  have f1 : w1.heap.size = w.heap.size + 1 := e1
  have f2 : w2.heap.size = w.heap.size + 2 := by omega
  rw [f1] at h2
  rw [f2] at h3
  exact ⟨(h1.later b2).later b3, h2.later b3, h3, (b1.trans (b2.mono (by omega))).trans (b3.mono (by omega)), by omega⟩
def OpE (li : List It) (v c : Int) (y : It) : Ending := if hasI li v c then .returned (.tuple #[.agg #[.int .i64 y.ld.bas, .int .i64 y.ld.stp], .bool true]) else .returned (.tuple #[.agg #[.int .i64 0, .int .i64 0], .bool false])
set_option maxRecDepth 100000 in
set_option maxHeartbeats 2000000 in
theorem opened_any (p : Int) (a1 a2 a : Option Addr) (n1 n2 c1 c2 ca : Nat) (li : List It) (v c : Int) (k : Ky) (y : It) (w : World) (hl : li.length ≤ 4096) (hr : RdT w a li) (hu : ∀ x ∈ li, x.nd = v → x.fm = c → x = y ∧ Gd y.un.bas y.un.stp ∧ Gd y.ld.bas y.ld.stp ∧ Gd k.bas k.stp ∧ gv k.bas k.stp y.un.bas y.un.stp = true) :
    Calls Tryd.prog 38 #[.agg #[.int .i64 p, .slice a1 n1 c1, .slice a2 n2 c2, .slice a li.length ca], .int .i64 v, .int .i64 c, .agg #[.int .i64 k.bas, .int .i64 k.stp] ] w fun e w' => e = OpE li v c y ∧ Below w.heap.size w w' := by
  have hS := OS.new w #[.int .i64 p, .slice a1 n1 c1, .slice a2 n2 c2, .slice a li.length ca] k
  go_enter Tryd.func38, Tryd.ntmps38
  go_upto_region 1 with (fail)
  generalize ((w.alloc (.cells #[.int .i64 p, .slice a1 n1 c1, .slice a2 n2 c2, .slice a li.length ca] 39)).alloc (.cells #[.int .i64 k.bas, .int .i64 k.stp] 23)).alloc (.cells #[.int .i64 0, .int .i64 0] 23) = w1 at *
  obtain ⟨R, hR⟩ : ∃ R, w.heap.size + 2 = R := ⟨_, rfl⟩
  obtain ⟨K, hK⟩ : ∃ R, w.heap.size + 1 = R := ⟨_, rfl⟩
  obtain ⟨M, hM⟩ : ∃ R, w.heap.size = R := ⟨_, rfl⟩
  rw [hR, hK] at hS ⊢
  rw [hM] at hS ⊢
  clear hR hK hM
  obtain ⟨r0, r1, r2, r3⟩ := hS.rk.cells
  obtain ⟨cs, hcs⟩ : ∃ cs : Array Value, #[.int .i64 p, .slice a1 n1 c1, .slice a2 n2 c2, .slice a li.length ca] = cs := ⟨_, rfl⟩
  have HS1 : Hid (OS w w1 M K R cs k zK) := hcs ▸ hS
  clear hcs hS
  go_wp2_with fail
  go_loopw [17] (fun i wx => ∃ m : Nat, m ≤ li.length ∧ i = .int .i64 (m : Int) ∧ OS w wx M K R cs k zK ∧ ∀ x ∈ li.take m, ¬ (x.nd = v ∧ x.fm = c)) (fun i _ => li.length - (intOf i).toNat)
  case atStart => exact ⟨0, by omega, rfl, HS1.out, by simp⟩
  case round =>
    obtain ⟨m, hm, rfl, hS, hno⟩ := hrel
    have HS : Hid (OS w wr M K R cs k zK) := hS
    have HNO : Hid (∀ x ∈ li.take m, ¬ (x.nd = v ∧ x.fm = c)) := hno
    clear hS hno HS1 r0 r1 r2 r3
    by_cases hmN : m < li.length
    · have i1 : (0 : Int) ≤ (m : Int) := by omega
      have i2 : (m : Int) < (li.length : Int) := by omega
      obtain ⟨x, hx⟩ : ∃ y, li.getD m ⟨0, 0, zK, zK⟩ = y := ⟨_, rfl⟩
      have HIN : Hid (x ∈ li) := hx ▸ getD_in hmN
      have HTK : Hid (li.take (m + 1) = li.take m ++ [x]) := by
        unfold Hid
        rw [List.take_add_one, ← hx, List.getD_eq_getElem?_getD, List.getElem?_eq_getElem hmN]
        rfl
      have HU : Hid (x.nd = v → x.fm = c → x = y ∧ Gd y.un.bas y.un.stp ∧ Gd y.ld.bas y.ld.stp ∧ Gd k.bas k.stp ∧ gv k.bas k.stp y.un.bas y.un.stp = true) := hu x HIN.out
      obtain ⟨g, hal, x0, x1, x2, x3, x4, x5⟩ := (hr.later HS.out.bel).cells hmN hx
      subst hal
      have HS2 : Hid (OS w (wr.alloc (.cells #[.int .i64 x.nd, .int .i64 x.fm, .int .i64 x.un.bas, .int .i64 x.un.stp, .int .i64 x.ld.bas, .int .i64 x.ld.stp] 70)) M K R cs k zK) := HS.out.later (below_alloc _ _)
      clear hx hu HS
      cases hv : (x.nd == v) with
      | false =>
        have HN2 : Hid (∀ z ∈ li.take (m + 1), ¬ (z.nd = v ∧ z.fm = c)) := fun z hz => by
          rw [HTK.out] at hz
          rcases List.mem_append.1 hz with h | h
          · exact HNO.out z h
          · rw [List.mem_singleton.1 h]
            rintro ⟨e, _⟩
            rw [e] at hv
            simp at hv
        go_wp2_with fail
        go_roundw
        case rel => exact ⟨m + 1, by omega, by go_num, HS2.out, HN2.out⟩
        case measure => simp [intOf]; omega
      | true =>
        cases hc : (x.fm == c) with
        | false =>
          have HN2 : Hid (∀ z ∈ li.take (m + 1), ¬ (z.nd = v ∧ z.fm = c)) := fun z hz => by
            rw [HTK.out] at hz
            rcases List.mem_append.1 hz with h | h
            · exact HNO.out z h
            · rw [List.mem_singleton.1 h]
              rintro ⟨_, e⟩
              rw [e] at hc
              simp at hc
          go_wp2_with fail
          go_roundw
          case rel => exact ⟨m + 1, by omega, by go_num, HS2.out, HN2.out⟩
          case measure => simp [intOf]; omega
        | true =>
          obtain ⟨hxy, g1, g2, g3, g4⟩ := HU.out (by simpa using hv) (by simpa using hc)
          have HH : Hid (hasI li v c = true) := hasI_yes HIN.out (by simpa using hv) (by simpa using hc)
          subst hxy
          have hop := Rt.rOpen_yes x.un.bas x.un.stp x.ld.bas x.ld.stp k.bas k.stp g1 g2 g3 g4
          obtain ⟨k0, k1⟩ := HS2.out.ky.cells
          clear g1 g2 g3 g4 HU HNO HTK
          go_wp2_with fail
          refine (hop _).mono ?_
          rintro r w6 ⟨rfl, hb6⟩
          have HS3 : Hid (OS w (w6.alloc (.cells #[.int .i64 x.ld.bas, .int .i64 x.ld.stp] 23)) M K R cs k zK) := (HS2.out.later hb6).later (below_alloc _ _)
          obtain ⟨z0, z1⟩ := HS3.out.rs.cells
          have y0 := Rt.row_frozen HS3.out.rs 0
          have y1 := Rt.row_frozen HS3.out.rs 1
          clear hop hb6 HS2 k0 k1
          go_wp2_with fail
          refine bodyPost_ret (results_ky2 (p := 8) (t := 9) rfl _ _ R ⟨x.ld.bas, x.ld.stp⟩ rfl (KyAt.set HS3.out.rs x.ld.bas x.ld.stp)) rfl ?_
          refine ⟨?_, Rt.set2_below HS3.out.bel HS3.out.ge _ _ _ _⟩
          unfold OpE
          rw [HH.out]
          rfl
    · obtain rfl : m = li.length := by omega
      have hdk : decide ((li.length : Int) < (li.length : Int)) = false := by simp
      rw [List.take_length] at HNO
      have HH : Hid (hasI li v c = false) := hasI_no HNO.out
      obtain ⟨z0, z1⟩ := HS.out.rs.cells
      have y0 := Rt.row_frozen HS.out.rs 0
      have y1 := Rt.row_frozen HS.out.rs 1
      go_wp2_with fail
      refine bodyPost_ret (results_ky2 (p := 8) (t := 9) rfl _ _ R zK rfl (KyAt.set HS.out.rs 0 0)) rfl ?_
      refine ⟨?_, Rt.set2_below HS.out.bel HS.out.ge _ _ _ _⟩
      unfold OpE
      rw [HH.out]
      rfl
end Go.Proofs.YtedbnamekfgmhaaDoor
