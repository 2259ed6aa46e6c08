/- WiY, WiZ, joined. -/
import Derived.Test.YtdkfifnhmfbagaaGreatDoorWiJ3
import Derived.Laws.IdiomStrings
import Derived.Test.YtdkfifnhmfbagaaGreatDoorWiG
namespace Go.Proofs.YtdkfifnhmfbagaaGreatDoor.Wi
open Go.RowKit Go.Maps
open Bt (Wr Fw Kept bo bo_length tb tb_length bys bys_length)
open Rt (gd)
set_option linter.unusedVariables false
set_option linter.unusedSimpArgs false
/- Bytes that can be read. -/
def RdB (w : World) (a : Option Addr) (l : List Nat) : Prop := ∀ (i : Nat) (h : i < l.length), ∃ b, a = some ⟨b, 0, none⟩ ∧ w.cell? ⟨b, i, none⟩ = some (.int .u8 (l[i] : Int))
theorem RdB.later {w w' : World} {a : Option Addr} {l : List Nat} (h : RdB w a l) (hb : Below w.heap.size w w') : RdB w' a l := fun i hi => by
 obtain ⟨b, e, r⟩ := h i hi
 exact ⟨b, e, cell_later hb r⟩
theorem rd_conv (w : World) (s : ByteArray) (e : TypeId) (cap : Nat) : RdB (w.drew.alloc (.cells (bytesRow s cap) e ((bytesRow s cap).size, (bytesRow s cap).size + 1))) (some ⟨w.heap.size, 0, none⟩) (bys s) := by
 intro j hj
 refine ⟨w.heap.size, rfl, ?_⟩
 rw [bys_length] at hj
 obtain ⟨C, hC⟩ : ∃ C, bytesRow s cap = C := ⟨_, rfl⟩
 have hds : s.data.size = s.size := rfl
 have hg : C[j]? = some (Value.int .u8 ((bys s)[j]'(by rw [bys_length]; exact hj) : Int)) := by
  rw [← hC]
  unfold bytesRow
  rw [Array.getElem?_append_left (by simpa using hj)]
  simp [bys, hds, hj]
 rw [hC]
 have hb : (w.drew.alloc (.cells C e (C.size, C.size + 1))).heap[w.heap.size]? = some (.cells C e (C.size, C.size + 1)) := by
  show (w.heap.push _)[w.heap.size]? = _
  simp
 rw [← hg]
 unfold World.cell?
 simp only [hb]
 rfl
set_option maxRecDepth 100000 in
set_option maxHeartbeats 1000000 in
theorem putB_any (n0 g q : Nat) (a : Option Addr) (c : Nat) (L : List Nat) (l : List Bool) (x : Value) (w : World) (h1 : 1 ≤ q) (h2 : q ≤ 60) (hn : L.length < 2 ^ q) (hL : L.length ≤ 2048) (hf : ∀ s ∈ L, s < 256) (hrd : ∀ W' x', Wst g w x W' x' → RdB W' a L) (hB : n0 ≤ w.heap.size) (hw : Wr n0 w g l x) (hl : l.length + 1048576 ≤ 1099511627776) :
  Calls Tryz.prog 43 #[.agg #[.pointer (some ⟨g, 0, none⟩)], .slice a L.length c, .int .i64 (q : Int), .func (.func 44) #[.agg #[.pointer (some ⟨g, 0, none⟩)] ] #[] ] w fun e w' => e = .returned (.tuple #[]) ∧ WP n0 g w x (l ++ (bo L.length q ++ L.flatMap fun v => bo v 8)) w' := by
 obtain ⟨n, hne⟩ : ∃ n, L.length = n := ⟨_, rfl⟩
 have HN : Hid (L.length = n) := hne
 have HE : Hid (l ++ (bo L.length q ++ L.flatMap fun v => bo v 8) = l ++ bo n q ++ L.flatMap fun v => bo v 8) := by unfold Hid; rw [hne, List.append_assoc]
 rw [HE.out]
 rw [hne] at hn hL
 rw [hne]
 clear hne HE
 have HF : Hid (∀ s ∈ L, s < 256) := hf
 have HRD : Hid (∀ W' x', Wst g w x W' x' → RdB W' a L) := hrd
 have hb := WB.new1 hw hB (.cells #[.pointer (some ⟨g, 0, none⟩)] 71)
 clear hf hrd hw hB
 go_enter Tryz.func43, Tryz.ntmps43
 go_upto_region 1 with (fail)
 generalize w.alloc (.cells #[.pointer (some ⟨g, 0, none⟩)] 71) = w1 at *
 obtain ⟨C, hC⟩ : ∃ C, w.heap.size = C := ⟨_, rfl⟩
 rw [hC] at hb ⊢
 clear hC
 obtain ⟨OC, hOC⟩ : ∃ o, o = Obj.cells #[.pointer (some ⟨g, 0, none⟩)] 71 := ⟨_, rfl⟩
 rw [← hOC] at hb
 have HOC : Hid (OC = Obj.cells #[.pointer (some ⟨g, 0, none⟩)] 71) := hOC
 clear hOC
 have c0 := c1' (HOC.out ▸ hb.hc)
 have hp := wNumber_any n0 g n q l x w1 h1 h2 hn hb.sz hb.wr (by omega)
 have HB : Hid (WB n0 g w w1 x x l C C OC OC) := hb
 clear hb
 go_wp2_with fail
 refine hp.mono ?_
 rintro e w2 ⟨rfl, hp2⟩
 have HS : Hid (∃ x', WB n0 g w w2 x x' (l ++ bo n q ++ (L.take 0).flatMap fun v => bo v 8) C C OC OC) := by
  obtain ⟨x2, hb2⟩ := HB.out.next hp2
  exact ⟨x2, by simpa using hb2⟩
 clear hp hp2 HB c0
 go_wp2_with fail
 go_loopw [17] (fun i wx => ∃ k : Nat, k ≤ n ∧ i = .int .i64 (k : Int) ∧ ∃ x', WB n0 g w wx x x' (l ++ bo n q ++ (L.take k).flatMap fun v => bo v 8) C C OC OC) (fun i _ => n - (intOf i).toNat)
 case atStart => exact ⟨0, by omega, rfl, HS.out⟩
 case round =>
  obtain ⟨k, hk, rfl, x2, hb2⟩ := hrel
  have HB : Hid (WB n0 g w wr x x2 (l ++ bo n q ++ (L.take k).flatMap fun v => bo v 8) C C OC OC) := hb2
  clear hb2 HS
  by_cases hkn : k < n
  ·have hkl : k < L.length := by rw [HN.out]; exact hkn
   obtain ⟨b, rfl, hr⟩ := HRD.out wr x2 HB.out.st k hkl
   have HX : Hid ((l ++ bo n q ++ (L.take (k + 1)).flatMap fun v => bo v 8) = (l ++ bo n q ++ (L.take k).flatMap fun v => bo v 8) ++ bo L[k] 8) := by unfold Hid; rw [flat_take _ hkl]; simp
   have hok := HF.out L[k] (List.getElem_mem hkl)
   have hlen : (l ++ bo n q ++ (L.take k).flatMap fun v => bo v 8).length + 8 ≤ 1099511627776 := by
    have e := flat_len' (fun v => bo v 8) 8 (fun _ => by simp) (L.take k)
    rw [List.length_append, List.length_append, bo_length, e, List.length_take, HN.out, Nat.min_eq_left hk]
    omega
   generalize L[k] = p at *
   generalize (l ++ bo n q ++ (L.take k).flatMap fun v => bo v 8) = l2 at *
   have i1 : (0 : Int) ≤ (k : Int) := by omega
   have i2 : (k : Int) < (n : Int) := by omega
   have hp := wOctet_any n0 g p l2 x2 wr hok HB.out.sz HB.out.wr hlen
   clear hok hlen
   go_wp2_with fail
   refine hp.mono ?_
   rintro e w4 ⟨rfl, hp4⟩
   have HS : Hid (∃ x', WB n0 g w w4 x x' (l ++ bo n q ++ (L.take (k + 1)).flatMap fun v => bo v 8) C C OC OC) := by unfold Hid; rw [HX.out]; exact HB.out.next hp4
   clear hp4 hp hr
   go_wp2_with fail
   go_roundw
   case rel => exact ⟨k + 1, by omega, by go_num, HS.out⟩
   case measure => simp [intOf]; omega
  ·have hkn' : decide ((k : Int) < (n : Int)) = false := by simp; omega
   have HP : Hid (WP n0 g w x (l ++ bo n q ++ L.flatMap fun v => bo v 8) wr) := by
    have e : L.take k = L := List.take_of_length_le (by rw [HN.out]; omega)
    have h := HB.out.out
    rw [e] at h
    exact h
   go_wp2_with fail
   go_end0
   exact ⟨rfl, HP.out⟩
set_option maxRecDepth 100000 in
theorem wRequest_any (n0 g : Nat) (k : Int × Int) (l : List Bool) (x : Value) (w : World) (hk : okQ k) (hB : n0 ≤ w.heap.size) (hw : Wr n0 w g l x) (hl : l.length + 16 ≤ 1099511627776) :
  Calls Tryz.prog 16 #[.agg #[.pointer (some ⟨g, 0, none⟩)], .agg (stl k).toArray] w fun e w' => e = .returned (.tuple #[]) ∧ WP n0 g w x (l ++ eQ k) w' := by
 obtain ⟨a, b⟩ := k
 obtain ⟨h1, h2⟩ := hk
 obtain ⟨u, rfl, eu, hu⟩ := fit_nat h1
 obtain ⟨v, rfl, ev, hv⟩ := fit_nat h2
 unfold stl
 dsimp only at *
 have HE : Hid (l ++ eQ ((u : Int), (v : Int)) = l ++ bo u 8 ++ bo v 8) := by unfold Hid eQ; dsimp only; rw [eu, ev, List.append_assoc]
 rw [HE.out]
 have hb := WB.new2 hw hB (.cells #[.pointer (some ⟨g, 0, none⟩)] 71) (.cells #[.int .i64 (u : Int), .int .i64 (v : Int)] 36)
 clear HE h1 h2 hw hB eu ev
 have hl2 : (l ++ bo u 8).length + 8 ≤ 1099511627776 := by rw [List.length_append, bo_length]; omega
 go_enter Tryz.func16, Tryz.ntmps16
 go_upto_region 1 with (fail)
 generalize (w.alloc (.cells #[.pointer (some ⟨g, 0, none⟩)] 71)).alloc (.cells #[.int .i64 (u : Int), .int .i64 (v : Int)] 36) = w1 at *
 obtain ⟨D, hD⟩ : ∃ D, w.heap.size + 1 = D := ⟨_, rfl⟩
 rw [hD] at hb ⊢
 obtain ⟨C, hC⟩ : ∃ C, w.heap.size = C := ⟨_, rfl⟩
 rw [hC] at hb ⊢
 clear hD hC
 obtain ⟨d0, d1⟩ := c2' hb.hd
 have c0 := c1' hb.hc
 have hp := wNumber_any n0 g u 8 l x w1 (by omega) (by omega) hu hb.sz hb.wr (by omega)
 have HB : Hid (WB n0 g w w1 x x l C D (.cells #[.pointer (some ⟨g, 0, none⟩)] 71) (.cells #[.int .i64 (u : Int), .int .i64 (v : Int)] 36)) := hb
 clear hb
 go_wp2_with fail
 refine hp.mono ?_
 rintro e w2 ⟨rfl, hp2⟩
 obtain ⟨x2, hb2⟩ := HB.out.next hp2
 clear hp hp2 HB c0 d0 d1
 obtain ⟨d0, d1⟩ := c2' hb2.hd
 have c0 := c1' hb2.hc
 have hp := wNumber_any n0 g v 8 (l ++ bo u 8) x2 w2 (by omega) (by omega) hv hb2.sz hb2.wr hl2
 have HB : Hid (WB n0 g w w2 x x2 (l ++ bo u 8) C D (.cells #[.pointer (some ⟨g, 0, none⟩)] 71) (.cells #[.int .i64 (u : Int), .int .i64 (v : Int)] 36)) := hb2
 clear hb2
 go_wp2_with fail
 refine hp.mono ?_
 rintro e w3 ⟨rfl, hp2⟩
 have HP : Hid (WP n0 g w x (l ++ bo u 8 ++ bo v 8) w3) := (HB.out.next hp2).elim fun _ h => h.out
 clear hp hp2
 go_wp2_with fail
 go_end0
 exact ⟨rfl, HP.out⟩
theorem eL_len (l : List (Int × Int)) : (eL l).length = 7 + 14 * l.length := by
 unfold eL
 rw [List.length_append, bo_length, flat_len' eS 14 (fun _ => by simp [eS])]
set_option maxRecDepth 100000 in
set_option maxHeartbeats 1000000 in
theorem wRekey_any (n0 g : Nat) (r : Int × (List (Int × Int) × (List (Int × Int) × List ((Int × Int) × ((Int × Int) × (Int × Int)))))) (aL aJ aI : Option Addr) (cL cJ cI : Nat) (l : List Bool) (x : Value) (w : World) (hk : okR r) (hB : n0 ≤ w.heap.size) (hw : Wr n0 w g l x) (hl : l.length ≤ 1024)
  (rL : ∀ W' x', Wst g w x W' x' → RdV stl 2 W' aL r.2.1) (rJ : ∀ W' x', Wst g w x W' x' → RdV stl 2 W' aJ r.2.2.1) (rI : ∀ W' x', Wst g w x W' x' → RdV itl 6 W' aI r.2.2.2) :
  Calls Tryz.prog 15 #[.agg #[.pointer (some ⟨g, 0, none⟩)], .agg (rkl r.1 (.slice aL r.2.1.length cL) (.slice aJ r.2.2.1.length cJ) (.slice aI r.2.2.2.length cI)).toArray] w fun e w' => e = .returned (.tuple #[]) ∧ WP n0 g w x (l ++ eR r) w' := by
 obtain ⟨e, L, J, I⟩ := r
 obtain ⟨h1, ⟨h2, h3⟩, ⟨h4, h5⟩, h6, h7⟩ := hk
 obtain ⟨u, rfl, eu, hu⟩ := fit_nat h1
 unfold rkl
 dsimp only at *
 have HE : Hid (l ++ eR ((u : Int), L, J, I) = l ++ bo u 8 ++ (bo L.length 7 ++ L.flatMap eS) ++ (bo J.length 7 ++ J.flatMap eS) ++ (bo I.length 11 ++ I.flatMap eI)) := by unfold Hid eR eL; dsimp only; rw [eu]; simp
 rw [HE.out]
 have l1 : (l ++ bo u 8).length ≤ 4096 := by rw [List.length_append, bo_length]; omega
 have l2 : (l ++ bo u 8 ++ (bo L.length 7 ++ L.flatMap eS)).length ≤ 65536 := by
  have := eL_len L
  unfold eL at this
  rw [List.length_append, this]; omega
 have l3 : (l ++ bo u 8 ++ (bo L.length 7 ++ L.flatMap eS) ++ (bo J.length 7 ++ J.flatMap eS)).length ≤ 131072 := by
  have := eL_len J
  unfold eL at this
  rw [List.length_append, this]; omega
 have HL1 : Hid ((l ++ bo u 8).length ≤ 4096) := l1
 have HL2 : Hid ((l ++ bo u 8 ++ (bo L.length 7 ++ L.flatMap eS)).length ≤ 65536) := l2
 have HL3 : Hid ((l ++ bo u 8 ++ (bo L.length 7 ++ L.flatMap eS) ++ (bo J.length 7 ++ J.flatMap eS)).length ≤ 131072) := l3
 have HRL : Hid (∀ W' x', Wst g w x W' x' → RdV stl 2 W' aL L) := rL
 have HRJ : Hid (∀ W' x', Wst g w x W' x' → RdV stl 2 W' aJ J) := rJ
 have HRI : Hid (∀ W' x', Wst g w x W' x' → RdV itl 6 W' aI I) := rI
 have h3' : ∀ s ∈ L, oS s := h3
 have h5' : ∀ s ∈ J, oS s := h5
 have h7' : ∀ s ∈ I, oI s := h7
 have HF : Hid ((∀ s ∈ L, oS s) ∧ (∀ s ∈ J, oS s) ∧ (∀ s ∈ I, oI s)) := ⟨h3', h5', h7'⟩
 have HNN : Hid (L.length < 128 ∧ J.length < 128 ∧ I.length < 2048) := ⟨h2, h4, h6⟩
 have hb := WB.new2 hw hB (.cells #[.pointer (some ⟨g, 0, none⟩)] 71) (.cells #[.int .i64 (u : Int), .slice aL L.length cL, .slice aJ J.length cJ, .slice aI I.length cI] 31)
 clear HE h1 h2 h3 h4 h5 h6 h7 h3' h5' h7' hw hB eu l1 l2 l3 rL rJ rI
 have hmf : ∀ (fn : Fn) (first cap : Array Value) (w : World), (Instr.makeFunc fn first cap).run Tryz.prog w = .ok (.func fn first cap) w := fun _ _ _ _ => rfl
 obtain ⟨nL, hnL⟩ : ∃ n, L.length = n := ⟨_, rfl⟩
 obtain ⟨nJ, hnJ⟩ : ∃ n, J.length = n := ⟨_, rfl⟩
 obtain ⟨nI, hnI⟩ : ∃ n, I.length = n := ⟨_, rfl⟩
 have HEQ : Hid (L.length = nL ∧ J.length = nJ ∧ I.length = nI) := ⟨hnL, hnJ, hnI⟩
 simp only [hnL, hnJ, hnI] at hb
 rw [hnL, hnJ, hnI]
 rw [hnL] at HL2 HL3
 rw [hnJ] at HL3
 clear hnL hnJ hnI
 have hs : ∀ (n0 : Nat) (q : Nat) (a : Option Addr) (c : Nat) (L : List (Int × Int)) (n : Nat) (l : List Bool) (x : Value) (w : World), L.length = n → 1 ≤ q → q ≤ 60 → n < 2 ^ q → n ≤ 2048 → (∀ s ∈ L, oS s) → (∀ W' x', Wst g w x W' x' → RdV stl 2 W' a L) → n0 ≤ w.heap.size → Wr n0 w g l x → l.length + 1048576 ≤ 1099511627776 → Calls Tryz.prog 37 #[.agg #[.pointer (some ⟨g, 0, none⟩)], .slice a n c, .int .i64 (q : Int), .func (.func 38) #[.agg #[.pointer (some ⟨g, 0, none⟩)] ] #[] ] w fun e w' => e = .returned (.tuple #[]) ∧ WP n0 g w x (l ++ (bo n q ++ L.flatMap eS)) w' := by
  intro n0 q a c L n l x w hn h1 h2 h3 h4 h5 h6 h7 h8 h9
  subst hn
  exact putS_any n0 g q a c L l x w h1 h2 h3 h4 h5 h6 h7 h8 h9
 have hi : ∀ (n0 : Nat) (q : Nat) (a : Option Addr) (c : Nat) (L : List ((Int × Int) × ((Int × Int) × (Int × Int)))) (n : Nat) (l : List Bool) (x : Value) (w : World), L.length = n → 1 ≤ q → q ≤ 60 → n < 2 ^ q → n ≤ 2048 → (∀ s ∈ L, oI s) → (∀ W' x', Wst g w x W' x' → RdV itl 6 W' a L) → n0 ≤ w.heap.size → Wr n0 w g l x → l.length + 1048576 ≤ 1099511627776 → Calls Tryz.prog 39 #[.agg #[.pointer (some ⟨g, 0, none⟩)], .slice a n c, .int .i64 (q : Int), .func (.func 40) #[.agg #[.pointer (some ⟨g, 0, none⟩)] ] #[] ] w fun e w' => e = .returned (.tuple #[]) ∧ WP n0 g w x (l ++ (bo n q ++ L.flatMap eI)) w' := by
  intro n0 q a c L n l x w hn h1 h2 h3 h4 h5 h6 h7 h8 h9
  subst hn
  exact putI_any n0 g q a c L l x w h1 h2 h3 h4 h5 h6 h7 h8 h9
 have HS : Hid _ := hs
 have HI : Hid _ := hi
 clear hs hi
 go_enter Tryz.func15, Tryz.ntmps15
 go_upto_region 1 with (fail)
 generalize (w.alloc (.cells #[.pointer (some ⟨g, 0, none⟩)] 71)).alloc (.cells #[.int .i64 (u : Int), .slice aL nL cL, .slice aJ nJ cJ, .slice aI nI cI] 31) = w1 at *
 obtain ⟨D, hD⟩ : ∃ D, w.heap.size + 1 = D := ⟨_, rfl⟩
 rw [hD] at hb ⊢
 obtain ⟨C, hC⟩ : ∃ C, w.heap.size = C := ⟨_, rfl⟩
 rw [hC] at hb ⊢
 clear hD hC
 obtain ⟨d0, d1, d2, d3⟩ := c4 hb.hd
 have c0 := c1' hb.hc
 have hp := wNumber_any n0 g u 8 l x w1 (by omega) (by omega) hu hb.sz hb.wr (by omega)
 have HB : Hid (WB n0 g w w1 x x l C D (.cells #[.pointer (some ⟨g, 0, none⟩)] 71) (.cells #[.int .i64 (u : Int), .slice aL nL cL, .slice aJ nJ cJ, .slice aI nI cI] 31)) := hb
 clear hb
 go_wp2_with fail
 refine hp.mono ?_
 rintro e w2 ⟨rfl, hp2⟩
 obtain ⟨x2, hb2⟩ := HB.out.next hp2
 clear hp hp2 HB c0 d0 d1 d2 d3
 obtain ⟨d0, d1, d2, d3⟩ := c4 hb2.hd
 have c0 := c1' hb2.hc
 have HB : Hid (WB n0 g w w2 x x2 (l ++ bo u 8) C D (.cells #[.pointer (some ⟨g, 0, none⟩)] 71) (.cells #[.int .i64 (u : Int), .slice aL nL cL, .slice aJ nJ cJ, .slice aI nI cI] 31)) := hb2
 have hp := HS.out n0 7 aL cL L nL (l ++ bo u 8) x2 w2 HEQ.out.1 (by omega) (by omega) (by have := HNN.out; have := HEQ.out; omega) (by have := HNN.out; have := HEQ.out; omega) HF.out.1 (fun W' x' h => HRL.out W' x' (HB.out.st.trans h)) hb2.sz hb2.wr (by have := HL1.out; omega)
 clear hb2
 go_wp2_with fail
 refine hp.mono ?_
 rintro e w3 ⟨rfl, hp3⟩
 obtain ⟨x3, hb3⟩ := HB.out.next hp3
 clear hp hp3 HB c0 d0 d1 d2 d3
 obtain ⟨d0, d1, d2, d3⟩ := c4 hb3.hd
 have c0 := c1' hb3.hc
 have HB : Hid (WB n0 g w w3 x x3 (l ++ bo u 8 ++ (bo nL 7 ++ L.flatMap eS)) C D (.cells #[.pointer (some ⟨g, 0, none⟩)] 71) (.cells #[.int .i64 (u : Int), .slice aL nL cL, .slice aJ nJ cJ, .slice aI nI cI] 31)) := hb3
 have hp := HS.out n0 7 aJ cJ J nJ (l ++ bo u 8 ++ (bo nL 7 ++ L.flatMap eS)) x3 w3 HEQ.out.2.1 (by omega) (by omega) (by have := HNN.out; have := HEQ.out; omega) (by have := HNN.out; have := HEQ.out; omega) HF.out.2.1 (fun W' x' h => HRJ.out W' x' (HB.out.st.trans h)) hb3.sz hb3.wr (by have := HL2.out; omega)
 clear hb3
 go_wp2_with fail
 refine hp.mono ?_
 rintro e w4 ⟨rfl, hp4⟩
 obtain ⟨x4, hb4⟩ := HB.out.next hp4
 clear hp hp4 HB c0 d0 d1 d2 d3
 obtain ⟨d0, d1, d2, d3⟩ := c4 hb4.hd
 have c0 := c1' hb4.hc
 have HB : Hid (WB n0 g w w4 x x4 (l ++ bo u 8 ++ (bo nL 7 ++ L.flatMap eS) ++ (bo nJ 7 ++ J.flatMap eS)) C D (.cells #[.pointer (some ⟨g, 0, none⟩)] 71) (.cells #[.int .i64 (u : Int), .slice aL nL cL, .slice aJ nJ cJ, .slice aI nI cI] 31)) := hb4
 have hp := HI.out n0 11 aI cI I nI (l ++ bo u 8 ++ (bo nL 7 ++ L.flatMap eS) ++ (bo nJ 7 ++ J.flatMap eS)) x4 w4 HEQ.out.2.2 (by omega) (by omega) (by have := HNN.out; have := HEQ.out; omega) (by have := HNN.out; have := HEQ.out; omega) HF.out.2.2 (fun W' x' h => HRI.out W' x' (HB.out.st.trans h)) hb4.sz hb4.wr (by have := HL3.out; omega)
 clear hb4
 go_wp2_with fail
 refine hp.mono ?_
 rintro e w5 ⟨rfl, hp5⟩
 have HP : Hid (WP n0 g w x (l ++ bo u 8 ++ (bo nL 7 ++ L.flatMap eS) ++ (bo nJ 7 ++ J.flatMap eS) ++ (bo nI 11 ++ I.flatMap eI)) w5) := (HB.out.next hp5).elim fun _ h => h.out
 clear hp hp5
 go_wp2_with fail
 go_end0
 exact ⟨rfl, HP.out⟩
open Bt (Wr Fw Kept bo bo_length tb tb_length bys bys_length tx pk)
/- A box out of a path that is held as a value. -/
theorem ix_run (x y z : (Int × Int) × (Int × Int)) (w : World) : (Instr.index 41 (.agg #[.int .i64 x.1.1, .int .i64 x.1.2, .int .i64 x.2.1, .int .i64 x.2.2, .int .i64 y.1.1, .int .i64 y.1.2, .int .i64 y.2.1, .int .i64 y.2.2, .int .i64 z.1.1, .int .i64 z.1.2, .int .i64 z.2.1, .int .i64 z.2.2]) (.int .i64 0)).run Tryz.prog w = .ok (.agg #[.int .i64 x.1.1, .int .i64 x.1.2, .int .i64 x.2.1, .int .i64 x.2.2]) w ∧
  (Instr.index 41 (.agg #[.int .i64 x.1.1, .int .i64 x.1.2, .int .i64 x.2.1, .int .i64 x.2.2, .int .i64 y.1.1, .int .i64 y.1.2, .int .i64 y.2.1, .int .i64 y.2.2, .int .i64 z.1.1, .int .i64 z.1.2, .int .i64 z.2.1, .int .i64 z.2.2]) (.int .i64 1)).run Tryz.prog w = .ok (.agg #[.int .i64 y.1.1, .int .i64 y.1.2, .int .i64 y.2.1, .int .i64 y.2.2]) w ∧
  (Instr.index 41 (.agg #[.int .i64 x.1.1, .int .i64 x.1.2, .int .i64 x.2.1, .int .i64 x.2.2, .int .i64 y.1.1, .int .i64 y.1.2, .int .i64 y.2.1, .int .i64 y.2.2, .int .i64 z.1.1, .int .i64 z.1.2, .int .i64 z.2.1, .int .i64 z.2.2]) (.int .i64 2)).run Tryz.prog w = .ok (.agg #[.int .i64 z.1.1, .int .i64 z.1.2, .int .i64 z.2.1, .int .i64 z.2.2]) w := by
 refine ⟨?_, ?_, ?_⟩ <;> simp [Instr.index, asIntOf, part, go_sem]
set_option maxRecDepth 100000 in
set_option maxHeartbeats 1000000 in
theorem wReply_any (n0 g : Nat) (p : (Int × Int) × (Int × (((Int × Int) × (Int × Int)) × (((Int × Int) × (Int × Int)) × ((Int × Int) × (Int × Int)))))) (l : List Bool) (x : Value) (w : World) (hk : okP p) (hB : n0 ≤ w.heap.size) (hw : Wr n0 w g l x) (hl : l.length ≤ 1024) :
  Calls Tryz.prog 17 #[.agg #[.pointer (some ⟨g, 0, none⟩)], .agg (rpl p).toArray] w fun e w' => e = .returned (.tuple #[]) ∧ WP n0 g w x (l ++ eP p) w' := by
 obtain ⟨⟨a, b⟩, c, p0, p1, p2⟩ := p
 obtain ⟨h1, h2, h3, h4, h5⟩ := hk
 obtain ⟨u, rfl, eu, hu⟩ := fit_nat h2
 have e0 : (rpl ((a, b), (u : Int), p0, p1, p2)).toArray = (rpq a b (u : Int) p0 p1 p2).toArray := rfl
 rw [e0]
 dsimp only at *
 have HE : Hid (l ++ eP ((a, b), (u : Int), p0, p1, p2) = l ++ eS (a, b) ++ bo u 8 ++ eB p0 ++ eB p1 ++ eB p2) := by unfold Hid eP; dsimp only; rw [eu]; simp
 rw [HE.out]
 have n1 : (eS (a, b)).length = 14 := by simp [eS]
 have n2 : ∀ p, (eB p).length = 48 := fun p => by simp [eB, eK]
 have l1 : (l ++ eS (a, b)).length ≤ 2048 := by rw [List.length_append, n1]; omega
 have l2 : (l ++ eS (a, b) ++ bo u 8).length ≤ 2060 := by rw [List.length_append, bo_length]; omega
 have l3 : (l ++ eS (a, b) ++ bo u 8 ++ eB p0).length ≤ 2110 := by rw [List.length_append, n2]; omega
 have l4 : (l ++ eS (a, b) ++ bo u 8 ++ eB p0 ++ eB p1).length ≤ 2160 := by rw [List.length_append, n2]; omega
 have HL : Hid ((l ++ eS (a, b)).length ≤ 2048 ∧ (l ++ eS (a, b) ++ bo u 8).length ≤ 2060 ∧ (l ++ eS (a, b) ++ bo u 8 ++ eB p0).length ≤ 2110 ∧ (l ++ eS (a, b) ++ bo u 8 ++ eB p0 ++ eB p1).length ≤ 2160) := ⟨l1, l2, l3, l4⟩
 have HK : Hid (oS (a, b) ∧ gB p0 = true ∧ gB p1 = true ∧ gB p2 = true) := ⟨h1, gB_iff.2 h3, gB_iff.2 h4, gB_iff.2 h5⟩
 have hb := WB.new2 hw hB (.cells #[.pointer (some ⟨g, 0, none⟩)] 71) (.cells (rpq a b (u : Int) p0 p1 p2).toArray 43)
 clear HE h1 h2 h3 h4 h5 hw hB eu l1 l2 l3 l4 n1 n2 e0
 obtain ⟨OC, hOC⟩ : ∃ o, o = Obj.cells #[.pointer (some ⟨g, 0, none⟩)] 71 := ⟨_, rfl⟩
 obtain ⟨OD, hOD⟩ : ∃ o, o = Obj.cells (rpq a b (u : Int) p0 p1 p2).toArray 43 := ⟨_, rfl⟩
 have HOC : Hid (OC = Obj.cells #[.pointer (some ⟨g, 0, none⟩)] 71) := hOC
 have HOD : Hid (OD = Obj.cells (rpq a b (u : Int) p0 p1 p2).toArray 43) := hOD
 clear hOC hOD
 have HD : Hid (∀ (W : World) (D : Nat), W.heap[D]? = some OD → W.cell? ⟨D, 0, none⟩ = some (.int .i64 a) ∧ W.cell? ⟨D, 1, none⟩ = some (.int .i64 b) ∧ W.cell? ⟨D, 2, none⟩ = some (.int .i64 (u : Int)) ∧ W.rangeAt D 3 (pal p0 p1 p2)) := by
  intro W D h
  rw [HOD.out] at h
  exact ⟨(cell_of_row W D 0 _ _ _ h).trans rfl, (cell_of_row W D 1 _ _ _ h).trans rfl, (cell_of_row W D 2 _ _ _ h).trans rfl, ra_of h 3 _ rfl⟩
 rw [← HOC.out, ← HOD.out] at hb
 obtain ⟨cs, hcs⟩ : ∃ cs, (rpq a b (u : Int) p0 p1 p2).toArray = cs := ⟨_, rfl⟩
 rw [hcs] at HOD
 rw [hcs]
 clear hcs
 rw [HOC.out, HOD.out] at hb
 go_enter Tryz.func17, Tryz.ntmps17
 go_upto_region 1 with (fail)
 rw [← HOC.out, ← HOD.out] at hb
 rw [← HOC.out, ← HOD.out]
 generalize (w.alloc OC).alloc OD = w1 at *
 obtain ⟨D, hD⟩ : ∃ D, w.heap.size + 1 = D := ⟨_, rfl⟩
 rw [hD] at hb ⊢
 obtain ⟨C, hC⟩ : ∃ C, w.heap.size = C := ⟨_, rfl⟩
 rw [hC] at hb ⊢
 clear hD hC
 obtain ⟨d0, d1, d2, d3⟩ := HD.out _ _ hb.hd
 have c0 := c1' (HOC.out ▸ hb.hc)
 have hp := wSeat_any n0 g (a, b) l x w1 HK.out.1 hb.sz hb.wr (by omega)
 have HB : Hid (WB n0 g w w1 x x l C D OC OD) := hb
 clear hb
 dsimp only at hp
 go_wp2_with fail
 refine hp.mono ?_
 rintro e w2 ⟨rfl, hp2⟩
 obtain ⟨x2, hb2⟩ := HB.out.next hp2
 clear hp hp2 HB c0 d0 d1 d2 d3
 obtain ⟨d0, d1, d2, d3⟩ := HD.out _ _ hb2.hd
 have c0 := c1' (HOC.out ▸ hb2.hc)
 have hp := wNumber_any n0 g u 8 (l ++ eS (a, b)) x2 w2 (by omega) (by omega) hu hb2.sz hb2.wr (by have := HL.out; omega)
 have HB : Hid (WB n0 g w w2 x x2 (l ++ eS (a, b)) C D OC OD) := hb2
 clear hb2
 go_wp2_with fail
 refine hp.mono ?_
 rintro e w3 ⟨rfl, hp3⟩
 obtain ⟨x3, hb3⟩ := HB.out.next hp3
 clear hp hp3 HB c0 d0 d1 d2 d3
 obtain ⟨d0, d1, d2, d3⟩ := HD.out _ _ hb3.hd
 unfold pal at d3
 have HB : Hid (WB n0 g w w3 x x3 (l ++ eS (a, b) ++ bo u 8) C D OC OD) := hb3
 clear hb3
 go_wp2_with (refine ldM d3 Tryz.underlying41 rfl szPa _ rfl rfl rfl ?_)
 have hba := fun o => HB.out.alloc o
 have ca : ∀ o, (w3.alloc o).cell? ⟨C, 0, none⟩ = some (.pointer (some ⟨g, 0, none⟩)) := fun o => c1' (HOC.out ▸ (hba o).hc)
 have hp := fun o => wBox_any n0 g p0 (l ++ eS (a, b) ++ bo u 8) x3 (w3.alloc o) HK.out.2.1 (hba o).sz (hba o).wr (by have := HL.out; omega)
 clear d0 d1 d2 d3 hba
 have x0 := fun W => (ix_run p0 p1 p2 W).1
 have x1 := fun W => (ix_run p0 p1 p2 W).2.1
 have xx2 := fun W => (ix_run p0 p1 p2 W).2.2
 refine wp_loop_rounds 4 ?_
 rw [rounds_succ]; go_wp2_with fail
 refine (hp _).mono ?_
 rintro e w4 ⟨rfl, hp4⟩
 obtain ⟨x4, hb4⟩ := (HB.out.alloc _).next hp4
 have HB4 : Hid (WB n0 g w w4 x x4 (l ++ eS (a, b) ++ bo u 8 ++ eB p0) C D OC OD) := hb4
 clear hp hp4 HB ca hb4
 have ca : ∀ o, (w4.alloc o).cell? ⟨C, 0, none⟩ = some (.pointer (some ⟨g, 0, none⟩)) := fun o => c1' (HOC.out ▸ (HB4.out.alloc o).hc)
 have hp := fun o => wBox_any n0 g p1 (l ++ eS (a, b) ++ bo u 8 ++ eB p0) x4 (w4.alloc o) HK.out.2.2.1 (HB4.out.alloc o).sz (HB4.out.alloc o).wr (by have := HL.out; omega)
 go_wp2_with fail
 rw [rounds_succ]; go_wp2_with fail
 refine (hp _).mono ?_
 rintro e w5 ⟨rfl, hp5⟩
 obtain ⟨x5, hb5⟩ := (HB4.out.alloc _).next hp5
 have HB5 : Hid (WB n0 g w w5 x x5 (l ++ eS (a, b) ++ bo u 8 ++ eB p0 ++ eB p1) C D OC OD) := hb5
 clear hp hp5 HB4 ca hb5
 have ca : ∀ o, (w5.alloc o).cell? ⟨C, 0, none⟩ = some (.pointer (some ⟨g, 0, none⟩)) := fun o => c1' (HOC.out ▸ (HB5.out.alloc o).hc)
 have hp := fun o => wBox_any n0 g p2 (l ++ eS (a, b) ++ bo u 8 ++ eB p0 ++ eB p1) x5 (w5.alloc o) HK.out.2.2.2 (HB5.out.alloc o).sz (HB5.out.alloc o).wr (by have := HL.out; omega)
 go_wp2_with fail
 rw [rounds_succ]; go_wp2_with fail
 refine (hp _).mono ?_
 rintro e w6 ⟨rfl, hp6⟩
 have HP : Hid (WP n0 g w x (l ++ eS (a, b) ++ bo u 8 ++ eB p0 ++ eB p1 ++ eB p2) w6) := ((HB5.out.alloc _).next hp6).elim fun _ h => h.out
 clear hp hp6 HB5 ca
 go_wp2_with fail
 rw [rounds_succ]; go_wp2_with fail
 go_end0
 exact ⟨rfl, HP.out⟩
set_option maxRecDepth 100000 in
set_option maxHeartbeats 1000000 in
theorem wSealed_any (n0 g : Nat) (d : Int × ((Int × Int) × ByteArray)) (l : List Bool) (x : Value) (w : World) (hk : okT d) (hB : n0 ≤ w.heap.size) (hw : Wr n0 w g l x) (hl : l.length ≤ 1024) :
  Calls Tryz.prog 18 #[.agg #[.pointer (some ⟨g, 0, none⟩)], .agg (sdl d).toArray] w fun e w' => e = .returned (.tuple #[]) ∧ WP n0 g w x (l ++ eD d) w' := by
 obtain ⟨e, ⟨b, c⟩, s⟩ := d
 obtain ⟨h1, h2, h3⟩ := hk
 obtain ⟨u, rfl, eu, hu⟩ := fit_nat h1
 unfold sdl
 dsimp only at *
 obtain ⟨n, hn⟩ : ∃ n, s.size = n := ⟨_, rfl⟩
 have HN : Hid (s.size = n) := hn
 have HE : Hid (l ++ eD ((u : Int), (b, c), s) = l ++ bo u 8 ++ eK (b, c) ++ (bo n 7 ++ (bys s).flatMap fun v => bo v 8)) := by unfold Hid eD eX; dsimp only; rw [eu, hn]; simp [tb]
 rw [HE.out]
 have hmf : ∀ (fn : Fn) (first cap : Array Value) (w : World), (Instr.makeFunc fn first cap).run Tryz.prog w = .ok (.func fn first cap) w := fun _ _ _ _ => rfl
 have hcv := fun W => run_bytes_of_string (P := Tryz.prog) W 9 101 5 s Tryz.underlying9 Tryz.underlying101 Tryz.underlying5
 have l1 : (l ++ bo u 8).length ≤ 2048 := by rw [List.length_append, bo_length]; omega
 have l2 : (l ++ bo u 8 ++ eK (b, c)).length ≤ 2090 := by rw [List.length_append]; simp [eK] at *; omega
 have HL : Hid ((l ++ bo u 8).length ≤ 2048 ∧ (l ++ bo u 8 ++ eK (b, c)).length ≤ 2090) := ⟨l1, l2⟩
 have HK : Hid (gK (b, c) = true) := h2
 have HSZ : Hid (s.size < 128) := h3
 have HSL : Hid ((bys s).length = s.size) := bys_length s
 have hb := WB.new2 hw hB (.cells #[.pointer (some ⟨g, 0, none⟩)] 71) (.cells #[.int .i64 (u : Int), .int .i64 b, .int .i64 c, .string s] 45)
 clear HE h1 h2 h3 hw hB eu l1 l2
 rw [hn] at hcv
 clear hn
 go_enter Tryz.func18, Tryz.ntmps18
 go_upto_region 1 with (fail)
 generalize (w.alloc (.cells #[.pointer (some ⟨g, 0, none⟩)] 71)).alloc (.cells #[.int .i64 (u : Int), .int .i64 b, .int .i64 c, .string s] 45) = w1 at *
 obtain ⟨D, hD⟩ : ∃ D, w.heap.size + 1 = D := ⟨_, rfl⟩
 rw [hD] at hb ⊢
 obtain ⟨C, hC⟩ : ∃ C, w.heap.size = C := ⟨_, rfl⟩
 rw [hC] at hb ⊢
 clear hD hC
 obtain ⟨OC, hOC⟩ : ∃ o, o = Obj.cells #[.pointer (some ⟨g, 0, none⟩)] 71 := ⟨_, rfl⟩
 obtain ⟨OD, hOD⟩ : ∃ o, o = Obj.cells #[.int .i64 (u : Int), .int .i64 b, .int .i64 c, .string s] 45 := ⟨_, rfl⟩
 have HOC : Hid (OC = Obj.cells #[.pointer (some ⟨g, 0, none⟩)] 71) := hOC
 have HOD : Hid (OD = Obj.cells #[.int .i64 (u : Int), .int .i64 b, .int .i64 c, .string s] 45) := hOD
 rw [← hOC, ← hOD] at hb
 clear hOC hOD
 obtain ⟨d0, d1, d2, d3⟩ := c4 (HOD.out ▸ hb.hd)
 have c0 := c1' (HOC.out ▸ hb.hc)
 have hp := wNumber_any n0 g u 8 l x w1 (by omega) (by omega) hu hb.sz hb.wr (by omega)
 have HB : Hid (WB n0 g w w1 x x l C D OC OD) := hb
 clear hb
 go_wp2_with fail
 refine hp.mono ?_
 rintro e w2 ⟨rfl, hp2⟩
 obtain ⟨x2, hb2⟩ := HB.out.next hp2
 clear hp hp2 HB c0 d0 d1 d2 d3
 obtain ⟨d0, d1, d2, d3⟩ := c4 (HOD.out ▸ hb2.hd)
 have c0 := c1' (HOC.out ▸ hb2.hc)
 have hp := wKey_any n0 g (b, c) (l ++ bo u 8) x2 w2 HK.out hb2.sz hb2.wr (by have := HL.out; omega)
 have HB : Hid (WB n0 g w w2 x x2 (l ++ bo u 8) C D OC OD) := hb2
 clear hb2
 dsimp only at hp
 go_wp2_with fail
 refine hp.mono ?_
 rintro e w3 ⟨rfl, hp3⟩
 obtain ⟨x3, hb3⟩ := HB.out.next hp3
 clear hp hp3 HB c0 d0 d1 d2 d3
 obtain ⟨d0, d1, d2, d3⟩ := c4 (HOD.out ▸ hb3.hd)
 have c0 := c1' (HOC.out ▸ hb3.hc)
 have hd3 := hb3.later (drew_below w3)
 have ca : ∀ o, (w3.alloc o).cell? ⟨C, 0, none⟩ = some (.pointer (some ⟨g, 0, none⟩)) := fun o => c1' (HOC.out ▸ (hb3.alloc o).hc)
 have HB : Hid (WB n0 g w w3.drew x x3 (l ++ bo u 8 ++ eK (b, c)) C D OC OD) := hd3
 have HX : Hid (∀ k, Fw g x3 k → k < w3.heap.size) := hb3.wr.inHeap
 have hp := fun cap => putB_any n0 g 7 (some ⟨w3.heap.size, 0, none⟩) cap (bys s) (l ++ bo u 8 ++ eK (b, c)) x3 ((w3.alloc (.cells (bytesRow s cap) 5 ((bytesRow s cap).size, (bytesRow s cap).size + 1))).drew) (by omega) (by omega) (by rw [HSL.out]; exact HSZ.out) (by rw [HSL.out]; have := HSZ.out; omega) (bys_lt s) (by
  intro W' x' hst i hi
  obtain ⟨q, e, r⟩ := rd_conv w3 s 5 cap i hi
  cases e
  refine ⟨_, rfl, ?_⟩
  have hk := hst.kept.block w3.heap.size (by show w3.heap.size < (w3.heap.push _).size; simp) (fun hf => by have := HX.out _ hf; omega)
  exact (World.cell?_of_block (a := ⟨w3.heap.size, i, none⟩) hk).trans r) (hd3.alloc _).sz (hd3.alloc _).wr (by have := HL.out; omega)
 rw [HSL.out, HN.out] at hp
 clear hb3 hd3
 go_wp2_with fail
 refine (hp _).mono ?_
 rintro e w4 ⟨rfl, hp4⟩
 have HP : Hid (WP n0 g w x (l ++ bo u 8 ++ eK (b, c) ++ (bo n 7 ++ (bys s).flatMap fun v => bo v 8)) w4) := ((HB.out.alloc _).next hp4).elim fun _ h => h.out
 clear hp hp4
 go_wp2_with fail
 go_end0
 exact ⟨rfl, HP.out⟩
end Go.Proofs.YtdkfifnhmfbagaaGreatDoor.Wi
