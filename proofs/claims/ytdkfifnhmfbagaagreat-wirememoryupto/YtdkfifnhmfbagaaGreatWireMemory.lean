/- For every message and every text (of a bulk of 1048576 at most, the second form's own): Boxes answers what the document says; what is handed in stays, what is answered is new memory. No further conditions. MADE by wip/mk_wmem.py. -/
import Derived.Test.YtdkfifnhmfbagaaGreatRows
import Derived.Test.YtdkfifnhmfbagaaGreatWiXs
import Derived.Test.YtdkfifnhmfbagaaGreatOpJ
import Derived.OpenShut
import Derived.JoinedCond
import Derived.ChangeMaps5
namespace Go.Proofs.YtdkfifnhmfbagaaGreat.wireMemory
open Go.ChangeShapes Go.WideShapes Go.ChangeAt Go.RowKit Go.Maps
open Go.Proofs.YtdkfifnhmfbagaaGreat.Wi
open Bt (Kept tx pk tb bys)
set_option linter.unusedVariables false
set_option linter.unusedSimpArgs false

theorem dc_short (s : ByteArray) : (dcM (tb (bys s))).rk.2.1.length ≤ 1536 ∧ (dcM (tb (bys s))).rk.2.2.1.length ≤ 1536 ∧ (dcM (tb (bys s))).rk.2.2.2.length ≤ 1536 := by
  have z : ∀ n : Nat, 0 ≤ n := fun n => Nat.zero_le n
  rcases dc_cases s with ⟨_, hg, _⟩ | ⟨_, e⟩
  · generalize dcM (tb (bys s)) = m at *
    rcases gM_cases hg with ⟨a, e⟩ | ⟨a, e⟩ | ⟨a, e⟩ | ⟨a, e⟩
    · simp only [gR, Bool.and_eq_true, decide_eq_true_eq] at a
      rw [e]
      exact ⟨by show m.rk.2.1.length ≤ _; omega, by show m.rk.2.2.1.length ≤ _; omega, by show m.rk.2.2.2.length ≤ _; omega⟩
    · rw [e]; exact ⟨z _, z _, z _⟩
    · rw [e]; exact ⟨z _, z _, z _⟩
    · rw [e]; exact ⟨z _, z _, z _⟩
  · rw [e]; exact ⟨z _, z _, z _⟩
theorem own_pos {w : World} {b T k n c : Nat} {a : Option Addr} {xs : List Value} (h : w.ownsRow b T k (.slice a n c) n xs) (hn : 0 < n) : ∃ g, a = some ⟨g, 0, none⟩ := by
  rcases h.2 with ⟨_, h0⟩ | ⟨g, cap, cur, e, _⟩
  · omega
  · cases e; exact ⟨g, rfl⟩
section
variable {n0 n1 X q g c nL nJ nI : Nat} {W0 W W' : World} {m : Msg} {vL vJ vI : Value}
theorem XSI (hn : m.rk.2.2.2.length = nI) (h : XS n0 n1 W0 W X m vL vJ (.slice (some ⟨g, 0, none⟩) nI c) q) (o : Nat) (vs : List Value) : XS n0 n1 W0 (W.setCells g o vs) X m vL vJ (.slice (some ⟨g, 0, none⟩) nI c) q := by subst hn; exact h.setI o vs
theorem XSJ (hn : m.rk.2.2.1.length = nJ) (h : XS n0 n1 W0 W X m vL (.slice (some ⟨g, 0, none⟩) nJ c) vI q) (o : Nat) (vs : List Value) : XS n0 n1 W0 (W.setCells g o vs) X m vL (.slice (some ⟨g, 0, none⟩) nJ c) vI q := by subst hn; exact h.setJ o vs
theorem XSL (hn : m.rk.2.1.length = nL) (h : XS n0 n1 W0 W X m (.slice (some ⟨g, 0, none⟩) nL c) vJ vI q) (hq : q < nL) {x : Int} (hx : x < 0) : XS n0 n1 W0 (W.setCells g (q * 2) [.int .i64 x, .int .i64 0]) X m (.slice (some ⟨g, 0, none⟩) nL c) vJ vI (q + 1) := by
  subst hn
  have := h.setL hq hx
  rwa [Nat.zero_add] at this
theorem there0 {w : World} {b g N k c : Nat} {T : TypeId} {xs : List Value} (h : w.ownsRow b T k (.slice (some ⟨g, 0, none⟩) N c) N xs) {i : Nat} (hi : i < N) : w.there g (i * k) k := by
  have := own_there h hi
  rwa [Nat.zero_add] at this
end
theorem own_keep {W W' : World} {b k n : Nat} {T : TypeId} {v : Value} {xs : List Value} {r : Option Nat} (h : W.ownsRow b T k v n xs) (hg : W.grownBy W' r) (hne : ∀ j, v.ownBlock = some j → r ≠ some j) : W'.ownsRow b T k v n xs := by
  refine ⟨h.1, ?_⟩
  rcases h.2 with h0 | ⟨g, cap, cur, e, h3, h4, r'⟩
  · exact .inl h0
  · subst e
    exact .inr ⟨g, cap, cur, rfl, h3, (hg.block g (row_lt h4) (fun e => hne g rfl e.symm)).trans h4, r'⟩
theorem own_two {W : World} {b b' k k' n n' : Nat} {T U : TypeId} {v u : Value} {xs ys : List Value} (h : W.ownsRow b T k v n xs) (h' : W.ownsRow b' U k' u n' ys) (hne : T ≠ U) : ∀ j, v.ownBlock = some j → u.ownBlock ≠ some j := fun j hj e => by
  rcases h'.2 with ⟨e0, _⟩ | ⟨g, cap, cur, e0, h3, h4, _⟩
  · subst e0; cases e
  · subst e0
    cases e
    exact own_blk h h4 hne hj
theorem mg_grown {W u : World} {X b k n : Nat} {T : TypeId} {v : Value} {xs : List Value} {o : Obj} {m : Msg} {vL vJ vI : Value} (h : MgAt W X m vL vJ vI) (hrow : W.ownsRow b T k v n xs) (hne : T ≠ 38) (hg : (W.alloc o).grownBy u v.ownBlock) : MgAt u X m vL vJ vI := by
  have h1 : MgAt (W.alloc o) X m vL vJ vI := h.later (below_alloc W o)
  exact (hg.block X (row_lt h1) (fun e => own_blk hrow h hne e.symm)).trans h1
theorem ap_new {W : World} {b k n : Nat} {T : TypeId} {v u v' : Value} {xs : List Value} {o : Obj} (hap : APv v u) (hu : W.ownsRow b T k u n xs) (hat : v'.ownBlock = v.ownBlock ∨ v'.ownBlock = some (W.alloc o).heap.size) : APv v' u := fun j h1 h2 => by
  rcases hat with h | h
  · rw [h] at h1; exact hap j h1 h2
  · rw [h] at h1
    cases h1
    have := (hu.lt _ h2).2
    rw [World.size_alloc] at this
    omega
theorem ng_snoc {q : Nat} {xs : List Value} {x : Int} (h : NG q xs) (hl : xs.length = q * 2) (hx : x < 0) : NG (q + 1) (xs ++ [.int .i64 x, .int .i64 0]) := fun i hi => by
  by_cases e : i = q
  · subst e
    refine ⟨x, hx, ?_⟩
    rw [List.getElem?_append_right (by omega), hl, Nat.sub_self]
    rfl
  · obtain ⟨y, hy, e2⟩ := h i (by omega)
    exact ⟨y, hy, by rw [List.getElem?_append_left (by omega)]; exact e2⟩
set_option maxHeartbeats 4000000 in
set_option maxRecDepth 100000 in
theorem walk (m0 : Msg) (t0 : List Value) (s1 : ByteArray) (w : World) (mv0 : MV w m0 t0) (ln0 : m0.rk.2.1.length ≤ 1048576 ∧ m0.rk.2.2.1.length ≤ 1048576 ∧ m0.rk.2.2.2.length ≤ 1048576) (hl1 : s1.size ≤ 1048576) :
    Calls Tryz.prog 4 #[.agg t0.toArray, .string s1] w fun e w' => e = .returned (.bool true) ∧ Below w.heap.size w w' := by
  obtain ⟨ib, hbi, hbz, hbs, hbb⟩ := info_of infoBox
  obtain ⟨is, hsi, hsz, hss, hsb⟩ := info_of infoSeat
  obtain ⟨ii, hii, hiz, his, hibb⟩ := info_of infoItem
  have HL : Hid (s1.size ≤ 1048576) := hl1
  have HV0 : Hid (MV w m0 t0) := mv0
  have LN0 : Hid (m0.rk.2.1.length ≤ 1048576 ∧ m0.rk.2.2.1.length ≤ 1048576 ∧ m0.rk.2.2.2.length ≤ 1048576) := ln0
  have hA0 := MB.new w t0
  have hb0 := below_alloc w (.cells t0.toArray 38)
  have HB1 : Hid (Below w.heap.size w (w.alloc (.cells t0.toArray 38))) := hb0
  have HS0 : Hid _ := szMv mv0
  obtain ⟨bl, hbl⟩ : ∃ l, bxs m0 = l := ⟨_, rfl⟩
  obtain ⟨nb, hnb⟩ : ∃ n, bl.length = n := ⟨_, rfl⟩
  have HNB : Hid (bl.length = nb) := hnb
  have hnb9 : nb ≤ 1048576 := by
    rw [← hnb, ← hbl]
    unfold bxs
    split
    · rw [List.length_map]; exact ln0.2.2
    · split
      · exact (by decide : 3 ≤ 1048576)
      · exact (by decide : 0 ≤ 1048576)
  have hbx : Hid (∀ W ct, MV W m0 ct → Calls Tryz.prog 14 #[.agg ct.toArray] W fun e w' => ∃ a c, e = .returned (.slice a nb c) ∧ w'.ownsRow W.heap.size 31 4 (.slice a nb c) nb (bl.flatMap bxl) ∧ Below W.heap.size W w') := fun W ct h => by
    refine (boxes_any h LN0.out.2.2).mono ?_
    rintro e w' ⟨a, c, he, ho, hb⟩
    rw [hbl, hnb] at he ho
    exact ⟨a, c, he, ho, hb⟩
  have hrx : Hid (∀ W ct, MV W m0 ct → Calls Tryz.prog 15 #[.agg ct.toArray] W fun e w' => ∃ a c, e = .returned (.slice a nb c) ∧ w'.ownsRow W.heap.size 31 4 (.slice a nb c) nb (bl.flatMap bxl) ∧ Below W.heap.size W w') := fun W ct h => by
    refine (rBoxes_any h LN0.out.2.2).mono ?_
    rintro e w' ⟨a, c, he, ho, hb⟩
    rw [hbl, hnb] at he ho
    exact ⟨a, c, he, ho, hb⟩
  have hsm : Hid (∀ W a c a' c' b b', W.ownsRow b 31 4 (.slice a nb c) nb (bl.flatMap bxl) → W.ownsRow b' 31 4 (.slice a' nb c') nb (bl.flatMap bxl) → Calls Tryz.prog 16 #[.slice a nb c, .slice a' nb c'] W fun e w' => e = .returned (.bool true) ∧ Below W.heap.size W w') := fun W a c a' c' b b' h1 h2 => by
    rw [← hnb] at h1 h2 ⊢
    refine (sameB_any a a' c c' bl bl W (rd_owns (f := bxl) (fun _ => rfl) h1) (rd_owns (f := bxl) (fun _ => rfl) h2) (by omega) (by omega)).mono ?_
    rintro e w' ⟨⟨b, rfl, hb⟩, hB⟩
    exact ⟨by rw [hb.2 rfl], hB⟩
  clear hb0 mv0 hl1 ln0 hbl hnb
  go_enter Tryz.func4, Tryz.ntmps4
  go_upto_region 1 with (fail)
  generalize w.alloc (.cells t0.toArray 38) = w1 at *
  obtain ⟨A, hAe⟩ : ∃ C, w.heap.size = C := ⟨_, rfl⟩
  rw [hAe] at hA0 ⊢
  clear hAe
  have HA0 : Hid (MB w1 A t0) := hA0
  clear hA0
  go_wp2_with fail
  refine (lives_any _).mono ?_
  rintro e w2 ⟨rfl, hb2⟩
  have HB2 : Hid (Below w.heap.size w w2) := Below.join HB1.out hb2
  have HA2 : Hid (MB w2 A t0) := HA0.out.later hb2
  have HR2 : Hid (w2.rangeAt A 0 t0) := HA2.out.all
  clear hb2 HB1 HA0
  have h3 := lent_any (HV0.out.later HB2.out) LN0.out
  go_wp2_with (refine ldM HR2.out Tryz.underlying38 rfl HS0.out _ rfl rfl rfl ?_)
  refine h3.mono ?_
  rintro e w3 ⟨dt, rfl, hln, hb3⟩
  have HB3 : Hid (Below w.heap.size w w3) := Below.join HB2.out hb3
  have HA3 : Hid (MB w3 A t0) := HA2.out.later hb3
  obtain ⟨n2, hn2⟩ : ∃ n, w2.heap.size = n := ⟨_, rfl⟩
  rw [hn2] at hln
  have HLN3 : Hid (LN n2 w3 m0 dt) := hln
  clear h3 hb3 hln hn2 HB2 HA2 HR2
  go_upto_region 4 with (refine stN szMg rfl dt HLN3.out.mv.len HLN3.out.mv.one rfl _ _ rfl rfl rfl ?_)
  have HO4 : Hid (MB (w3.alloc (.cells dt.toArray 38)) w3.heap.size dt) := MB.new w3 dt
  have HB4 : Hid (Below w.heap.size w (w3.alloc (.cells dt.toArray 38))) := Below.plus HB3.out _
  have HLN4 : Hid (LN n2 (w3.alloc (.cells dt.toArray 38)) m0 dt) := HLN3.out.later (below_alloc _ _)
  have HA4 : Hid (MB (w3.alloc (.cells dt.toArray 38)) A t0) := HA3.out.later (below_alloc _ _)
  clear HB3 HLN3 HA3
  generalize w3.alloc (.cells dt.toArray 38) = w4 at *
  generalize w3.heap.size = O at *
  have HSd : Hid _ := szMv HLN4.out.mv
  have K0 : Hid (Below w4.heap.size w4 w4.drew) := drew_below w4
  have HS4 : MB w4.drew O dt ∧ MB w4.drew A t0 := ⟨HO4.out.later K0.out, HA4.out.later K0.out⟩
  refine wp_region_held_drew (S := fun W => MB W O dt ∧ MB W A t0) (by kernel_rfl) HS4 (fun hHeld => ?_)
  clear HS4
  generalize w4.drew = x0 at *
  have hq1 := hbx.out x0 dt (HLN4.out.later K0.out).mv
  refine wpAnyH_take (i := 0) (oi := { dst := some 28, op := Op.load 38 (Operand.tmp 5), type := _, pos := _, after := _, guard := none }) (v := .agg dt.toArray) rfl (by kernel_rfl) (by kernel_rfl) (by kernel_rfl) (fun _ _ _ h => h) (Or.inl ⟨by rfl, fun w hSw => ld_ex hSw.1.all Tryz.underlying38 rfl HSd.out rfl rfl⟩) (by assumption) ?_
  simp only [Act.put, List.setIfInBounds_toArray, List.set_cons_zero, List.set_cons_succ]
  refine wpAnyH_take (i := 2) (oi := { dst := some 30, op := Op.load 38 (Operand.tmp 5), type := _, pos := _, after := _, guard := none }) (v := .agg dt.toArray) rfl (by kernel_rfl) (by kernel_rfl) (by kernel_rfl) (fun _ _ _ h => h) (Or.inl ⟨by rfl, fun w hSw => ld_ex hSw.1.all Tryz.underlying38 rfl HSd.out rfl rfl⟩) (by assumption) ?_
  simp only [Act.put, List.setIfInBounds_toArray, List.set_cons_zero, List.set_cons_succ]
  refine wpAnyH_take (i := 4) (oi := { dst := some 32, op := Op.load 38 (Operand.tmp 2), type := _, pos := _, after := _, guard := none }) (v := .agg t0.toArray) rfl (by kernel_rfl) (by kernel_rfl) (by kernel_rfl) (fun _ _ _ h => h) (Or.inl ⟨by rfl, fun w hSw => ld_ex hSw.2.all Tryz.underlying38 rfl HS0.out rfl rfl⟩) (by assumption) ?_
  simp only [Act.put, List.setIfInBounds_toArray, List.set_cons_zero, List.set_cons_succ]
  refine wpAnyH_ready (rs := [1]) (by kernel_rfl) (by simp) ?_
  refine AllReadyH.cons rfl (fun K hK => ?_) AllReadyH.nil
  go_simp
  refine hq1.mono ?_
  rintro e x1 ⟨pa, ca, rfl, hoa, hb5⟩
  have K1 : Hid (Below w4.heap.size w4 x1) := Below.trans K0.out (hb5.mono K0.out.size)
  have OA1 : Hid (x1.ownsRow x0.heap.size 31 4 (.slice pa nb ca) nb (bl.flatMap bxl)) := hoa
  have HZ1 : Hid (x0.heap.size ≤ x1.heap.size) := hb5.size
  clear hq1 hoa hb5
  have hq2 := hbx.out x1 dt (HLN4.out.later K1.out).mv
  go_wp2_with fail
  refine hK.out _ _ ⟨HO4.out.later K1.out, HA4.out.later K1.out⟩ (fun hHeld2 => ?_)
  clear hHeld
  clear hK K
  try simp only [Act.put, List.setIfInBounds_toArray, List.set_cons_zero, List.set_cons_succ]
  refine wpAnyH_ready (rs := [3]) (by kernel_rfl) (by simp) ?_
  refine AllReadyH.cons rfl (fun K hK => ?_) AllReadyH.nil
  go_simp
  refine hq2.mono ?_
  rintro e x2 ⟨pb, cb, rfl, hoa, hb5⟩
  have K2 : Hid (Below w4.heap.size w4 x2) := Below.trans K1.out (hb5.mono K1.out.size)
  have OA2 : Hid (x2.ownsRow x0.heap.size 31 4 (.slice pa nb ca) nb (bl.flatMap bxl)) := owns_later OA1.out hb5
  have HAL : Hid (∀ k, (Value.slice pa nb ca).ownBlock = some k → x0.heap.size ≤ k ∧ k < x1.heap.size) := OA1.out.lt
  have OB2 : Hid (x2.ownsRow x1.heap.size 31 4 (.slice pb nb cb) nb (bl.flatMap bxl)) := hoa
  have HZ2 : Hid (x1.heap.size ≤ x2.heap.size) := hb5.size
  clear hq2 hoa hb5 OA1
  have hq3 := hrx.out x2 t0 (HV0.out.later (Below.join HB4.out K2.out))
  go_wp2_with fail
  refine hK.out _ _ ⟨HO4.out.later K2.out, HA4.out.later K2.out⟩ (fun hHeld3 => ?_)
  clear hHeld2
  clear hK K
  try simp only [Act.put, List.setIfInBounds_toArray, List.set_cons_zero, List.set_cons_succ]
  refine wpAnyH_ready (rs := [5]) (by kernel_rfl) (by simp) ?_
  refine AllReadyH.cons rfl (fun K hK => ?_) AllReadyH.nil
  go_simp
  refine hq3.mono ?_
  rintro e x3 ⟨pw, cw, rfl, hoa, hb5⟩
  have K3 : Hid (Below w4.heap.size w4 x3) := Below.trans K2.out (hb5.mono K2.out.size)
  have OA3 : Hid (x3.ownsRow x0.heap.size 31 4 (.slice pa nb ca) nb (bl.flatMap bxl)) := owns_later OA2.out hb5
  have OB3 : Hid (x3.ownsRow x1.heap.size 31 4 (.slice pb nb cb) nb (bl.flatMap bxl)) := owns_later OB2.out hb5
  have OW3 : Hid (x3.ownsRow x1.heap.size 31 4 (.slice pw nb cw) nb (bl.flatMap bxl)) := owns_wide hoa HZ2.out
  have HZ3 : Hid (x0.heap.size ≤ x3.heap.size) := Nat.le_trans HZ1.out (Nat.le_trans HZ2.out hb5.size)
  clear hq3 hoa hb5 OA2 OB2
  go_wp2_with fail
  refine hK.out _ _ ⟨HO4.out.later K3.out, HA4.out.later K3.out⟩ (fun hHeld4 => ?_)
  clear hHeld3
  clear hK K
  try simp only [Act.put, List.setIfInBounds_toArray, List.set_cons_zero, List.set_cons_succ]
  refine wpAnyH_take (i := 6) (oi := { dst := some 6, op := Op.assign (Operand.tmp 29), type := _, pos := _, after := _, guard := none }) (v := .slice pa nb ca) rfl (by kernel_rfl) (by kernel_rfl) (by kernel_rfl) (fun _ _ _ h => h) (Or.inl ⟨by rfl, fun w hSw => by (try dsimp only at hSw); go_simp⟩) (by assumption) ?_
  simp only [Act.put, List.setIfInBounds_toArray, List.set_cons_zero, List.set_cons_succ]
  refine wpAnyH_take (i := 7) (oi := { dst := some 7, op := Op.assign (Operand.tmp 31), type := _, pos := _, after := _, guard := none }) (v := .slice pb nb cb) rfl (by kernel_rfl) (by kernel_rfl) (by kernel_rfl) (fun _ _ _ h => h) (Or.inl ⟨by rfl, fun w hSw => by (try dsimp only at hSw); go_simp⟩) (by assumption) ?_
  simp only [Act.put, List.setIfInBounds_toArray, List.set_cons_zero, List.set_cons_succ]
  refine wpAnyH_take (i := 8) (oi := { dst := some 8, op := Op.assign (Operand.tmp 33), type := _, pos := _, after := _, guard := none }) (v := .slice pw nb cw) rfl (by kernel_rfl) (by kernel_rfl) (by kernel_rfl) (fun _ _ _ h => h) (Or.inl ⟨by rfl, fun w hSw => by (try dsimp only at hSw); go_simp⟩) (by assumption) ?_
  simp only [Act.put, List.setIfInBounds_toArray, List.set_cons_zero, List.set_cons_succ]
  refine wpAnyH_done (by kernel_rfl) ?_ _
  have HN1 : Hid (w4.heap.size ≤ x0.heap.size) := K0.out.size
  clear K0 K1 K2
  have h5 := hsm.out x3 pa ca pw cw _ _ OA3.out OW3.out
  go_wp2_with fail
  refine h5.mono ?_
  rintro e x4 ⟨rfl, hb5⟩
  have K4 : Hid (Below w4.heap.size w4 x4) := Below.trans K3.out (hb5.mono K3.out.size)
  have OA4 : Hid (x4.ownsRow x0.heap.size 31 4 (.slice pa nb ca) nb (bl.flatMap bxl)) := owns_later OA3.out hb5
  have OB4 : Hid (x4.ownsRow x1.heap.size 31 4 (.slice pb nb cb) nb (bl.flatMap bxl)) := owns_later OB3.out hb5
  have OW4 : Hid (x4.ownsRow x1.heap.size 31 4 (.slice pw nb cw) nb (bl.flatMap bxl)) := owns_later OW3.out hb5
  have HZ4 : Hid (x0.heap.size ≤ x4.heap.size) := Nat.le_trans HZ3.out hb5.size
  clear h5 hb5 K3 OA3 OB3 OW3
  have h5 := hsm.out x4 pb cb pw cw _ _ OB4.out OW4.out
  go_wp2_with fail
  refine h5.mono ?_
  rintro e x5 ⟨rfl, hb5⟩
  have K5 : Hid (Below w4.heap.size w4 x5) := Below.trans K4.out (hb5.mono K4.out.size)
  have OA5 : Hid (x5.ownsRow x0.heap.size 31 4 (.slice pa nb ca) nb (bl.flatMap bxl)) := owns_later OA4.out hb5
  have OB5 : Hid (x5.ownsRow x1.heap.size 31 4 (.slice pb nb cb) nb (bl.flatMap bxl)) := owns_later OB4.out hb5
  have OW5 : Hid (x5.ownsRow x1.heap.size 31 4 (.slice pw nb cw) nb (bl.flatMap bxl)) := owns_later OW4.out hb5
  have HZ5 : Hid (x0.heap.size ≤ x5.heap.size) := Nat.le_trans HZ4.out hb5.size
  clear h5 hb5 K4 OA4 OB4 OW4
  go_wp2_with fail
  go_loopw [46] (fun i wr => ∃ k : Nat, k ≤ nb ∧ i = .int .i64 (k : Int) ∧ (∃ xs, wr.ownsRow x0.heap.size 31 4 (.slice pa nb ca) nb xs) ∧ Kept (fun k => x0.heap.size ≤ k ∧ k < x1.heap.size) x5 wr) (fun i _ => nb - (intOf i).toNat)
  case atStart => exact ⟨0, by omega, rfl, ⟨_, OA5.out⟩, Kept.refl _ _⟩
  case round =>
    obtain ⟨k, hk, rfl, ⟨xs, ho⟩, hkp⟩ := hrel
    have HO : Hid (wr.ownsRow x0.heap.size 31 4 (.slice pa nb ca) nb xs) := ho
    have HK : Hid (Kept (fun k => x0.heap.size ≤ k ∧ k < x1.heap.size) x5 wr) := hkp
    clear ho hkp
    by_cases hkn : k < nb
    · obtain ⟨g, rfl⟩ := own_pos HO.out (by omega)
      have i1 : (0 : Int) ≤ (k : Int) := by omega
      have i2 : (k : Int) < (nb : Int) := by omega
      have HTH : Hid (wr.there g (k * 4) ([.int .i64 0, .int .i64 0, .int .i64 0, .int .i64 0] : List Value).length) := there0 HO.out hkn
      have HF : Hid (∃ ys, (wr.setCells g (k * 4) [.int .i64 0, .int .i64 0, .int .i64 0, .int .i64 0]).ownsRow x0.heap.size 31 4 (.slice (some ⟨g, 0, none⟩) nb ca) nb ys) := (own_upd HO.out (k * 4) [.int .i64 0, .int .i64 0, .int .i64 0, .int .i64 0]).imp fun _ h => h.1
      have HG : Hid (Kept (fun k => x0.heap.size ≤ k ∧ k < x1.heap.size) x5 (wr.setCells g (k * 4) [.int .i64 0, .int .i64 0, .int .i64 0, .int .i64 0])) := HK.out.trans (kept_cells wr _ g (HAL.out g rfl) _ _) (fun _ _ e => e)
      clear HO HK
      go_wp2_with (show wpList _ _ _ ({ dst := _, op := Op.store 31 _ _, type := _, pos := _, after := _, guard := _ } :: _) _ _; refine stM (cs := [.int .i64 0, .int .i64 0, .int .i64 0, .int .i64 0]) HTH.out szBox rfl rfl _ _ rfl rfl rfl ?_)
      generalize wr.setCells g (k * 4) [.int .i64 0, .int .i64 0, .int .i64 0, .int .i64 0] = wq at *
      go_roundw
      case rel => exact ⟨k + 1, by omega, by go_num, HF.out, HG.out⟩
      case measure => simp [intOf]; omega
    · obtain rfl : k = nb := by omega
      have hkn' : decide ((k : Int) < (k : Int)) = false := by simp
      have hrow := HO.out
      have hbz9 : x0.heap.size ≤ wr.heap.size := Nat.le_trans HZ5.out HK.out.size
      go_upto_region 13 with (at_builtin; (refine wpList_append_own _ rfl _ _ 49 rfl x0.heap.size 31 ib (.agg #[.int .i64 0, .int .i64 0, .int .i64 0, .int .i64 0]) 4 32 Tryz.underlying49 hbi hbz hbs hbb rfl (by decide) (.slice pa k ca) k xs rfl (hrow.alloc _) ⟨wr.heap.size, 0, none⟩ 1 1 [.int .i64 (-1), .int .i64 0, .int .i64 0, .int .i64 0] rfl rfl (cell_row_new _ #[.int .i64 (-1), .int .i64 0, .int .i64 0, .int .i64 0] _) (by simp [Value.oneCell']) (by unfold maxLen; omega) (by omega) (by simp; omega) ?_); intro v2 y1 hown2 hg2 _; have HO2 : Hid (y1.ownsRow x0.heap.size 31 4 v2 (k + 1) (xs ++ [.int .i64 (-1), .int .i64 0, .int .i64 0, .int .i64 0])) := hown2; have HG : Hid ((wr.alloc (.cells #[.int .i64 (-1), .int .i64 0, .int .i64 0, .int .i64 0] 31)).grownBy y1 (Value.slice pa k ca).ownBlock) := hg2; clear hown2 hg2)
      obtain ⟨pz, cz, hvz⟩ := owns_slice HO2.out
      subst hvz
      have HKy : Hid (Kept (fun k => x0.heap.size ≤ k ∧ k < x1.heap.size) x5 y1) := (HK.out.alloc _).grown HG.out (fun j hj _ => HAL.out j hj)
      have K6 : Hid (Below w4.heap.size w4 y1) := Below.trans K5.out (HKy.out.below K5.out.size (fun k h => Nat.le_trans HN1.out h.1))
      have OB6 : Hid (y1.ownsRow x1.heap.size 31 4 (.slice pb k cb) k (bl.flatMap bxl)) := HKy.out.row OB5.out (fun j hj h => by have h1 := (OB5.out.lt j hj).1; omega)
      have OW6 : Hid (y1.ownsRow x1.heap.size 31 4 (.slice pw k cw) k (bl.flatMap bxl)) := HKy.out.row OW5.out (fun j hj h => by have h1 := (OW5.out.lt j hj).1; omega)
      clear HO HK HG HO2 HKy OA5 OB5 OW5 hrow hbz9 K5 HZ5 HNB
      have HR6 : Hid (y1.rangeAt O 0 dt) := (HO4.out.later K6.out).all
      have h7 := (HLN4.out.later K6.out).mv.enc
      go_wp2_with (refine ldM HR6.out Tryz.underlying38 rfl HSd.out _ rfl rfl rfl ?_)
      refine h7.mono ?_
      rintro e y2 ⟨rfl, hb7⟩
      have K7 : Hid (Below w4.heap.size w4 y2) := Below.trans K6.out (hb7.mono K6.out.size)
      have OB7 : Hid (y2.ownsRow x1.heap.size 31 4 (.slice pb k cb) k (bl.flatMap bxl)) := owns_later OB6.out hb7
      have OW7 : Hid (y2.ownsRow x1.heap.size 31 4 (.slice pw k cw) k (bl.flatMap bxl)) := owns_later OW6.out hb7
      clear h7 hb7 K6 OB6 OW6 HR6
      have HR7 : Hid (y2.rangeAt A 0 t0) := (HA4.out.later K7.out).all
      have h7 := (HV0.out.later (Below.join HB4.out K7.out)).rEnc
      go_wp2_with (refine ldM HR7.out Tryz.underlying38 rfl HS0.out _ rfl rfl rfl ?_)
      refine h7.mono ?_
      rintro e y3 ⟨rfl, hb7⟩
      have K8 : Hid (Below w4.heap.size w4 y3) := Below.trans K7.out (hb7.mono K7.out.size)
      have OB8 : Hid (y3.ownsRow x1.heap.size 31 4 (.slice pb k cb) k (bl.flatMap bxl)) := owns_later OB7.out hb7
      have OW8 : Hid (y3.ownsRow x1.heap.size 31 4 (.slice pw k cw) k (bl.flatMap bxl)) := owns_later OW7.out hb7
      clear h7 hb7 K7 OB7 OW7 HR7
      generalize enS m0 = s0 at *
      generalize enE m0 = e0 at *
      have hse : (s0.toList == s0.toList) = true := by simp
      have hde : (e0 == e0) = true := by simp
      have HRo : Hid (y3.rangeAt O 0 dt) := (HO4.out.later K8.out).all
      have HRa : Hid (y3.rangeAt A 0 t0) := (HA4.out.later K8.out).all
      have h7 := sameT (HLN4.out.later K8.out).mv (HV0.out.later (Below.join HB4.out K8.out)) rfl
      go_wp2_with (first | (refine ldM HRo.out Tryz.underlying38 rfl HSd.out _ rfl rfl rfl ?_) | (refine ldM HRa.out Tryz.underlying38 rfl HS0.out _ rfl rfl rfl ?_))
      refine h7.mono ?_
      rintro e y4 ⟨rfl, hb7⟩
      have K9 : Hid (Below w4.heap.size w4 y4) := Below.trans K8.out (hb7.mono K8.out.size)
      have OB9 : Hid (y4.ownsRow x1.heap.size 31 4 (.slice pb k cb) k (bl.flatMap bxl)) := owns_later OB8.out hb7
      have OW9 : Hid (y4.ownsRow x1.heap.size 31 4 (.slice pw k cw) k (bl.flatMap bxl)) := owns_later OW8.out hb7
      clear h7 hb7 K8 OB8 OW8 HRo HRa
      have HRo : Hid (y4.rangeAt O 0 dt) := (HO4.out.later K9.out).all
      have h7 := kept_any (HLN4.out.later K9.out) LN0.out
      go_wp2_with (refine ldM HRo.out Tryz.underlying38 rfl HSd.out _ rfl rfl rfl ?_)
      refine h7.mono ?_
      rintro e y5 ⟨rfl, hb7⟩
      have Ka : Hid (Below w4.heap.size w4 y5) := Below.trans K9.out (hb7.mono K9.out.size)
      have OBa : Hid (y5.ownsRow x1.heap.size 31 4 (.slice pb k cb) k (bl.flatMap bxl)) := owns_later OB9.out hb7
      have OWa : Hid (y5.ownsRow x1.heap.size 31 4 (.slice pw k cw) k (bl.flatMap bxl)) := owns_later OW9.out hb7
      clear h7 hb7 K9 OB9 OW9 HRo
      have h7 := hsm.out y5 pb cb pw cw _ _ OBa.out OWa.out
      go_wp2_with fail
      refine h7.mono ?_
      rintro e y6 ⟨rfl, hb7⟩
      have HBz0 : Hid (Below w.heap.size w y6) := Below.join HB4.out (Below.trans Ka.out (hb7.mono Ka.out.size))
      clear h7 hb7 Ka OBa OWa HB4 HLN4 HA4 HO4
      have hwk : IntKind.i64.wrap ((k : Int) + 1) = ((k + 1 : Nat) : Int) := by simp [IntKind.wrap, IntKind.bits, IntKind.signed]; omega
      have hnn : (((k + 1 : Nat) : Int) == ((k + 1 : Nat) : Int)) = true := by simp
      have hx := dec_mx s1 y6 (by have := HL.out; omega)
      obtain ⟨de, hde2⟩ : ∃ x, dcE (tb (bys s1)) = x := ⟨_, rfl⟩
      obtain ⟨dm, hdm⟩ : ∃ x, dcM (tb (bys s1)) = x := ⟨_, rfl⟩
      have HDE : Hid (dcE (tb (bys s1)) = de ∧ dcM (tb (bys s1)) = dm) := ⟨hde2, hdm⟩
      have hshort := dc_short s1
      rw [hdm] at hshort
      rw [hde2, hdm] at hx
      clear hde2 hdm
      go_wp2_with fail
      refine hx.mono ?_
      rintro e z1 ⟨xt, rfl, hmx, hb1⟩
      have HBz1 : Hid (Below w.heap.size w z1) := Below.join HBz0.out hb1
      have HWN : Hid (w.heap.size ≤ y6.heap.size) := HBz0.out.size
      have HMX : Hid (MX y6.heap.size z1 dm xt) := hmx
      have HZ01 : Hid (y6.heap.size ≤ z1.heap.size) := hb1.size
      generalize y6.heap.size = n0 at *
      clear hx hmx hb1 HBz0
      go_upto_region 18 with (refine stN szMg rfl xt HMX.out.mo.mv.len HMX.out.mo.mv.one rfl _ _ rfl rfl rfl ?_)
      have HBz2 : Hid (Below w.heap.size w (z1.alloc (.cells xt.toArray 38))) := Below.plus HBz1.out _
      have HX2 : Hid (MB (z1.alloc (.cells xt.toArray 38)) z1.heap.size xt) := MB.new z1 xt
      have HZ12 : Hid (Below z1.heap.size z1 (z1.alloc (.cells xt.toArray 38))) := below_alloc _ _
      have HXn : Hid (n0 ≤ z1.heap.size ∧ z1.heap.size < (z1.alloc (.cells xt.toArray 38)).heap.size) := ⟨HZ01.out, by rw [World.size_alloc]; exact Nat.lt_succ_self _⟩
      generalize z1.alloc (.cells xt.toArray 38) = z2 at *
      clear HBz1
      have hy := dec_mx s1 z2 (by have := HL.out; omega)
      rw [HDE.out.1, HDE.out.2] at hy
      go_wp2_with fail
      refine hy.mono ?_
      rintro e z3 ⟨yt, rfl, hmy, hb3⟩
      have HBz3 : Hid (Below w.heap.size w z3) := Below.join HBz2.out hb3
      have HMY3 : Hid (MO z2.heap.size z3 dm yt) := hmy.mo
      have HZ23 : Hid (Below z2.heap.size z2 z3) := hb3
      clear hy hmy hb3 HBz2
      go_upto_region 19 with (refine stN szMg rfl yt HMY3.out.mv.len HMY3.out.mv.one rfl _ _ rfl rfl rfl ?_)
      have HBz4 : Hid (Below w.heap.size w (z3.alloc (.cells yt.toArray 38))) := Below.plus HBz3.out _
      have HY4 : Hid (MB (z3.alloc (.cells yt.toArray 38)) z3.heap.size yt) := MB.new z3 yt
      have HZ24 : Hid (Below z2.heap.size z2 (z3.alloc (.cells yt.toArray 38))) := Below.plus HZ23.out _
      have HMY4 : Hid (MO z2.heap.size (z3.alloc (.cells yt.toArray 38)) dm yt) := HMY3.out.later (below_alloc _ _)
      have HYn : Hid (z2.heap.size ≤ z3.heap.size) := HZ23.out.size
      generalize z3.alloc (.cells yt.toArray 38) = z4 at *
      generalize z3.heap.size = Y at *
      clear HBz3 HMY3 HZ23
      have hz := rDec_mo s1 z4 (by have := HL.out; omega)
      rw [HDE.out.1, HDE.out.2] at hz
      go_wp2_with fail
      refine hz.mono ?_
      rintro e z5 ⟨zt, rfl, hmz, hb5⟩
      have HBz5 : Hid (Below w.heap.size w z5) := Below.join HBz4.out hb5
      have HMZ5 : Hid (MO z2.heap.size z5 dm zt) := hmz.wide HZ24.out.size
      have HMY5 : Hid (MO z2.heap.size z5 dm yt) := HMY4.out.later hb5
      have HY5 : Hid (MB z5 Y yt) := HY4.out.later hb5
      have HZ25 : Hid (Below z2.heap.size z2 z5) := HZ24.out.trans (hb5.mono HZ24.out.size)
      clear hz hmz hb5 HBz4 HMY4 HY4 HZ24
      go_upto_region 20 with (refine stN szMg rfl zt HMZ5.out.mv.len HMZ5.out.mv.one rfl _ _ rfl rfl rfl ?_)
      have HBz6 : Hid (Below w.heap.size w (z5.alloc (.cells zt.toArray 38))) := Below.plus HBz5.out _
      have HZ6 : Hid (MB (z5.alloc (.cells zt.toArray 38)) z5.heap.size zt) := MB.new z5 zt
      have HMZ6 : Hid (MO z2.heap.size (z5.alloc (.cells zt.toArray 38)) dm zt) := HMZ5.out.later (below_alloc _ _)
      have HMY6 : Hid (MO z2.heap.size (z5.alloc (.cells zt.toArray 38)) dm yt) := HMY5.out.later (below_alloc _ _)
      have HY6 : Hid (MB (z5.alloc (.cells zt.toArray 38)) Y yt) := HY5.out.later (below_alloc _ _)
      have HZ26 : Hid (Below z2.heap.size z2 (z5.alloc (.cells zt.toArray 38))) := Below.plus HZ25.out _
      have HZn : Hid (z2.heap.size ≤ z5.heap.size) := HZ25.out.size
      generalize z5.alloc (.cells zt.toArray 38) = z6 at *
      generalize z5.heap.size = Z at *
      clear HBz5 HMZ5 HMY5 HY5 HZ25
      obtain ⟨aL, cL, aJ, cJ, aI, cI, hxt, oL, oJ, oI, hap, hlen⟩ := HMX.out
      have HXS0 : Hid (XS n0 z2.heap.size z6 z6 z1.heap.size dm (.slice aL dm.rk.2.1.length cL) (.slice aJ dm.rk.2.2.1.length cJ) (.slice aI dm.rk.2.2.2.length cI) 0) := by
        have b16 : Below z1.heap.size z1 z6 := HZ12.out.trans (HZ26.out.mono HZ12.out.size)
        have hm6 : MgAt z6 z1.heap.size dm (.slice aL dm.rk.2.1.length cL) (.slice aJ dm.rk.2.2.1.length cJ) (.slice aI dm.rk.2.2.2.length cI) := by
          have h := HX2.out.later HZ26.out
          rw [hxt] at h
          exact h
        have up : ∀ {v : Value} {T : TypeId} {k n : Nat} {xs : List Value}, z1.ownsRow n0 T k v n xs → ∀ j, v.ownBlock = some j → n0 ≤ j ∧ j < z2.heap.size := fun h j hj => ⟨(h.lt j hj).1, Nat.lt_trans (h.lt j hj).2 HXn.out.2⟩
        refine ⟨hm6, ⟨_, owns_later oL b16, NG.zero _⟩, ⟨_, owns_later oJ b16⟩, ⟨_, owns_later oI b16⟩, fun j h1 h2 => ?_, ⟨up oL, up oJ, up oI, HXn.out.1, HXn.out.2⟩, Kept.refl _ _⟩
        cases aL with
        | none => cases h1
        | some p1 =>
          cases aJ with
          | none => cases h2
          | some p2 => exact hap p1 p2 rfl rfl ((Option.some.inj h1).trans (Option.some.inj h2).symm)
      generalize z1.heap.size = X at *
      obtain ⟨n1, hn1⟩ : ∃ n, z2.heap.size = n := ⟨_, rfl⟩
      rw [hn1] at HXS0 HMY6 HMZ6 HYn HZn
      clear hxt oL oJ oI hap hlen HMX HX2 HZ12 HZ26 HXn hn1 HZ01
      obtain ⟨s1a, s1b, s1c⟩ := hshort
      obtain ⟨nL, hnL⟩ : ∃ n, dm.rk.2.1.length = n := ⟨_, rfl⟩
      have HNL : Hid (dm.rk.2.1.length = nL) := hnL
      obtain ⟨nJ, hnJ⟩ : ∃ n, dm.rk.2.2.1.length = n := ⟨_, rfl⟩
      have HNJ : Hid (dm.rk.2.2.1.length = nJ) := hnJ
      obtain ⟨nI, hnI⟩ : ∃ n, dm.rk.2.2.2.length = n := ⟨_, rfl⟩
      have HNI : Hid (dm.rk.2.2.2.length = nI) := hnI
      rw [hnL, hnJ, hnI] at HXS0
      rw [hnL] at s1a
      rw [hnJ] at s1b
      rw [hnI] at s1c
      clear hnL hnJ hnI
      have e2 := HXS0.out.mg.cell 2 _ rfl
      have e3 := HXS0.out.mg.cell 3 _ rfl
      have e4 := HXS0.out.mg.cell 4 _ rfl
      go_wp2_with fail
      clear e2 e3 e4
      go_loopw [121] (fun i wr => ∃ k : Nat, k ≤ nI ∧ i = .int .i64 (k : Int) ∧ XS n0 n1 z6 wr X dm (.slice aL nL cL) (.slice aJ nJ cJ) (.slice aI nI cI) 0) (fun i _ => nI - (intOf i).toNat)
      case atStart => exact ⟨0, by omega, rfl, HXS0.out⟩
      case round =>
        obtain ⟨kI, hk, rfl, hxs⟩ := hrel
        have HXR : Hid (XS n0 n1 z6 wr X dm (.slice aL nL cL) (.slice aJ nJ cJ) (.slice aI nI cI) 0) := hxs
        clear hxs HXS0
        by_cases hkn : kI < nI
        · obtain ⟨ls, ho⟩ := HXR.out.oI
          rw [HNI.out] at ho
          obtain ⟨g, rfl⟩ := own_pos ho (by omega)
          have i1 : (0 : Int) ≤ (kI : Int) := by omega
          have i2 : (kI : Int) < (nI : Int) := by omega
          have HTH : Hid (wr.there g (kI * 6) ([.int .i64 (-1), .int .i64 0, .int .i64 0, .int .i64 0, .int .i64 0, .int .i64 0] : List Value).length) := there0 ho hkn
          have HF : Hid (XS n0 n1 z6 (wr.setCells g (kI * 6) [.int .i64 (-1), .int .i64 0, .int .i64 0, .int .i64 0, .int .i64 0, .int .i64 0]) X dm (.slice aL nL cL) (.slice aJ nJ cJ) (.slice (some ⟨g, 0, none⟩) nI cI) 0) := XSI HNI.out HXR.out _ _
          have e4 := HXR.out.mg.cell 4 _ rfl
          clear HXR ho
          go_wp2_with (show wpList _ _ _ ({ dst := _, op := Op.store 53 _ _, type := _, pos := _, after := _, guard := _ } :: _) _ _; refine stM (cs := [.int .i64 (-1), .int .i64 0, .int .i64 0, .int .i64 0, .int .i64 0, .int .i64 0]) HTH.out szItem rfl rfl _ _ rfl rfl rfl ?_)
          clear e4 HTH
          generalize wr.setCells g (kI * 6) [.int .i64 (-1), .int .i64 0, .int .i64 0, .int .i64 0, .int .i64 0, .int .i64 0] = wq at *
          go_roundw
          case rel => exact ⟨kI + 1, by omega, by go_num, HF.out⟩
          case measure => simp [intOf]; omega
        · obtain rfl : kI = nI := by omega
          have hkn' : decide ((kI : Int) < (kI : Int)) = false := by simp
          obtain ⟨wI, hwI⟩ : ∃ u, wr = u := ⟨_, rfl⟩
          rw [hwI] at HXR ⊢
          clear hwI
          have HXI : Hid (XS n0 n1 z6 wI X dm (.slice aL nL cL) (.slice aJ nJ cJ) (.slice aI kI cI) 0) := HXR.out
          clear HXR
          have e2 := HXI.out.mg.cell 2 _ rfl
          have e3 := HXI.out.mg.cell 3 _ rfl
          have e4 := HXI.out.mg.cell 4 _ rfl
          go_wp2_with fail
          clear e2 e3 e4
          go_loopw [135] (fun i wr => ∃ k : Nat, k ≤ nL ∧ i = .int .i64 (k : Int) ∧ XS n0 n1 z6 wr X dm (.slice aL nL cL) (.slice aJ nJ cJ) (.slice aI kI cI) k) (fun i _ => nL - (intOf i).toNat)
          case atStart => exact ⟨0, by omega, rfl, HXI.out⟩
          case round =>
            obtain ⟨kL, hk, rfl, hxs⟩ := hrel
            have HXR : Hid (XS n0 n1 z6 wr X dm (.slice aL nL cL) (.slice aJ nJ cJ) (.slice aI kI cI) kL) := hxs
            clear hxs HXI
            by_cases hkn : kL < nL
            · obtain ⟨ls, ho⟩ := HXR.out.oL
              have ho := ho.1
              rw [HNL.out] at ho
              obtain ⟨g, rfl⟩ := own_pos ho (by omega)
              have i1 : (0 : Int) ≤ (kL : Int) := by omega
              have i2 : (kL : Int) < (nL : Int) := by omega
              have HTH : Hid (wr.there g (kL * 2) ([.int .i64 (-2), .int .i64 0] : List Value).length) := there0 ho hkn
              have HF : Hid (XS n0 n1 z6 (wr.setCells g (kL * 2) [.int .i64 (-2), .int .i64 0]) X dm (.slice (some ⟨g, 0, none⟩) nL cL) (.slice aJ nJ cJ) (.slice aI kI cI) (kL + 1)) := XSL HNL.out HXR.out hkn (by decide)
              have e2 := HXR.out.mg.cell 2 _ rfl
              clear HXR ho
              go_wp2_with (show wpList _ _ _ ({ dst := _, op := Op.store 55 _ _, type := _, pos := _, after := _, guard := _ } :: _) _ _; refine stM (cs := [.int .i64 (-2), .int .i64 0]) HTH.out szSeat rfl rfl _ _ rfl rfl rfl ?_)
              clear e2 HTH
              generalize wr.setCells g (kL * 2) [.int .i64 (-2), .int .i64 0] = wq at *
              go_roundw
              case rel => exact ⟨kL + 1, by omega, by go_num, HF.out⟩
              case measure => simp [intOf]; omega
            · obtain rfl : kL = nL := by omega
              have hkn' : decide ((kL : Int) < (kL : Int)) = false := by simp
              obtain ⟨wL, hwL⟩ : ∃ u, wr = u := ⟨_, rfl⟩
              rw [hwL] at HXR ⊢
              clear hwL
              have HXL : Hid (XS n0 n1 z6 wL X dm (.slice aL kL cL) (.slice aJ nJ cJ) (.slice aI kI cI) kL) := HXR.out
              clear HXR
              have e2 := HXL.out.mg.cell 2 _ rfl
              have e3 := HXL.out.mg.cell 3 _ rfl
              have e4 := HXL.out.mg.cell 4 _ rfl
              go_wp2_with fail
              clear e2 e3 e4
              go_loopw [149] (fun i wr => ∃ k : Nat, k ≤ nJ ∧ i = .int .i64 (k : Int) ∧ XS n0 n1 z6 wr X dm (.slice aL kL cL) (.slice aJ nJ cJ) (.slice aI kI cI) kL) (fun i _ => nJ - (intOf i).toNat)
              case atStart => exact ⟨0, by omega, rfl, HXL.out⟩
              case round =>
                obtain ⟨kJ, hk, rfl, hxs⟩ := hrel
                have HXR : Hid (XS n0 n1 z6 wr X dm (.slice aL kL cL) (.slice aJ nJ cJ) (.slice aI kI cI) kL) := hxs
                clear hxs HXL
                by_cases hkn : kJ < nJ
                · obtain ⟨ls, ho⟩ := HXR.out.oJ
                  rw [HNJ.out] at ho
                  obtain ⟨g, rfl⟩ := own_pos ho (by omega)
                  have i1 : (0 : Int) ≤ (kJ : Int) := by omega
                  have i2 : (kJ : Int) < (nJ : Int) := by omega
                  have HTH : Hid (wr.there g (kJ * 2) ([.int .i64 (-3), .int .i64 0] : List Value).length) := there0 ho hkn
                  have HF : Hid (XS n0 n1 z6 (wr.setCells g (kJ * 2) [.int .i64 (-3), .int .i64 0]) X dm (.slice aL kL cL) (.slice (some ⟨g, 0, none⟩) nJ cJ) (.slice aI kI cI) kL) := XSJ HNJ.out HXR.out _ _
                  have e3 := HXR.out.mg.cell 3 _ rfl
                  clear HXR ho
                  go_wp2_with (show wpList _ _ _ ({ dst := _, op := Op.store 55 _ _, type := _, pos := _, after := _, guard := _ } :: _) _ _; refine stM (cs := [.int .i64 (-3), .int .i64 0]) HTH.out szSeat rfl rfl _ _ rfl rfl rfl ?_)
                  clear e3 HTH
                  generalize wr.setCells g (kJ * 2) [.int .i64 (-3), .int .i64 0] = wq at *
                  go_roundw
                  case rel => exact ⟨kJ + 1, by omega, by go_num, HF.out⟩
                  case measure => simp [intOf]; omega
                · obtain rfl : kJ = nJ := by omega
                  have hkn' : decide ((kJ : Int) < (kJ : Int)) = false := by simp
                  obtain ⟨wJ, hwJ⟩ : ∃ u, wr = u := ⟨_, rfl⟩
                  rw [hwJ] at HXR ⊢
                  clear hwJ
                  have HXJ : Hid (XS n0 n1 z6 wJ X dm (.slice aL kL cL) (.slice aJ kJ cJ) (.slice aI kI cI) kL) := HXR.out
                  clear HXR
                  have e2 := HXJ.out.mg.cell 2 _ rfl
                  have e3 := HXJ.out.mg.cell 3 _ rfl
                  have e4 := HXJ.out.mg.cell 4 _ rfl
                  obtain ⟨ls, hoL, hng⟩ := HXJ.out.oL
                  obtain ⟨js, hoJ⟩ := HXJ.out.oJ
                  obtain ⟨us, hoI⟩ := HXJ.out.oI
                  rw [HNL.out] at hoL
                  rw [HNJ.out] at hoJ
                  rw [HNI.out] at hoI
                  have HFL : Hid _ := HXJ.out.fl
                  have HAPV : Hid (APv (.slice aL kL cL) (.slice aJ kJ cJ)) := HXJ.out.ap
                  have HKP : Hid (Kept (fun k => n0 ≤ k ∧ k < n1) z6 wJ) := HXJ.out.kp
                  have HMG : Hid (MgAt wJ X dm (.slice aL kL cL) (.slice aJ kJ cJ) (.slice aI kI cI)) := HXJ.out.mg
                  have HNG : Hid (NG kL ls) := hng
                  have HOL : Hid (wJ.ownsRow n0 55 2 (.slice aL kL cL) kL ls) := hoL
                  have HOJ : Hid (wJ.ownsRow n0 55 2 (.slice aJ kJ cJ) kJ js) := hoJ
                  have HOI : Hid (wJ.ownsRow n0 53 6 (.slice aI kI cI) kI us) := hoI
                  have hf2 := row_fr HMG.out 2
                  have hnw : n0 ≤ wJ.heap.size := Nat.le_trans HFL.out.2.2.2.1 (Nat.le_of_lt (row_lt HMG.out))
                  clear hng hoL hoJ hoI HXJ e3 e4
                  have hrow := HOL.out
                  have e2 := HMG.out.cell 2 _ rfl
                  go_upto_region 36 with (at_builtin; (refine wpList_append_own_at _ rfl _ _ 22 rfl n0 55 is (.agg #[.int .i64 0, .int .i64 0]) 2 16 Tryz.underlying22 hsi hsz hss hsb rfl (by decide) (.slice aL kL cL) kL ls rfl (hrow.alloc _) ⟨wJ.heap.size, 0, none⟩ 1 1 [.int .i64 (-4), .int .i64 0] rfl rfl (cell_row_new _ #[.int .i64 (-4), .int .i64 0] _) (by simp [Value.oneCell']) (by unfold maxLen; omega) (by omega) (by simp; omega) ?_); intro v2 u2 hown2 hg2 _ hat; obtain ⟨p2, q2, rfl⟩ := owns_slice hown2; have HM2 : Hid (MgAt u2 X dm (.slice aL kL cL) (.slice aJ kJ cJ) (.slice aI kI cI)) := mg_grown HMG.out hrow (by decide) hg2; have cX := HM2.out.cell 2 _ rfl; have fX := row_fr HM2.out 2; have HO2 : Hid (u2.ownsRow n0 55 2 (.slice p2 (kL + 1) q2) (kL + 1) (ls ++ [.int .i64 (-4), .int .i64 0])) := hown2; have HG2 : Hid ((wJ.alloc (.cells #[.int .i64 (-4), .int .i64 0] 55)).grownBy u2 (Value.ownBlock (.slice aL kL cL))) := hg2; have HAT : Hid (Value.ownBlock (.slice p2 (kL + 1) q2) = Value.ownBlock (.slice aL kL cL) ∨ Value.ownBlock (.slice p2 (kL + 1) q2) = some (wJ.alloc (.cells #[.int .i64 (-4), .int .i64 0] 55)).heap.size) := hat; clear hown2 hg2 hat)
                  have HMN : Hid (MgAt (u2.setCell ⟨X, 2, none⟩ (.slice p2 (kL + 1) q2)) X dm (.slice p2 (kL + 1) q2) (.slice aJ kJ cJ) (.slice aI kI cI)) := row_set HM2.out 2 _
                  have HKN : Hid (Kept (fun k => n0 ≤ k ∧ k < n1) z6 (u2.setCell ⟨X, 2, none⟩ (.slice p2 (kL + 1) q2))) := ((HKP.out.alloc _).grown HG2.out (fun j hj _ => HFL.out.1 j hj)).setCell (p := ⟨X, 2, none⟩) (fun _ => HFL.out.2.2.2) _
                  have kX := (Kept.refl (fun k => k = X) u2).setCell (p := ⟨X, 2, none⟩) (fun _ => rfl) (.slice p2 (kL + 1) q2)
                  have h2 : u2.ownsRow n0 55 2 (.slice aJ kJ cJ) kJ js := own_keep (HOJ.out.alloc _) HG2.out (fun j hj e => HAPV.out j e hj)
                  have HYJ : Hid ((u2.setCell ⟨X, 2, none⟩ (.slice p2 (kL + 1) q2)).ownsRow n0 55 2 (.slice aJ kJ cJ) kJ js) := kX.row h2 (fun j hj e => own_blk h2 HM2.out (by decide) (by rw [hj, e]))
                  clear h2
                  have h2 : u2.ownsRow n0 53 6 (.slice aI kI cI) kI us := own_keep (HOI.out.alloc _) HG2.out (fun j hj e => own_two HOI.out hrow (by decide) j hj e)
                  have HYI : Hid ((u2.setCell ⟨X, 2, none⟩ (.slice p2 (kL + 1) q2)).ownsRow n0 53 6 (.slice aI kI cI) kI us) := kX.row h2 (fun j hj e => own_blk h2 HM2.out (by decide) (by rw [hj, e]))
                  clear h2
                  have HYL : Hid ((u2.setCell ⟨X, 2, none⟩ (.slice p2 (kL + 1) q2)).ownsRow n0 55 2 (.slice p2 (kL + 1) q2) (kL + 1) (ls ++ [.int .i64 (-4), .int .i64 0])) := kX.row HO2.out (fun j hj e => own_blk HO2.out HM2.out (by decide) (by rw [hj, e]))
                  have HAPN : Hid (APv (.slice p2 (kL + 1) q2) (.slice aJ kJ cJ)) := ap_new HAPV.out HOJ.out HAT.out
                  have HNGN : Hid (NG (kL + 1) (ls ++ [.int .i64 (-4), .int .i64 0])) := ng_snoc HNG.out hrow.1 (by decide)
                  have hnw2 : n0 ≤ (u2.setCell ⟨X, 2, none⟩ (.slice p2 (kL + 1) q2)).heap.size := Nat.le_trans HFL.out.2.2.2.1 (Nat.le_of_lt (row_lt HMN.out))
                  clear hrow HMG HKP HOL HOI HO2 HG2 HM2 HAT kX cX fX e2 hnw HOJ
                  clear HAPV HNG
                  generalize (u2.setCell ⟨X, 2, none⟩ (.slice p2 (kL + 1) q2)) = wL2 at *
                  have HMG : Hid (MgAt wL2 X dm (.slice p2 (kL + 1) q2) (.slice aJ kJ cJ) (.slice aI kI cI)) := HMN.out
                  have HKP : Hid (Kept (fun k => n0 ≤ k ∧ k < n1) z6 wL2) := HKN.out
                  have HAPV : Hid _ := HAPN.out
                  have HNG : Hid _ := HNGN.out
                  have HOL : Hid (wL2.ownsRow n0 55 2 (.slice p2 (kL + 1) q2) (kL + 1) (ls ++ [.int .i64 (-4), .int .i64 0])) := HYL.out
                  have HOJ : Hid (wL2.ownsRow n0 55 2 (.slice aJ kJ cJ) kJ js) := HYJ.out
                  have HOI : Hid (wL2.ownsRow n0 53 6 (.slice aI kI cI) kI us) := HYI.out
                  have hnw : n0 ≤ wL2.heap.size := hnw2
                  clear HMN HKN hnw2 HYL HYI HYJ HAPN HNGN
                  obtain ⟨bL, rfl⟩ : ∃ a, a = p2 := ⟨_, rfl⟩
                  obtain ⟨dL, rfl⟩ : ∃ a, a = q2 := ⟨_, rfl⟩
                  have hrow := HOJ.out
                  have e3 := HMG.out.cell 3 _ rfl
                  go_upto_region 37 with (at_builtin; (refine wpList_append_own_at _ rfl _ _ 22 rfl n0 55 is (.agg #[.int .i64 0, .int .i64 0]) 2 16 Tryz.underlying22 hsi hsz hss hsb rfl (by decide) (.slice aJ kJ cJ) kJ js rfl (hrow.alloc _) ⟨wL2.heap.size, 0, none⟩ 1 1 [.int .i64 (-5), .int .i64 0] rfl rfl (cell_row_new _ #[.int .i64 (-5), .int .i64 0] _) (by simp [Value.oneCell']) (by unfold maxLen; omega) (by omega) (by simp; omega) ?_); intro v2 u2 hown2 hg2 _ hat; obtain ⟨p2, q2, rfl⟩ := owns_slice hown2; have HM2 : Hid (MgAt u2 X dm (.slice bL (kL + 1) dL) (.slice aJ kJ cJ) (.slice aI kI cI)) := mg_grown HMG.out hrow (by decide) hg2; have cX := HM2.out.cell 3 _ rfl; have fX := row_fr HM2.out 3; have HO2 : Hid (u2.ownsRow n0 55 2 (.slice p2 (kJ + 1) q2) (kJ + 1) (js ++ [.int .i64 (-5), .int .i64 0])) := hown2; have HG2 : Hid ((wL2.alloc (.cells #[.int .i64 (-5), .int .i64 0] 55)).grownBy u2 (Value.ownBlock (.slice aJ kJ cJ))) := hg2; have HAT : Hid (Value.ownBlock (.slice p2 (kJ + 1) q2) = Value.ownBlock (.slice aJ kJ cJ) ∨ Value.ownBlock (.slice p2 (kJ + 1) q2) = some (wL2.alloc (.cells #[.int .i64 (-5), .int .i64 0] 55)).heap.size) := hat; clear hown2 hg2 hat)
                  have HMN : Hid (MgAt (u2.setCell ⟨X, 3, none⟩ (.slice p2 (kJ + 1) q2)) X dm (.slice bL (kL + 1) dL) (.slice p2 (kJ + 1) q2) (.slice aI kI cI)) := row_set HM2.out 3 _
                  have HKN : Hid (Kept (fun k => n0 ≤ k ∧ k < n1) z6 (u2.setCell ⟨X, 3, none⟩ (.slice p2 (kJ + 1) q2))) := ((HKP.out.alloc _).grown HG2.out (fun j hj _ => HFL.out.2.1 j hj)).setCell (p := ⟨X, 3, none⟩) (fun _ => HFL.out.2.2.2) _
                  have kX := (Kept.refl (fun k => k = X) u2).setCell (p := ⟨X, 3, none⟩) (fun _ => rfl) (.slice p2 (kJ + 1) q2)
                  have h2 : u2.ownsRow n0 55 2 (.slice bL (kL + 1) dL) (kL + 1) (ls ++ [.int .i64 (-4), .int .i64 0]) := own_keep (HOL.out.alloc _) HG2.out (fun j hj e => HAPV.out j hj e)
                  have HYL : Hid ((u2.setCell ⟨X, 3, none⟩ (.slice p2 (kJ + 1) q2)).ownsRow n0 55 2 (.slice bL (kL + 1) dL) (kL + 1) (ls ++ [.int .i64 (-4), .int .i64 0])) := kX.row h2 (fun j hj e => own_blk h2 HM2.out (by decide) (by rw [hj, e]))
                  clear h2
                  have h2 : u2.ownsRow n0 53 6 (.slice aI kI cI) kI us := own_keep (HOI.out.alloc _) HG2.out (fun j hj e => own_two HOI.out hrow (by decide) j hj e)
                  have HYI : Hid ((u2.setCell ⟨X, 3, none⟩ (.slice p2 (kJ + 1) q2)).ownsRow n0 53 6 (.slice aI kI cI) kI us) := kX.row h2 (fun j hj e => own_blk h2 HM2.out (by decide) (by rw [hj, e]))
                  clear h2
                  have HYJ : Hid ((u2.setCell ⟨X, 3, none⟩ (.slice p2 (kJ + 1) q2)).ownsRow n0 55 2 (.slice p2 (kJ + 1) q2) (kJ + 1) (js ++ [.int .i64 (-5), .int .i64 0])) := kX.row HO2.out (fun j hj e => own_blk HO2.out HM2.out (by decide) (by rw [hj, e]))
                  have hnw2 : n0 ≤ (u2.setCell ⟨X, 3, none⟩ (.slice p2 (kJ + 1) q2)).heap.size := Nat.le_trans HFL.out.2.2.2.1 (Nat.le_of_lt (row_lt HMN.out))
                  clear hrow HMG HKP HOL HOI HO2 HG2 HM2 HAT kX cX fX e3 hnw HOJ
                  generalize (u2.setCell ⟨X, 3, none⟩ (.slice p2 (kJ + 1) q2)) = wJ2 at *
                  have HMG : Hid (MgAt wJ2 X dm (.slice bL (kL + 1) dL) (.slice p2 (kJ + 1) q2) (.slice aI kI cI)) := HMN.out
                  have HKP : Hid (Kept (fun k => n0 ≤ k ∧ k < n1) z6 wJ2) := HKN.out
                  have HOL : Hid (wJ2.ownsRow n0 55 2 (.slice bL (kL + 1) dL) (kL + 1) (ls ++ [.int .i64 (-4), .int .i64 0])) := HYL.out
                  have HOJ : Hid (wJ2.ownsRow n0 55 2 (.slice p2 (kJ + 1) q2) (kJ + 1) (js ++ [.int .i64 (-5), .int .i64 0])) := HYJ.out
                  have HOI : Hid (wJ2.ownsRow n0 53 6 (.slice aI kI cI) kI us) := HYI.out
                  have hnw : n0 ≤ wJ2.heap.size := hnw2
                  clear HMN HKN hnw2 HYL HYI HYJ
                  obtain ⟨bJ, rfl⟩ : ∃ a, a = p2 := ⟨_, rfl⟩
                  obtain ⟨dJ, rfl⟩ : ∃ a, a = q2 := ⟨_, rfl⟩
                  have hrow := HOI.out
                  have e4 := HMG.out.cell 4 _ rfl
                  go_upto_region 38 with (at_builtin; (refine wpList_append_own_at _ rfl _ _ 23 rfl n0 53 ii (.agg #[.int .i64 0, .int .i64 0, .int .i64 0, .int .i64 0, .int .i64 0, .int .i64 0]) 6 48 Tryz.underlying23 hii hiz his hibb rfl (by decide) (.slice aI kI cI) kI us rfl (hrow.alloc _) ⟨wJ2.heap.size, 0, none⟩ 1 1 [.int .i64 (-6), .int .i64 0, .int .i64 0, .int .i64 0, .int .i64 0, .int .i64 0] rfl rfl (cell_row_new _ #[.int .i64 (-6), .int .i64 0, .int .i64 0, .int .i64 0, .int .i64 0, .int .i64 0] _) (by simp [Value.oneCell']) (by unfold maxLen; omega) (by omega) (by simp; omega) ?_); intro v2 u2 hown2 hg2 _ hat; obtain ⟨p2, q2, rfl⟩ := owns_slice hown2; have HM2 : Hid (MgAt u2 X dm (.slice bL (kL + 1) dL) (.slice bJ (kJ + 1) dJ) (.slice aI kI cI)) := mg_grown HMG.out hrow (by decide) hg2; have cX := HM2.out.cell 4 _ rfl; have fX := row_fr HM2.out 4; have HO2 : Hid (u2.ownsRow n0 53 6 (.slice p2 (kI + 1) q2) (kI + 1) (us ++ [.int .i64 (-6), .int .i64 0, .int .i64 0, .int .i64 0, .int .i64 0, .int .i64 0])) := hown2; have HG2 : Hid ((wJ2.alloc (.cells #[.int .i64 (-6), .int .i64 0, .int .i64 0, .int .i64 0, .int .i64 0, .int .i64 0] 53)).grownBy u2 (Value.ownBlock (.slice aI kI cI))) := hg2; have HAT : Hid (Value.ownBlock (.slice p2 (kI + 1) q2) = Value.ownBlock (.slice aI kI cI) ∨ Value.ownBlock (.slice p2 (kI + 1) q2) = some (wJ2.alloc (.cells #[.int .i64 (-6), .int .i64 0, .int .i64 0, .int .i64 0, .int .i64 0, .int .i64 0] 53)).heap.size) := hat; clear hown2 hg2 hat)
                  have HMN : Hid (MgAt (u2.setCell ⟨X, 4, none⟩ (.slice p2 (kI + 1) q2)) X dm (.slice bL (kL + 1) dL) (.slice bJ (kJ + 1) dJ) (.slice p2 (kI + 1) q2)) := row_set HM2.out 4 _
                  have HKN : Hid (Kept (fun k => n0 ≤ k ∧ k < n1) z6 (u2.setCell ⟨X, 4, none⟩ (.slice p2 (kI + 1) q2))) := ((HKP.out.alloc _).grown HG2.out (fun j hj _ => HFL.out.2.2.1 j hj)).setCell (p := ⟨X, 4, none⟩) (fun _ => HFL.out.2.2.2) _
                  have kX := (Kept.refl (fun k => k = X) u2).setCell (p := ⟨X, 4, none⟩) (fun _ => rfl) (.slice p2 (kI + 1) q2)
                  have h2 : u2.ownsRow n0 55 2 (.slice bL (kL + 1) dL) (kL + 1) (ls ++ [.int .i64 (-4), .int .i64 0]) := own_keep (HOL.out.alloc _) HG2.out (fun j hj e => own_two HOL.out hrow (by decide) j hj e)
                  have HYL : Hid ((u2.setCell ⟨X, 4, none⟩ (.slice p2 (kI + 1) q2)).ownsRow n0 55 2 (.slice bL (kL + 1) dL) (kL + 1) (ls ++ [.int .i64 (-4), .int .i64 0])) := kX.row h2 (fun j hj e => own_blk h2 HM2.out (by decide) (by rw [hj, e]))
                  clear h2
                  have HYI : Hid ((u2.setCell ⟨X, 4, none⟩ (.slice p2 (kI + 1) q2)).ownsRow n0 53 6 (.slice p2 (kI + 1) q2) (kI + 1) (us ++ [.int .i64 (-6), .int .i64 0, .int .i64 0, .int .i64 0, .int .i64 0, .int .i64 0])) := kX.row HO2.out (fun j hj e => own_blk HO2.out HM2.out (by decide) (by rw [hj, e]))
                  have hnw2 : n0 ≤ (u2.setCell ⟨X, 4, none⟩ (.slice p2 (kI + 1) q2)).heap.size := Nat.le_trans HFL.out.2.2.2.1 (Nat.le_of_lt (row_lt HMN.out))
                  clear hrow HMG HKP HOL HOI HO2 HG2 HM2 HAT kX cX fX e4 hnw
                  generalize (u2.setCell ⟨X, 4, none⟩ (.slice p2 (kI + 1) q2)) = wI2 at *
                  have HMG : Hid (MgAt wI2 X dm (.slice bL (kL + 1) dL) (.slice bJ (kJ + 1) dJ) (.slice p2 (kI + 1) q2)) := HMN.out
                  have HKP : Hid (Kept (fun k => n0 ≤ k ∧ k < n1) z6 wI2) := HKN.out
                  have HOL : Hid (wI2.ownsRow n0 55 2 (.slice bL (kL + 1) dL) (kL + 1) (ls ++ [.int .i64 (-4), .int .i64 0])) := HYL.out
                  have HOI : Hid (wI2.ownsRow n0 53 6 (.slice p2 (kI + 1) q2) (kI + 1) (us ++ [.int .i64 (-6), .int .i64 0, .int .i64 0, .int .i64 0, .int .i64 0, .int .i64 0])) := HYI.out
                  have hnw : n0 ≤ wI2.heap.size := hnw2
                  clear HMN HKN hnw2 HYL HYI
                  obtain ⟨bI, rfl⟩ : ∃ a, a = p2 := ⟨_, rfl⟩
                  obtain ⟨dI, rfl⟩ : ∃ a, a = q2 := ⟨_, rfl⟩
                  have e2 := HMG.out.cell 2 _ rfl
                  go_wp2_with fail
                  go_loopw [187] (fun i wr => ∃ k : Nat, k ≤ kL + 1 ∧ i = .int .i64 (k : Int) ∧ wr = wI2) (fun i _ => kL + 1 - (intOf i).toNat)
                  case atStart => exact ⟨0, by omega, rfl, rfl⟩
                  case round =>
                    obtain ⟨kk, hk, rfl, rfl⟩ := hrel
                    by_cases hkn : kk < kL + 1
                    · obtain ⟨g, hg0⟩ := own_pos HOL.out (by omega)
                      subst hg0
                      have i1 : (0 : Int) ≤ (kk : Int) := by omega
                      have i2 : (kk : Int) < ((kL + 1 : Nat) : Int) := by omega
                      obtain ⟨x, hx0, hx1⟩ := HNG.out kk hkn
                      have hcx := own_cell HOL.out hx1
                      have hd1 : decide (0 ≤ x) = false := by simp; omega
                      have hd2 : ¬ 0 ≤ x := by omega
                      clear hx1
                      go_wp2_with fail
                      go_roundw
                      case rel => exact ⟨kk + 1, by omega, by go_num, by trivial⟩
                      case measure => simp [intOf]; omega
                    · have hkn' : decide ((kk : Int) < ((kL + 1 : Nat) : Int)) = false := by simp; omega
                      have HBF : Hid (Below w.heap.size w wr) := HBz6.out.trans (HKP.out.below HBz6.out.size (fun k h => Nat.le_trans HWN.out h.1))
                      have bk : ∀ g, n1 ≤ g → g < z6.heap.size → wr.heap[g]? = z6.heap[g]? := fun g h1 h2 => HKP.out.block g h2 (fun h => by omega)
                      have HVY : Hid (MV wr dm yt) := (HMY6.out.block bk).mv
                      have HVZ : Hid (MV wr dm zt) := (HMZ6.out.block bk).mv
                      have HRY : Hid (wr.rangeAt Y 0 yt) := MB.all ((bk Y HYn.out (row_lt HY6.out)).trans HY6.out)
                      have HRZ : Hid (wr.rangeAt Z 0 zt) := MB.all ((bk Z HZn.out (row_lt HZ6.out)).trans HZ6.out)
                      have HSy : Hid _ := szMv HVY.out
                      have HSz : Hid _ := szMv HVZ.out
                      have hf := sameT HVY.out HVZ.out rfl
                      clear bk e2
                      go_wp2_with (first | (refine ldM HRY.out Tryz.underlying38 rfl HSy.out _ rfl rfl rfl ?_) | (refine ldM HRZ.out Tryz.underlying38 rfl HSz.out _ rfl rfl rfl ?_))
                      refine hf.mono ?_
                      rintro e wz ⟨rfl, hbz⟩
                      have HBe : Hid (Below w.heap.size w wz) := Below.join HBF.out hbz
                      clear hf hbz HBF
                      go_wp2_with fail
                      go_ret
                      exact ⟨rfl, HBe.out⟩
theorem own : ownKnob Tryz.prog.godebug = none := by kernel_rfl
theorem laidOut : laidOutB Tryz.prog = true := by kernel_rfl
set_option maxRecDepth 100000 in
theorem contract (H : Type) (enc : TypeId × Value → H) (W : World) (base : Nat) (args : Array Value) (ds gs : List (DataW H)) (before : List MemPlace)
    (hval : ∀ (j : Nat) t v, Tryz.f4.params[j]? = some t → args[j]? = some v → Value.okWide Tryz.prog W .any base t v)
    (hW : DataW.Whole enc Tryz.prog Tryz.f4.params.toList Rows.wireMemorySpec.vars false W args.toList ds gs before) (hk : Rows.uptoSmall H (ds ++ gs) = true) :
    Calls Tryz.prog 4 args W fun e W' => ∃ v, e = .returned v ∧ Rows.wireMemorySpec.post enc Tryz.prog Tryz.f4 false true false false W args v W' := by
  have hW' := hW
  obtain ⟨p, q, hA0, hV, rfl, hfz, hnd⟩ := hW
  have hA : DataW.TrodAll enc Tryz.prog W 0 (fun _ => true) true Tryz.f4.params.toList args.toList ds p := hA0
  rw [Tryz.params4] at hA hval
  obtain ⟨v0, vs0, d0, ds0, p0, q0, hargs, rfl, rfl, h0, r0⟩ := trodAll_cons hA
  obtain ⟨v1, vs1, d1, ds1, p1, q1, rfl, rfl, rfl, h1, r1⟩ := trodAll_cons r0
  obtain ⟨rfl, rfl, rfl⟩ := trodAll_nil r1
  obtain rfl : args = #[v0, v1] := by cases args; simp_all
  obtain ⟨rfl, rfl⟩ := trodVars_none hV
  have hk2 : Rows.uptoSmall H [d0, d1] = true := by simpa using hk
  have hb : Rows.uptoBulkAll [d0, d1] ≤ 1048576 := of_decide_eq_true hk2
  simp only [Rows.uptoBulkAll] at hb
  have k0 := h0
  have lt0 : ∀ x ∈ p0, x.block < W.heap.size := by obtain ⟨m, hm⟩ := k0; exact DataW.trod_lt m _ _ _ hm
  obtain ⟨m0, t0, rfl, mv0, ln0⟩ := open_mvU (by omega) (hval 0 38 v0 rfl rfl) h0
  have k1 := h1
  have lt1 : ∀ x ∈ p1, x.block < W.heap.size := by obtain ⟨m, hm⟩ := k1; exact DataW.trod_lt m _ _ _ hm
  obtain ⟨s1, rfl, rfl, rfl, hs1⟩ := Go.ChangeMaps.open_string Tryz.underlying9 (hval 1 9 v1 rfl rfl) h1
  have hl1 := bulk_text (H := H) (s := s1) (by omega)
  clear hA0
  refine (walk m0 t0 s1 W mv0 ln0 hl1).mono fun e W' ⟨he, bel⟩ => ?_
  subst he
  exact ⟨_, rfl, _, _, _, [], _, [], hW', trodAll_mk1 (shut_bool Tryz.underlying4 _), (trodAll_cons_mk (Below.trod laidOut (by kernel_rfl) (of_decide_eq_true (by kernel_rfl)) k0 bel lt0) (trodAll_cons_mk (Below.trod laidOut (by kernel_rfl) (of_decide_eq_true (by kernel_rfl)) k1 bel lt1) trodAll_mk0)), rfl, bel.frame _, fun h => by cases h⟩
set_option maxRecDepth 100000 in
theorem lifted (os : Os) (started : os.Started) (H : Type) (enc : TypeId × Value → H) (F : Stop.Interp) :
    ReturnsInHanded {} Tryz.checked os 4 .any ((Rows.OpenSpec.upto Rows.wireMemorySpec).pre6 enc Tryz.prog Tryz.f4 Rows.wireMemoryUptoRow.domain false) (((Rows.OpenSpec.upto Rows.wireMemorySpec).at F).post enc Tryz.prog Tryz.f4 false true false false) := by
  refine returnsInHanded_of_cond (C := Tryz.checked) (s := Rows.OpenSpec.upto Rows.wireMemorySpec) (k := Rows.uptoSmall) rfl own started (by kernel_rfl) Tryz.func4
    (OpenSpec.witness (enc := enc) (C := Tryz.checked) (s := Rows.OpenSpec.upto Rows.wireMemorySpec) (k := Rows.uptoSmall) rfl false ⟨#[], #[.agg #[.int .i64 0, .int .i64 0, .slice none 0 0, .slice none 0 0, .slice none 0 0, .int .i64 0, .int .i64 0, .int .i64 0, .int .i64 0, .int .i64 0, .int .i64 0, .int .i64 0, .int .i64 0, .int .i64 0, .int .i64 0, .int .i64 0, .int .i64 0, .int .i64 0, .int .i64 0, .int .i64 0, .int .i64 0, .int .i64 0, .int .i64 0, .int .i64 0, .int .i64 0, .string ⟨#[]⟩], .string ⟨#[]⟩], []⟩ 8 (by kernel_rfl) (by kernel_rfl) (by kernel_rfl)
      (x := ([.agg [.lit (.int .i64 0), .agg [.lit (.int .i64 0), .nil, .nil, .nil], .agg [.lit (.int .i64 0), .lit (.int .i64 0)], .agg [.lit (.int .i64 0), .lit (.int .i64 0), .lit (.int .i64 0), .agg [.agg [.agg [.lit (.int .i64 0), .lit (.int .i64 0)], .agg [.lit (.int .i64 0), .lit (.int .i64 0)]], .agg [.agg [.lit (.int .i64 0), .lit (.int .i64 0)], .agg [.lit (.int .i64 0), .lit (.int .i64 0)]], .agg [.agg [.lit (.int .i64 0), .lit (.int .i64 0)], .agg [.lit (.int .i64 0), .lit (.int .i64 0)]]]], .agg [.lit (.int .i64 0), .agg [.lit (.int .i64 0), .lit (.int .i64 0)], .lit (.string [])]], .lit (.string [])], [], [])) (by kernel_rfl) rfl (by kernel_rfl)) ?_
  intro W base args ds gs before hval hW _ hk _
  exact contract H enc W base args ds gs before hval hW hk
theorem over : Rows.wireMemoryUptoRow.holds Tryz.pinned (Rows.OpenSpec.upto Rows.wireMemorySpec) :=
  OpenClaim.holds_of_cond 4 Tryz.f4 rfl rfl rfl rfl rfl rfl rfl ⟨rfl, rfl, rfl, rfl, rfl⟩ rfl rfl rfl rfl rfl (by kernel_rfl) Tryz.func4 (by kernel_rfl)
    (of_decide_eq_true (by kernel_rfl)) (by unfold Func.isWrapper; first | (rw [if_pos (by decide +kernel)]; kernel_rfl) | (rw [if_neg (by decide +kernel)]; exact ⟨rfl, rfl⟩))
    (fun os started H enc _ F => lifted os started H enc F)
end Go.Proofs.YtdkfifnhmfbagaaGreat.wireMemory
namespace Go.Proofs.YtdkfifnhmfbagaaGreat
theorem wireMemory_holds : Rows.WireMemoryUptoSaid := wireMemory.over
#print axioms wireMemory_holds
end Go.Proofs.YtdkfifnhmfbagaaGreat
