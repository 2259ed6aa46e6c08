/- WiN, WiO, joined. -/
import Derived.Test.YtdkfifnhmfbagaaGreatDoorWiM
import Derived.Test.YtdkfifnhmfbagaaGreatDoorWiG
import Derived.Test.YtdkfifnhmfbagaaGreatDoorBtJ1
namespace Go.Proofs.YtdkfifnhmfbagaaGreatDoor.Wi
open Go.RowKit Go.Maps
open Bt (Rr Kept tb bys tb_length bys_length tx u8s)
open Rt (gd)
set_option linter.unusedVariables false
set_option linter.unusedSimpArgs false
set_option maxRecDepth 100000 in
set_option maxHeartbeats 1000000 in
theorem sealed_any (g : Nat) (s : ByteArray) (c : Nat) (w : World) (h : Rr w g c s) (hs : s.size < 1125899906842624) :
  Calls Tryz.prog 49 #[.agg #[.pointer (some ⟨g, 0, none⟩)] ] w fun e w' => RO g s w w' e ((pD (tb (bys s)) c).map fun p => (.agg (sdl p.1).toArray, p.2)) := by
 have hb := RE.new (T := 45) (RB.new2 h (.cells #[.int .i64 0, .int .i64 0, .int .i64 0, .string ⟨#[]⟩] 45)) (by omega) #[.int .i64 0, .int .i64 0, .int .i64 0, .string ⟨#[]⟩]
 have HS : Hid (s.size < 1125899906842624) := hs
 have hmf : ∀ (fn : Fn) (first cap : Array Value) (w : World), (Instr.makeFunc fn first cap).run Tryz.prog w = .ok (.func fn first cap) w := fun _ _ _ _ => rfl
 clear h hs
 obtain ⟨r, hr⟩ : ∃ r, (pD (tb (bys s)) c).map (fun p => (Value.agg (sdl p.1).toArray, p.2)) = r := ⟨_, rfl⟩
 have HR : Hid ((pD (tb (bys s)) c).map (fun p => (Value.agg (sdl p.1).toArray, p.2)) = r) := hr
 rw [hr]
 clear hr
 go_enter Tryz.func49, Tryz.ntmps49
 go_upto_region 2 with (fail)
 rw [show ((w.alloc (.cells #[.pointer (some ⟨g, 0, none⟩)] 81)).alloc (.cells #[.int .i64 0, .int .i64 0, .int .i64 0, .string ⟨#[]⟩] 45)).heap.size = w.heap.size + 2 by simp] at hb
 generalize ((w.alloc (.cells #[.pointer (some ⟨g, 0, none⟩)] 81)).alloc (.cells #[.int .i64 0, .int .i64 0, .int .i64 0, .string ⟨#[]⟩] 45)).alloc (.cells #[.int .i64 0, .int .i64 0, .int .i64 0, .string ⟨#[]⟩] 45) = w1 at *
 obtain ⟨E, hE⟩ : ∃ D, w.heap.size + 2 = D := ⟨_, rfl⟩
 rw [hE] at hb ⊢
 obtain ⟨D, hD⟩ : ∃ D, w.heap.size + 1 = D := ⟨_, rfl⟩
 rw [hD] at hb ⊢
 obtain ⟨C, hC⟩ : ∃ C, w.heap.size = C := ⟨_, rfl⟩
 rw [hC] at hb ⊢
 clear hD hC hE
 obtain ⟨OD, hOD⟩ : ∃ o, o = Obj.cells #[.int .i64 0, .int .i64 0, .int .i64 0, .string ⟨#[]⟩] 45 := ⟨_, rfl⟩
 have HOD : Hid (OD = Obj.cells #[.int .i64 0, .int .i64 0, .int .i64 0, .string ⟨#[]⟩] 45) := hOD
 rw [← hOD] at hb
 clear hOD
 have c0 : w1.cell? ⟨C, 0, none⟩ = some (.pointer (some ⟨g, 0, none⟩)) := cell_of_row w1 C 0 _ _ _ hb.rb.hc
 have hp := number_any g s 8 c w1 hb.rb.rr HS.out (by omega) (by omega)
 have HB : Hid (RE g s w w1 c C D E OD 45 #[.int .i64 0, .int .i64 0, .int .i64 0, .string ⟨#[]⟩]) := hb
 clear hb
 cases hn : pn 8 (tb (bys s)) c with
 | none =>
  rw [hn] at hp
  have HN : Hid (r = none) := by unfold Hid; rw [← HR.out, show pD (tb (bys s)) c = none from pq_no (pi_no hn)]; rfl
  clear hn
  go_wp2_with fail
  refine hp.mono ?_
  rintro e wz ⟨rfl, hkz⟩
  have HK : Hid (Kept (fun k => k = g) w wz) := HB.out.rb.gone hkz
  clear hkz hp
  go_wp2_with fail
  exact ⟨rfl, by rw [HN.out]; exact ⟨rfl, HK.out⟩⟩
 | some p =>
  obtain ⟨e, c1⟩ := p
  rw [hn] at hp
  dsimp only [Option.map] at hp
  have HN1 : Hid (pi 8 (tb (bys s)) c = some ((e : Int), c1)) := pi_yes hn
  clear hn
  go_wp2_with fail
  refine hp.mono ?_
  rintro q w2 ⟨rfl, hr2, hk2⟩
  have hb2 := HB.out.next hr2 hk2
  have HB2 : Hid (RE g s w w2 c1 C D E OD 45 #[.int .i64 0, .int .i64 0, .int .i64 0, .string ⟨#[]⟩]) := hb2
  obtain ⟨e0, e1, e2, e3⟩ := c4 hb2.he
  have f0 := row_fr hb2.he 0
  clear hr2 hk2 hp HB c0 hb2
  go_upto_region 3 with (fail)
  have hb3 := HB2.out.set 0 (.int .i64 (e : Int)) rfl
  generalize w2.setCell ⟨E, 0, none⟩ (.int .i64 (e : Int)) = w3 at *
  clear e0 e1 e2 e3 f0 HB2
  have c0 : w3.cell? ⟨C, 0, none⟩ = some (.pointer (some ⟨g, 0, none⟩)) := cell_of_row w3 C 0 _ _ _ hb3.rb.hc
  have hp := key_any g s c1 w3 hb3.rb.rr HS.out
  have HB : Hid (RE g s w w3 c1 C D E OD 45 #[.int .i64 (e : Int), .int .i64 0, .int .i64 0, .string ⟨#[]⟩]) := hb3
  clear hb3
  cases hn : pK (tb (bys s)) c1 with
  | none =>
   rw [hn] at hp
   have HN : Hid (r = none) := by unfold Hid; rw [← HR.out, show pD (tb (bys s)) c = none from pq_no2 HN1.out (pq_no hn)]; rfl
   clear hn
   go_wp2_with fail
   refine hp.mono ?_
   rintro e wz ⟨rfl, hkz⟩
   have HK : Hid (Kept (fun k => k = g) w wz) := HB.out.rb.gone hkz
   clear hkz hp
   go_wp2_with fail
   exact ⟨rfl, by rw [HN.out]; exact ⟨rfl, HK.out⟩⟩
  | some p =>
   obtain ⟨⟨kb, ks⟩, c2⟩ := p
   rw [hn] at hp
   dsimp only [Option.map, stl] at hp
   have HN2 : Hid (pK (tb (bys s)) c1 = some ((kb, ks), c2)) := hn
   clear hn
   go_wp2_with fail
   refine hp.mono ?_
   rintro q w4 ⟨rfl, hr4, hk4⟩
   have hb4 := HB.out.next hr4 hk4
   have HB4 : Hid (RE g s w w4 c2 C D E OD 45 #[.int .i64 (e : Int), .int .i64 0, .int .i64 0, .string ⟨#[]⟩]) := hb4
   have ht := th_of hb4.he 1 2 (by simp)
   clear hr4 hk4 hp HB c0 hb4
   go_upto_region 4 with (refine stM (cs := [.int .i64 kb, .int .i64 ks]) ht szKey rfl rfl _ _ rfl rfl rfl ?_)
   have hb5 := (HB4.out.set 1 (.int .i64 kb) rfl).set 2 (.int .i64 ks) rfl
   have eS : w4.setCells E 1 [.int .i64 kb, .int .i64 ks] = (w4.setCell ⟨E, 1, none⟩ (.int .i64 kb)).setCell ⟨E, 2, none⟩ (.int .i64 ks) := rfl
   rw [← eS] at hb5
   generalize w4.setCells E 1 [.int .i64 kb, .int .i64 ks] = w5 at *
   clear eS ht HB4
   have c0 : w5.cell? ⟨C, 0, none⟩ = some (.pointer (some ⟨g, 0, none⟩)) := cell_of_row w5 C 0 _ _ _ hb5.rb.hc
   have hp := takeB_any g s 7 c2 w5 hb5.rb.rr HS.out (by omega) (by omega)
   have HB : Hid (RE g s w w5 c2 C D E OD 45 #[.int .i64 (e : Int), .int .i64 kb, .int .i64 ks, .string ⟨#[]⟩]) := hb5
   clear hb5
   cases hn : pc 7 (pn 8) (tb (bys s)) c2 with
   | none =>
    rw [hn] at hp
    have HN : Hid (r = none) := by unfold Hid; rw [← HR.out, show pD (tb (bys s)) c = none from pq_no2 HN1.out (pq_no2 HN2.out (pm_no hn))]; rfl
    clear hn
    go_wp2_with fail
    refine hp.mono ?_
    rintro e wz ⟨rfl, hkz⟩
    have HK : Hid (Kept (fun k => k = g) w wz) := HB.out.rb.gone hkz
    clear hkz hp
    go_wp2_with fail
    exact ⟨rfl, by rw [HN.out]; exact ⟨rfl, HK.out⟩⟩
   | some p =>
    obtain ⟨l, c3⟩ := p
    rw [hn] at hp
    have HLT : Hid (∀ x ∈ l, x < 256) := pc_lt hn
    have HN : Hid (r = some (.agg #[.int .i64 (e : Int), .int .i64 kb, .int .i64 ks, .string (tx l)], c3)) := by unfold Hid; rw [← HR.out, show pD (tb (bys s)) c = some (((e : Int), (kb, ks), tx l), c3) from pq_yes HN1.out (pq_yes HN2.out (pm_yes hn))]; rfl
    clear hn
    go_wp2_with fail
    refine hp.mono ?_
    rintro q w6 ⟨v, rfl, hr6, hk6, ho6⟩
    have hb6 := HB.out.next hr6 hk6
    have HB6 : Hid (RE g s w w6 c3 C D E OD 45 #[.int .i64 (e : Int), .int .i64 kb, .int .i64 ks, .string ⟨#[]⟩]) := hb6
    rw [u8_flat] at ho6
    have hcv := conv_row rfl ho6 HLT.out
    obtain ⟨a, cap, rfl⟩ := owns_slice ho6
    obtain ⟨e0, e1, e2, e3⟩ := c4 hb6.he
    have f0 := row_fr hb6.he 3
    clear hr6 hk6 hp HB c0 hb6 ho6
    obtain ⟨nl, hnl⟩ : ∃ n, l.length = n := ⟨_, rfl⟩
    obtain ⟨tl, htl⟩ : ∃ t, tx l = t := ⟨_, rfl⟩
    rw [hnl, htl] at hcv
    rw [htl] at HN
    rw [hnl]
    clear hnl htl
    go_upto_region 5 with (fail)
    have hb7 := HB6.out.set 3 (.string tl) rfl
    generalize w6.setCell ⟨E, 3, none⟩ (.string tl) = w7 at *
    clear e0 e1 e2 e3 f0 HB6 hcv
    obtain ⟨e0, e1, e2, e3⟩ := c4 hb7.he
    rw [HOD.out] at hb7
    have HB7 : Hid (RE g s w w7 c3 C D E (.cells #[.int .i64 0, .int .i64 0, .int .i64 0, .string ⟨#[]⟩] 45) 45 #[.int .i64 (e : Int), .int .i64 kb, .int .i64 ks, .string tl]) := hb7
    clear hb7
    go_wp2_with (refine stW szSd HB7.out.rb.hd rfl [.int .i64 (e : Int), .int .i64 kb, .int .i64 ks, .string tl] rfl rfl rfl _ _ rfl rfl rfl ?_)
    have hbA := HB7.out.setD #[.int .i64 (e : Int), .int .i64 kb, .int .i64 ks, .string tl]
    refine bodyPost_ret (res1 (T := 45) (p := 2) rfl _ _ D #[.int .i64 (e : Int), .int .i64 kb, .int .i64 ks, .string tl] rfl (run_loadVar_row _ D _ 45 _ _ _ hbA.rb.hd Tryz.underlying45 rfl szSd)) rfl ?_
    rw [HN.out]
    exact ⟨rfl, hbA.rb.rr, hbA.rb.kp⟩
/- A path that is filled. -/
theorem rpq_0 (a b c : Int) (x y z p : (Int × Int) × (Int × Int)) : upd (rpq a b c x y z).toArray 3 (bxl p) = (rpq a b c p y z).toArray := by
 have e := upd_mid (bxl p) (bxl x) ([.int .i64 a, .int .i64 b, .int .i64 c]) ((bxl y ++ bxl z)) rfl
 have l : ([.int .i64 a, .int .i64 b, .int .i64 c] : List Value).length = 3 := rfl
 have e1 : ([.int .i64 a, .int .i64 b, .int .i64 c] : List Value) ++ (bxl x ++ (bxl y ++ bxl z)) = rpq a b c x y z := rfl
 have e2 : ([.int .i64 a, .int .i64 b, .int .i64 c] : List Value) ++ (bxl p ++ (bxl y ++ bxl z)) = rpq a b c p y z := rfl
 rw [l, e1, e2] at e
 exact e
theorem rpq_1 (a b c : Int) (x y z p : (Int × Int) × (Int × Int)) : upd (rpq a b c x y z).toArray 7 (bxl p) = (rpq a b c x p z).toArray := by
 have e := upd_mid (bxl p) (bxl y) ([.int .i64 a, .int .i64 b, .int .i64 c] ++ bxl x) (bxl z) rfl
 have l : ([.int .i64 a, .int .i64 b, .int .i64 c] ++ bxl x : List Value).length = 7 := rfl
 have e1 : ([.int .i64 a, .int .i64 b, .int .i64 c] ++ bxl x : List Value) ++ (bxl y ++ bxl z) = rpq a b c x y z := rfl
 have e2 : ([.int .i64 a, .int .i64 b, .int .i64 c] ++ bxl x : List Value) ++ (bxl p ++ bxl z) = rpq a b c x p z := rfl
 rw [l, e1, e2] at e
 exact e
theorem rpq_2 (a b c : Int) (x y z p : (Int × Int) × (Int × Int)) : upd (rpq a b c x y z).toArray 11 (bxl p) = (rpq a b c x y p).toArray := by
 have e := upd_mid (bxl p) (bxl z) ([.int .i64 a, .int .i64 b, .int .i64 c] ++ bxl x ++ bxl y) ([]) rfl
 have l : ([.int .i64 a, .int .i64 b, .int .i64 c] ++ bxl x ++ bxl y : List Value).length = 11 := rfl
 have e1 : ([.int .i64 a, .int .i64 b, .int .i64 c] ++ bxl x ++ bxl y : List Value) ++ (bxl z ++ []) = rpq a b c x y z := rfl
 have e2 : ([.int .i64 a, .int .i64 b, .int .i64 c] ++ bxl x ++ bxl y : List Value) ++ (bxl p ++ []) = rpq a b c x y p := rfl
 rw [l, e1, e2] at e
 exact e
theorem RE.upd {g : Nat} {s : ByteArray} {W0 : World} {c C D E : Nat} {ad : Obj} {T : TypeId} : ∀ (vs : List Value) (o : Nat) {W : World} {oe : Array Value}, RE g s W0 W c C D E ad T oe → RE g s W0 (W.setCells E o vs) c C D E ad T (upd oe o vs)
 | [], o, W, oe, h => h
 | v :: r, o, W, oe, h => by
  rw [World.setCells, Wi.upd]
  exact RE.upd r (o + 1) (h.set o v rfl)
theorem RE.setE {g : Nat} {s : ByteArray} {W0 W : World} {c C D E : Nat} {ad : Obj} {T : TypeId} {oe : Array Value} (h : RE g s W0 W c C D E ad T oe) (cs : Array Value) : RE g s W0 (W.setRow E cs) c C D E ad T cs := by
 obtain ⟨l1, l2, l3⟩ := h.rb.le
 obtain ⟨e1, e2⟩ := h.ec
 exact ⟨⟨⟨(setRow_other (by omega) _).trans h.rb.rr.blk, h.rb.rr.le⟩, (setRow_other (by omega) _).trans h.rb.hc, (setRow_other (by omega) _).trans h.rb.hd, Kept.setRow h.rb.kp (fun hh => by omega) _, h.rb.le⟩, setRow_heap W E _ cs T _ h.he, h.dc, h.ec⟩
theorem number_or (g : Nat) (s : ByteArray) (q c : Nat) (w : World) (h : Rr w g c s) (hs : s.size < 1125899906842624) (h1 : 1 ≤ q) (h2 : q ≤ 60) :
  Calls Tryz.prog 45 #[.agg #[.pointer (some ⟨g, 0, none⟩)], .int .i64 (q : Int)] w fun e w' => (pn q (tb (bys s)) c = none ∧ e = .panicked pw ∧ Kept (fun k => k = g) w w') ∨ (∃ v c', pn q (tb (bys s)) c = some (v, c') ∧ e = .returned (.int .i64 (v : Int)) ∧ Rr w' g c' s ∧ Kept (fun k => k = g) w w') := by
 refine (number_any g s q c w h hs h1 h2).mono ?_
 intro e w' hro
 cases hn : pn q (tb (bys s)) c with
 | none =>
  rw [hn] at hro
  exact .inl ⟨rfl, hro.1, hro.2⟩
 | some p =>
  rw [hn] at hro
  exact .inr ⟨p.1, p.2, rfl, hro.1, hro.2.1, hro.2.2⟩
theorem box_or (g : Nat) (s : ByteArray) (c : Nat) (w : World) (h : Rr w g c s) (hs : s.size < 1125899906842624) :
  Calls Tryz.prog 101 #[.agg #[.pointer (some ⟨g, 0, none⟩)] ] w fun e w' => (pB (tb (bys s)) c = none ∧ e = .panicked pw ∧ Kept (fun k => k = g) w w') ∨ (∃ b c', pB (tb (bys s)) c = some (b, c') ∧ e = .returned (.agg (bxl b).toArray) ∧ Rr w' g c' s ∧ Kept (fun k => k = g) w w') := by
 refine (box_any g s c w h hs).mono ?_
 intro e w' hro
 cases hn : pB (tb (bys s)) c with
 | none =>
  rw [hn] at hro
  exact .inl ⟨rfl, hro.1, hro.2⟩
 | some p =>
  rw [hn] at hro
  exact .inr ⟨p.1, p.2, rfl, hro.1, hro.2.1, hro.2.2⟩
def zB : (Int × Int) × (Int × Int) := ((0, 0), (0, 0))
theorem rpz : (#[.int .i64 0, .int .i64 0, .int .i64 0, .int .i64 0, .int .i64 0, .int .i64 0, .int .i64 0, .int .i64 0, .int .i64 0, .int .i64 0, .int .i64 0, .int .i64 0, .int .i64 0, .int .i64 0, .int .i64 0] : Array Value) = (rpq 0 0 0 zB zB zB).toArray := rfl
set_option maxRecDepth 100000 in
set_option maxHeartbeats 2000000 in
theorem reply_any (g : Nat) (s : ByteArray) (c : Nat) (w : World) (h : Rr w g c s) (hs : s.size < 1125899906842624) :
  Calls Tryz.prog 48 #[.agg #[.pointer (some ⟨g, 0, none⟩)] ] w fun e w' => RO g s w w' e ((pP (tb (bys s)) c).map fun p => (.agg (rpl p.1).toArray, p.2)) := by
 have hb := RB.new2 h (.cells (rpq 0 0 0 zB zB zB).toArray 43)
 rw [← rpz] at hb
 have HS : Hid (s.size < 1125899906842624) := hs
 clear h hs
 obtain ⟨r, hr⟩ : ∃ r, (pP (tb (bys s)) c).map (fun p => (Value.agg (rpl p.1).toArray, p.2)) = r := ⟨_, rfl⟩
 have HR : Hid ((pP (tb (bys s)) c).map (fun p => (Value.agg (rpl p.1).toArray, p.2)) = r) := hr
 rw [hr]
 clear hr
 go_enter Tryz.func48, Tryz.ntmps48
 go_upto_region 1 with (fail)
 rw [rpz] at hb
 rw [rpz]
 obtain ⟨OD, hOD⟩ : ∃ o, o = Obj.cells (rpq 0 0 0 zB zB zB).toArray 43 := ⟨_, rfl⟩
 have HOD : Hid (OD = Obj.cells (rpq 0 0 0 zB zB zB).toArray 43) := hOD
 rw [← hOD] at hb
 rw [← hOD]
 clear hOD
 generalize (w.alloc (.cells #[.pointer (some ⟨g, 0, none⟩)] 81)).alloc OD = w1 at *
 obtain ⟨D, hD⟩ : ∃ D, w.heap.size + 1 = D := ⟨_, rfl⟩
 rw [hD] at hb ⊢
 obtain ⟨C, hC⟩ : ∃ C, w.heap.size = C := ⟨_, rfl⟩
 have HCD : Hid (D ≠ C) := by unfold Hid; omega
 rw [hC] at hb ⊢
 clear hD hC
 have c0 : w1.cell? ⟨C, 0, none⟩ = some (.pointer (some ⟨g, 0, none⟩)) := cell_of_row w1 C 0 _ _ _ hb.hc
 have hp := seat_any g s c w1 hb.rr HS.out
 have HB : Hid (RB g s w w1 c C D OD) := hb
 clear hb
 cases hn : pS (tb (bys s)) c with
 | none =>
  rw [hn] at hp
  have HN : Hid (r = none) := by unfold Hid; rw [← HR.out, show pP (tb (bys s)) c = none from pq_no hn]; rfl
  clear hn
  go_wp2_with fail
  refine hp.mono ?_
  rintro e wz ⟨rfl, hkz⟩
  have HK : Hid (Kept (fun k => k = g) w wz) := HB.out.gone hkz
  clear hkz hp
  go_wp2_with fail
  exact ⟨rfl, by rw [HN.out]; exact ⟨rfl, HK.out⟩⟩
 | some p =>
  obtain ⟨⟨a, b⟩, c1⟩ := p
  rw [hn] at hp
  dsimp only [Option.map, stl] at hp
  have HN1 : Hid (pS (tb (bys s)) c = some ((a, b), c1)) := hn
  clear hn
  go_wp2_with fail
  refine hp.mono ?_
  rintro q w2 ⟨rfl, hr2, hk2⟩
  have hb2 := HB.out.next hr2 hk2
  clear hr2 hk2 hp HB c0
  go_upto_region 2 with (fail)
  have hb3 := hb2.later (below_alloc w2 (.cells #[.int .i64 a, .int .i64 b] 108))
  have hF := heap_alloc_last w2 (.cells #[.int .i64 a, .int .i64 b] 108)
  have HFg : Hid (w2.heap.size ≠ g) := by have := hb2.le; have := hb2.kp.size; unfold Hid; omega
  generalize w2.alloc (.cells #[.int .i64 a, .int .i64 b] 108) = w3 at *
  generalize w2.heap.size = F at *
  clear hb2
  go_cut [4] (fun s4 wx => ∃ E v c2, s4 = .pointer (some ⟨E, 0, none⟩) ∧ pi 8 (tb (bys s)) c1 = some (v, c2) ∧ RE g s w wx c2 C D E OD 43 (rpq a b v zB zB zB).toArray)
  case first =>
   have hb4 := hb3.later (drew_below w3)
   have HB4 : Hid (RB g s w w3.drew c1 C D OD) := hb4
   have HF4 : Hid (w3.drew.heap[F]? = some (.cells #[.int .i64 a, .int .i64 b] 108)) := hF
   have HZ : Hid (∀ W : World, W.heap.size = W.drew.heap.size) := fun W => rfl
   have hS0 : w3.drew.cell? ⟨C, 0, none⟩ = some (.pointer (some ⟨g, 0, none⟩)) ∧ w3.drew.cell? ⟨F, 0, none⟩ = some (.int .i64 a) ∧ w3.drew.cell? ⟨F, 1, none⟩ = some (.int .i64 b) := ⟨cell_of_row _ C 0 _ _ _ hb4.hc, cell_of_row _ F 0 _ _ _ hF, cell_of_row _ F 1 _ _ _ hF⟩
   have HSS : Hid (∀ (W : World) (cc : Nat), RB g s w W cc C D OD → W.heap[F]? = some (.cells #[.int .i64 a, .int .i64 b] 108) → W.cell? ⟨C, 0, none⟩ = some (.pointer (some ⟨g, 0, none⟩)) ∧ W.cell? ⟨F, 0, none⟩ = some (.int .i64 a) ∧ W.cell? ⟨F, 1, none⟩ = some (.int .i64 b)) := fun W cc h1 h2 => ⟨cell_of_row _ C 0 _ _ _ h1.hc, cell_of_row _ F 0 _ _ _ h2, cell_of_row _ F 1 _ _ _ h2⟩
   clear hb3 hb4 hF
   refine wp_region_held_drew (S := fun W => W.cell? ⟨C, 0, none⟩ = some (.pointer (some ⟨g, 0, none⟩)) ∧ W.cell? ⟨F, 0, none⟩ = some (.int .i64 a) ∧ W.cell? ⟨F, 1, none⟩ = some (.int .i64 b)) (by kernel_rfl) hS0 (fun hHeld => ?_)
   clear hS0
   refine wpAnyH_take (i := 0) (oi := ⟨some 8, Op.fieldAddr 108 (.tmp 3) 0, _, _, _, none⟩) (v := .pointer (some ⟨F, 0, none⟩)) rfl (by kernel_rfl) (by kernel_rfl) (by kernel_rfl) (fun _ _ _ h => h) (Or.inl ⟨by rfl, fun w hSw => by (try dsimp only at hSw); go_simp⟩) (by assumption) ?_
   simp only [Act.put, List.setIfInBounds_toArray, List.set_cons_zero, List.set_cons_succ]
   refine wpAnyH_take (i := 1) (oi := ⟨some 9, Op.load 3 (.tmp 8), _, _, _, none⟩) (v := .int .i64 a) rfl (by kernel_rfl) (by kernel_rfl) (by kernel_rfl) (fun _ _ _ h => h) (Or.inl ⟨by rfl, fun w hSw => by (try dsimp only at hSw); go_simp⟩) (by assumption) ?_
   simp only [Act.put, List.setIfInBounds_toArray, List.set_cons_zero, List.set_cons_succ]
   refine wpAnyH_take (i := 2) (oi := ⟨some 10, Op.fieldAddr 108 (.tmp 3) 1, _, _, _, none⟩) (v := .pointer (some ⟨F, 1, none⟩)) rfl (by kernel_rfl) (by kernel_rfl) (by kernel_rfl) (fun _ _ _ h => h) (Or.inl ⟨by rfl, fun w hSw => by (try dsimp only at hSw); go_simp⟩) (by assumption) ?_
   simp only [Act.put, List.setIfInBounds_toArray, List.set_cons_zero, List.set_cons_succ]
   refine wpAnyH_take (i := 3) (oi := ⟨some 11, Op.load 3 (.tmp 10), _, _, _, none⟩) (v := .int .i64 b) rfl (by kernel_rfl) (by kernel_rfl) (by kernel_rfl) (fun _ _ _ h => h) (Or.inl ⟨by rfl, fun w hSw => by (try dsimp only at hSw); go_simp⟩) (by assumption) ?_
   simp only [Act.put, List.setIfInBounds_toArray, List.set_cons_zero, List.set_cons_succ]
   refine wpAnyH_take (i := 4) (oi := ⟨some 12, Op.load 81 (.tmp 1), _, _, _, none⟩) (v := .agg #[.pointer (some ⟨g, 0, none⟩)]) rfl (by kernel_rfl) (by kernel_rfl) (by kernel_rfl) (fun _ _ _ h => h) (Or.inl ⟨by rfl, fun w hSw => by (try dsimp only at hSw); go_simp⟩) (by assumption) ?_
   simp only [Act.put, List.setIfInBounds_toArray, List.set_cons_zero, List.set_cons_succ]
   refine wpAnyH_ready (rs := [5, 7]) (by kernel_rfl) (by simp) ?_
   refine (AllReadyH.cons rfl (fun K hK => ?_) (AllReadyH.cons rfl (fun K hK => ?_) AllReadyH.nil))
   ·go_simp
    refine (number_or g s 8 c1 w3.drew HB4.out.rr HS.out (by omega) (by omega)).mono ?_
    rintro q w5 hro
    rcases hro with ⟨hn, rfl, hk5⟩ | ⟨v, c2, hn, rfl, hr5, hk5⟩
    ·((have HN : Hid (r = none) := by unfold Hid; rw [← HR.out, show pP (tb (bys s)) c = none from pq_no2 HN1.out (pq_no (pi_no hn))]; rfl); have HK : Hid (Kept (fun k => k = g) w w5) := HB4.out.gone hk5; clear hk5 hn; go_wp2_with fail; (exact ⟨rfl, by rw [HN.out]; exact ⟨rfl, HK.out⟩⟩))
    have hb5 := HB4.out.next hr5 hk5
    have hF5 := row_kept HF4.out hk5 HFg.out
    have HB5 : Hid (RB g s w w5 c2 C D OD) := hb5
    have HF5 : Hid (w5.heap[F]? = some (.cells #[.int .i64 a, .int .i64 b] 108)) := hF5
    have hS5 := HSS.out _ _ hb5 hF5
    have HN2 : Hid (pi 8 (tb (bys s)) c1 = some ((v : Int), c2)) := pi_yes hn
    clear hn hr5 hk5 hb5 hF5
    go_wp2_with fail
    refine hK.out _ _ hS5 (fun hHd1 => ?_)
    clear hHeld hS5
    clear hK K
    try simp only [Act.put, List.setIfInBounds_toArray, List.set_cons_zero, List.set_cons_succ]
    refine wpAnyH_take (i := 6) (oi := ⟨some 14, Op.build 43 #[(0, (.tmp 9)), (1, (.tmp 11)), (2, (.tmp 13))], _, _, _, none⟩) (v := .agg (rpq a b (v : Int) zB zB zB).toArray) rfl (by kernel_rfl) (by kernel_rfl) (by kernel_rfl) (fun _ _ _ h => h) (Or.inl ⟨by rfl, fun w hSw => by go_simp; rfl⟩) (by assumption) ?_
    simp only [Act.put, List.setIfInBounds_toArray, List.set_cons_zero, List.set_cons_succ]
    refine wpAnyH_ready (rs := [7]) (by kernel_rfl) (by simp) ?_
    refine AllReadyH.cons rfl (fun K hK => ?_) AllReadyH.nil
    go_simp
    have HE5 : Hid (RE g s w (w5.alloc (.cells (rpq 0 0 0 zB zB zB).toArray 43)) c2 C D w5.heap.size OD 43 (rpq 0 0 0 zB zB zB).toArray) := RE.new HB5.out HCD.out _
    have hS5 := HSS.out _ _ HE5.out.rb (row_later HF5.out (below_alloc _ _))
    rw [rpz]
    refine hK.out _ _ hS5 (fun hHd2 => ?_)
    clear hHd1 hS5
    clear hK K
    try simp only [Act.put, List.setIfInBounds_toArray, List.set_cons_zero, List.set_cons_succ]
    refine wpAnyH_ready (rs := [8]) (by kernel_rfl) (by simp) ?_
    refine AllReadyH.cons rfl (fun Kc hK => ?_) AllReadyH.nil
    first | (have hX := HB5.out; refine if_wp rfl (wp_stRow0 43 _ _ rfl w3.heap.size (rpq a b (v : Int) zB zB zB) rfl rfl _ hX.he szRp rfl rfl rfl ?_); have HX : Hid (RE g s w (w5.setRow w3.heap.size (rpq a b (v : Int) zB zB zB).toArray) c2 C D w3.heap.size OD 43 (rpq a b (v : Int) zB zB zB).toArray) := hX.setE _; have hF6 := (setRow_other (row_ne HF5.out hX.he (by decide)) (rpq a b (v : Int) zB zB zB).toArray).trans HF5.out) | (have hX := HE5.out; refine if_wp rfl (wp_stRow0 43 _ _ rfl w5.heap.size (rpq a b (v : Int) zB zB zB) rfl rfl _ hX.he szRp rfl rfl rfl ?_); have HX : Hid (RE g s w ((w5.alloc (.cells (rpq 0 0 0 zB zB zB).toArray 43)).setRow w5.heap.size (rpq a b (v : Int) zB zB zB).toArray) c2 C D w5.heap.size OD 43 (rpq a b (v : Int) zB zB zB).toArray) := hX.setE _; have hF6 : ((w5.alloc (.cells (rpq 0 0 0 zB zB zB).toArray 43)).setRow w5.heap.size (rpq a b (v : Int) zB zB zB).toArray).heap[F]? = some (.cells #[.int .i64 a, .int .i64 b] 108) := (setRow_other (row_ne (row_later HF5.out (below_alloc _ _)) hX.he (by decide)) _).trans (row_later HF5.out (below_alloc _ _)))
    have hS6 := HSS.out _ _ HX.out.rb hF6
    refine hK.out _ _ hS6 (fun hHd3 => ?_)
    clear hHd2 hS6 hF6 hX
    clear hK Kc
    try simp only [Act.put, List.setIfInBounds_toArray, List.set_cons_zero, List.set_cons_succ]
    refine wpAnyH_done (by kernel_rfl) ?_ _
    go_wp2_with fail
    go_meet
    case rel => exact ⟨_, _, _, rfl, HN2.out, HX.out⟩
   ·go_simp
    have HE4 : Hid (RE g s w (w3.drew.alloc (.cells (rpq 0 0 0 zB zB zB).toArray 43)) c1 C D w3.heap.size OD 43 (rpq 0 0 0 zB zB zB).toArray) := RE.new HB4.out HCD.out _
    have hS4 := HSS.out _ _ HE4.out.rb (row_later HF4.out (below_alloc _ _))
    rw [rpz]
    refine hK.out _ _ hS4 (fun hHd1 => ?_)
    clear hHeld hS4
    clear hK K
    try simp only [Act.put, List.setIfInBounds_toArray, List.set_cons_zero, List.set_cons_succ]
    refine wpAnyH_ready (rs := [5]) (by kernel_rfl) (by simp) ?_
    refine AllReadyH.cons rfl (fun K hK => ?_) AllReadyH.nil
    go_simp
    refine (number_or g s 8 c1 (w3.drew.alloc (.cells (rpq 0 0 0 zB zB zB).toArray 43)) HE4.out.rb.rr HS.out (by omega) (by omega)).mono ?_
    rintro q w5 hro
    rcases hro with ⟨hn, rfl, hk5⟩ | ⟨v, c2, hn, rfl, hr5, hk5⟩
    ·((have HN : Hid (r = none) := by unfold Hid; rw [← HR.out, show pP (tb (bys s)) c = none from pq_no2 HN1.out (pq_no (pi_no hn))]; rfl); have HK : Hid (Kept (fun k => k = g) w w5) := HE4.out.rb.gone hk5; clear hk5 hn; go_wp2_with fail; (exact ⟨rfl, by rw [HN.out]; exact ⟨rfl, HK.out⟩⟩))
    have hb5 := HE4.out.next hr5 hk5
    have hF5 := row_kept (row_later HF4.out (below_alloc _ _)) hk5 HFg.out
    have HB5 : Hid (RE g s w w5 c2 C D w3.heap.size OD 43 (rpq 0 0 0 zB zB zB).toArray) := hb5
    have HF5 : Hid (w5.heap[F]? = some (.cells #[.int .i64 a, .int .i64 b] 108)) := hF5
    have hS5 := HSS.out _ _ hb5.rb hF5
    have HN2 : Hid (pi 8 (tb (bys s)) c1 = some ((v : Int), c2)) := pi_yes hn
    clear hn hr5 hk5 hb5 hF5
    go_wp2_with fail
    refine hK.out _ _ hS5 (fun hHd2 => ?_)
    clear hHd1 hS5
    clear hK K
    try simp only [Act.put, List.setIfInBounds_toArray, List.set_cons_zero, List.set_cons_succ]
    refine wpAnyH_take (i := 6) (oi := ⟨some 14, Op.build 43 #[(0, (.tmp 9)), (1, (.tmp 11)), (2, (.tmp 13))], _, _, _, none⟩) (v := .agg (rpq a b (v : Int) zB zB zB).toArray) rfl (by kernel_rfl) (by kernel_rfl) (by kernel_rfl) (fun _ _ _ h => h) (Or.inl ⟨by rfl, fun w hSw => by go_simp; rfl⟩) (by assumption) ?_
    simp only [Act.put, List.setIfInBounds_toArray, List.set_cons_zero, List.set_cons_succ]
    refine wpAnyH_ready (rs := [8]) (by kernel_rfl) (by simp) ?_
    refine AllReadyH.cons rfl (fun Kc hK => ?_) AllReadyH.nil
    first | (have hX := HB5.out; refine if_wp rfl (wp_stRow0 43 _ _ rfl w3.heap.size (rpq a b (v : Int) zB zB zB) rfl rfl _ hX.he szRp rfl rfl rfl ?_); have HX : Hid (RE g s w (w5.setRow w3.heap.size (rpq a b (v : Int) zB zB zB).toArray) c2 C D w3.heap.size OD 43 (rpq a b (v : Int) zB zB zB).toArray) := hX.setE _; have hF6 := (setRow_other (row_ne HF5.out hX.he (by decide)) (rpq a b (v : Int) zB zB zB).toArray).trans HF5.out) | (have hX := HE5.out; refine if_wp rfl (wp_stRow0 43 _ _ rfl w5.heap.size (rpq a b (v : Int) zB zB zB) rfl rfl _ hX.he szRp rfl rfl rfl ?_); have HX : Hid (RE g s w ((w5.alloc (.cells (rpq 0 0 0 zB zB zB).toArray 43)).setRow w5.heap.size (rpq a b (v : Int) zB zB zB).toArray) c2 C D w5.heap.size OD 43 (rpq a b (v : Int) zB zB zB).toArray) := hX.setE _; have hF6 : ((w5.alloc (.cells (rpq 0 0 0 zB zB zB).toArray 43)).setRow w5.heap.size (rpq a b (v : Int) zB zB zB).toArray).heap[F]? = some (.cells #[.int .i64 a, .int .i64 b] 108) := (setRow_other (row_ne (row_later HF5.out (below_alloc _ _)) hX.he (by decide)) _).trans (row_later HF5.out (below_alloc _ _)))
    have hS6 := HSS.out _ _ HX.out.rb hF6
    refine hK.out _ _ hS6 (fun hHd3 => ?_)
    clear hHd2 hS6 hF6 hX
    clear hK Kc
    try simp only [Act.put, List.setIfInBounds_toArray, List.set_cons_zero, List.set_cons_succ]
    refine wpAnyH_done (by kernel_rfl) ?_ _
    go_wp2_with fail
    go_meet
    case rel => exact ⟨_, _, _, rfl, HN2.out, HX.out⟩
  case rest =>
   obtain ⟨E, v, c2, rfl, hpi, hre⟩ := hcut
   have HN2 : Hid (pi 8 (tb (bys s)) c1 = some (v, c2)) := hpi
   have HB : Hid (RE g s w wc c2 C D E OD 43 (rpq a b v zB zB zB).toArray) := hre
   clear hpi hb3 hF
   have c0 : wc.cell? ⟨C, 0, none⟩ = some (.pointer (some ⟨g, 0, none⟩)) := cell_of_row wc C 0 _ _ _ hre.rb.hc
   have hp := box_or g s c2 wc hre.rb.rr HS.out
   clear hre
   go_wp2_with fail
   refine wp_loop_rounds 4 ?_
   rw [rounds_succ]; go_wp2_with fail
   refine hp.mono ?_
   rintro q w5 hro
   rcases hro with ⟨hn, rfl, hk5⟩ | ⟨p0, c3, hn, rfl, hr5, hk5⟩
   ·have HN : Hid (r = none) := by unfold Hid; rw [← HR.out, show pP (tb (bys s)) c = none from pq_no2 HN1.out (pq_no2 HN2.out (pq_no hn))]; rfl
    have HK : Hid (Kept (fun k => k = g) w w5) := HB.out.rb.gone hk5
    clear hk5 hn
    go_wp2_with fail
    exact ⟨rfl, by rw [HN.out]; exact ⟨rfl, HK.out⟩⟩
   have HN3 : Hid (pB (tb (bys s)) c2 = some (p0, c3)) := hn
   have HB5 : Hid (RE g s w w5 c3 C D E OD 43 (rpq a b v zB zB zB).toArray) := HB.out.next hr5 hk5
   have ht := th_of HB5.out.he 3 4 (by simp [rpq, pal])
   clear hr5 hk5 hn HB c0 hp
   go_upto_region 7 with (refine stM (cs := bxl p0) ht szBox rfl rfl _ _ rfl rfl rfl ?_)
   have hb6 := RE.upd (bxl p0) 3 HB5.out
   rw [rpq_0] at hb6
   generalize w5.setCells E 3 (bxl p0) = w6 at *
   have HB6 : Hid (RE g s w w6 c3 C D E OD 43 (rpq a b v p0 zB zB).toArray) := hb6
   have c0 : w6.cell? ⟨C, 0, none⟩ = some (.pointer (some ⟨g, 0, none⟩)) := cell_of_row w6 C 0 _ _ _ hb6.rb.hc
   have hp := box_or g s c3 w6 hb6.rb.rr HS.out
   clear ht HB5 hb6
   go_wp2_with fail
   rw [rounds_succ]; go_wp2_with fail
   refine hp.mono ?_
   rintro q w7 hro
   rcases hro with ⟨hn, rfl, hk7⟩ | ⟨p1, c4, hn, rfl, hr7, hk7⟩
   ·have HN : Hid (r = none) := by unfold Hid; rw [← HR.out, show pP (tb (bys s)) c = none from pq_no2 HN1.out (pq_no2 HN2.out (pq_no2 HN3.out (pq_no hn)))]; rfl
    have HK : Hid (Kept (fun k => k = g) w w7) := HB6.out.rb.gone hk7
    clear hk7 hn
    go_wp2_with fail
    exact ⟨rfl, by rw [HN.out]; exact ⟨rfl, HK.out⟩⟩
   have HN4 : Hid (pB (tb (bys s)) c3 = some (p1, c4)) := hn
   have HB7 : Hid (RE g s w w7 c4 C D E OD 43 (rpq a b v p0 zB zB).toArray) := HB6.out.next hr7 hk7
   have ht := th_of HB7.out.he 7 4 (by simp [rpq, pal])
   clear hr7 hk7 hn HB6 c0 hp
   go_upto_region 7 with (refine stM (cs := bxl p1) ht szBox rfl rfl _ _ rfl rfl rfl ?_)
   have hb8 := RE.upd (bxl p1) 7 HB7.out
   rw [rpq_1] at hb8
   generalize w7.setCells E 7 (bxl p1) = w8 at *
   have HB8 : Hid (RE g s w w8 c4 C D E OD 43 (rpq a b v p0 p1 zB).toArray) := hb8
   have c0 : w8.cell? ⟨C, 0, none⟩ = some (.pointer (some ⟨g, 0, none⟩)) := cell_of_row w8 C 0 _ _ _ hb8.rb.hc
   have hp := box_or g s c4 w8 hb8.rb.rr HS.out
   clear ht HB7 hb8
   go_wp2_with fail
   rw [rounds_succ]; go_wp2_with fail
   refine hp.mono ?_
   rintro q w9 hro
   rcases hro with ⟨hn, rfl, hk9⟩ | ⟨p2, c5, hn, rfl, hr9, hk9⟩
   ·have HN : Hid (r = none) := by unfold Hid; rw [← HR.out, show pP (tb (bys s)) c = none from pq_no2 HN1.out (pq_no2 HN2.out (pq_no2 HN3.out (pq_no2 HN4.out hn)))]; rfl
    have HK : Hid (Kept (fun k => k = g) w w9) := HB8.out.rb.gone hk9
    clear hk9 hn
    go_wp2_with fail
    exact ⟨rfl, by rw [HN.out]; exact ⟨rfl, HK.out⟩⟩
   have HN : Hid (r = some (.agg (rpq a b v p0 p1 p2).toArray, c5)) := by unfold Hid; rw [← HR.out, show pP (tb (bys s)) c = some (((a, b), v, p0, p1, p2), c5) from pq_yes HN1.out (pq_yes HN2.out (pq_yes HN3.out (pq_yes HN4.out hn)))]; rfl
   have HB9 : Hid (RE g s w w9 c5 C D E OD 43 (rpq a b v p0 p1 zB).toArray) := HB8.out.next hr9 hk9
   have ht := th_of HB9.out.he 11 4 (by simp [rpq, pal])
   clear hr9 hk9 hn HB8 c0 hp
   go_upto_region 7 with (refine stM (cs := bxl p2) ht szBox rfl rfl _ _ rfl rfl rfl ?_)
   have hbA := RE.upd (bxl p2) 11 HB9.out
   rw [rpq_2] at hbA
   generalize w9.setCells E 11 (bxl p2) = wA at *
   rw [HOD.out] at hbA
   have HBA : Hid (RE g s w wA c5 C D E (.cells (rpq 0 0 0 zB zB zB).toArray 43) 43 (rpq a b v p0 p1 p2).toArray) := hbA
   have HLD : Hid (wA.rangeAt E 0 (rpq a b v p0 p1 p2)) := ra_of hbA.he 0 _ rfl
   clear ht HB9 hbA
   go_wp2_with fail
   rw [rounds_succ]
   go_wp2_with (first | (refine ldM HLD.out Tryz.underlying43 rfl szRp _ rfl rfl rfl ?_) | (refine stW szRp HBA.out.rb.hd rfl (rpq a b v p0 p1 p2) rfl rfl rfl _ _ rfl rfl rfl ?_))
   have hbB := HBA.out.setD (rpq a b v p0 p1 p2).toArray
   refine bodyPost_ret (res1 (T := 43) (p := 2) rfl _ _ D (rpq a b v p0 p1 p2).toArray rfl (run_loadVar_row _ D _ 43 _ _ _ hbB.rb.hd Tryz.underlying43 rfl szRp)) rfl ?_
   rw [HN.out]
   exact ⟨rfl, hbB.rb.rr, hbB.rb.kp⟩
open Bt (Rr Kept tb bys tb_length bys_length tx u8s dn)
/- A list that is owned can be read. -/
theorem flat_at {α : Type} (f : α → List Value) (n : Nat) (hf : ∀ x, (f x).length = n) : ∀ (l : List α) (i : Nat) (hi : i < l.length) (j : Nat), j < n → (l.flatMap f)[i * n + j]? = (f l[i])[j]?
 | [], i, hi, j, hj => by cases hi
 | x :: l, 0, hi, j, hj => by
  rw [List.flatMap_cons, Nat.zero_mul, Nat.zero_add, List.getElem?_append_left (by rw [hf]; exact hj)]
  rfl
 | x :: l, i + 1, hi, j, hj => by
  have e : (i + 1) * n + j = n + (i * n + j) := by rw [Nat.succ_mul]; omega
  rw [List.flatMap_cons, e, List.getElem?_append_right (by rw [hf]; omega), hf, Nat.add_sub_cancel_left]
  exact flat_at f n hf l i (by simpa using hi) j hj
theorem rd_owns {α : Type} {f : α → List Value} {n : Nat} (hf : ∀ x, (f x).length = n) {W : World} {b : Nat} {T : TypeId} {a : Option Addr} {cap : Nat} {l : List α} (h : W.ownsRow b T n (.slice a l.length cap) l.length (l.flatMap f)) : RdV f n W a l := by
 intro i hi
 rcases h.2 with ⟨e, h0⟩ | ⟨g, cap', cur, e, h3, h4, h5, h6, h7, h8⟩
 ·omega
 ·cases e
  refine ⟨g, 0, rfl, fun j v hv => ?_⟩
  have hj : j < n := by have := (List.getElem?_eq_some_iff.1 hv).1; rw [hf] at this; exact this
  have hlt : i * n + j < l.length * n := by
   have : (i + 1) * n ≤ l.length * n := Nat.mul_le_mul_right n hi
   rw [Nat.succ_mul] at this
   omega
  rw [Nat.zero_add, cell_of_row W g (i * n + j) _ _ _ h4, ← hv, ← flat_at f n hf l i hi j hj, ← h8, List.getElem?_take_of_lt hlt]
  simp
theorem updR (m : Msg) (vL vJ vI : Value) (r : Int × (List (Int × Int) × (List (Int × Int) × List ((Int × Int) × ((Int × Int) × (Int × Int)))))) (xL xJ xI : Value) : upd (mgl m vL vJ vI).toArray 1 (rkl r.1 xL xJ xI) = (mgl ⟨m.kd, r, m.rq, m.rp, m.sd⟩ xL xJ xI).toArray :=
 upd_mid (rkl r.1 xL xJ xI) (rkl m.rk.1 vL vJ vI) [.int .i64 m.kd] (stl m.rq ++ (rpl m.rp ++ sdl m.sd)) rfl
theorem updQ (m : Msg) (vL vJ vI : Value) (q : Int × Int) : upd (mgl m vL vJ vI).toArray 5 (stl q) = (mgl ⟨m.kd, m.rk, q, m.rp, m.sd⟩ vL vJ vI).toArray := by
 have e := upd_mid (stl q) (stl m.rq) ([.int .i64 m.kd] ++ rkl m.rk.1 vL vJ vI) (rpl m.rp ++ sdl m.sd) rfl
 have l : ([.int .i64 m.kd] ++ rkl m.rk.1 vL vJ vI : List Value).length = 5 := rfl
 have e1 : ([.int .i64 m.kd] ++ rkl m.rk.1 vL vJ vI : List Value) ++ (stl m.rq ++ (rpl m.rp ++ sdl m.sd)) = mgl m vL vJ vI := by simp [mgl]
 have e2 : ([.int .i64 m.kd] ++ rkl m.rk.1 vL vJ vI : List Value) ++ (stl q ++ (rpl m.rp ++ sdl m.sd)) = mgl ⟨m.kd, m.rk, q, m.rp, m.sd⟩ vL vJ vI := by simp [mgl]
 rw [l, e1, e2] at e
 exact e
theorem updP (m : Msg) (vL vJ vI : Value) (p : (Int × Int) × (Int × (((Int × Int) × (Int × Int)) × (((Int × Int) × (Int × Int)) × ((Int × Int) × (Int × Int)))))) : upd (mgl m vL vJ vI).toArray 7 (rpl p) = (mgl ⟨m.kd, m.rk, m.rq, p, m.sd⟩ vL vJ vI).toArray := by
 have e := upd_mid (rpl p) (rpl m.rp) ([.int .i64 m.kd] ++ rkl m.rk.1 vL vJ vI ++ stl m.rq) (sdl m.sd) rfl
 have l : ([.int .i64 m.kd] ++ rkl m.rk.1 vL vJ vI ++ stl m.rq : List Value).length = 7 := rfl
 have e1 : ([.int .i64 m.kd] ++ rkl m.rk.1 vL vJ vI ++ stl m.rq : List Value) ++ (rpl m.rp ++ sdl m.sd) = mgl m vL vJ vI := by simp [mgl]
 have e2 : ([.int .i64 m.kd] ++ rkl m.rk.1 vL vJ vI ++ stl m.rq : List Value) ++ (rpl p ++ sdl m.sd) = mgl ⟨m.kd, m.rk, m.rq, p, m.sd⟩ vL vJ vI := by simp [mgl]
 rw [l, e1, e2] at e
 exact e
theorem updD (m : Msg) (vL vJ vI : Value) (d : Int × ((Int × Int) × ByteArray)) : upd (mgl m vL vJ vI).toArray 22 (sdl d) = (mgl ⟨m.kd, m.rk, m.rq, m.rp, d⟩ vL vJ vI).toArray := by
 have e := upd_mid (sdl d) (sdl m.sd) ([.int .i64 m.kd] ++ rkl m.rk.1 vL vJ vI ++ stl m.rq ++ rpl m.rp) [] rfl
 have l : ([.int .i64 m.kd] ++ rkl m.rk.1 vL vJ vI ++ stl m.rq ++ rpl m.rp : List Value).length = 22 := rfl
 have e1 : ([.int .i64 m.kd] ++ rkl m.rk.1 vL vJ vI ++ stl m.rq ++ rpl m.rp : List Value) ++ (sdl m.sd ++ []) = mgl m vL vJ vI := by simp [mgl]
 have e2 : ([.int .i64 m.kd] ++ rkl m.rk.1 vL vJ vI ++ stl m.rq ++ rpl m.rp : List Value) ++ (sdl d ++ []) = mgl ⟨m.kd, m.rk, m.rq, m.rp, d⟩ vL vJ vI := by simp [mgl]
 rw [l, e1, e2] at e
 exact e
theorem request_or (g : Nat) (s : ByteArray) (c : Nat) (w : World) (h : Rr w g c s) (hs : s.size < 1125899906842624) :
  Calls Tryz.prog 47 #[.agg #[.pointer (some ⟨g, 0, none⟩)] ] w fun e w' => (pQ (tb (bys s)) c = none ∧ e = .panicked pw ∧ Kept (fun k => k = g) w w') ∨ (∃ b c', pQ (tb (bys s)) c = some (b, c') ∧ e = .returned (.agg (stl b).toArray) ∧ Rr w' g c' s ∧ Kept (fun k => k = g) w w') := by
 refine (request_any g s c w h hs).mono ?_
 intro e w' hro
 cases hn : pQ (tb (bys s)) c with
 | none => rw [hn] at hro; exact .inl ⟨rfl, hro.1, hro.2⟩
 | some p => rw [hn] at hro; exact .inr ⟨p.1, p.2, rfl, hro.1, hro.2.1, hro.2.2⟩
theorem reply_or (g : Nat) (s : ByteArray) (c : Nat) (w : World) (h : Rr w g c s) (hs : s.size < 1125899906842624) :
  Calls Tryz.prog 48 #[.agg #[.pointer (some ⟨g, 0, none⟩)] ] w fun e w' => (pP (tb (bys s)) c = none ∧ e = .panicked pw ∧ Kept (fun k => k = g) w w') ∨ (∃ b c', pP (tb (bys s)) c = some (b, c') ∧ e = .returned (.agg (rpl b).toArray) ∧ Rr w' g c' s ∧ Kept (fun k => k = g) w w') := by
 refine (reply_any g s c w h hs).mono ?_
 intro e w' hro
 cases hn : pP (tb (bys s)) c with
 | none => rw [hn] at hro; exact .inl ⟨rfl, hro.1, hro.2⟩
 | some p => rw [hn] at hro; exact .inr ⟨p.1, p.2, rfl, hro.1, hro.2.1, hro.2.2⟩
theorem sealed_or (g : Nat) (s : ByteArray) (c : Nat) (w : World) (h : Rr w g c s) (hs : s.size < 1125899906842624) :
  Calls Tryz.prog 49 #[.agg #[.pointer (some ⟨g, 0, none⟩)] ] w fun e w' => (pD (tb (bys s)) c = none ∧ e = .panicked pw ∧ Kept (fun k => k = g) w w') ∨ (∃ b c', pD (tb (bys s)) c = some (b, c') ∧ e = .returned (.agg (sdl b).toArray) ∧ Rr w' g c' s ∧ Kept (fun k => k = g) w w') := by
 refine (sealed_any g s c w h hs).mono ?_
 intro e w' hro
 cases hn : pD (tb (bys s)) c with
 | none => rw [hn] at hro; exact .inl ⟨rfl, hro.1, hro.2⟩
 | some p => rw [hn] at hro; exact .inr ⟨p.1, p.2, rfl, hro.1, hro.2.1, hro.2.2⟩
def AP (a b : Option Addr) : Prop := ∀ p q, a = some p → b = some q → p.block ≠ q.block
theorem rekey_or (g : Nat) (s : ByteArray) (c : Nat) (w : World) (h : Rr w g c s) (hs : s.size < 1125899906842624) :
  Calls Tryz.prog 46 #[.agg #[.pointer (some ⟨g, 0, none⟩)] ] w fun e w' => (pR (tb (bys s)) c = none ∧ e = .panicked pw ∧ Kept (fun k => k = g) w w') ∨ (∃ r c' aL cL aJ cJ aI cI, pR (tb (bys s)) c = some (r, c') ∧ e = .returned (.agg (rkl r.1 (.slice aL r.2.1.length cL) (.slice aJ r.2.2.1.length cJ) (.slice aI r.2.2.2.length cI)).toArray) ∧ Rr w' g c' s ∧ Kept (fun k => k = g) w w' ∧ w'.ownsRow w.heap.size 108 2 (.slice aL r.2.1.length cL) r.2.1.length (r.2.1.flatMap stl) ∧ w'.ownsRow w.heap.size 108 2 (.slice aJ r.2.2.1.length cJ) r.2.2.1.length (r.2.2.1.flatMap stl) ∧ w'.ownsRow w.heap.size 112 6 (.slice aI r.2.2.2.length cI) r.2.2.2.length (r.2.2.2.flatMap itl) ∧ AP aL aJ) := by
 refine (rekey_any g s c w h hs).mono ?_
 intro e w' hro
 cases hn : pR (tb (bys s)) c with
 | none => rw [hn] at hro; exact .inl ⟨rfl, hro.1, hro.2⟩
 | some p =>
  rw [hn] at hro
  obtain ⟨vL, vJ, vI, h1, h2, h3, h4, h5, h6, h7⟩ := hro
  obtain ⟨aL, cL, rfl⟩ := owns_slice h4
  obtain ⟨aJ, cJ, rfl⟩ := owns_slice h5
  obtain ⟨aI, cI, rfl⟩ := owns_slice h6
  exact .inr ⟨p.1, p.2, aL, cL, aJ, cJ, aI, cI, rfl, h1, h2, h3, h4, h5, h6, fun p' q' e1 e2 e3 => h7 p'.block (by rw [e1]; rfl) (by rw [e2, e3]; rfl)⟩
/- What message answers. -/
def RM (w w' : World) (g : Nat) (T : List Bool) (e : Ending) : Prop :=
 Kept (fun k => k = g) w w' ∧ ((okD T = false ∧ e = .panicked pw) ∨ (okD T = true ∧ ∃ aL cL aJ cJ aI cI, e = .returned (.agg (mgv (tM T) aL aJ aI cL cJ cI).toArray) ∧ w'.ownsRow w.heap.size 108 2 (.slice aL (tM T).rk.2.1.length cL) (tM T).rk.2.1.length ((tM T).rk.2.1.flatMap stl) ∧ w'.ownsRow w.heap.size 108 2 (.slice aJ (tM T).rk.2.2.1.length cJ) (tM T).rk.2.2.1.length ((tM T).rk.2.2.1.flatMap stl) ∧ w'.ownsRow w.heap.size 112 6 (.slice aI (tM T).rk.2.2.2.length cI) (tM T).rk.2.2.2.length ((tM T).rk.2.2.2.flatMap itl) ∧ AP aL aJ))
theorem mgz (k : Int) : (#[.int .i64 k, .int .i64 0, .slice none 0 0, .slice none 0 0, .slice none 0 0, .int .i64 0, .int .i64 0, .int .i64 0, .int .i64 0, .int .i64 0, .int .i64 0, .int .i64 0, .int .i64 0, .int .i64 0, .int .i64 0, .int .i64 0, .int .i64 0, .int .i64 0, .int .i64 0, .int .i64 0, .int .i64 0, .int .i64 0, .int .i64 0, .int .i64 0, .int .i64 0, .string ⟨#[]⟩] : Array Value) = (mgl ⟨k, zR, zQ, zP, zD⟩ (.slice none 0 0) (.slice none 0 0) (.slice none 0 0)).toArray := rfl
theorem small_pl {α : Type} {d : List Bool → Nat → Option (α × Nat)} {q : Nat} (hq : q ≤ 11) {T : List Bool} {c c' : Nat} {l : List α} (h : pc q d T c = some (l, c')) : l.length < 2048 := by
 unfold pc at h
 split at h
 ·cases h
 ·rename_i n c1 hn
  rw [pl_len h]
  exact Nat.lt_of_lt_of_le (pn_lt hn) (by have := Nat.pow_le_pow_right (n := 2) (by decide) hq; simpa using this)
theorem small_R {T : List Bool} {c c' : Nat} {r : Int × (List (Int × Int) × (List (Int × Int) × List ((Int × Int) × ((Int × Int) × (Int × Int)))))} (h : pR T c = some (r, c')) : r.2.1.length < 2048 ∧ r.2.2.1.length < 2048 ∧ r.2.2.2.length < 2048 := by
 obtain ⟨c1, k1, k2⟩ := pq_inv h
 obtain ⟨c2, k3, k4⟩ := pq_inv k2
 obtain ⟨c3, k5, k6⟩ := pq_inv k4
 exact ⟨small_pl (by decide) k3, small_pl (by decide) k5, small_pl (by decide) k6⟩
theorem small_D {T : List Bool} {c c' : Nat} {d : Int × ((Int × Int) × ByteArray)} (h : pD T c = some (d, c')) : d.2.2.size < 2048 := by
 obtain ⟨c1, k1, k2⟩ := pq_inv h
 obtain ⟨c2, k3, k4⟩ := pq_inv k2
 obtain ⟨l, e, k5⟩ := pm_inv k4
 rw [e, Bt.tx_size]
 exact small_pl (by decide) k5
end Go.Proofs.YtdkfifnhmfbagaaGreatDoor.Wi
