/- TrE, TrF, TrL, TrMp, joined. -/
import Derived.Test.YtpimbpfefhkojabGreatDoorTrD
import Derived.Test.YtpimbpfefhkojabGreatDoorShJ
import Derived.Deep.RegionHeld3
import Derived.Test.YtpimbpfefhkojabGreatDoorTrS
import Derived.Maps.Own
import Derived.Maps.OwnOps
import Derived.Maps.StringElems
namespace Go.Proofs.YtpimbpfefhkojabGreatDoor
open Go.RowKit
open Rt (Ky zK kcs KsAt KyAt lfE lfB lfS)
open Rs (En zE rcs RoAt EnAt tkn)
set_option linter.unusedVariables false
set_option linter.unusedSimpArgs false

theorem infoKy : (Tryz.prog.info? 31).map (·.size) = some 2 := by kernel_rfl
theorem stKy {ops : Array Oper} {rest : List Oper} {o : Oper} {a : Act} {w : World} {Q : Exit → Act → World → Prop} {B : Nat} {e : Ky} (h : KyAt w B e) (d : Ky) (hgd : o.guard = none) (x y : Operand) (ho : o.op = .store 31 x y)
    (hx : a.eval x = .pointer (some ⟨B, 0, none⟩)) (hy : a.eval y = .agg #[.int .i64 d.bas, .int .i64 d.stp]) (k : wpList Tryz.prog ops Q rest (a.put o.dst undef) (w.setRow B #[.int .i64 d.bas, .int .i64 d.stp])) : wpList Tryz.prog ops Q (o :: rest) a w :=
  wpList_store_row hgd 31 x y ho B _ hx hy 31 _ h infoKy rfl (by simp [Value.oneCell']) k
theorem KyAt.row {w : World} {B : Nat} {e : Ky} (h : KyAt w B e) (d : Ky) : KyAt (w.setRow B #[.int .i64 d.bas, .int .i64 d.stp]) B d := Rt.heap_setRow_same h _
theorem KyAt.set {w : World} {B : Nat} {e : Ky} (h : KyAt w B e) (a b : Int) : KyAt ((w.setCell ⟨B, 0, none⟩ (.int .i64 a)).setCell ⟨B, 1, none⟩ (.int .i64 b)) B ⟨a, b⟩ := by
  have h3 := Rt.row_setCell (Rt.row_setCell h 0 (.int .i64 a)) 1 (.int .i64 b)
  exact h3
theorem results_ky2 {fn : Func} {p t : Tmp} (hf : fn.results = #[.cell p 31, .tmp t]) (tmps : Array Value) (W : World) (B : Nat) (e : Ky) (hp : tmps[p]? = some (.pointer (some ⟨B, 0, none⟩))) (hb : KyAt W B e) :
    (results fn tmps).run Tryz.prog W = .ok (.tuple #[.agg #[.int .i64 e.bas, .int .i64 e.stp], tmps.getD t undef]) W := by
  have h := run_loadVar_row W B _ 31 _ _ _ hb Tryz.underlying31 rfl infoKy
  simp [results, hf, hp, asAddr, h]
/- What stands while a key is looked up. -/
structure SK (w W : World) (B K : Nat) (t : Tr) : Prop where
  tr : TrAt W B t
  ky : ∃ e : Ky, KyAt W K e
  bel : Below w.heap.size w W
  ne : B ≠ K
  ge : w.heap.size ≤ K
theorem SK.later {w W W' : World} {B K : Nat} {t : Tr} (h : SK w W B K t) (hb : Below W.heap.size W W') : SK w W' B K t := ⟨h.tr.later hb, h.ky.elim fun e he => ⟨e, he.later hb⟩, h.bel.trans (hb.mono h.bel.size), h.ne, h.ge⟩
theorem SK.set {w W : World} {B K : Nat} {t : Tr} (h : SK w W B K t) (a b : Int) : SK w ((W.setCell ⟨K, 0, none⟩ (.int .i64 a)).setCell ⟨K, 1, none⟩ (.int .i64 b)) B K t :=
  ⟨(Rt.set2_other h.ne _ _ _ _).trans h.tr, h.ky.elim fun e he => ⟨_, KyAt.set he a b⟩, Rt.set2_below h.bel h.ge _ _ _ _, h.ne, h.ge⟩
theorem SK.new (w : World) (t : Tr) : SK w ((w.alloc (.cells (tcs t) 47)).alloc (.cells #[.int .i64 0, .int .i64 0] 31)) w.heap.size (w.heap.size + 1) t := by
  have h1 := TrAt.new w t
  have hb1 := alloc_tr w t
  have h2 := KyAt.new (w.alloc (.cells (tcs t) 47)) zK
  have hb2 := Rt.alloc_ky (w.alloc (.cells (tcs t) 47)) zK
  rw [World.size_alloc] at h2
  exact ⟨h1.later hb2, ⟨_, h2⟩, hb1.trans (hb2.mono hb1.size), by omega, by omega⟩
/- The document's levels and slots of nodes, in cases. -/
theorem node_cases (v : Int) : (nod v = false ∧ (v < 0 ∨ 85 ≤ v)) ∨ (∃ n : Nat, v = (n : Int) ∧ n < 21) ∨ ∃ s : Nat, v = 21 + (s : Int) ∧ s < 64 := by
  by_cases h0 : 0 ≤ v ∧ v < 85
  · by_cases h1 : v < 21
    · exact Or.inr (Or.inl ⟨v.toNat, by omega, by omega⟩)
    · exact Or.inr (Or.inr ⟨(v - 21).toNat, by omega, by omega⟩)
  · exact Or.inl ⟨by simp [nod]; omega, by omega⟩
set_option maxRecDepth 100000 in
set_option maxHeartbeats 1000000 in
theorem keyOf_any (t : Tr) (v : Int) (w : World) : Calls Tryz.prog 73 #[.agg (tcs t), .int .i64 v] w fun e w' => e = KeyA t v ∧ Below w.heap.size w w' := by
  have hS := SK.new w t
  have h1 := check_any t
  obtain ⟨ct, hct⟩ : ∃ c, tcs t = c := ⟨_, rfl⟩
  simp only [hct] at h1
  have HT : Hid (tcs t = ct) := hct
  clear hct
  go_enter Tryz.func73, Tryz.ntmps73
  go_upto_region 1 with (fail)
  generalize (w.alloc (.cells (tcs t) 47)).alloc (.cells #[.int .i64 0, .int .i64 0] 31) = w1 at *
  rw [HT.out]
  have hT1 := hS.tr
  obtain ⟨K, hK⟩ : ∃ K, w.heap.size + 1 = K := ⟨_, rfl⟩
  rw [hK] at hS ⊢
  obtain ⟨B, hB⟩ : ∃ B, w.heap.size = B := ⟨_, rfl⟩
  rw [hB] at hS hT1 ⊢
  have HBB : Hid (w.heap.size = B) := hB
  clear hK hB
  go_wp2_with (refine rdT hT1 HT.out _ rfl rfl rfl ?_)
  refine (h1 _).mono ?_
  rintro r w2 ⟨rfl, hb2⟩
  have hS2 := hS.later hb2
  clear h1 hS hT1 hb2 
  obtain ⟨k, hk⟩ := hS2.ky
  cases hck : tck t with
  | false =>
    rw [tckE_ff hck]
    go_wp2_with (refine stKy hk zK rfl _ _ rfl rfl rfl ?_)
    refine bodyPost_ret (results_ky2 (p := 4) (t := 5) rfl _ _ K zK rfl (KyAt.row hk _)) rfl ?_
    exact ⟨KeyA.no (koE_bad hck) (by decide), Rt.setRow_below hS2.ge hS2.bel _⟩
  | true =>
    rw [tckE_tt hck]
    have hl := Sh.level_any v
    have hs := Sh.slot_any v
    rcases node_cases v with ⟨hv, hv2⟩ | ⟨n, rfl, hn⟩ | ⟨s, rfl, hs8⟩
    · have hlv : Sh.lev v = -1 := by
        simp only [Sh.lev]; repeat' split
        all_goals omega
      rw [hlv] at hl
      clear hs hlv hv2
      go_wp2_with (first | (go_at_call 96; refine (hl _).mono ?_; rintro r w' ⟨rfl, rfl⟩) | (refine stKy hk zK rfl _ _ rfl rfl rfl ?_))
      refine bodyPost_ret (results_ky2 (p := 4) (t := 5) rfl _ _ K zK rfl (KyAt.row hk _)) rfl ?_
      exact ⟨KeyA.no (koE_node hck hv) (by decide), Rt.setRow_below hS2.ge hS2.bel _⟩
    · obtain ⟨L, hL⟩ : ∃ L, Sh.lev (n : Int) = L := ⟨_, rfl⟩
      have hL0 : decide (L < 0) = false := decide_eq_false (by have := (Sh.lev_bd (v := (n : Int)) (by omega) (by omega)).1; omega)
      rw [hL] at hl
      rw [Sh.slo_no (by omega)] at hs
      clear hL
      have n0 : (0 : Int) ≤ (n : Int) := by omega
      have n1 : (n : Int) < 21 := by omega
      obtain ⟨c0, c1⟩ := hS2.tr.key n hn
      have HA := KeyA.inner (koE_inner (v := (n : Int)) hck n0 n1) hn
      obtain ⟨e, he⟩ : ∃ e, t.ks n = e := ⟨_, rfl⟩
      rw [he] at c0 c1 HA
      have HA2 : Hid (Ending.returned (.tuple #[.agg #[.int .i64 e.bas, .int .i64 e.stp], .int .i64 0]) = KeyA t (n : Int)) := HA
      clear he HA
      go_wp2_with (first | (go_at_call 96; refine (hl _).mono ?_; rintro r w' ⟨rfl, rfl⟩) | (go_at_call 91; refine (hs _).mono ?_; rintro r w' ⟨rfl, rfl⟩) | (refine stKy hk e rfl _ _ rfl rfl rfl ?_))
      refine bodyPost_ret (results_ky2 (p := 4) (t := 5) rfl _ _ K e rfl (KyAt.row hk _)) rfl ?_
      exact ⟨HA2.out, Rt.setRow_below hS2.ge hS2.bel _⟩
    · obtain ⟨L, hL⟩ : ∃ L, Sh.lev (21 + (s : Int)) = L := ⟨_, rfl⟩
      have hL0 : decide (L < 0) = false := decide_eq_false (by have := (Sh.lev_bd (v := 21 + (s : Int)) (by omega) (by omega)).1; omega)
      rw [hL] at hl
      rw [Sh.slo_yes (by omega) (by omega), show 21 + (s : Int) - 21 = (s : Int) by omega] at hs
      clear hL
      have s2 : decide ((s : Int) < 0) = false := decide_eq_false (by omega)
      have hlf := Rt.leafAt_any (t.ro s).who (t.ro s).bas (t.ro s).snc t.ep (by have := (tck_right hck).e1; omega)
      have HA : Rt.LeafA (t.ro s).bas (t.ro s).snc t.ep = KeyA t (21 + (s : Int)) := KeyA.leaf hck hs8
      unfold Rt.LeafA at hlf HA
      obtain ⟨X, hX⟩ : ∃ X, lfB (t.ro s).bas (t.ro s).snc t.ep = X := ⟨_, rfl⟩
      obtain ⟨Y, hY⟩ : ∃ Y, lfS (t.ro s).bas (t.ro s).snc t.ep = Y := ⟨_, rfl⟩
      obtain ⟨E, hE⟩ : ∃ E, lfE (t.ro s).bas (t.ro s).snc t.ep = E := ⟨_, rfl⟩
      simp only [hX, hY, hE] at hlf HA
      have HA2 : Hid (Ending.returned (.tuple #[.agg #[.int .i64 X, .int .i64 Y], .int .i64 E]) = KeyA t (21 + (s : Int))) := HA
      clear HA hX hY hE hk
      obtain ⟨v, hv⟩ : ∃ v, 21 + (s : Int) = v := ⟨_, rfl⟩
      rw [hv] at hl hs ⊢
      clear hv
      go_upto_region 9 with (first | (go_at_call 96; refine (hl _).mono ?_; rintro r w2 ⟨rfl, rfl⟩) | (go_at_call 91; refine (hs _).mono ?_; rintro r w2 ⟨rfl, rfl⟩))
      have hS0 : SK w w2.drew B K t := hS2.later (drew_below _)
      clear hS2 hl hs s2
      have s0 : (0 : Int) ≤ (s : Int) := by omega
      have s1 : (s : Int) < 64 := by omega
      obtain ⟨e, he⟩ : ∃ e, t.ro s = e := ⟨_, rfl⟩
      rw [he] at hlf
      have HE : Hid (t.ro s = e) := he
      clear he
      refine wp_region_held_drew (S := fun W => SK w W B K t) (by kernel_rfl) hS0 (fun hHeld => ?_)
      refine wpAnyH_take (i := 0) (oi := { dst := some 26, op := Op.move (Operand.tmp 7), type := _, pos := _, after := _, guard := none }) (v := .int .i64 (s : Int)) rfl (by kernel_rfl) (by kernel_rfl) (by kernel_rfl) (fun _ _ _ h => h) (Or.inl ⟨by rfl, fun w hSw => by (try dsimp only at hSw); go_simp⟩) (by assumption) ?_
      simp only [Act.put, List.setIfInBounds_toArray, List.set_cons_zero, List.set_cons_succ]
      refine wpAnyH_take (i := 1) (oi := { dst := some 27, op := Op.fieldAddr 47 (Operand.tmp 2) 3, type := _, pos := _, after := _, guard := none }) (v := .pointer (some ⟨B, 44, none⟩)) rfl (by kernel_rfl) (by kernel_rfl) (by kernel_rfl) (fun _ _ _ h => h) (Or.inl ⟨by rfl, fun w hSw => by (try dsimp only at hSw); go_simp⟩) (by assumption) ?_
      simp only [Act.put, List.setIfInBounds_toArray, List.set_cons_zero, List.set_cons_succ]
      refine wpAnyH_take (i := 2) (oi := { dst := some 28, op := Op.indexAddr 45 (Operand.tmp 27) (Operand.tmp 26), type := _, pos := _, after := _, guard := none }) (v := .pointer (some ⟨B, 44 + s * 3, none⟩)) rfl (by kernel_rfl) (by kernel_rfl) (by kernel_rfl) (fun _ _ _ h => h) (Or.inl ⟨by rfl, fun w hSw => by (try dsimp only at hSw); go_simp⟩) (by assumption) ?_
      simp only [Act.put, List.setIfInBounds_toArray, List.set_cons_zero, List.set_cons_succ]
      refine wpAnyH_take (i := 3) (oi := { dst := some 29, op := Op.load 43 (Operand.tmp 28), type := _, pos := _, after := _, guard := none }) (v := .agg #[.int .i64 e.who, .int .i64 e.bas, .int .i64 e.snc]) rfl (by kernel_rfl) (by kernel_rfl) (by kernel_rfl) (fun _ _ _ h => h) (Or.inl ⟨by rfl, fun w hSw => by obtain ⟨c0, c1, c2⟩ := hSw.tr.ent s hs8; rw [HE.out] at c0 c1 c2; clear hSw; go_simp⟩) (by assumption) ?_
      simp only [Act.put, List.setIfInBounds_toArray, List.set_cons_zero, List.set_cons_succ]
      refine wpAnyH_take (i := 4) (oi := { dst := some 30, op := Op.fieldAddr 47 (Operand.tmp 2) 0, type := _, pos := _, after := _, guard := none }) (v := .pointer (some ⟨B, 0, none⟩)) rfl (by kernel_rfl) (by kernel_rfl) (by kernel_rfl) (fun _ _ _ h => h) (Or.inl ⟨by rfl, fun w hSw => by (try dsimp only at hSw); go_simp⟩) (by assumption) ?_
      simp only [Act.put, List.setIfInBounds_toArray, List.set_cons_zero, List.set_cons_succ]
      refine wpAnyH_take (i := 5) (oi := { dst := some 31, op := Op.load 3 (Operand.tmp 30), type := _, pos := _, after := _, guard := none }) (v := .int .i64 t.ep) rfl (by kernel_rfl) (by kernel_rfl) (by kernel_rfl) (fun _ _ _ h => h) (Or.inl ⟨by rfl, fun w hSw => by obtain ⟨c0, c1⟩ := hSw.tr.cells; clear hSw; go_simp⟩) (by assumption) ?_
      simp only [Act.put, List.setIfInBounds_toArray, List.set_cons_zero, List.set_cons_succ]
      refine wpAnyH_ready (rs := [6]) (by kernel_rfl) (by simp) ?_
      refine AllReadyH.cons rfl (fun K hK => ?_) AllReadyH.nil
      go_simp
      refine (hlf _).mono ?_
      rintro r w3 ⟨rfl, hb3⟩
      go_wp2_with fail
      refine hK.out _ _ (hHeld.later hb3) (fun hHeld2 => ?_)
      obtain ⟨k3, hk3⟩ := hHeld2.ky
      obtain ⟨k0, k1⟩ := hk3.cells
      have f0 := Rt.row_frozen hk3 0
      have f1 := Rt.row_frozen hk3 1
      clear hHeld hb3
      clear hK K
      try simp only [Act.put, List.setIfInBounds_toArray, List.set_cons_zero, List.set_cons_succ]
      refine wpAnyH_take (i := 7) (oi := { dst := some 33, op := Op.extract (Operand.tmp 32) 0, type := _, pos := _, after := _, guard := none }) (v := .agg #[.int .i64 X, .int .i64 Y]) rfl (by kernel_rfl) (by kernel_rfl) (by kernel_rfl) (fun _ _ _ h => h) (Or.inl ⟨by rfl, fun w hSw => by (try dsimp only at hSw); go_simp⟩) (by assumption) ?_
      simp only [Act.put, List.setIfInBounds_toArray, List.set_cons_zero, List.set_cons_succ]
      refine wpAnyH_take (i := 8) (oi := { dst := some 34, op := Op.extract (Operand.tmp 32) 1, type := _, pos := _, after := _, guard := none }) (v := .int .i64 E) rfl (by kernel_rfl) (by kernel_rfl) (by kernel_rfl) (fun _ _ _ h => h) (Or.inl ⟨by rfl, fun w hSw => by (try dsimp only at hSw); go_simp⟩) (by assumption) ?_
      simp only [Act.put, List.setIfInBounds_toArray, List.set_cons_zero, List.set_cons_succ]
      refine wpAnyH_ready (rs := [9]) (by kernel_rfl) (by simp) ?_
      refine AllReadyH.cons rfl (fun K hK => ?_) AllReadyH.nil
      go_simp
      refine hK.out _ _ (hHeld2.set X Y) (fun hHeld3 => ?_)
      clear hK K
      try simp only [Act.put, List.setIfInBounds_toArray, List.set_cons_zero, List.set_cons_succ]
      refine wpAnyH_take (i := 10) (oi := { dst := some 5, op := Op.assign (Operand.tmp 34), type := _, pos := _, after := _, guard := none }) (v := .int .i64 E) rfl (by kernel_rfl) (by kernel_rfl) (by kernel_rfl) (fun _ _ _ h => h) (Or.inl ⟨by rfl, fun w hSw => by (try dsimp only at hSw); go_simp⟩) (by assumption) ?_
      simp only [Act.put, List.setIfInBounds_toArray, List.set_cons_zero, List.set_cons_succ]
      refine wpAnyH_done (by kernel_rfl) ?_ _
      go_wp2_with fail
      refine bodyPost_ret (results_ky2 (p := 4) (t := 5) rfl _ _ K ⟨X, Y⟩ rfl (KyAt.set hk3 _ _)) rfl ?_
      exact ⟨HA2.out, hHeld3.bel⟩

theorem KeyA.is {t : Tr} {v : Int} {e : Ky} {E : Int} (he : koK t v = e) (hE : koE t v = E) : KeyA t v = Ending.returned (.tuple #[.agg #[.int .i64 e.bas, .int .i64 e.stp], .int .i64 E]) := by unfold KeyA; rw [he, hE]
open Rt (Ky zK kcs KsAt KyAt)

structure SL (w W : World) (B K : Nat) (t : Tr) (e : Ky) : Prop where
  tr : TrAt W B t
  ky : KyAt W K e
  bel : Below w.heap.size w W
theorem SL.later {w W W' : World} {B K : Nat} {t : Tr} {e : Ky} (h : SL w W B K t e) (hb : Below W.heap.size W W') : SL w W' B K t e := ⟨h.tr.later hb, h.ky.later hb, h.bel.trans (hb.mono h.bel.size)⟩
open Go.RowKit Go.Maps
open Rt (Ky zK KyAt)
open Rs (En tkn)

theorem intK : Keyed Tryz.prog 3 := int_keyed Tryz.underlying3
def mrk (l : List Int) (x : Int) : Int := if x ∈ l then 1 else 0
def Mi (w : World) (b n : Nat) (l : List Int) : Prop := ∃ D : DataW Unit, w.ownsMap Tryz.prog 3 (plainElem Tryz.prog 3) b n D ∧ ∀ x : Int, D.atKey (.int .i64 x) (.lit (.int .i64 0)) = .lit (.int .i64 (mrk l x))
theorem Mi.lt {w : World} {b n : Nat} {l : List Int} (h : Mi w b n l) : b < w.heap.size := by
  obtain ⟨D, h1, _⟩ := h
  exact World.ownsMap.lt h1
theorem Mi.isMap {w : World} {b n : Nat} {l : List Int} (h : Mi w b n l) : ∃ es cl, w.heap[b]? = some (.map es cl) := by
  obtain ⟨D, ⟨es, cl, h1, _⟩, _⟩ := h
  exact ⟨es, cl, h1⟩
theorem Mi.later {w w' : World} {b n : Nat} {l : List Int} (h : Mi w b n l) (hb : Below w.heap.size w w') : Mi w' b n l := by
  have hlt := h.lt
  obtain ⟨D, ⟨es, cl, hh, r⟩, h2⟩ := h
  exact ⟨D, ⟨es, cl, (hb.block b hlt).trans hh, r⟩, h2⟩
theorem Mi.new (w : World) : Mi (w.alloc (.map #[] 0)) w.heap.size 0 [] := ⟨_, World.ownsMap_made w Tryz.prog 3 _, fun x => rfl⟩
theorem zeroI (w : World) : (zeroValue 3).run Tryz.prog w = .ok (.int .i64 0) w := by kernel_rfl
theorem Mi.look {w : World} {b n : Nat} {l : List Int} (h : Mi w b n l) {x : Int} (hx : (Lit.int .i64 x).wf = true) : (Instr.lookup 62 (.map (some b)) (.int .i64 x) false).run Tryz.prog w = .ok (.int .i64 (mrk l x)) w := by
  obtain ⟨D, h1, h2⟩ := h
  obtain ⟨c, hrun, hat, _⟩ := h1.lookup_int intK Tryz.underlying62 Tryz.underlying3 (zeroI w) (keyOf_int_mk Tryz.underlying3 hx)
  rw [h2 x] at hat
  have e : mrk l x = c := by simpa using hat
  rw [e]
  exact hrun
theorem Mi.upd {ops : Array Oper} {rest : List Oper} {o : Oper} {a : Act} {w : World} {Q : Exit → Act → World → Prop} {b n : Nat} {l : List Int} (h : Mi w b n l) (hn : n < 4611686018427387904) {z : Int} (hz : (Lit.int .i64 z).wf = true) (hgd : o.guard = none) (m x y : Operand) (ho : o.op = .mapUpdate 62 m x y)
    (hm : a.eval m = .map (some b)) (hx : a.eval x = .int .i64 z) (hy : a.eval y = .int .i64 1) (k : ∀ w', Mi w' b (n + 1) (l ++ [z]) → w.grownBy w' (some b) → wpList Tryz.prog ops Q rest (a.put o.dst undef) w') : wpList Tryz.prog ops Q (o :: rest) a w := by
  obtain ⟨D, h1, h2⟩ := h
  have hkey := keyOf_int_mk Tryz.underlying3 hz
  refine wpList_mapUpdate_own w hgd m x y 62 ho 3 3 intK Tryz.underlying62 _ b n D hm h1 (by unfold maxLen; omega) _ _ _ hx hy hkey _ [] (plainElem_int (H := Unit) Tryz.underlying3 (by decide)) ?_
  intro w1 hown hg
  refine k w1 ⟨_, hown, fun q => ?_⟩ hg
  have hD := World.ownsMap.isMap h1
  by_cases e : q = z
  · subst e
    rw [Maps.atKey_put_same hD (by trivial)]
    simp [mrk]
  · rw [Maps.atKey_put_other (by intro h; simp at h; exact e h), h2 q]
    have : mrk (l ++ [z]) q = mrk l q := by simp [mrk, e]
    rw [this]
/- What stands while the names are counted. -/
structure SN (w W : World) (B b n : Nat) (t : Tr) (l : List Int) : Prop where
  tr : TrAt W B t
  mi : Mi W b n l
  bel : Below w.heap.size w W
  ge : w.heap.size ≤ b
theorem SN.later {w W W' : World} {B b n : Nat} {t : Tr} {l : List Int} (h : SN w W B b n t l) (hb : Below W.heap.size W W') : SN w W' B b n t l := ⟨h.tr.later hb, h.mi.later hb, h.bel.trans (hb.mono h.bel.size), h.ge⟩
/- The key of a node, in a right tree. -/
theorem kn {t : Tr} (h : tck t = true) {k : Nat} (hk : k < 85) (h0 : koE t (k : Int) = 0) : (k < 21 ∧ koK t (k : Int) = t.ks k) ∨ ∃ s, s < 64 ∧ k = 21 + s ∧ tkn (t.ro s) = true ∧ koK t (k : Int) = ⟨(t.ro s).bas, t.ep - (t.ro s).snc⟩ := by
  by_cases hi : k < 21
  · left
    refine ⟨hi, ?_⟩
    unfold koK
    rw [h0, if_pos rfl, if_pos (by omega), Int.toNat_natCast]
  · right
    refine ⟨k - 21, by omega, by omega, ?_, ?_⟩
    · have e : (k : Int) = 21 + ((k - 21 : Nat) : Int) := by omega
      rw [e, koE_leaf h (by omega)] at h0
      cases ht : tkn (t.ro (k - 21)) with
      | true => rfl
      | false => rw [leaf_free ht] at h0; cases h0
    · unfold koK
      rw [h0, if_pos rfl, if_neg (by omega), show ((k : Int) - 21).toNat = k - 21 by omega]
theorem kn_fit {t : Tr} (h : tck t = true) {k : Nat} (hk : k < 85) (h0 : koE t (k : Int) = 0) : 1 ≤ (koK t (k : Int)).bas ∧ (koK t (k : Int)).bas < t.fr ∧ (koK t (k : Int)).stp ≤ t.ep := by
  have hr := tck_right h
  rcases kn h hk h0 with ⟨hi, e⟩ | ⟨s, hs, _, ht, e⟩
  · rw [e]
    have h1 := hr.fk k hi
    have h2 := ((Rt.kchk_iff.1 hr.ks).1 k hi).1.1
    exact ⟨h2, h1.1, h1.2⟩
  · rw [e]
    have h1 := hr.fs s hs
    have h2 := hr.taken hs ht
    exact ⟨h2.1, h1.1, by dsimp only; omega⟩
theorem ent_ne {t : Tr} (h : tck t = true) {i j : Nat} (hij : i < j) (hj : j < 64) (hi : tkn (t.ro i) = true) (hj2 : tkn (t.ro j) = true) : (t.ro i).bas ≠ (t.ro j).bas := by
  have hk := Rs.chk_at (tck_right h).ro hj
  unfold Rs.okp at hk
  rw [Bool.and_eq_true] at hk
  have := all_at hk.2 hij
  intro e
  unfold Rs.clh Rs.alike at this
  rw [hi, hj2, e] at this
  simp at this
theorem kn_ne {t : Tr} (h : tck t = true) {j k : Nat} (hjk : j < k) (hk : k < 85) (hj0 : koE t (j : Int) = 0) (hk0 : koE t (k : Int) = 0) : (koK t (j : Int)).bas ≠ (koK t (k : Int)).bas := by
  have hr := tck_right h
  rcases kn h (by omega) hj0 with ⟨ji, ej⟩ | ⟨s, hs, js, jt, ej⟩
  · rcases kn h hk hk0 with ⟨ki, ek⟩ | ⟨s', hs', ks, kt, ek⟩
    · rw [ej, ek]
      exact Rt.kchk_ne hr.ks ji ki (by omega)
    · rw [ej, ek]
      exact (hr.fs s' hs').2.2 j ji
  · rcases kn h hk hk0 with ⟨ki, ek⟩ | ⟨s', hs', ks, kt, ek⟩
    · omega
    · rw [ej, ek]
      exact ent_ne h (by omega) hs' jt kt
end Go.Proofs.YtpimbpfefhkojabGreatDoor
