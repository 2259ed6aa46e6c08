/- WiF, WiH, joined. -/
import Derived.Test.YtdkfifnhmfbagaaGreatDoorWiJ1
import Derived.Deep.RegionHeld3
namespace Go.Proofs.YtdkfifnhmfbagaaGreatDoor.Wi
open Go.RowKit Go.Maps
set_option linter.unusedVariables false
set_option linter.unusedSimpArgs false
theorem ld_ex {w : World} {o : Oper} {a : Act} {B off : Nat} {T : TypeId} {d : TypeDesc} {cs : List Value} {x : Operand} (hc : w.rangeAt B off cs) (hu : Tryz.prog.underlying T = some d) (hd : d.isRow = true) (hi : (Tryz.prog.info? T).map (·.size) = some cs.length) (ho : o.op = .load T x) (hx : a.eval x = .pointer (some ⟨B, off, none⟩)) :
  (execOp a.eval o).run Tryz.prog w = .ok (.value (.agg cs.toArray)) w := by
 have h := run_loadAt_mid w B off T cs d hc hu hd hi
 simp [execOp, ho, hx, h, Sem.run_bind, Result.andThen]
theorem eq_take {α : Type} {l l' : List α} {k : Nat} (h : k < l.length) (h' : k < l'.length) (e : l.take k = l'.take k) (x : l[k] = l'[k]) : l.take (k + 1) = l'.take (k + 1) := by
 rw [List.take_succ_eq_append_getElem h, List.take_succ_eq_append_getElem h', e, x]
set_option maxRecDepth 100000 in
set_option maxHeartbeats 1000000 in
theorem sameS_any (a a' : Option Addr) (c c' : Nat) (l l' : List (Int × Int)) (w : World) (h1 : RdV stl 2 w a l) (h2 : RdV stl 2 w a' l') (hl : l.length < 4611686018427387904) (hl' : l'.length < 4611686018427387904) :
  Calls Tryz.prog 52 #[.slice a l.length c, .slice a' l'.length c'] w fun e w' => (∃ b, e = .returned (.bool b) ∧ (b = true ↔ l = l')) ∧ Below w.heap.size w w' := by
 obtain ⟨n, hn⟩ : ∃ n, l.length = n := ⟨_, rfl⟩
 obtain ⟨n', hn'⟩ : ∃ n, l'.length = n := ⟨_, rfl⟩
 have HN : Hid (l.length = n ∧ l'.length = n') := ⟨hn, hn'⟩
 rw [hn] at hl
 rw [hn'] at hl'
 rw [hn, hn']
 clear hn hn'
 by_cases hne : n = n'
 ·subst hne
  have d0 : ((n : Int) != (n : Int)) = false := by simp
  go_enter Tryz.func52, Tryz.ntmps52
  go_wp2_with fail
  go_loopw [13] (fun i wx => ∃ k : Nat, k ≤ n ∧ i = .int .i64 (k : Int) ∧ l.take k = l'.take k ∧ Below w.heap.size w wx) (fun i _ => n - (intOf i).toNat)
  case atStart => exact ⟨0, by omega, rfl, rfl, Below.refl _ _⟩
  case round =>
   obtain ⟨k, hk, rfl, hE, hb⟩ := hrel
   have HE : Hid (l.take k = l'.take k) := hE
   have HB : Hid (Below w.heap.size w wr) := hb
   clear hE hb
   by_cases hkn : k < n
   ·have hkl : k < l.length := by rw [HN.out.1]; exact hkn
    have hkl' : k < l'.length := by rw [HN.out.2]; exact hkn
    have i1 : (0 : Int) ≤ (k : Int) := by omega
    have i2 : (k : Int) < (n : Int) := by omega
    obtain ⟨b, o, rfl, r1⟩ := h1 k hkl
    obtain ⟨b', o', rfl, r2⟩ := h2 k hkl'
    have r1 := ra_later r1 HB.out
    have r2 := ra_later r2 HB.out
    by_cases hpp : l[k] = l'[k]
    ·have HX : Hid (l.take (k + 1) = l'.take (k + 1)) := eq_take hkl hkl' HE.out hpp
     have hd : decide (l[k] = l'[k]) = true := decide_eq_true hpp
     generalize l[k] = p at *
     generalize l'[k] = p2 at *
     go_upto_region 6 with (fail)
     have hS0 : wr.drew.rangeAt b (o + k * 2) (stl p) ∧ wr.drew.rangeAt b' (o' + k * 2) (stl p2) := ⟨r1, r2⟩
     clear r1 r2 hpp
     refine wp_region_held_drew (S := fun W => W.rangeAt b (o + k * 2) (stl p) ∧ W.rangeAt b' (o' + k * 2) (stl p2)) (by kernel_rfl) hS0 (fun hHeld => ?_)
     refine wpAnyH_take (i := 0) (oi := ⟨some 16, Op.move (.tmp 0), _, _, _, none⟩) (v := .slice (some ⟨b, o, none⟩) n c) rfl (by kernel_rfl) (by kernel_rfl) (by kernel_rfl) (fun _ _ _ h => h) (Or.inl ⟨by rfl, fun w hSw => by (try dsimp only at hSw); go_simp⟩) (by assumption) ?_
     simp only [Act.put, List.setIfInBounds_toArray, List.set_cons_zero, List.set_cons_succ]
     refine wpAnyH_take (i := 1) (oi := ⟨some 17, Op.move (.tmp 5), _, _, _, none⟩) (v := .int .i64 (k : Int)) rfl (by kernel_rfl) (by kernel_rfl) (by kernel_rfl) (fun _ _ _ h => h) (Or.inl ⟨by rfl, fun w hSw => by (try dsimp only at hSw); go_simp⟩) (by assumption) ?_
     simp only [Act.put, List.setIfInBounds_toArray, List.set_cons_zero, List.set_cons_succ]
     refine wpAnyH_take (i := 2) (oi := ⟨some 18, Op.indexAddr 28 (.tmp 16) (.tmp 17), _, _, _, none⟩) (v := .pointer (some ⟨b, o + k * 2, none⟩)) rfl (by kernel_rfl) (by kernel_rfl) (by kernel_rfl) (fun _ _ _ h => h) (Or.inl ⟨by rfl, fun w hSw => by (try dsimp only at hSw); go_simp⟩) (by assumption) ?_
     simp only [Act.put, List.setIfInBounds_toArray, List.set_cons_zero, List.set_cons_succ]
     refine wpAnyH_take (i := 3) (oi := ⟨some 19, Op.load 108 (.tmp 18), _, _, _, none⟩) (v := .agg (stl p).toArray) rfl (by kernel_rfl) (by kernel_rfl) (by kernel_rfl) (fun _ _ _ h => h) (Or.inl ⟨by rfl, fun w hSw => ld_ex hSw.1 Tryz.underlying108 rfl szSeat rfl rfl⟩) (by assumption) ?_
     simp only [Act.put, List.setIfInBounds_toArray, List.set_cons_zero, List.set_cons_succ]
     refine wpAnyH_take (i := 4) (oi := ⟨some 20, Op.move (.tmp 1), _, _, _, none⟩) (v := .slice (some ⟨b', o', none⟩) n c') rfl (by kernel_rfl) (by kernel_rfl) (by kernel_rfl) (fun _ _ _ h => h) (Or.inl ⟨by rfl, fun w hSw => by (try dsimp only at hSw); go_simp⟩) (by assumption) ?_
     simp only [Act.put, List.setIfInBounds_toArray, List.set_cons_zero, List.set_cons_succ]
     refine wpAnyH_take (i := 5) (oi := ⟨some 21, Op.move (.tmp 5), _, _, _, none⟩) (v := .int .i64 (k : Int)) rfl (by kernel_rfl) (by kernel_rfl) (by kernel_rfl) (fun _ _ _ h => h) (Or.inl ⟨by rfl, fun w hSw => by (try dsimp only at hSw); go_simp⟩) (by assumption) ?_
     simp only [Act.put, List.setIfInBounds_toArray, List.set_cons_zero, List.set_cons_succ]
     refine wpAnyH_take (i := 6) (oi := ⟨some 22, Op.indexAddr 28 (.tmp 20) (.tmp 21), _, _, _, none⟩) (v := .pointer (some ⟨b', o' + k * 2, none⟩)) rfl (by kernel_rfl) (by kernel_rfl) (by kernel_rfl) (fun _ _ _ h => h) (Or.inl ⟨by rfl, fun w hSw => by (try dsimp only at hSw); go_simp⟩) (by assumption) ?_
     simp only [Act.put, List.setIfInBounds_toArray, List.set_cons_zero, List.set_cons_succ]
     refine wpAnyH_take (i := 7) (oi := ⟨some 23, Op.load 108 (.tmp 22), _, _, _, none⟩) (v := .agg (stl p2).toArray) rfl (by kernel_rfl) (by kernel_rfl) (by kernel_rfl) (fun _ _ _ h => h) (Or.inl ⟨by rfl, fun w hSw => ld_ex hSw.2 Tryz.underlying108 rfl szSeat rfl rfl⟩) (by assumption) ?_
     simp only [Act.put, List.setIfInBounds_toArray, List.set_cons_zero, List.set_cons_succ]
     refine wpAnyH_take (i := 8) (oi := ⟨some 24, Op.binOp BinOp.neq 108 (.tmp 19) (.tmp 23) 108, _, _, _, none⟩) (v := .bool (!true)) rfl (by kernel_rfl) (by kernel_rfl) (by kernel_rfl) (fun _ _ _ h => h) (Or.inl ⟨by rfl, fun w hSw => ne_exec (hd ▸ run_eqPr 108 (w := w) 9998 p p2 (.inr (.inl rfl))) Tryz.eqGuardType108 rfl rfl rfl⟩) (by assumption) ?_
     simp only [Act.put, List.setIfInBounds_toArray, List.set_cons_zero, List.set_cons_succ]
     refine wpAnyH_done (by kernel_rfl) ?_ _
     go_wp2_with fail
     go_roundw
     case rel => exact ⟨k + 1, by omega, by go_num, HX.out, Below.join HB.out (drew_below wr)⟩
     case measure => simp [intOf]; omega
    ·have HX : Hid (l ≠ l') := fun e => hpp (by subst e; rfl)
     have hd : decide (l[k] = l'[k]) = false := decide_eq_false hpp
     generalize l[k] = p at *
     generalize l'[k] = p2 at *
     go_upto_region 6 with (fail)
     have hS0 : wr.drew.rangeAt b (o + k * 2) (stl p) ∧ wr.drew.rangeAt b' (o' + k * 2) (stl p2) := ⟨r1, r2⟩
     clear r1 r2 hpp
     refine wp_region_held_drew (S := fun W => W.rangeAt b (o + k * 2) (stl p) ∧ W.rangeAt b' (o' + k * 2) (stl p2)) (by kernel_rfl) hS0 (fun hHeld => ?_)
     refine wpAnyH_take (i := 0) (oi := ⟨some 16, Op.move (.tmp 0), _, _, _, none⟩) (v := .slice (some ⟨b, o, none⟩) n c) rfl (by kernel_rfl) (by kernel_rfl) (by kernel_rfl) (fun _ _ _ h => h) (Or.inl ⟨by rfl, fun w hSw => by (try dsimp only at hSw); go_simp⟩) (by assumption) ?_
     simp only [Act.put, List.setIfInBounds_toArray, List.set_cons_zero, List.set_cons_succ]
     refine wpAnyH_take (i := 1) (oi := ⟨some 17, Op.move (.tmp 5), _, _, _, none⟩) (v := .int .i64 (k : Int)) rfl (by kernel_rfl) (by kernel_rfl) (by kernel_rfl) (fun _ _ _ h => h) (Or.inl ⟨by rfl, fun w hSw => by (try dsimp only at hSw); go_simp⟩) (by assumption) ?_
     simp only [Act.put, List.setIfInBounds_toArray, List.set_cons_zero, List.set_cons_succ]
     refine wpAnyH_take (i := 2) (oi := ⟨some 18, Op.indexAddr 28 (.tmp 16) (.tmp 17), _, _, _, none⟩) (v := .pointer (some ⟨b, o + k * 2, none⟩)) rfl (by kernel_rfl) (by kernel_rfl) (by kernel_rfl) (fun _ _ _ h => h) (Or.inl ⟨by rfl, fun w hSw => by (try dsimp only at hSw); go_simp⟩) (by assumption) ?_
     simp only [Act.put, List.setIfInBounds_toArray, List.set_cons_zero, List.set_cons_succ]
     refine wpAnyH_take (i := 3) (oi := ⟨some 19, Op.load 108 (.tmp 18), _, _, _, none⟩) (v := .agg (stl p).toArray) rfl (by kernel_rfl) (by kernel_rfl) (by kernel_rfl) (fun _ _ _ h => h) (Or.inl ⟨by rfl, fun w hSw => ld_ex hSw.1 Tryz.underlying108 rfl szSeat rfl rfl⟩) (by assumption) ?_
     simp only [Act.put, List.setIfInBounds_toArray, List.set_cons_zero, List.set_cons_succ]
     refine wpAnyH_take (i := 4) (oi := ⟨some 20, Op.move (.tmp 1), _, _, _, none⟩) (v := .slice (some ⟨b', o', none⟩) n c') rfl (by kernel_rfl) (by kernel_rfl) (by kernel_rfl) (fun _ _ _ h => h) (Or.inl ⟨by rfl, fun w hSw => by (try dsimp only at hSw); go_simp⟩) (by assumption) ?_
     simp only [Act.put, List.setIfInBounds_toArray, List.set_cons_zero, List.set_cons_succ]
     refine wpAnyH_take (i := 5) (oi := ⟨some 21, Op.move (.tmp 5), _, _, _, none⟩) (v := .int .i64 (k : Int)) rfl (by kernel_rfl) (by kernel_rfl) (by kernel_rfl) (fun _ _ _ h => h) (Or.inl ⟨by rfl, fun w hSw => by (try dsimp only at hSw); go_simp⟩) (by assumption) ?_
     simp only [Act.put, List.setIfInBounds_toArray, List.set_cons_zero, List.set_cons_succ]
     refine wpAnyH_take (i := 6) (oi := ⟨some 22, Op.indexAddr 28 (.tmp 20) (.tmp 21), _, _, _, none⟩) (v := .pointer (some ⟨b', o' + k * 2, none⟩)) rfl (by kernel_rfl) (by kernel_rfl) (by kernel_rfl) (fun _ _ _ h => h) (Or.inl ⟨by rfl, fun w hSw => by (try dsimp only at hSw); go_simp⟩) (by assumption) ?_
     simp only [Act.put, List.setIfInBounds_toArray, List.set_cons_zero, List.set_cons_succ]
     refine wpAnyH_take (i := 7) (oi := ⟨some 23, Op.load 108 (.tmp 22), _, _, _, none⟩) (v := .agg (stl p2).toArray) rfl (by kernel_rfl) (by kernel_rfl) (by kernel_rfl) (fun _ _ _ h => h) (Or.inl ⟨by rfl, fun w hSw => ld_ex hSw.2 Tryz.underlying108 rfl szSeat rfl rfl⟩) (by assumption) ?_
     simp only [Act.put, List.setIfInBounds_toArray, List.set_cons_zero, List.set_cons_succ]
     refine wpAnyH_take (i := 8) (oi := ⟨some 24, Op.binOp BinOp.neq 108 (.tmp 19) (.tmp 23) 108, _, _, _, none⟩) (v := .bool (!false)) rfl (by kernel_rfl) (by kernel_rfl) (by kernel_rfl) (fun _ _ _ h => h) (Or.inl ⟨by rfl, fun w hSw => ne_exec (hd ▸ run_eqPr 108 (w := w) 9998 p p2 (.inr (.inl rfl))) Tryz.eqGuardType108 rfl rfl rfl⟩) (by assumption) ?_
     simp only [Act.put, List.setIfInBounds_toArray, List.set_cons_zero, List.set_cons_succ]
     refine wpAnyH_done (by kernel_rfl) ?_ _
     go_wp2_with fail
     go_ret
     exact ⟨⟨false, rfl, by simp; exact HX.out⟩, Below.join HB.out (drew_below wr)⟩
   ·have hkn' : decide ((k : Int) < (n : Int)) = false := by simp; omega
    have HX : Hid (l = l') := by
     have e := HE.out
     rw [List.take_of_length_le (by rw [HN.out.1]; omega), List.take_of_length_le (by rw [HN.out.2]; omega)] at e
     exact e
    go_wp2_with fail
    go_ret
    exact ⟨⟨true, rfl, by simp; exact HX.out⟩, HB.out⟩
 ·have HX : Hid (l ≠ l') := fun e => hne (by rw [← HN.out.1, ← HN.out.2, e])
  have d0 : ((n : Int) != (n' : Int)) = true := by simp; omega
  have d1 : ¬ (n : Int) = (n' : Int) := by omega
  go_enter Tryz.func52, Tryz.ntmps52
  go_wp2_with fail
  go_ret
  exact ⟨⟨false, rfl, by simp; exact HX.out⟩, Below.refl _ _⟩
set_option maxRecDepth 100000 in
set_option maxHeartbeats 1000000 in
theorem sameI_any (a a' : Option Addr) (c c' : Nat) (l l' : List ((Int × Int) × ((Int × Int) × (Int × Int)))) (w : World) (h1 : RdV itl 6 w a l) (h2 : RdV itl 6 w a' l') (hl : l.length < 4611686018427387904) (hl' : l'.length < 4611686018427387904) :
  Calls Tryz.prog 53 #[.slice a l.length c, .slice a' l'.length c'] w fun e w' => (∃ b, e = .returned (.bool b) ∧ (b = true ↔ l = l')) ∧ Below w.heap.size w w' := by
 obtain ⟨n, hn⟩ : ∃ n, l.length = n := ⟨_, rfl⟩
 obtain ⟨n', hn'⟩ : ∃ n, l'.length = n := ⟨_, rfl⟩
 have HN : Hid (l.length = n ∧ l'.length = n') := ⟨hn, hn'⟩
 rw [hn] at hl
 rw [hn'] at hl'
 rw [hn, hn']
 clear hn hn'
 by_cases hne : n = n'
 ·subst hne
  have d0 : ((n : Int) != (n : Int)) = false := by simp
  go_enter Tryz.func53, Tryz.ntmps53
  go_wp2_with fail
  go_loopw [13] (fun i wx => ∃ k : Nat, k ≤ n ∧ i = .int .i64 (k : Int) ∧ l.take k = l'.take k ∧ Below w.heap.size w wx) (fun i _ => n - (intOf i).toNat)
  case atStart => exact ⟨0, by omega, rfl, rfl, Below.refl _ _⟩
  case round =>
   obtain ⟨k, hk, rfl, hE, hb⟩ := hrel
   have HE : Hid (l.take k = l'.take k) := hE
   have HB : Hid (Below w.heap.size w wr) := hb
   clear hE hb
   by_cases hkn : k < n
   ·have hkl : k < l.length := by rw [HN.out.1]; exact hkn
    have hkl' : k < l'.length := by rw [HN.out.2]; exact hkn
    have i1 : (0 : Int) ≤ (k : Int) := by omega
    have i2 : (k : Int) < (n : Int) := by omega
    obtain ⟨b, o, rfl, r1⟩ := h1 k hkl
    obtain ⟨b', o', rfl, r2⟩ := h2 k hkl'
    have r1 := ra_later r1 HB.out
    have r2 := ra_later r2 HB.out
    by_cases hpp : l[k] = l'[k]
    ·have HX : Hid (l.take (k + 1) = l'.take (k + 1)) := eq_take hkl hkl' HE.out hpp
     have hd : decide (l[k] = l'[k]) = true := decide_eq_true hpp
     generalize l[k] = p at *
     generalize l'[k] = p2 at *
     go_upto_region 6 with (fail)
     have hS0 : wr.drew.rangeAt b (o + k * 6) (itl p) ∧ wr.drew.rangeAt b' (o' + k * 6) (itl p2) := ⟨r1, r2⟩
     clear r1 r2 hpp
     refine wp_region_held_drew (S := fun W => W.rangeAt b (o + k * 6) (itl p) ∧ W.rangeAt b' (o' + k * 6) (itl p2)) (by kernel_rfl) hS0 (fun hHeld => ?_)
     refine wpAnyH_take (i := 0) (oi := ⟨some 16, Op.move (.tmp 0), _, _, _, none⟩) (v := .slice (some ⟨b, o, none⟩) n c) rfl (by kernel_rfl) (by kernel_rfl) (by kernel_rfl) (fun _ _ _ h => h) (Or.inl ⟨by rfl, fun w hSw => by (try dsimp only at hSw); go_simp⟩) (by assumption) ?_
     simp only [Act.put, List.setIfInBounds_toArray, List.set_cons_zero, List.set_cons_succ]
     refine wpAnyH_take (i := 1) (oi := ⟨some 17, Op.move (.tmp 5), _, _, _, none⟩) (v := .int .i64 (k : Int)) rfl (by kernel_rfl) (by kernel_rfl) (by kernel_rfl) (fun _ _ _ h => h) (Or.inl ⟨by rfl, fun w hSw => by (try dsimp only at hSw); go_simp⟩) (by assumption) ?_
     simp only [Act.put, List.setIfInBounds_toArray, List.set_cons_zero, List.set_cons_succ]
     refine wpAnyH_take (i := 2) (oi := ⟨some 18, Op.indexAddr 29 (.tmp 16) (.tmp 17), _, _, _, none⟩) (v := .pointer (some ⟨b, o + k * 6, none⟩)) rfl (by kernel_rfl) (by kernel_rfl) (by kernel_rfl) (fun _ _ _ h => h) (Or.inl ⟨by rfl, fun w hSw => by (try dsimp only at hSw); go_simp⟩) (by assumption) ?_
     simp only [Act.put, List.setIfInBounds_toArray, List.set_cons_zero, List.set_cons_succ]
     refine wpAnyH_take (i := 3) (oi := ⟨some 19, Op.load 112 (.tmp 18), _, _, _, none⟩) (v := .agg (itl p).toArray) rfl (by kernel_rfl) (by kernel_rfl) (by kernel_rfl) (fun _ _ _ h => h) (Or.inl ⟨by rfl, fun w hSw => ld_ex hSw.1 Tryz.underlying112 rfl szItem rfl rfl⟩) (by assumption) ?_
     simp only [Act.put, List.setIfInBounds_toArray, List.set_cons_zero, List.set_cons_succ]
     refine wpAnyH_take (i := 4) (oi := ⟨some 20, Op.move (.tmp 1), _, _, _, none⟩) (v := .slice (some ⟨b', o', none⟩) n c') rfl (by kernel_rfl) (by kernel_rfl) (by kernel_rfl) (fun _ _ _ h => h) (Or.inl ⟨by rfl, fun w hSw => by (try dsimp only at hSw); go_simp⟩) (by assumption) ?_
     simp only [Act.put, List.setIfInBounds_toArray, List.set_cons_zero, List.set_cons_succ]
     refine wpAnyH_take (i := 5) (oi := ⟨some 21, Op.move (.tmp 5), _, _, _, none⟩) (v := .int .i64 (k : Int)) rfl (by kernel_rfl) (by kernel_rfl) (by kernel_rfl) (fun _ _ _ h => h) (Or.inl ⟨by rfl, fun w hSw => by (try dsimp only at hSw); go_simp⟩) (by assumption) ?_
     simp only [Act.put, List.setIfInBounds_toArray, List.set_cons_zero, List.set_cons_succ]
     refine wpAnyH_take (i := 6) (oi := ⟨some 22, Op.indexAddr 29 (.tmp 20) (.tmp 21), _, _, _, none⟩) (v := .pointer (some ⟨b', o' + k * 6, none⟩)) rfl (by kernel_rfl) (by kernel_rfl) (by kernel_rfl) (fun _ _ _ h => h) (Or.inl ⟨by rfl, fun w hSw => by (try dsimp only at hSw); go_simp⟩) (by assumption) ?_
     simp only [Act.put, List.setIfInBounds_toArray, List.set_cons_zero, List.set_cons_succ]
     refine wpAnyH_take (i := 7) (oi := ⟨some 23, Op.load 112 (.tmp 22), _, _, _, none⟩) (v := .agg (itl p2).toArray) rfl (by kernel_rfl) (by kernel_rfl) (by kernel_rfl) (fun _ _ _ h => h) (Or.inl ⟨by rfl, fun w hSw => ld_ex hSw.2 Tryz.underlying112 rfl szItem rfl rfl⟩) (by assumption) ?_
     simp only [Act.put, List.setIfInBounds_toArray, List.set_cons_zero, List.set_cons_succ]
     refine wpAnyH_take (i := 8) (oi := ⟨some 24, Op.binOp BinOp.neq 112 (.tmp 19) (.tmp 23) 112, _, _, _, none⟩) (v := .bool (!true)) rfl (by kernel_rfl) (by kernel_rfl) (by kernel_rfl) (fun _ _ _ h => h) (Or.inl ⟨by rfl, fun w hSw => ne_exec (hd ▸ run_eqIm (w := w) 9996 p p2) Tryz.eqGuardType112 rfl rfl rfl⟩) (by assumption) ?_
     simp only [Act.put, List.setIfInBounds_toArray, List.set_cons_zero, List.set_cons_succ]
     refine wpAnyH_done (by kernel_rfl) ?_ _
     go_wp2_with fail
     go_roundw
     case rel => exact ⟨k + 1, by omega, by go_num, HX.out, Below.join HB.out (drew_below wr)⟩
     case measure => simp [intOf]; omega
    ·have HX : Hid (l ≠ l') := fun e => hpp (by subst e; rfl)
     have hd : decide (l[k] = l'[k]) = false := decide_eq_false hpp
     generalize l[k] = p at *
     generalize l'[k] = p2 at *
     go_upto_region 6 with (fail)
     have hS0 : wr.drew.rangeAt b (o + k * 6) (itl p) ∧ wr.drew.rangeAt b' (o' + k * 6) (itl p2) := ⟨r1, r2⟩
     clear r1 r2 hpp
     refine wp_region_held_drew (S := fun W => W.rangeAt b (o + k * 6) (itl p) ∧ W.rangeAt b' (o' + k * 6) (itl p2)) (by kernel_rfl) hS0 (fun hHeld => ?_)
     refine wpAnyH_take (i := 0) (oi := ⟨some 16, Op.move (.tmp 0), _, _, _, none⟩) (v := .slice (some ⟨b, o, none⟩) n c) rfl (by kernel_rfl) (by kernel_rfl) (by kernel_rfl) (fun _ _ _ h => h) (Or.inl ⟨by rfl, fun w hSw => by (try dsimp only at hSw); go_simp⟩) (by assumption) ?_
     simp only [Act.put, List.setIfInBounds_toArray, List.set_cons_zero, List.set_cons_succ]
     refine wpAnyH_take (i := 1) (oi := ⟨some 17, Op.move (.tmp 5), _, _, _, none⟩) (v := .int .i64 (k : Int)) rfl (by kernel_rfl) (by kernel_rfl) (by kernel_rfl) (fun _ _ _ h => h) (Or.inl ⟨by rfl, fun w hSw => by (try dsimp only at hSw); go_simp⟩) (by assumption) ?_
     simp only [Act.put, List.setIfInBounds_toArray, List.set_cons_zero, List.set_cons_succ]
     refine wpAnyH_take (i := 2) (oi := ⟨some 18, Op.indexAddr 29 (.tmp 16) (.tmp 17), _, _, _, none⟩) (v := .pointer (some ⟨b, o + k * 6, none⟩)) rfl (by kernel_rfl) (by kernel_rfl) (by kernel_rfl) (fun _ _ _ h => h) (Or.inl ⟨by rfl, fun w hSw => by (try dsimp only at hSw); go_simp⟩) (by assumption) ?_
     simp only [Act.put, List.setIfInBounds_toArray, List.set_cons_zero, List.set_cons_succ]
     refine wpAnyH_take (i := 3) (oi := ⟨some 19, Op.load 112 (.tmp 18), _, _, _, none⟩) (v := .agg (itl p).toArray) rfl (by kernel_rfl) (by kernel_rfl) (by kernel_rfl) (fun _ _ _ h => h) (Or.inl ⟨by rfl, fun w hSw => ld_ex hSw.1 Tryz.underlying112 rfl szItem rfl rfl⟩) (by assumption) ?_
     simp only [Act.put, List.setIfInBounds_toArray, List.set_cons_zero, List.set_cons_succ]
     refine wpAnyH_take (i := 4) (oi := ⟨some 20, Op.move (.tmp 1), _, _, _, none⟩) (v := .slice (some ⟨b', o', none⟩) n c') rfl (by kernel_rfl) (by kernel_rfl) (by kernel_rfl) (fun _ _ _ h => h) (Or.inl ⟨by rfl, fun w hSw => by (try dsimp only at hSw); go_simp⟩) (by assumption) ?_
     simp only [Act.put, List.setIfInBounds_toArray, List.set_cons_zero, List.set_cons_succ]
     refine wpAnyH_take (i := 5) (oi := ⟨some 21, Op.move (.tmp 5), _, _, _, none⟩) (v := .int .i64 (k : Int)) rfl (by kernel_rfl) (by kernel_rfl) (by kernel_rfl) (fun _ _ _ h => h) (Or.inl ⟨by rfl, fun w hSw => by (try dsimp only at hSw); go_simp⟩) (by assumption) ?_
     simp only [Act.put, List.setIfInBounds_toArray, List.set_cons_zero, List.set_cons_succ]
     refine wpAnyH_take (i := 6) (oi := ⟨some 22, Op.indexAddr 29 (.tmp 20) (.tmp 21), _, _, _, none⟩) (v := .pointer (some ⟨b', o' + k * 6, none⟩)) rfl (by kernel_rfl) (by kernel_rfl) (by kernel_rfl) (fun _ _ _ h => h) (Or.inl ⟨by rfl, fun w hSw => by (try dsimp only at hSw); go_simp⟩) (by assumption) ?_
     simp only [Act.put, List.setIfInBounds_toArray, List.set_cons_zero, List.set_cons_succ]
     refine wpAnyH_take (i := 7) (oi := ⟨some 23, Op.load 112 (.tmp 22), _, _, _, none⟩) (v := .agg (itl p2).toArray) rfl (by kernel_rfl) (by kernel_rfl) (by kernel_rfl) (fun _ _ _ h => h) (Or.inl ⟨by rfl, fun w hSw => ld_ex hSw.2 Tryz.underlying112 rfl szItem rfl rfl⟩) (by assumption) ?_
     simp only [Act.put, List.setIfInBounds_toArray, List.set_cons_zero, List.set_cons_succ]
     refine wpAnyH_take (i := 8) (oi := ⟨some 24, Op.binOp BinOp.neq 112 (.tmp 19) (.tmp 23) 112, _, _, _, none⟩) (v := .bool (!false)) rfl (by kernel_rfl) (by kernel_rfl) (by kernel_rfl) (fun _ _ _ h => h) (Or.inl ⟨by rfl, fun w hSw => ne_exec (hd ▸ run_eqIm (w := w) 9996 p p2) Tryz.eqGuardType112 rfl rfl rfl⟩) (by assumption) ?_
     simp only [Act.put, List.setIfInBounds_toArray, List.set_cons_zero, List.set_cons_succ]
     refine wpAnyH_done (by kernel_rfl) ?_ _
     go_wp2_with fail
     go_ret
     exact ⟨⟨false, rfl, by simp; exact HX.out⟩, Below.join HB.out (drew_below wr)⟩
   ·have hkn' : decide ((k : Int) < (n : Int)) = false := by simp; omega
    have HX : Hid (l = l') := by
     have e := HE.out
     rw [List.take_of_length_le (by rw [HN.out.1]; omega), List.take_of_length_le (by rw [HN.out.2]; omega)] at e
     exact e
    go_wp2_with fail
    go_ret
    exact ⟨⟨true, rfl, by simp; exact HX.out⟩, HB.out⟩
 ·have HX : Hid (l ≠ l') := fun e => hne (by rw [← HN.out.1, ← HN.out.2, e])
  have d0 : ((n : Int) != (n' : Int)) = true := by simp; omega
  have d1 : ¬ (n : Int) = (n' : Int) := by omega
  go_enter Tryz.func53, Tryz.ntmps53
  go_wp2_with fail
  go_ret
  exact ⟨⟨false, rfl, by simp; exact HX.out⟩, Below.refl _ _⟩
set_option maxRecDepth 100000 in
set_option maxHeartbeats 1000000 in
theorem sameR_any (r r' : Int × (List (Int × Int) × (List (Int × Int) × List ((Int × Int) × ((Int × Int) × (Int × Int)))))) (aL aJ aI bL bJ bI : Option Addr) (cL cJ cI dL dJ dI : Nat) (w : World) (rL : RdV stl 2 w aL r.2.1) (rJ : RdV stl 2 w aJ r.2.2.1) (rI : RdV itl 6 w aI r.2.2.2) (qL : RdV stl 2 w bL r'.2.1) (qJ : RdV stl 2 w bJ r'.2.2.1) (qI : RdV itl 6 w bI r'.2.2.2)
  (n1 : r.2.1.length < 4611686018427387904) (n2 : r.2.2.1.length < 4611686018427387904) (n3 : r.2.2.2.length < 4611686018427387904) (n4 : r'.2.1.length < 4611686018427387904) (n5 : r'.2.2.1.length < 4611686018427387904) (n6 : r'.2.2.2.length < 4611686018427387904) :
  Calls Tryz.prog 23 #[.agg (rkl r.1 (.slice aL r.2.1.length cL) (.slice aJ r.2.2.1.length cJ) (.slice aI r.2.2.2.length cI)).toArray, .agg (rkl r'.1 (.slice bL r'.2.1.length dL) (.slice bJ r'.2.2.1.length dJ) (.slice bI r'.2.2.2.length dI)).toArray] w fun e w' => (∃ b, e = .returned (.bool b) ∧ (b = true ↔ r = r')) ∧ Below w.heap.size w w' := by
 obtain ⟨e, L, J, I⟩ := r
 obtain ⟨e', L', J', I'⟩ := r'
 dsimp only at *
 unfold rkl
 have HX : Hid (((e, L, J, I) = (e', L', J', I')) ↔ (e = e' ∧ L = L' ∧ J = J' ∧ I = I')) := by unfold Hid; simp
 have s1 := fun W (hb : Below w.heap.size w W) => sameS_any aL bL cL dL L L' W (rL.later hb) (qL.later hb) n1 n4
 have s2 := fun W (hb : Below w.heap.size w W) => sameS_any aJ bJ cJ dJ J J' W (rJ.later hb) (qJ.later hb) n2 n5
 have s3 := fun W (hb : Below w.heap.size w W) => sameI_any aI bI cI dI I I' W (rI.later hb) (qI.later hb) n3 n6
 have hb1 := below_alloc w (.cells #[.int .i64 e, .slice aL L.length cL, .slice aJ J.length cJ, .slice aI I.length cI] 31)
 have hb2 := below_alloc (w.alloc (.cells #[.int .i64 e, .slice aL L.length cL, .slice aJ J.length cJ, .slice aI I.length cI] 31)) (.cells #[.int .i64 e', .slice bL L'.length dL, .slice bJ J'.length dJ, .slice bI I'.length dI] 31)
 have hA := row_later (heap_alloc_last w (.cells #[.int .i64 e, .slice aL L.length cL, .slice aJ J.length cJ, .slice aI I.length cI] 31)) hb2
 have hC := heap_alloc_last (w.alloc (.cells #[.int .i64 e, .slice aL L.length cL, .slice aJ J.length cJ, .slice aI I.length cI] 31)) (.cells #[.int .i64 e', .slice bL L'.length dL, .slice bJ J'.length dJ, .slice bI I'.length dI] 31)
 rw [World.size_alloc] at hC
 have hB := Below.join hb1 hb2
 clear hb1 hb2 rL rJ rI qL qJ qI n1 n2 n3 n4 n5 n6
 generalize L.length = l1 at *
 generalize J.length = l2 at *
 generalize I.length = l3 at *
 generalize L'.length = l4 at *
 generalize J'.length = l5 at *
 generalize I'.length = l6 at *
 go_enter Tryz.func23, Tryz.ntmps23
 go_upto_region 1 with (fail)
 generalize (w.alloc (.cells #[.int .i64 e, .slice aL l1 cL, .slice aJ l2 cJ, .slice aI l3 cI] 31)).alloc (.cells #[.int .i64 e', .slice bL l4 dL, .slice bJ l5 dJ, .slice bI l6 dI] 31) = w1 at *
 obtain ⟨C, hCe⟩ : ∃ C, w.heap.size + 1 = C := ⟨_, rfl⟩
 rw [hCe] at hC ⊢
 obtain ⟨A, hAe⟩ : ∃ C, w.heap.size = C := ⟨_, rfl⟩
 rw [hAe] at hA ⊢
 clear hCe hAe
 have HB : Hid (Below w.heap.size w w1) := hB
 obtain ⟨x0, x1, x2, x3⟩ := c4 hA
 obtain ⟨y0, y1, y2, y3⟩ := c4 hC
 clear hB
 by_cases he : e = e'
 ·subst he
  have d1 : (e == e) = true := by simp
  go_wp2_with fail
  refine (s1 _ HB.out).mono ?_
  rintro q w2 ⟨⟨b1, rfl, hb1⟩, hb2⟩
  have hA2 := row_later hA hb2
  have hC2 := row_later hC hb2
  have HB2 : Hid (Below w.heap.size w w2) := Below.join HB.out hb2
  have H1 : Hid (b1 = true ↔ L = L') := hb1
  clear x0 x1 x2 x3 y0 y1 y2 y3 hA hC HB hb2 hb1 s1
  obtain ⟨x0, x1, x2, x3⟩ := c4 hA2
  obtain ⟨y0, y1, y2, y3⟩ := c4 hC2
  cases b1 with
  | false =>
   go_wp2_with fail
   go_ret
   exact ⟨⟨false, rfl, by rw [HX.out]; have := H1.out; simp at this ⊢; intro h; exact absurd h this⟩, HB2.out⟩
  | true =>
   go_wp2_with fail
   refine (s2 _ HB2.out).mono ?_
   rintro q w3 ⟨⟨b2, rfl, hb2⟩, hb3⟩
   have hA3 := row_later hA2 hb3
   have hC3 := row_later hC2 hb3
   have HB3 : Hid (Below w.heap.size w w3) := Below.join HB2.out hb3
   have H2 : Hid (b2 = true ↔ J = J') := hb2
   clear x0 x1 x2 x3 y0 y1 y2 y3 hA2 hC2 HB2 hb3 hb2 s2
   obtain ⟨x0, x1, x2, x3⟩ := c4 hA3
   obtain ⟨y0, y1, y2, y3⟩ := c4 hC3
   cases b2 with
   | false =>
    go_wp2_with fail
    go_ret
    exact ⟨⟨false, rfl, by rw [HX.out]; have := H2.out; simp at this ⊢; intro _ h; exact absurd h this⟩, HB3.out⟩
   | true =>
    go_wp2_with fail
    refine (s3 _ HB3.out).mono ?_
    rintro q w4 ⟨⟨b3, rfl, hb3⟩, hb4⟩
    have HB4 : Hid (Below w.heap.size w w4) := Below.join HB3.out hb4
    have H3 : Hid (b3 = true ↔ I = I') := hb3
    clear x0 x1 x2 x3 y0 y1 y2 y3 hA3 hC3 HB3 hb4 hb3 s3
    go_wp2_with fail
    go_ret
    exact ⟨⟨b3, by cases b3 <;> rfl, by rw [HX.out, H3.out]; have h1 := H1.out; have h2 := H2.out; simp at h1 h2; exact ⟨fun h => ⟨by simp, h1, h2, h⟩, fun h => h.2.2.2⟩⟩, HB4.out⟩
 ·have d1 : (e == e') = false := by simp [he]
  have d2 : decide (e = e') = false := by simp [he]
  go_wp2_with fail
  go_ret
  exact ⟨⟨false, rfl, by rw [HX.out]; simp [he]⟩, HB.out⟩
theorem msg_eq {m m' : Msg} : m = m' ↔ m.kd = m'.kd ∧ m.rk = m'.rk ∧ m.rq = m'.rq ∧ m.rp = m'.rp ∧ m.sd = m'.sd := by
 cases m
 cases m'
 simp
set_option maxRecDepth 100000 in
set_option maxHeartbeats 2000000 in
theorem same_any (m m' : Msg) (aL aJ aI bL bJ bI : Option Addr) (cL cJ cI dL dJ dI : Nat) (w : World) (h1 : MR w m aL aJ aI) (h2 : MR w m' bL bJ bI) :
  Calls Tryz.prog 8 #[.agg (mgv m aL aJ aI cL cJ cI).toArray, .agg (mgv m' bL bJ bI dL dJ dI).toArray] w fun e w' => (∃ b, e = .returned (.bool b) ∧ (b = true ↔ m = m')) ∧ Below w.heap.size w w' := by
 unfold mgv
 have s1 := fun W (hb : Below w.heap.size w W) => sameR_any m.rk m'.rk aL aJ aI bL bJ bI cL cJ cI dL dJ dI W (h1.l.later hb) (h1.j.later hb) (h1.i.later hb) (h2.l.later hb) (h2.j.later hb) (h2.i.later hb) h1.nl h1.nj h1.ni h2.nl h2.nj h2.ni
 clear h1 h2
 have eq1 := fun W => run_eqPr 36 (w := W) 9998 m.rq m'.rq (.inr (.inr rfl))
 have eq2 := fun W => run_eqRp (w := W) 9995 m.rp m'.rp
 have eq3 := fun W => run_eqSd (w := W) 9997 m.sd m'.sd
 have HQ : Hid (m = m' ↔ m.kd = m'.kd ∧ m.rk = m'.rk ∧ decide (m.rq = m'.rq) = true ∧ decide (m.rp = m'.rp) = true ∧ decide (m.sd = m'.sd) = true) := by unfold Hid; rw [msg_eq]; simp
 generalize decide (m.rq = m'.rq) = g1 at *
 generalize decide (m.rp = m'.rp) = g2 at *
 generalize decide (m.sd = m'.sd) = g3 at *
 generalize m.rk.2.1.length = l1 at *
 generalize m.rk.2.2.1.length = l2 at *
 generalize m.rk.2.2.2.length = l3 at *
 generalize m'.rk.2.1.length = l4 at *
 generalize m'.rk.2.2.1.length = l5 at *
 generalize m'.rk.2.2.2.length = l6 at *
 have hM : MgAt (w.alloc (.cells (mgl m (.slice aL l1 cL) (.slice aJ l2 cJ) (.slice aI l3 cI)).toArray 47)) w.heap.size m (.slice aL l1 cL) (.slice aJ l2 cJ) (.slice aI l3 cI) := heap_alloc_last w _
 have hb1 := below_alloc w (.cells (mgl m (.slice aL l1 cL) (.slice aJ l2 cJ) (.slice aI l3 cI)).toArray 47)
 obtain ⟨ct, hct⟩ : ∃ c, (mgl m (.slice aL l1 cL) (.slice aJ l2 cJ) (.slice aI l3 cI)).toArray = c := ⟨_, rfl⟩
 have HM0 : Hid (MgAt (w.alloc (.cells ct 47)) w.heap.size m (.slice aL l1 cL) (.slice aJ l2 cJ) (.slice aI l3 cI)) := by have h := hM; rw [hct] at h; exact h
 rw [hct] at hb1
 rw [hct]
 clear hM hct
 have hM' : MgAt ((w.alloc (.cells ct 47)).alloc (.cells (mgl m' (.slice bL l4 dL) (.slice bJ l5 dJ) (.slice bI l6 dI)).toArray 47)) (w.heap.size + 1) m' (.slice bL l4 dL) (.slice bJ l5 dJ) (.slice bI l6 dI) := by
  have h := heap_alloc_last (w.alloc (.cells ct 47)) (.cells (mgl m' (.slice bL l4 dL) (.slice bJ l5 dJ) (.slice bI l6 dI)).toArray 47)
  rw [World.size_alloc] at h
  exact h
 have hb2 := below_alloc (w.alloc (.cells ct 47)) (.cells (mgl m' (.slice bL l4 dL) (.slice bJ l5 dJ) (.slice bI l6 dI)).toArray 47)
 obtain ⟨du, hdu⟩ : ∃ c, (mgl m' (.slice bL l4 dL) (.slice bJ l5 dJ) (.slice bI l6 dI)).toArray = c := ⟨_, rfl⟩
 have HM2 : Hid (MgAt ((w.alloc (.cells ct 47)).alloc (.cells du 47)) (w.heap.size + 1) m' (.slice bL l4 dL) (.slice bJ l5 dJ) (.slice bI l6 dI)) := by have h := hM'; rw [hdu] at h; exact h
 rw [hdu] at hb2
 rw [hdu]
 have HM1 : Hid (MgAt ((w.alloc (.cells ct 47)).alloc (.cells du 47)) w.heap.size m (.slice aL l1 cL) (.slice aJ l2 cJ) (.slice aI l3 cI)) := HM0.out.later hb2
 have hB := Below.join hb1 hb2
 clear hM' hdu hb1 hb2 HM0
 go_enter Tryz.func8, Tryz.ntmps8
 go_upto_region 1 with (fail)
 generalize (w.alloc (.cells ct 47)).alloc (.cells du 47) = w1 at *
 obtain ⟨C, hCe⟩ : ∃ C, w.heap.size + 1 = C := ⟨_, rfl⟩
 rw [hCe] at HM2 ⊢
 obtain ⟨A, hAe⟩ : ∃ C, w.heap.size = C := ⟨_, rfl⟩
 rw [hAe] at HM1 ⊢
 clear hCe hAe
 have HB : Hid (Below w.heap.size w w1) := hB
 clear hB
 have k1 := HM1.out.kind
 have k2 := HM2.out.kind
 have HK1 : Hid (w1.rangeAt A 1 (rkl m.rk.1 (.slice aL l1 cL) (.slice aJ l2 cJ) (.slice aI l3 cI))) := HM1.out.rk
 have HK2 : Hid (w1.rangeAt C 1 (rkl m'.rk.1 (.slice bL l4 dL) (.slice bJ l5 dJ) (.slice bI l6 dI))) := HM2.out.rk
 obtain ⟨kd, hkd⟩ : ∃ k, m.kd = k := ⟨_, rfl⟩
 obtain ⟨kd', hkd'⟩ : ∃ k, m'.kd = k := ⟨_, rfl⟩
 rw [hkd] at k1 HQ
 rw [hkd'] at k2 HQ
 clear hkd hkd'
 by_cases he : kd = kd'
 ·subst he
  have d1 : (kd == kd) = true := by simp
  have hs := s1 _ HB.out
  clear s1
  go_wp2_with (first | (refine ldM HK1.out Tryz.underlying31 rfl szRk _ rfl rfl rfl ?_) | (refine ldM HK2.out Tryz.underlying31 rfl szRk _ rfl rfl rfl ?_))
  refine hs.mono ?_
  rintro q w2 ⟨⟨b1, rfl, hb1⟩, hb2⟩
  have hA2 := HM1.out.later hb2
  have hC2 := HM2.out.later hb2
  have HB2 : Hid (Below w.heap.size w w2) := Below.join HB.out hb2
  have H1 : Hid (b1 = true ↔ m.rk = m'.rk) := hb1
  have HA1 : Hid (w2.rangeAt A 5 (stl m.rq)) := hA2.rq
  have HA2 : Hid (w2.rangeAt A 7 (rpl m.rp)) := hA2.rp
  have HA3 : Hid (w2.rangeAt A 22 (sdl m.sd)) := hA2.sd
  have HC1 : Hid (w2.rangeAt C 5 (stl m'.rq)) := hC2.rq
  have HC2 : Hid (w2.rangeAt C 7 (rpl m'.rp)) := hC2.rp
  have HC3 : Hid (w2.rangeAt C 22 (sdl m'.sd)) := hC2.sd
  have eq1 := eq1 w2
  have eq2 := eq2 w2
  have eq3 := eq3 w2
  clear k1 k2 HK1 HK2 HM1 HM2 HB hb1 hb2 hs hA2 hC2
  cases b1 with
  | false =>
   go_wp2_with fail
   go_ret
   exact ⟨⟨false, rfl, by rw [HQ.out]; have := H1.out; simp at this ⊢; intro h; exact absurd h this⟩, HB2.out⟩
  | true =>
   have H1' : Hid (m.rk = m'.rk) := H1.out.1 rfl
   cases g1 with
   | false =>
    go_wp2_with (first | (refine ldM HA1.out Tryz.underlying36 rfl szRq _ rfl rfl rfl ?_) | (refine ldM HC1.out Tryz.underlying36 rfl szRq _ rfl rfl rfl ?_) | (refine eqX eq1 Tryz.eqGuardType36 _ _ rfl rfl rfl rfl ?_))
    go_ret
    exact ⟨⟨false, rfl, by rw [HQ.out]; simp⟩, HB2.out⟩
   | true =>
    cases g2 with
    | false =>
     go_wp2_with (first | (refine ldM HA1.out Tryz.underlying36 rfl szRq _ rfl rfl rfl ?_) | (refine ldM HC1.out Tryz.underlying36 rfl szRq _ rfl rfl rfl ?_) | (refine eqX eq1 Tryz.eqGuardType36 _ _ rfl rfl rfl rfl ?_) | (refine ldM HA2.out Tryz.underlying43 rfl szRp _ rfl rfl rfl ?_) | (refine ldM HC2.out Tryz.underlying43 rfl szRp _ rfl rfl rfl ?_) | (refine eqX eq2 Tryz.eqGuardType43 _ _ rfl rfl rfl rfl ?_))
     go_ret
     exact ⟨⟨false, rfl, by rw [HQ.out]; simp⟩, HB2.out⟩
    | true =>
     go_wp2_with (first | (refine ldM HA1.out Tryz.underlying36 rfl szRq _ rfl rfl rfl ?_) | (refine ldM HC1.out Tryz.underlying36 rfl szRq _ rfl rfl rfl ?_) | (refine eqX eq1 Tryz.eqGuardType36 _ _ rfl rfl rfl rfl ?_) | (refine ldM HA2.out Tryz.underlying43 rfl szRp _ rfl rfl rfl ?_) | (refine ldM HC2.out Tryz.underlying43 rfl szRp _ rfl rfl rfl ?_) | (refine eqX eq2 Tryz.eqGuardType43 _ _ rfl rfl rfl rfl ?_) | (refine ldM HA3.out Tryz.underlying45 rfl szSd _ rfl rfl rfl ?_) | (refine ldM HC3.out Tryz.underlying45 rfl szSd _ rfl rfl rfl ?_) | (refine eqX eq3 Tryz.eqGuardType45 _ _ rfl rfl rfl rfl ?_))
     go_ret
     exact ⟨⟨g3, by cases g3 <;> rfl, by rw [HQ.out]; simp; intro _; exact H1'.out⟩, HB2.out⟩
 ·have d1 : (kd == kd') = false := by simp [he]
  have d2 : decide (kd = kd') = false := by simp [he]
  go_wp2_with fail
  go_ret
  exact ⟨⟨false, rfl, by rw [HQ.out]; simp [he]⟩, HB.out⟩
end Go.Proofs.YtdkfifnhmfbagaaGreatDoor.Wi
