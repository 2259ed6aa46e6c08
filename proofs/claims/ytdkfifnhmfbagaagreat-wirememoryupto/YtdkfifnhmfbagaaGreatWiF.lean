/- Contracts: the document's Same, of lists, of rekey messages, of messages. -/
import Derived.Test.YtdkfifnhmfbagaaGreatWiD
import Derived.Deep.RegionHeld3
namespace Go.Proofs.YtdkfifnhmfbagaaGreat.Wi
open Go.RowKit Go.Maps
set_option linter.unusedVariables false
set_option linter.unusedSimpArgs false

theorem ld_ex {w : World} {o : Oper} {a : Act} {B off : Nat} {T : TypeId} {d : TypeDesc} {cs : List Value} {x : Operand} (hc : w.rangeAt B off cs) (hu : Tryz.prog.underlying T = some d) (hd : d.isRow = true) (hi : (Tryz.prog.info? T).map (·.size) = some cs.length) (ho : o.op = .load T x) (hx : a.eval x = .pointer (some ⟨B, off, none⟩)) :
    (execOp a.eval o).run Tryz.prog w = .ok (.value (.agg cs.toArray)) w := by
  have h := run_loadAt_mid w B off T cs d hc hu hd hi
  simp [execOp, ho, hx, h, Sem.run_bind, Result.andThen]
theorem ra_drew {w : World} {b o : Nat} {cs : List Value} (h : w.rangeAt b o cs) : w.drew.rangeAt b o cs := h
theorem eq_take {α : Type} {l l' : List α} {k : Nat} (h : k < l.length) (h' : k < l'.length) (e : l.take k = l'.take k) (x : l[k] = l'[k]) : l.take (k + 1) = l'.take (k + 1) := by
  rw [List.take_succ_eq_append_getElem h, List.take_succ_eq_append_getElem h', e, x]
set_option maxRecDepth 100000 in
set_option maxHeartbeats 1000000 in
theorem sameS_any (a a' : Option Addr) (c c' : Nat) (l l' : List (Int × Int)) (w : World) (h1 : RdV stl 2 w a l) (h2 : RdV stl 2 w a' l') (hl : l.length < 4611686018427387904) (hl' : l'.length < 4611686018427387904) :
    Calls Tryz.prog 54 #[.slice a l.length c, .slice a' l'.length c'] w fun e w' => (∃ b, e = .returned (.bool b) ∧ (b = true ↔ l = l')) ∧ Below w.heap.size w w' := by
  obtain ⟨n, hn⟩ : ∃ n, l.length = n := ⟨_, rfl⟩
  obtain ⟨n', hn'⟩ : ∃ n, l'.length = n := ⟨_, rfl⟩
  have HN : Hid (l.length = n ∧ l'.length = n') := ⟨hn, hn'⟩
  rw [hn] at hl
  rw [hn'] at hl'
  rw [hn, hn']
  clear hn hn'
  by_cases hne : n = n'
  · subst hne
    have d0 : ((n : Int) != (n : Int)) = false := by simp
    go_enter Tryz.func54, Tryz.ntmps54
    go_wp2_with fail
    go_loopw [13] (fun i wx => ∃ k : Nat, k ≤ n ∧ i = .int .i64 (k : Int) ∧ l.take k = l'.take k ∧ Below w.heap.size w wx) (fun i _ => n - (intOf i).toNat)
    case atStart => exact ⟨0, by omega, rfl, rfl, Below.refl _ _⟩
    case round =>
      obtain ⟨k, hk, rfl, hE, hb⟩ := hrel
      have HE : Hid (l.take k = l'.take k) := hE
      have HB : Hid (Below w.heap.size w wr) := hb
      clear hE hb
      by_cases hkn : k < n
      · have hkl : k < l.length := by rw [HN.out.1]; exact hkn
        have hkl' : k < l'.length := by rw [HN.out.2]; exact hkn
        have i1 : (0 : Int) ≤ (k : Int) := by omega
        have i2 : (k : Int) < (n : Int) := by omega
        obtain ⟨b, o, rfl, r1⟩ := h1 k hkl
        obtain ⟨b', o', rfl, r2⟩ := h2 k hkl'
        have r1 := ra_later r1 HB.out
        have r2 := ra_later r2 HB.out
        by_cases hpp : l[k] = l'[k]
        · have HX : Hid (l.take (k + 1) = l'.take (k + 1)) := eq_take hkl hkl' HE.out hpp
          have hd : decide (l[k] = l'[k]) = true := decide_eq_true hpp
          generalize l[k] = p at *
          generalize l'[k] = p2 at *
          go_upto_region 6 with (fail)
          have hS0 : wr.drew.rangeAt b (o + k * 2) (stl p) ∧ wr.drew.rangeAt b' (o' + k * 2) (stl p2) := ⟨r1, r2⟩
          clear r1 r2 hpp
          refine wp_region_held_drew (S := fun W => W.rangeAt b (o + k * 2) (stl p) ∧ W.rangeAt b' (o' + k * 2) (stl p2)) (by kernel_rfl) hS0 (fun hHeld => ?_)
          refine wpAnyH_take (i := 0) (oi := { dst := some 16, op := Op.move (Operand.tmp 0), type := _, pos := _, after := _, guard := none }) (v := .slice (some ⟨b, o, none⟩) n c) rfl (by kernel_rfl) (by kernel_rfl) (by kernel_rfl) (fun _ _ _ h => h) (Or.inl ⟨by rfl, fun w hSw => by (try dsimp only at hSw); go_simp⟩) (by assumption) ?_
          simp only [Act.put, List.setIfInBounds_toArray, List.set_cons_zero, List.set_cons_succ]
          refine wpAnyH_take (i := 1) (oi := { dst := some 17, op := Op.move (Operand.tmp 5), type := _, pos := _, after := _, guard := none }) (v := .int .i64 (k : Int)) rfl (by kernel_rfl) (by kernel_rfl) (by kernel_rfl) (fun _ _ _ h => h) (Or.inl ⟨by rfl, fun w hSw => by (try dsimp only at hSw); go_simp⟩) (by assumption) ?_
          simp only [Act.put, List.setIfInBounds_toArray, List.set_cons_zero, List.set_cons_succ]
          refine wpAnyH_take (i := 2) (oi := { dst := some 18, op := Op.indexAddr 22 (Operand.tmp 16) (Operand.tmp 17), type := _, pos := _, after := _, guard := none }) (v := .pointer (some ⟨b, o + k * 2, none⟩)) rfl (by kernel_rfl) (by kernel_rfl) (by kernel_rfl) (fun _ _ _ h => h) (Or.inl ⟨by rfl, fun w hSw => by (try dsimp only at hSw); go_simp⟩) (by assumption) ?_
          simp only [Act.put, List.setIfInBounds_toArray, List.set_cons_zero, List.set_cons_succ]
          refine wpAnyH_take (i := 3) (oi := { dst := some 19, op := Op.load 55 (Operand.tmp 18), type := _, pos := _, after := _, guard := none }) (v := .agg (stl p).toArray) rfl (by kernel_rfl) (by kernel_rfl) (by kernel_rfl) (fun _ _ _ h => h) (Or.inl ⟨by rfl, fun w hSw => ld_ex hSw.1 Tryz.underlying55 rfl szSeat rfl rfl⟩) (by assumption) ?_
          simp only [Act.put, List.setIfInBounds_toArray, List.set_cons_zero, List.set_cons_succ]
          refine wpAnyH_take (i := 4) (oi := { dst := some 20, op := Op.move (Operand.tmp 1), type := _, pos := _, after := _, guard := none }) (v := .slice (some ⟨b', o', none⟩) n c') rfl (by kernel_rfl) (by kernel_rfl) (by kernel_rfl) (fun _ _ _ h => h) (Or.inl ⟨by rfl, fun w hSw => by (try dsimp only at hSw); go_simp⟩) (by assumption) ?_
          simp only [Act.put, List.setIfInBounds_toArray, List.set_cons_zero, List.set_cons_succ]
          refine wpAnyH_take (i := 5) (oi := { dst := some 21, op := Op.move (Operand.tmp 5), type := _, pos := _, after := _, guard := none }) (v := .int .i64 (k : Int)) rfl (by kernel_rfl) (by kernel_rfl) (by kernel_rfl) (fun _ _ _ h => h) (Or.inl ⟨by rfl, fun w hSw => by (try dsimp only at hSw); go_simp⟩) (by assumption) ?_
          simp only [Act.put, List.setIfInBounds_toArray, List.set_cons_zero, List.set_cons_succ]
          refine wpAnyH_take (i := 6) (oi := { dst := some 22, op := Op.indexAddr 22 (Operand.tmp 20) (Operand.tmp 21), type := _, pos := _, after := _, guard := none }) (v := .pointer (some ⟨b', o' + k * 2, none⟩)) rfl (by kernel_rfl) (by kernel_rfl) (by kernel_rfl) (fun _ _ _ h => h) (Or.inl ⟨by rfl, fun w hSw => by (try dsimp only at hSw); go_simp⟩) (by assumption) ?_
          simp only [Act.put, List.setIfInBounds_toArray, List.set_cons_zero, List.set_cons_succ]
          refine wpAnyH_take (i := 7) (oi := { dst := some 23, op := Op.load 55 (Operand.tmp 22), type := _, pos := _, after := _, guard := none }) (v := .agg (stl p2).toArray) rfl (by kernel_rfl) (by kernel_rfl) (by kernel_rfl) (fun _ _ _ h => h) (Or.inl ⟨by rfl, fun w hSw => ld_ex hSw.2 Tryz.underlying55 rfl szSeat rfl rfl⟩) (by assumption) ?_
          simp only [Act.put, List.setIfInBounds_toArray, List.set_cons_zero, List.set_cons_succ]
          refine wpAnyH_take (i := 8) (oi := { dst := some 24, op := Op.binOp BinOp.neq 55 (Operand.tmp 19) (Operand.tmp 23) 55, type := _, pos := _, after := _, guard := none }) (v := .bool (!true)) rfl (by kernel_rfl) (by kernel_rfl) (by kernel_rfl) (fun _ _ _ h => h) (Or.inl ⟨by rfl, fun w hSw => ne_exec (hd ▸ run_eqPr 55 (w := w) 9998 p p2 (.inr (.inl rfl))) Tryz.eqGuardType55 rfl rfl rfl⟩) (by assumption) ?_
          simp only [Act.put, List.setIfInBounds_toArray, List.set_cons_zero, List.set_cons_succ]
          refine wpAnyH_done (by kernel_rfl) ?_ _
          go_wp2_with fail
          go_roundw
          case rel => exact ⟨k + 1, by omega, by go_num, HX.out, Below.join HB.out (drew_below wr)⟩
          case measure => simp [intOf]; omega
        · have HX : Hid (l ≠ l') := fun e => hpp (by subst e; rfl)
          have hd : decide (l[k] = l'[k]) = false := decide_eq_false hpp
          generalize l[k] = p at *
          generalize l'[k] = p2 at *
          go_upto_region 6 with (fail)
          have hS0 : wr.drew.rangeAt b (o + k * 2) (stl p) ∧ wr.drew.rangeAt b' (o' + k * 2) (stl p2) := ⟨r1, r2⟩
          clear r1 r2 hpp
          refine wp_region_held_drew (S := fun W => W.rangeAt b (o + k * 2) (stl p) ∧ W.rangeAt b' (o' + k * 2) (stl p2)) (by kernel_rfl) hS0 (fun hHeld => ?_)
          refine wpAnyH_take (i := 0) (oi := { dst := some 16, op := Op.move (Operand.tmp 0), type := _, pos := _, after := _, guard := none }) (v := .slice (some ⟨b, o, none⟩) n c) rfl (by kernel_rfl) (by kernel_rfl) (by kernel_rfl) (fun _ _ _ h => h) (Or.inl ⟨by rfl, fun w hSw => by (try dsimp only at hSw); go_simp⟩) (by assumption) ?_
          simp only [Act.put, List.setIfInBounds_toArray, List.set_cons_zero, List.set_cons_succ]
          refine wpAnyH_take (i := 1) (oi := { dst := some 17, op := Op.move (Operand.tmp 5), type := _, pos := _, after := _, guard := none }) (v := .int .i64 (k : Int)) rfl (by kernel_rfl) (by kernel_rfl) (by kernel_rfl) (fun _ _ _ h => h) (Or.inl ⟨by rfl, fun w hSw => by (try dsimp only at hSw); go_simp⟩) (by assumption) ?_
          simp only [Act.put, List.setIfInBounds_toArray, List.set_cons_zero, List.set_cons_succ]
          refine wpAnyH_take (i := 2) (oi := { dst := some 18, op := Op.indexAddr 22 (Operand.tmp 16) (Operand.tmp 17), type := _, pos := _, after := _, guard := none }) (v := .pointer (some ⟨b, o + k * 2, none⟩)) rfl (by kernel_rfl) (by kernel_rfl) (by kernel_rfl) (fun _ _ _ h => h) (Or.inl ⟨by rfl, fun w hSw => by (try dsimp only at hSw); go_simp⟩) (by assumption) ?_
          simp only [Act.put, List.setIfInBounds_toArray, List.set_cons_zero, List.set_cons_succ]
          refine wpAnyH_take (i := 3) (oi := { dst := some 19, op := Op.load 55 (Operand.tmp 18), type := _, pos := _, after := _, guard := none }) (v := .agg (stl p).toArray) rfl (by kernel_rfl) (by kernel_rfl) (by kernel_rfl) (fun _ _ _ h => h) (Or.inl ⟨by rfl, fun w hSw => ld_ex hSw.1 Tryz.underlying55 rfl szSeat rfl rfl⟩) (by assumption) ?_
          simp only [Act.put, List.setIfInBounds_toArray, List.set_cons_zero, List.set_cons_succ]
          refine wpAnyH_take (i := 4) (oi := { dst := some 20, op := Op.move (Operand.tmp 1), type := _, pos := _, after := _, guard := none }) (v := .slice (some ⟨b', o', none⟩) n c') rfl (by kernel_rfl) (by kernel_rfl) (by kernel_rfl) (fun _ _ _ h => h) (Or.inl ⟨by rfl, fun w hSw => by (try dsimp only at hSw); go_simp⟩) (by assumption) ?_
          simp only [Act.put, List.setIfInBounds_toArray, List.set_cons_zero, List.set_cons_succ]
          refine wpAnyH_take (i := 5) (oi := { dst := some 21, op := Op.move (Operand.tmp 5), type := _, pos := _, after := _, guard := none }) (v := .int .i64 (k : Int)) rfl (by kernel_rfl) (by kernel_rfl) (by kernel_rfl) (fun _ _ _ h => h) (Or.inl ⟨by rfl, fun w hSw => by (try dsimp only at hSw); go_simp⟩) (by assumption) ?_
          simp only [Act.put, List.setIfInBounds_toArray, List.set_cons_zero, List.set_cons_succ]
          refine wpAnyH_take (i := 6) (oi := { dst := some 22, op := Op.indexAddr 22 (Operand.tmp 20) (Operand.tmp 21), type := _, pos := _, after := _, guard := none }) (v := .pointer (some ⟨b', o' + k * 2, none⟩)) rfl (by kernel_rfl) (by kernel_rfl) (by kernel_rfl) (fun _ _ _ h => h) (Or.inl ⟨by rfl, fun w hSw => by (try dsimp only at hSw); go_simp⟩) (by assumption) ?_
          simp only [Act.put, List.setIfInBounds_toArray, List.set_cons_zero, List.set_cons_succ]
          refine wpAnyH_take (i := 7) (oi := { dst := some 23, op := Op.load 55 (Operand.tmp 22), type := _, pos := _, after := _, guard := none }) (v := .agg (stl p2).toArray) rfl (by kernel_rfl) (by kernel_rfl) (by kernel_rfl) (fun _ _ _ h => h) (Or.inl ⟨by rfl, fun w hSw => ld_ex hSw.2 Tryz.underlying55 rfl szSeat rfl rfl⟩) (by assumption) ?_
          simp only [Act.put, List.setIfInBounds_toArray, List.set_cons_zero, List.set_cons_succ]
          refine wpAnyH_take (i := 8) (oi := { dst := some 24, op := Op.binOp BinOp.neq 55 (Operand.tmp 19) (Operand.tmp 23) 55, type := _, pos := _, after := _, guard := none }) (v := .bool (!false)) rfl (by kernel_rfl) (by kernel_rfl) (by kernel_rfl) (fun _ _ _ h => h) (Or.inl ⟨by rfl, fun w hSw => ne_exec (hd ▸ run_eqPr 55 (w := w) 9998 p p2 (.inr (.inl rfl))) Tryz.eqGuardType55 rfl rfl rfl⟩) (by assumption) ?_
          simp only [Act.put, List.setIfInBounds_toArray, List.set_cons_zero, List.set_cons_succ]
          refine wpAnyH_done (by kernel_rfl) ?_ _
          go_wp2_with fail
          go_ret
          exact ⟨⟨false, rfl, by simp; exact HX.out⟩, Below.join HB.out (drew_below wr)⟩
      · have hkn' : decide ((k : Int) < (n : Int)) = false := by simp; omega
        have HX : Hid (l = l') := by
          have e := HE.out
          rw [List.take_of_length_le (by rw [HN.out.1]; omega), List.take_of_length_le (by rw [HN.out.2]; omega)] at e
          exact e
        go_wp2_with fail
        go_ret
        exact ⟨⟨true, rfl, by simp; exact HX.out⟩, HB.out⟩
  · have HX : Hid (l ≠ l') := fun e => hne (by rw [← HN.out.1, ← HN.out.2, e])
    have d0 : ((n : Int) != (n' : Int)) = true := by simp; omega
    have d1 : ¬ (n : Int) = (n' : Int) := by omega
    go_enter Tryz.func54, Tryz.ntmps54
    go_wp2_with fail
    go_ret
    exact ⟨⟨false, rfl, by simp; exact HX.out⟩, Below.refl _ _⟩
set_option maxRecDepth 100000 in
set_option maxHeartbeats 1000000 in
theorem sameI_any (a a' : Option Addr) (c c' : Nat) (l l' : List ((Int × Int) × ((Int × Int) × (Int × Int)))) (w : World) (h1 : RdV itl 6 w a l) (h2 : RdV itl 6 w a' l') (hl : l.length < 4611686018427387904) (hl' : l'.length < 4611686018427387904) :
    Calls Tryz.prog 55 #[.slice a l.length c, .slice a' l'.length c'] w fun e w' => (∃ b, e = .returned (.bool b) ∧ (b = true ↔ l = l')) ∧ Below w.heap.size w w' := by
  obtain ⟨n, hn⟩ : ∃ n, l.length = n := ⟨_, rfl⟩
  obtain ⟨n', hn'⟩ : ∃ n, l'.length = n := ⟨_, rfl⟩
  have HN : Hid (l.length = n ∧ l'.length = n') := ⟨hn, hn'⟩
  rw [hn] at hl
  rw [hn'] at hl'
  rw [hn, hn']
  clear hn hn'
  by_cases hne : n = n'
  · subst hne
    have d0 : ((n : Int) != (n : Int)) = false := by simp
    go_enter Tryz.func55, Tryz.ntmps55
    go_wp2_with fail
    go_loopw [13] (fun i wx => ∃ k : Nat, k ≤ n ∧ i = .int .i64 (k : Int) ∧ l.take k = l'.take k ∧ Below w.heap.size w wx) (fun i _ => n - (intOf i).toNat)
    case atStart => exact ⟨0, by omega, rfl, rfl, Below.refl _ _⟩
    case round =>
      obtain ⟨k, hk, rfl, hE, hb⟩ := hrel
      have HE : Hid (l.take k = l'.take k) := hE
      have HB : Hid (Below w.heap.size w wr) := hb
      clear hE hb
      by_cases hkn : k < n
      · have hkl : k < l.length := by rw [HN.out.1]; exact hkn
        have hkl' : k < l'.length := by rw [HN.out.2]; exact hkn
        have i1 : (0 : Int) ≤ (k : Int) := by omega
        have i2 : (k : Int) < (n : Int) := by omega
        obtain ⟨b, o, rfl, r1⟩ := h1 k hkl
        obtain ⟨b', o', rfl, r2⟩ := h2 k hkl'
        have r1 := ra_later r1 HB.out
        have r2 := ra_later r2 HB.out
        by_cases hpp : l[k] = l'[k]
        · have HX : Hid (l.take (k + 1) = l'.take (k + 1)) := eq_take hkl hkl' HE.out hpp
          have hd : decide (l[k] = l'[k]) = true := decide_eq_true hpp
          generalize l[k] = p at *
          generalize l'[k] = p2 at *
          go_upto_region 6 with (fail)
          have hS0 : wr.drew.rangeAt b (o + k * 6) (itl p) ∧ wr.drew.rangeAt b' (o' + k * 6) (itl p2) := ⟨r1, r2⟩
          clear r1 r2 hpp
          refine wp_region_held_drew (S := fun W => W.rangeAt b (o + k * 6) (itl p) ∧ W.rangeAt b' (o' + k * 6) (itl p2)) (by kernel_rfl) hS0 (fun hHeld => ?_)
          refine wpAnyH_take (i := 0) (oi := { dst := some 16, op := Op.move (Operand.tmp 0), type := _, pos := _, after := _, guard := none }) (v := .slice (some ⟨b, o, none⟩) n c) rfl (by kernel_rfl) (by kernel_rfl) (by kernel_rfl) (fun _ _ _ h => h) (Or.inl ⟨by rfl, fun w hSw => by (try dsimp only at hSw); go_simp⟩) (by assumption) ?_
          simp only [Act.put, List.setIfInBounds_toArray, List.set_cons_zero, List.set_cons_succ]
          refine wpAnyH_take (i := 1) (oi := { dst := some 17, op := Op.move (Operand.tmp 5), type := _, pos := _, after := _, guard := none }) (v := .int .i64 (k : Int)) rfl (by kernel_rfl) (by kernel_rfl) (by kernel_rfl) (fun _ _ _ h => h) (Or.inl ⟨by rfl, fun w hSw => by (try dsimp only at hSw); go_simp⟩) (by assumption) ?_
          simp only [Act.put, List.setIfInBounds_toArray, List.set_cons_zero, List.set_cons_succ]
          refine wpAnyH_take (i := 2) (oi := { dst := some 18, op := Op.indexAddr 23 (Operand.tmp 16) (Operand.tmp 17), type := _, pos := _, after := _, guard := none }) (v := .pointer (some ⟨b, o + k * 6, none⟩)) rfl (by kernel_rfl) (by kernel_rfl) (by kernel_rfl) (fun _ _ _ h => h) (Or.inl ⟨by rfl, fun w hSw => by (try dsimp only at hSw); go_simp⟩) (by assumption) ?_
          simp only [Act.put, List.setIfInBounds_toArray, List.set_cons_zero, List.set_cons_succ]
          refine wpAnyH_take (i := 3) (oi := { dst := some 19, op := Op.load 53 (Operand.tmp 18), type := _, pos := _, after := _, guard := none }) (v := .agg (itl p).toArray) rfl (by kernel_rfl) (by kernel_rfl) (by kernel_rfl) (fun _ _ _ h => h) (Or.inl ⟨by rfl, fun w hSw => ld_ex hSw.1 Tryz.underlying53 rfl szItem rfl rfl⟩) (by assumption) ?_
          simp only [Act.put, List.setIfInBounds_toArray, List.set_cons_zero, List.set_cons_succ]
          refine wpAnyH_take (i := 4) (oi := { dst := some 20, op := Op.move (Operand.tmp 1), type := _, pos := _, after := _, guard := none }) (v := .slice (some ⟨b', o', none⟩) n c') rfl (by kernel_rfl) (by kernel_rfl) (by kernel_rfl) (fun _ _ _ h => h) (Or.inl ⟨by rfl, fun w hSw => by (try dsimp only at hSw); go_simp⟩) (by assumption) ?_
          simp only [Act.put, List.setIfInBounds_toArray, List.set_cons_zero, List.set_cons_succ]
          refine wpAnyH_take (i := 5) (oi := { dst := some 21, op := Op.move (Operand.tmp 5), type := _, pos := _, after := _, guard := none }) (v := .int .i64 (k : Int)) rfl (by kernel_rfl) (by kernel_rfl) (by kernel_rfl) (fun _ _ _ h => h) (Or.inl ⟨by rfl, fun w hSw => by (try dsimp only at hSw); go_simp⟩) (by assumption) ?_
          simp only [Act.put, List.setIfInBounds_toArray, List.set_cons_zero, List.set_cons_succ]
          refine wpAnyH_take (i := 6) (oi := { dst := some 22, op := Op.indexAddr 23 (Operand.tmp 20) (Operand.tmp 21), type := _, pos := _, after := _, guard := none }) (v := .pointer (some ⟨b', o' + k * 6, none⟩)) rfl (by kernel_rfl) (by kernel_rfl) (by kernel_rfl) (fun _ _ _ h => h) (Or.inl ⟨by rfl, fun w hSw => by (try dsimp only at hSw); go_simp⟩) (by assumption) ?_
          simp only [Act.put, List.setIfInBounds_toArray, List.set_cons_zero, List.set_cons_succ]
          refine wpAnyH_take (i := 7) (oi := { dst := some 23, op := Op.load 53 (Operand.tmp 22), type := _, pos := _, after := _, guard := none }) (v := .agg (itl p2).toArray) rfl (by kernel_rfl) (by kernel_rfl) (by kernel_rfl) (fun _ _ _ h => h) (Or.inl ⟨by rfl, fun w hSw => ld_ex hSw.2 Tryz.underlying53 rfl szItem rfl rfl⟩) (by assumption) ?_
          simp only [Act.put, List.setIfInBounds_toArray, List.set_cons_zero, List.set_cons_succ]
          refine wpAnyH_take (i := 8) (oi := { dst := some 24, op := Op.binOp BinOp.neq 53 (Operand.tmp 19) (Operand.tmp 23) 53, type := _, pos := _, after := _, guard := none }) (v := .bool (!true)) rfl (by kernel_rfl) (by kernel_rfl) (by kernel_rfl) (fun _ _ _ h => h) (Or.inl ⟨by rfl, fun w hSw => ne_exec (hd ▸ run_eqIm (w := w) 9996 p p2) Tryz.eqGuardType53 rfl rfl rfl⟩) (by assumption) ?_
          simp only [Act.put, List.setIfInBounds_toArray, List.set_cons_zero, List.set_cons_succ]
          refine wpAnyH_done (by kernel_rfl) ?_ _
          go_wp2_with fail
          go_roundw
          case rel => exact ⟨k + 1, by omega, by go_num, HX.out, Below.join HB.out (drew_below wr)⟩
          case measure => simp [intOf]; omega
        · have HX : Hid (l ≠ l') := fun e => hpp (by subst e; rfl)
          have hd : decide (l[k] = l'[k]) = false := decide_eq_false hpp
          generalize l[k] = p at *
          generalize l'[k] = p2 at *
          go_upto_region 6 with (fail)
          have hS0 : wr.drew.rangeAt b (o + k * 6) (itl p) ∧ wr.drew.rangeAt b' (o' + k * 6) (itl p2) := ⟨r1, r2⟩
          clear r1 r2 hpp
          refine wp_region_held_drew (S := fun W => W.rangeAt b (o + k * 6) (itl p) ∧ W.rangeAt b' (o' + k * 6) (itl p2)) (by kernel_rfl) hS0 (fun hHeld => ?_)
          refine wpAnyH_take (i := 0) (oi := { dst := some 16, op := Op.move (Operand.tmp 0), type := _, pos := _, after := _, guard := none }) (v := .slice (some ⟨b, o, none⟩) n c) rfl (by kernel_rfl) (by kernel_rfl) (by kernel_rfl) (fun _ _ _ h => h) (Or.inl ⟨by rfl, fun w hSw => by (try dsimp only at hSw); go_simp⟩) (by assumption) ?_
          simp only [Act.put, List.setIfInBounds_toArray, List.set_cons_zero, List.set_cons_succ]
          refine wpAnyH_take (i := 1) (oi := { dst := some 17, op := Op.move (Operand.tmp 5), type := _, pos := _, after := _, guard := none }) (v := .int .i64 (k : Int)) rfl (by kernel_rfl) (by kernel_rfl) (by kernel_rfl) (fun _ _ _ h => h) (Or.inl ⟨by rfl, fun w hSw => by (try dsimp only at hSw); go_simp⟩) (by assumption) ?_
          simp only [Act.put, List.setIfInBounds_toArray, List.set_cons_zero, List.set_cons_succ]
          refine wpAnyH_take (i := 2) (oi := { dst := some 18, op := Op.indexAddr 23 (Operand.tmp 16) (Operand.tmp 17), type := _, pos := _, after := _, guard := none }) (v := .pointer (some ⟨b, o + k * 6, none⟩)) rfl (by kernel_rfl) (by kernel_rfl) (by kernel_rfl) (fun _ _ _ h => h) (Or.inl ⟨by rfl, fun w hSw => by (try dsimp only at hSw); go_simp⟩) (by assumption) ?_
          simp only [Act.put, List.setIfInBounds_toArray, List.set_cons_zero, List.set_cons_succ]
          refine wpAnyH_take (i := 3) (oi := { dst := some 19, op := Op.load 53 (Operand.tmp 18), type := _, pos := _, after := _, guard := none }) (v := .agg (itl p).toArray) rfl (by kernel_rfl) (by kernel_rfl) (by kernel_rfl) (fun _ _ _ h => h) (Or.inl ⟨by rfl, fun w hSw => ld_ex hSw.1 Tryz.underlying53 rfl szItem rfl rfl⟩) (by assumption) ?_
          simp only [Act.put, List.setIfInBounds_toArray, List.set_cons_zero, List.set_cons_succ]
          refine wpAnyH_take (i := 4) (oi := { dst := some 20, op := Op.move (Operand.tmp 1), type := _, pos := _, after := _, guard := none }) (v := .slice (some ⟨b', o', none⟩) n c') rfl (by kernel_rfl) (by kernel_rfl) (by kernel_rfl) (fun _ _ _ h => h) (Or.inl ⟨by rfl, fun w hSw => by (try dsimp only at hSw); go_simp⟩) (by assumption) ?_
          simp only [Act.put, List.setIfInBounds_toArray, List.set_cons_zero, List.set_cons_succ]
          refine wpAnyH_take (i := 5) (oi := { dst := some 21, op := Op.move (Operand.tmp 5), type := _, pos := _, after := _, guard := none }) (v := .int .i64 (k : Int)) rfl (by kernel_rfl) (by kernel_rfl) (by kernel_rfl) (fun _ _ _ h => h) (Or.inl ⟨by rfl, fun w hSw => by (try dsimp only at hSw); go_simp⟩) (by assumption) ?_
          simp only [Act.put, List.setIfInBounds_toArray, List.set_cons_zero, List.set_cons_succ]
          refine wpAnyH_take (i := 6) (oi := { dst := some 22, op := Op.indexAddr 23 (Operand.tmp 20) (Operand.tmp 21), type := _, pos := _, after := _, guard := none }) (v := .pointer (some ⟨b', o' + k * 6, none⟩)) rfl (by kernel_rfl) (by kernel_rfl) (by kernel_rfl) (fun _ _ _ h => h) (Or.inl ⟨by rfl, fun w hSw => by (try dsimp only at hSw); go_simp⟩) (by assumption) ?_
          simp only [Act.put, List.setIfInBounds_toArray, List.set_cons_zero, List.set_cons_succ]
          refine wpAnyH_take (i := 7) (oi := { dst := some 23, op := Op.load 53 (Operand.tmp 22), type := _, pos := _, after := _, guard := none }) (v := .agg (itl p2).toArray) rfl (by kernel_rfl) (by kernel_rfl) (by kernel_rfl) (fun _ _ _ h => h) (Or.inl ⟨by rfl, fun w hSw => ld_ex hSw.2 Tryz.underlying53 rfl szItem rfl rfl⟩) (by assumption) ?_
          simp only [Act.put, List.setIfInBounds_toArray, List.set_cons_zero, List.set_cons_succ]
          refine wpAnyH_take (i := 8) (oi := { dst := some 24, op := Op.binOp BinOp.neq 53 (Operand.tmp 19) (Operand.tmp 23) 53, type := _, pos := _, after := _, guard := none }) (v := .bool (!false)) rfl (by kernel_rfl) (by kernel_rfl) (by kernel_rfl) (fun _ _ _ h => h) (Or.inl ⟨by rfl, fun w hSw => ne_exec (hd ▸ run_eqIm (w := w) 9996 p p2) Tryz.eqGuardType53 rfl rfl rfl⟩) (by assumption) ?_
          simp only [Act.put, List.setIfInBounds_toArray, List.set_cons_zero, List.set_cons_succ]
          refine wpAnyH_done (by kernel_rfl) ?_ _
          go_wp2_with fail
          go_ret
          exact ⟨⟨false, rfl, by simp; exact HX.out⟩, Below.join HB.out (drew_below wr)⟩
      · have hkn' : decide ((k : Int) < (n : Int)) = false := by simp; omega
        have HX : Hid (l = l') := by
          have e := HE.out
          rw [List.take_of_length_le (by rw [HN.out.1]; omega), List.take_of_length_le (by rw [HN.out.2]; omega)] at e
          exact e
        go_wp2_with fail
        go_ret
        exact ⟨⟨true, rfl, by simp; exact HX.out⟩, HB.out⟩
  · have HX : Hid (l ≠ l') := fun e => hne (by rw [← HN.out.1, ← HN.out.2, e])
    have d0 : ((n : Int) != (n' : Int)) = true := by simp; omega
    have d1 : ¬ (n : Int) = (n' : Int) := by omega
    go_enter Tryz.func55, Tryz.ntmps55
    go_wp2_with fail
    go_ret
    exact ⟨⟨false, rfl, by simp; exact HX.out⟩, Below.refl _ _⟩
set_option maxRecDepth 100000 in
set_option maxHeartbeats 1000000 in
theorem sameB_any (a a' : Option Addr) (c c' : Nat) (l l' : List ((Int × Int) × (Int × Int))) (w : World) (h1 : RdV bxl 4 w a l) (h2 : RdV bxl 4 w a' l') (hl : l.length < 4611686018427387904) (hl' : l'.length < 4611686018427387904) :
    Calls Tryz.prog 16 #[.slice a l.length c, .slice a' l'.length c'] w fun e w' => (∃ b, e = .returned (.bool b) ∧ (b = true ↔ l = l')) ∧ Below w.heap.size w w' := by
  obtain ⟨n, hn⟩ : ∃ n, l.length = n := ⟨_, rfl⟩
  obtain ⟨n', hn'⟩ : ∃ n, l'.length = n := ⟨_, rfl⟩
  have HN : Hid (l.length = n ∧ l'.length = n') := ⟨hn, hn'⟩
  rw [hn] at hl
  rw [hn'] at hl'
  rw [hn, hn']
  clear hn hn'
  by_cases hne : n = n'
  · subst hne
    have d0 : ((n : Int) != (n : Int)) = false := by simp
    go_enter Tryz.func16, Tryz.ntmps16
    go_wp2_with fail
    go_loopw [13] (fun i wx => ∃ k : Nat, k ≤ n ∧ i = .int .i64 (k : Int) ∧ l.take k = l'.take k ∧ Below w.heap.size w wx) (fun i _ => n - (intOf i).toNat)
    case atStart => exact ⟨0, by omega, rfl, rfl, Below.refl _ _⟩
    case round =>
      obtain ⟨k, hk, rfl, hE, hb⟩ := hrel
      have HE : Hid (l.take k = l'.take k) := hE
      have HB : Hid (Below w.heap.size w wr) := hb
      clear hE hb
      by_cases hkn : k < n
      · have hkl : k < l.length := by rw [HN.out.1]; exact hkn
        have hkl' : k < l'.length := by rw [HN.out.2]; exact hkn
        have i1 : (0 : Int) ≤ (k : Int) := by omega
        have i2 : (k : Int) < (n : Int) := by omega
        obtain ⟨b, o, rfl, r1⟩ := h1 k hkl
        obtain ⟨b', o', rfl, r2⟩ := h2 k hkl'
        have r1 := ra_later r1 HB.out
        have r2 := ra_later r2 HB.out
        by_cases hpp : l[k] = l'[k]
        · have HX : Hid (l.take (k + 1) = l'.take (k + 1)) := eq_take hkl hkl' HE.out hpp
          have hd : decide (l[k] = l'[k]) = true := decide_eq_true hpp
          generalize l[k] = p at *
          generalize l'[k] = p2 at *
          go_upto_region 6 with (fail)
          have hS0 : wr.drew.rangeAt b (o + k * 4) (bxl p) ∧ wr.drew.rangeAt b' (o' + k * 4) (bxl p2) := ⟨r1, r2⟩
          clear r1 r2 hpp
          refine wp_region_held_drew (S := fun W => W.rangeAt b (o + k * 4) (bxl p) ∧ W.rangeAt b' (o' + k * 4) (bxl p2)) (by kernel_rfl) hS0 (fun hHeld => ?_)
          refine wpAnyH_take (i := 0) (oi := { dst := some 16, op := Op.move (Operand.tmp 0), type := _, pos := _, after := _, guard := none }) (v := .slice (some ⟨b, o, none⟩) n c) rfl (by kernel_rfl) (by kernel_rfl) (by kernel_rfl) (fun _ _ _ h => h) (Or.inl ⟨by rfl, fun w hSw => by (try dsimp only at hSw); go_simp⟩) (by assumption) ?_
          simp only [Act.put, List.setIfInBounds_toArray, List.set_cons_zero, List.set_cons_succ]
          refine wpAnyH_take (i := 1) (oi := { dst := some 17, op := Op.move (Operand.tmp 5), type := _, pos := _, after := _, guard := none }) (v := .int .i64 (k : Int)) rfl (by kernel_rfl) (by kernel_rfl) (by kernel_rfl) (fun _ _ _ h => h) (Or.inl ⟨by rfl, fun w hSw => by (try dsimp only at hSw); go_simp⟩) (by assumption) ?_
          simp only [Act.put, List.setIfInBounds_toArray, List.set_cons_zero, List.set_cons_succ]
          refine wpAnyH_take (i := 2) (oi := { dst := some 18, op := Op.indexAddr 49 (Operand.tmp 16) (Operand.tmp 17), type := _, pos := _, after := _, guard := none }) (v := .pointer (some ⟨b, o + k * 4, none⟩)) rfl (by kernel_rfl) (by kernel_rfl) (by kernel_rfl) (fun _ _ _ h => h) (Or.inl ⟨by rfl, fun w hSw => by (try dsimp only at hSw); go_simp⟩) (by assumption) ?_
          simp only [Act.put, List.setIfInBounds_toArray, List.set_cons_zero, List.set_cons_succ]
          refine wpAnyH_take (i := 3) (oi := { dst := some 19, op := Op.load 31 (Operand.tmp 18), type := _, pos := _, after := _, guard := none }) (v := .agg (bxl p).toArray) rfl (by kernel_rfl) (by kernel_rfl) (by kernel_rfl) (fun _ _ _ h => h) (Or.inl ⟨by rfl, fun w hSw => ld_ex hSw.1 Tryz.underlying31 rfl szBox rfl rfl⟩) (by assumption) ?_
          simp only [Act.put, List.setIfInBounds_toArray, List.set_cons_zero, List.set_cons_succ]
          refine wpAnyH_take (i := 4) (oi := { dst := some 20, op := Op.move (Operand.tmp 1), type := _, pos := _, after := _, guard := none }) (v := .slice (some ⟨b', o', none⟩) n c') rfl (by kernel_rfl) (by kernel_rfl) (by kernel_rfl) (fun _ _ _ h => h) (Or.inl ⟨by rfl, fun w hSw => by (try dsimp only at hSw); go_simp⟩) (by assumption) ?_
          simp only [Act.put, List.setIfInBounds_toArray, List.set_cons_zero, List.set_cons_succ]
          refine wpAnyH_take (i := 5) (oi := { dst := some 21, op := Op.move (Operand.tmp 5), type := _, pos := _, after := _, guard := none }) (v := .int .i64 (k : Int)) rfl (by kernel_rfl) (by kernel_rfl) (by kernel_rfl) (fun _ _ _ h => h) (Or.inl ⟨by rfl, fun w hSw => by (try dsimp only at hSw); go_simp⟩) (by assumption) ?_
          simp only [Act.put, List.setIfInBounds_toArray, List.set_cons_zero, List.set_cons_succ]
          refine wpAnyH_take (i := 6) (oi := { dst := some 22, op := Op.indexAddr 49 (Operand.tmp 20) (Operand.tmp 21), type := _, pos := _, after := _, guard := none }) (v := .pointer (some ⟨b', o' + k * 4, none⟩)) rfl (by kernel_rfl) (by kernel_rfl) (by kernel_rfl) (fun _ _ _ h => h) (Or.inl ⟨by rfl, fun w hSw => by (try dsimp only at hSw); go_simp⟩) (by assumption) ?_
          simp only [Act.put, List.setIfInBounds_toArray, List.set_cons_zero, List.set_cons_succ]
          refine wpAnyH_take (i := 7) (oi := { dst := some 23, op := Op.load 31 (Operand.tmp 22), type := _, pos := _, after := _, guard := none }) (v := .agg (bxl p2).toArray) rfl (by kernel_rfl) (by kernel_rfl) (by kernel_rfl) (fun _ _ _ h => h) (Or.inl ⟨by rfl, fun w hSw => ld_ex hSw.2 Tryz.underlying31 rfl szBox rfl rfl⟩) (by assumption) ?_
          simp only [Act.put, List.setIfInBounds_toArray, List.set_cons_zero, List.set_cons_succ]
          refine wpAnyH_take (i := 8) (oi := { dst := some 24, op := Op.binOp BinOp.neq 31 (Operand.tmp 19) (Operand.tmp 23) 31, type := _, pos := _, after := _, guard := none }) (v := .bool (!true)) rfl (by kernel_rfl) (by kernel_rfl) (by kernel_rfl) (fun _ _ _ h => h) (Or.inl ⟨by rfl, fun w hSw => ne_exec (hd ▸ run_eqBx (w := w) 9997 p p2) Tryz.eqGuardType31 rfl rfl rfl⟩) (by assumption) ?_
          simp only [Act.put, List.setIfInBounds_toArray, List.set_cons_zero, List.set_cons_succ]
          refine wpAnyH_done (by kernel_rfl) ?_ _
          go_wp2_with fail
          go_roundw
          case rel => exact ⟨k + 1, by omega, by go_num, HX.out, Below.join HB.out (drew_below wr)⟩
          case measure => simp [intOf]; omega
        · have HX : Hid (l ≠ l') := fun e => hpp (by subst e; rfl)
          have hd : decide (l[k] = l'[k]) = false := decide_eq_false hpp
          generalize l[k] = p at *
          generalize l'[k] = p2 at *
          go_upto_region 6 with (fail)
          have hS0 : wr.drew.rangeAt b (o + k * 4) (bxl p) ∧ wr.drew.rangeAt b' (o' + k * 4) (bxl p2) := ⟨r1, r2⟩
          clear r1 r2 hpp
          refine wp_region_held_drew (S := fun W => W.rangeAt b (o + k * 4) (bxl p) ∧ W.rangeAt b' (o' + k * 4) (bxl p2)) (by kernel_rfl) hS0 (fun hHeld => ?_)
          refine wpAnyH_take (i := 0) (oi := { dst := some 16, op := Op.move (Operand.tmp 0), type := _, pos := _, after := _, guard := none }) (v := .slice (some ⟨b, o, none⟩) n c) rfl (by kernel_rfl) (by kernel_rfl) (by kernel_rfl) (fun _ _ _ h => h) (Or.inl ⟨by rfl, fun w hSw => by (try dsimp only at hSw); go_simp⟩) (by assumption) ?_
          simp only [Act.put, List.setIfInBounds_toArray, List.set_cons_zero, List.set_cons_succ]
          refine wpAnyH_take (i := 1) (oi := { dst := some 17, op := Op.move (Operand.tmp 5), type := _, pos := _, after := _, guard := none }) (v := .int .i64 (k : Int)) rfl (by kernel_rfl) (by kernel_rfl) (by kernel_rfl) (fun _ _ _ h => h) (Or.inl ⟨by rfl, fun w hSw => by (try dsimp only at hSw); go_simp⟩) (by assumption) ?_
          simp only [Act.put, List.setIfInBounds_toArray, List.set_cons_zero, List.set_cons_succ]
          refine wpAnyH_take (i := 2) (oi := { dst := some 18, op := Op.indexAddr 49 (Operand.tmp 16) (Operand.tmp 17), type := _, pos := _, after := _, guard := none }) (v := .pointer (some ⟨b, o + k * 4, none⟩)) rfl (by kernel_rfl) (by kernel_rfl) (by kernel_rfl) (fun _ _ _ h => h) (Or.inl ⟨by rfl, fun w hSw => by (try dsimp only at hSw); go_simp⟩) (by assumption) ?_
          simp only [Act.put, List.setIfInBounds_toArray, List.set_cons_zero, List.set_cons_succ]
          refine wpAnyH_take (i := 3) (oi := { dst := some 19, op := Op.load 31 (Operand.tmp 18), type := _, pos := _, after := _, guard := none }) (v := .agg (bxl p).toArray) rfl (by kernel_rfl) (by kernel_rfl) (by kernel_rfl) (fun _ _ _ h => h) (Or.inl ⟨by rfl, fun w hSw => ld_ex hSw.1 Tryz.underlying31 rfl szBox rfl rfl⟩) (by assumption) ?_
          simp only [Act.put, List.setIfInBounds_toArray, List.set_cons_zero, List.set_cons_succ]
          refine wpAnyH_take (i := 4) (oi := { dst := some 20, op := Op.move (Operand.tmp 1), type := _, pos := _, after := _, guard := none }) (v := .slice (some ⟨b', o', none⟩) n c') rfl (by kernel_rfl) (by kernel_rfl) (by kernel_rfl) (fun _ _ _ h => h) (Or.inl ⟨by rfl, fun w hSw => by (try dsimp only at hSw); go_simp⟩) (by assumption) ?_
          simp only [Act.put, List.setIfInBounds_toArray, List.set_cons_zero, List.set_cons_succ]
          refine wpAnyH_take (i := 5) (oi := { dst := some 21, op := Op.move (Operand.tmp 5), type := _, pos := _, after := _, guard := none }) (v := .int .i64 (k : Int)) rfl (by kernel_rfl) (by kernel_rfl) (by kernel_rfl) (fun _ _ _ h => h) (Or.inl ⟨by rfl, fun w hSw => by (try dsimp only at hSw); go_simp⟩) (by assumption) ?_
          simp only [Act.put, List.setIfInBounds_toArray, List.set_cons_zero, List.set_cons_succ]
          refine wpAnyH_take (i := 6) (oi := { dst := some 22, op := Op.indexAddr 49 (Operand.tmp 20) (Operand.tmp 21), type := _, pos := _, after := _, guard := none }) (v := .pointer (some ⟨b', o' + k * 4, none⟩)) rfl (by kernel_rfl) (by kernel_rfl) (by kernel_rfl) (fun _ _ _ h => h) (Or.inl ⟨by rfl, fun w hSw => by (try dsimp only at hSw); go_simp⟩) (by assumption) ?_
          simp only [Act.put, List.setIfInBounds_toArray, List.set_cons_zero, List.set_cons_succ]
          refine wpAnyH_take (i := 7) (oi := { dst := some 23, op := Op.load 31 (Operand.tmp 22), type := _, pos := _, after := _, guard := none }) (v := .agg (bxl p2).toArray) rfl (by kernel_rfl) (by kernel_rfl) (by kernel_rfl) (fun _ _ _ h => h) (Or.inl ⟨by rfl, fun w hSw => ld_ex hSw.2 Tryz.underlying31 rfl szBox rfl rfl⟩) (by assumption) ?_
          simp only [Act.put, List.setIfInBounds_toArray, List.set_cons_zero, List.set_cons_succ]
          refine wpAnyH_take (i := 8) (oi := { dst := some 24, op := Op.binOp BinOp.neq 31 (Operand.tmp 19) (Operand.tmp 23) 31, type := _, pos := _, after := _, guard := none }) (v := .bool (!false)) rfl (by kernel_rfl) (by kernel_rfl) (by kernel_rfl) (fun _ _ _ h => h) (Or.inl ⟨by rfl, fun w hSw => ne_exec (hd ▸ run_eqBx (w := w) 9997 p p2) Tryz.eqGuardType31 rfl rfl rfl⟩) (by assumption) ?_
          simp only [Act.put, List.setIfInBounds_toArray, List.set_cons_zero, List.set_cons_succ]
          refine wpAnyH_done (by kernel_rfl) ?_ _
          go_wp2_with fail
          go_ret
          exact ⟨⟨false, rfl, by simp; exact HX.out⟩, Below.join HB.out (drew_below wr)⟩
      · have hkn' : decide ((k : Int) < (n : Int)) = false := by simp; omega
        have HX : Hid (l = l') := by
          have e := HE.out
          rw [List.take_of_length_le (by rw [HN.out.1]; omega), List.take_of_length_le (by rw [HN.out.2]; omega)] at e
          exact e
        go_wp2_with fail
        go_ret
        exact ⟨⟨true, rfl, by simp; exact HX.out⟩, HB.out⟩
  · have HX : Hid (l ≠ l') := fun e => hne (by rw [← HN.out.1, ← HN.out.2, e])
    have d0 : ((n : Int) != (n' : Int)) = true := by simp; omega
    have d1 : ¬ (n : Int) = (n' : Int) := by omega
    go_enter Tryz.func16, Tryz.ntmps16
    go_wp2_with fail
    go_ret
    exact ⟨⟨false, rfl, by simp; exact HX.out⟩, Below.refl _ _⟩
end Go.Proofs.YtdkfifnhmfbagaaGreat.Wi
