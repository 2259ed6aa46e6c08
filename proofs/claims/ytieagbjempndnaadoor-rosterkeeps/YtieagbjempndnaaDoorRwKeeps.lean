/- The walk of RosterKeeps. -/
import Derived.Test.YtieagbjempndnaaDoorRsK
import Derived.Test.YtieagbjempndnaaDoorOpenCa
import Derived.Test.YtieagbjempndnaaDoorRsMp
import Derived.Test.YtieagbjempndnaaDoorRsO
import Derived.Test.YtieagbjempndnaaDoorRsMath7
import Derived.Deep.RegionHeld3
namespace Go.Proofs.YtieagbjempndnaaDoor.rosterKeeps
open Go.RowKit Go.Maps Go.Shelf
set_option linter.unusedVariables false
set_option linter.unusedSimpArgs false

structure KX (w W : World) (f g : Nat → En) (aL aJ : Option Addr) (L J : List Int) (cL cJ : Nat) (sc bs : Int) (B3 : Nat) (al aj : Option Addr) (ll lj : List (Int × Int)) : Prop where
  ca : CaAt W w.heap.size f aL aJ L.length J.length cL cJ sc bs
  ro : RoAt W B3 g
  bel : Below w.heap.size w W
  rl : RdS W al ll
  rj : RdS W aj lj
section
variable {w W W' : World} {f g : Nat → En} {aL aJ : Option Addr} {L J : List Int} {cL cJ : Nat} {sc bs : Int} {B3 : Nat} {al aj : Option Addr} {ll lj : List (Int × Int)}
theorem KX.later (h : KX w W f g aL aJ L J cL cJ sc bs B3 al aj ll lj) (hb : Below W.heap.size W W') : KX w W' f g aL aJ L J cL cJ sc bs B3 al aj ll lj := ⟨h.ca.later hb, h.ro.later hb, h.bel.trans (hb.mono h.bel.size), h.rl.later hb, h.rj.later hb⟩
theorem rds_grown {bm n : Nat} {l : List Int} {a : Option Addr} {q : List (Int × Int)} (h : RdS W a q) (hm : Mi W bm n l) (hg : W.grownBy W' (some bm)) : RdS W' a q := fun i hi => by
  obtain ⟨b, e, c0, c1⟩ := h i hi
  have hne : some b ≠ some bm := fun e2 => cell_not_map hm c0 (by simpa using e2)
  exact ⟨b, e, hg.cell c0 hne, hg.cell c1 hne⟩
theorem KX.grown {bm n : Nat} {l : List Int} (h : KX w W f g aL aJ L J cL cJ sc bs B3 al aj ll lj) (hm : Mi W bm n l) (hg : W.grownBy W' (some bm)) (hb : w.heap.size ≤ bm) : KX w W' f g aL aJ L J cL cJ sc bs B3 al aj ll lj :=
  ⟨(hg.block _ h.ca.lt (fun e => block_not_map hm h.ca (by simpa using e))).trans h.ca, (hg.block _ h.ro.lt (fun e => block_not_map hm h.ro (by simpa using e))).trans h.ro,
    below_grown h.bel hg h.bel.size (fun j hj => by simp at hj; omega), rds_grown h.rl hm hg, rds_grown h.rj hm hg⟩
end
theorem people_len (f : Nat → En) (w : World) : Calls Tryd.prog 16 #[.agg (rcs f)] w fun e w' => (∃ a c, e = .returned (.slice a (ppl f).length c)) ∧ Below w.heap.size w w' := by
  refine (people_any f w).mono ?_
  rintro e w' ⟨⟨v, rfl, hr⟩, hb⟩
  obtain ⟨a, c, rfl⟩ := owns_slice hr
  exact ⟨⟨a, c, rfl⟩, hb⟩
theorem eq_run {a : Act} {o : Oper} {w : World} {f g : Nat → En} {b : Bool} {x y : Operand} (hb : eqB f g = b) (ho : o.op = .binOp .eql 25 x y 25) (hx : a.eval x = .agg (rcs f)) (hy : a.eval y = .agg (rcs g)) : (execOp a.eval o).run Tryd.prog w = .ok (.value (.bool b)) w := by
  subst hb
  have h1 := run_eqGuard_agg (P := Tryd.prog) w .eql 25 x y (rcs f) (rcs g) Tryd.eqGuardType25
  have h2 := run_eql_struct (P := Tryd.prog) w 25 (rcs f) (rcs g)
  rw [run_eqRo] at h2
  simp [execOp, ho, hx, hy, h1, h2, Sem.run_bind, Result.andThen]
theorem drew_below (w : World) : Below w.heap.size w w.drew := ⟨rfl, rfl, rfl, Nat.le_refl _, fun _ _ => rfl⟩
set_option maxRecDepth 100000 in
set_option maxHeartbeats 8000000 in
theorem walk (f : Nat → En) (aL aJ : Option Addr) (cL cJ : Nat) (L J : List Int) (sc bs : Int) (w : World) (wf : ∀ i, i < 64 → (Lit.int .i64 (f i).who).wf = true ∧ (Lit.int .i64 (f i).bas).wf = true ∧ (Lit.int .i64 (f i).snc).wf = true) (rL : RdI w aL L) (rJ : RdI w aJ J) (lL : L.length * 8 ≤ 140737488351232) (lJ : J.length * 8 ≤ 140737488351232) (ws : (Lit.int .i64 sc).wf = true) (wb : (Lit.int .i64 bs).wf = true) (hT : Tb w) :
    Calls Tryd.prog 6 #[.agg (ccs f aL aJ L.length J.length cL cJ sc bs)] w fun e w' => e = .returned (.bool true) ∧ Below w.heap.size w w' := by
  have hC := CaAt.new w f aL aJ L.length J.length cL cJ sc bs
  have hB : Below w.heap.size w (w.alloc (.cells (ccs f aL aJ L.length J.length cL cJ sc bs) 41)) := (Below.refl _ w).alloc (Nat.le_refl _) _
  have HWF : Hid (∀ i, i < 64 → (Lit.int .i64 (f i).who).wf = true ∧ (Lit.int .i64 (f i).bas).wf = true ∧ (Lit.int .i64 (f i).snc).wf = true) := wf
  clear wf ws wb
  go_enter Tryd.func6, Tryd.ntmps6
  go_upto_region 1 with (fail)
  generalize w.alloc (.cells (ccs f aL aJ L.length J.length cL cJ sc bs) 41) = w1 at *
  obtain ⟨cc, hcc⟩ : ∃ cc, ccs f aL aJ L.length J.length cL cJ sc bs = cc := ⟨_, rfl⟩
  rw [hcc]
  clear hcc
  go_wp2_with fail
  refine (lives_any _ (hT.later hB)).mono ?_
  rintro e w2 ⟨rfl, hb2⟩
  have hC2 := hC.later hb2
  have hB2 := hB.trans (hb2.mono hB.size)
  clear hC hB hb2
  go_upto_region 3 with (fail)
  obtain ⟨x0, x1, x2, x3⟩ := hC2.cells
  have hm := move_any f aL aJ cL cJ L J sc bs w2 (hT.later hB2) (by omega) (by omega) (rL.later hB2) (rJ.later hB2)
  go_wp2_with (refine ld25c hC2 rfl _ rfl rfl ?_)
  refine hm.mono ?_
  rintro e w3 ⟨⟨vl, vj, rfl, hP⟩, hb3⟩
  have hC3 := hC2.later hb3
  have hB3 := hB2.trans (hb3.mono hB2.size)
  have hz3 : RoAt (w3.alloc (.cells Tryd.zeroCells25 25)) w3.heap.size (fun _ => zE) := by rw [alloc_zero]; exact RoAt.new _ _
  clear hm hb3 x0 x1 x2 x3 hC2 hB2
  obtain ⟨g, hg⟩ : ∃ g, mvR f L J sc bs = g := ⟨_, rfl⟩
  obtain ⟨E, hE⟩ : ∃ E, mvE f L J sc bs = E := ⟨_, rfl⟩
  have HGR : Hid (mvR f L J sc bs = g) := hg
  have HEE : Hid (mvE f L J sc bs = E) := hE
  rw [hg, hE]
  clear hg hE
  go_upto_region 4 with (refine st25 (g := g) hz3 rfl _ _ rfl rfl rfl ?_)
  rw [alloc_zero, World.setRow_alloc_new]
  have hG4 := RoAt.new w3 g
  have hb4 := alloc_ro w3 g
  have hC4 := hC3.later hb4
  have hB4 := hB3.trans (hb4.mono hB3.size)
  obtain ⟨al, kl, rfl, pl, _⟩ := owns_rd (owns_later hP.left hb4)
  obtain ⟨aj, kj, rfl, pj, _⟩ := owns_rd (owns_later hP.join hb4)
  generalize w3.alloc (.cells (rcs g) 25) = w4 at *
  generalize w3.heap.size = B3 at *
  clear hC3 hB3 hP hb4 hz3
  by_cases hE0 : E = 0
  · subst hE0
    have hml : mvL f L J sc bs = evl f L := by unfold mvL; rw [if_pos HEE.out]
    have hmj : mvJ f L J sc bs = adl (mvT f L J) J J.length := by unfold mvJ; rw [if_pos HEE.out]
    have HV : Hid (Mv f L J sc bs) := mv_of HEE.out
    rw [hml] at pl ⊢
    rw [hmj] at pj ⊢
    rw [evl_length, adl_length]
    clear hml hmj
    obtain ⟨ll, hll⟩ : ∃ ll, evl f L = ll := ⟨_, rfl⟩
    obtain ⟨lj, hlj⟩ : ∃ lj, adl (mvT f L J) J J.length = lj := ⟨_, rfl⟩
    rw [hll] at pl
    rw [hlj] at pj
    have HLL : Hid (evl f L = ll) := hll
    have HLJ : Hid (adl (mvT f L J) J J.length = lj) := hlj
    clear hll hlj
    have hX4 : KX w w4 f g aL aJ L J cL cJ sc bs B3 al aj ll lj := ⟨hC4, hG4, hB4, pl, pj⟩
    have lL64 := HV.out.ok.lenL
    have lJ64 := HV.out.ok.lenJ
    have hcnt := mv_cnt HEE.out
    rw [HGR.out, ← ppl_cnt (chk_rt.1 (by rw [← HGR.out]; exact mvR_right HEE.out) : Rt g), ← ppl_cnt HV.out.rt] at hcnt
    have hpg := people_len g
    have hpf := people_len f
    have hg64 := ppl_len g
    have hf64 := ppl_len f
    obtain ⟨PG, hPG⟩ : ∃ PG, (ppl g).length = PG := ⟨_, rfl⟩
    obtain ⟨PF, hPF⟩ : ∃ PF, (ppl f).length = PF := ⟨_, rfl⟩
    rw [hPG] at hpg hcnt hg64
    rw [hPF] at hpf hcnt hf64
    have hw1 : IntKind.i64.wrap ((PF : Int) - (L.length : Int)) = (PF : Int) - (L.length : Int) := i64_fit _ (by omega) (by omega)
    have hw2 : IntKind.i64.wrap ((PF : Int) - (L.length : Int) + (J.length : Int)) = (PF : Int) - (L.length : Int) + (J.length : Int) := i64_fit _ (by omega) (by omega)
    have hw3 : ((PG : Int) != (PF : Int) - (L.length : Int) + (J.length : Int)) = false := by simp; omega
    clear hC4 hG4 hB4 pl pj hPG hPF hcnt hg64 hf64
    go_upto_region 6 with (fail)
    have hS0 := hX4.later (drew_below w4)
    refine wp_region_held_drew (S := fun W => KX w W f g aL aJ L J cL cJ sc bs B3 al aj ll lj) (by kernel_rfl) hS0 (fun hH0 => ?_)
    refine wpAnyH_take (i := 0) (oi := { dst := some 45, op := Op.move (Operand.tmp 4), type := _, pos := _, after := _, guard := none }) (v := .slice al L.length kl) rfl (by kernel_rfl) (by kernel_rfl) (by kernel_rfl) (fun _ _ _ h => h) (Or.inl ⟨by rfl, fun w hSw => by (try dsimp only at hSw); go_simp⟩) (by assumption) ?_
    simp only [Act.put, List.setIfInBounds_toArray, List.set_cons_zero, List.set_cons_succ]
    refine wpAnyH_take (i := 1) (oi := { dst := some 46, op := Op.call { callee := Callee.builtin Builtin.len, args := #[(Operand.tmp 45)], argTypes := #[42] }, type := _, pos := _, after := _, guard := none }) (v := .int .i64 (L.length : Int)) rfl (by kernel_rfl) (by kernel_rfl) (by kernel_rfl) (fun _ _ _ h => h) (Or.inl ⟨by rfl, fun w hSw => by (try dsimp only at hSw); go_simp⟩) (by assumption) ?_
    simp only [Act.put, List.setIfInBounds_toArray, List.set_cons_zero, List.set_cons_succ]
    refine wpAnyH_take (i := 2) (oi := { dst := some 47, op := Op.fieldAddr 41 (Operand.tmp 1) 1, type := _, pos := _, after := _, guard := none }) (v := .pointer (some ⟨w.heap.size, 192, none⟩)) rfl (by kernel_rfl) (by kernel_rfl) (by kernel_rfl) (fun _ _ _ h => h) (Or.inl ⟨by rfl, fun w hSw => by (try dsimp only at hSw); go_simp⟩) (by assumption) ?_
    simp only [Act.put, List.setIfInBounds_toArray, List.set_cons_zero, List.set_cons_succ]
    refine wpAnyH_take (i := 3) (oi := { dst := some 48, op := Op.fieldAddr 37 (Operand.tmp 47) 0, type := _, pos := _, after := _, guard := none }) (v := .pointer (some ⟨w.heap.size, 192, none⟩)) rfl (by kernel_rfl) (by kernel_rfl) (by kernel_rfl) (fun _ _ _ h => h) (Or.inl ⟨by rfl, fun w hSw => by (try dsimp only at hSw); go_simp⟩) (by assumption) ?_
    simp only [Act.put, List.setIfInBounds_toArray, List.set_cons_zero, List.set_cons_succ]
    refine wpAnyH_take (i := 4) (oi := { dst := some 49, op := Op.load 32 (Operand.tmp 48), type := _, pos := _, after := _, guard := none }) (v := .slice aL L.length cL) rfl (by kernel_rfl) (by kernel_rfl) (by kernel_rfl) (fun _ _ _ h => h) (Or.inl ⟨by rfl, fun w hSw => by obtain ⟨x0, x1, x2, x3⟩ := (KX.ca hSw).cells; clear hSw; go_simp⟩) (by assumption) ?_
    simp only [Act.put, List.setIfInBounds_toArray, List.set_cons_zero, List.set_cons_succ]
    refine wpAnyH_take (i := 5) (oi := { dst := some 50, op := Op.call { callee := Callee.builtin Builtin.len, args := #[(Operand.tmp 49)], argTypes := #[32] }, type := _, pos := _, after := _, guard := none }) (v := .int .i64 (L.length : Int)) rfl (by kernel_rfl) (by kernel_rfl) (by kernel_rfl) (fun _ _ _ h => h) (Or.inl ⟨by rfl, fun w hSw => by (try dsimp only at hSw); go_simp⟩) (by assumption) ?_
    simp only [Act.put, List.setIfInBounds_toArray, List.set_cons_zero, List.set_cons_succ]
    refine wpAnyH_take (i := 6) (oi := { dst := some 51, op := Op.binOp BinOp.neq 3 (Operand.tmp 46) (Operand.tmp 50) 3, type := _, pos := _, after := _, guard := none }) (v := .bool false) rfl (by kernel_rfl) (by kernel_rfl) (by kernel_rfl) (fun _ _ _ h => h) (Or.inl ⟨by rfl, fun w hSw => by (try dsimp only at hSw); go_simp⟩) (by assumption) ?_
    simp only [Act.put, List.setIfInBounds_toArray, List.set_cons_zero, List.set_cons_succ]
    refine wpAnyH_take (i := 7) (oi := { dst := some 52, op := Op.move (Operand.tmp 51), type := _, pos := _, after := _, guard := none }) (v := .bool false) rfl (by kernel_rfl) (by kernel_rfl) (by kernel_rfl) (fun _ _ _ h => h) (Or.inl ⟨by rfl, fun w hSw => by (try dsimp only at hSw); go_simp⟩) (by assumption) ?_
    simp only [Act.put, List.setIfInBounds_toArray, List.set_cons_zero, List.set_cons_succ]
    refine wpAnyH_take (i := 8) (oi := { dst := some 53, op := Op.move (Operand.tmp 5), type := _, pos := _, after := _, guard := some (7, false) }) (v := .slice aj J.length kj) rfl (by kernel_rfl) (by kernel_rfl) (by kernel_rfl) (fun _ _ _ h => h) (Or.inl ⟨by rfl, fun w hSw => by (try dsimp only at hSw); go_simp⟩) (by assumption) ?_
    simp only [Act.put, List.setIfInBounds_toArray, List.set_cons_zero, List.set_cons_succ]
    refine wpAnyH_take (i := 9) (oi := { dst := some 54, op := Op.call { callee := Callee.builtin Builtin.len, args := #[(Operand.tmp 53)], argTypes := #[42] }, type := _, pos := _, after := _, guard := some (7, false) }) (v := .int .i64 (J.length : Int)) rfl (by kernel_rfl) (by kernel_rfl) (by kernel_rfl) (fun _ _ _ h => h) (Or.inl ⟨by rfl, fun w hSw => by (try dsimp only at hSw); go_simp⟩) (by assumption) ?_
    simp only [Act.put, List.setIfInBounds_toArray, List.set_cons_zero, List.set_cons_succ]
    refine wpAnyH_take (i := 10) (oi := { dst := some 55, op := Op.fieldAddr 41 (Operand.tmp 1) 1, type := _, pos := _, after := _, guard := some (7, false) }) (v := .pointer (some ⟨w.heap.size, 192, none⟩)) rfl (by kernel_rfl) (by kernel_rfl) (by kernel_rfl) (fun _ _ _ h => h) (Or.inl ⟨by rfl, fun w hSw => by (try dsimp only at hSw); go_simp⟩) (by assumption) ?_
    simp only [Act.put, List.setIfInBounds_toArray, List.set_cons_zero, List.set_cons_succ]
    refine wpAnyH_take (i := 11) (oi := { dst := some 56, op := Op.fieldAddr 37 (Operand.tmp 55) 1, type := _, pos := _, after := _, guard := some (7, false) }) (v := .pointer (some ⟨w.heap.size, 193, none⟩)) rfl (by kernel_rfl) (by kernel_rfl) (by kernel_rfl) (fun _ _ _ h => h) (Or.inl ⟨by rfl, fun w hSw => by (try dsimp only at hSw); go_simp⟩) (by assumption) ?_
    simp only [Act.put, List.setIfInBounds_toArray, List.set_cons_zero, List.set_cons_succ]
    refine wpAnyH_take (i := 12) (oi := { dst := some 57, op := Op.load 32 (Operand.tmp 56), type := _, pos := _, after := _, guard := some (7, false) }) (v := .slice aJ J.length cJ) rfl (by kernel_rfl) (by kernel_rfl) (by kernel_rfl) (fun _ _ _ h => h) (Or.inl ⟨by rfl, fun w hSw => by obtain ⟨x0, x1, x2, x3⟩ := (KX.ca hSw).cells; clear hSw; go_simp⟩) (by assumption) ?_
    simp only [Act.put, List.setIfInBounds_toArray, List.set_cons_zero, List.set_cons_succ]
    refine wpAnyH_take (i := 13) (oi := { dst := some 58, op := Op.call { callee := Callee.builtin Builtin.len, args := #[(Operand.tmp 57)], argTypes := #[32] }, type := _, pos := _, after := _, guard := some (7, false) }) (v := .int .i64 (J.length : Int)) rfl (by kernel_rfl) (by kernel_rfl) (by kernel_rfl) (fun _ _ _ h => h) (Or.inl ⟨by rfl, fun w hSw => by (try dsimp only at hSw); go_simp⟩) (by assumption) ?_
    simp only [Act.put, List.setIfInBounds_toArray, List.set_cons_zero, List.set_cons_succ]
    refine wpAnyH_take (i := 14) (oi := { dst := some 59, op := Op.binOp BinOp.neq 3 (Operand.tmp 54) (Operand.tmp 58) 3, type := _, pos := _, after := _, guard := some (7, false) }) (v := .bool false) rfl (by kernel_rfl) (by kernel_rfl) (by kernel_rfl) (fun _ _ _ h => h) (Or.inl ⟨by rfl, fun w hSw => by (try dsimp only at hSw); go_simp⟩) (by assumption) ?_
    simp only [Act.put, List.setIfInBounds_toArray, List.set_cons_zero, List.set_cons_succ]
    refine wpAnyH_take (i := 15) (oi := { dst := some 60, op := Op.pick (Operand.tmp 52) (Operand.const (Value.bool true)) (Operand.tmp 59), type := _, pos := _, after := _, guard := none }) (v := .bool false) rfl (by kernel_rfl) (by kernel_rfl) (by kernel_rfl) (fun _ _ _ h => h) (Or.inl ⟨by rfl, fun w hSw => by (try dsimp only at hSw); go_simp⟩) (by assumption) ?_
    simp only [Act.put, List.setIfInBounds_toArray, List.set_cons_zero, List.set_cons_succ]
    refine wpAnyH_take (i := 16) (oi := { dst := some 61, op := Op.move (Operand.tmp 60), type := _, pos := _, after := _, guard := none }) (v := .bool false) rfl (by kernel_rfl) (by kernel_rfl) (by kernel_rfl) (fun _ _ _ h => h) (Or.inl ⟨by rfl, fun w hSw => by (try dsimp only at hSw); go_simp⟩) (by assumption) ?_
    simp only [Act.put, List.setIfInBounds_toArray, List.set_cons_zero, List.set_cons_succ]
    refine wpAnyH_take (i := 17) (oi := { dst := some 62, op := Op.load 25 (Operand.tmp 3), type := _, pos := _, after := _, guard := some (16, false) }) (v := .agg (rcs g)) rfl (by kernel_rfl) (by kernel_rfl) (by kernel_rfl) (fun _ _ _ h => h) (Or.inl ⟨by rfl, fun w hSw => ld25_exec (KX.ro hSw) rfl rfl⟩) (by assumption) ?_
    simp only [Act.put, List.setIfInBounds_toArray, List.set_cons_zero, List.set_cons_succ]
    refine wpAnyH_take (i := 20) (oi := { dst := some 65, op := Op.fieldAddr 41 (Operand.tmp 1) 0, type := _, pos := _, after := _, guard := some (16, false) }) (v := .pointer (some ⟨w.heap.size, 0, none⟩)) rfl (by kernel_rfl) (by kernel_rfl) (by kernel_rfl) (fun _ _ _ h => h) (Or.inl ⟨by rfl, fun w hSw => by (try dsimp only at hSw); go_simp⟩) (by assumption) ?_
    simp only [Act.put, List.setIfInBounds_toArray, List.set_cons_zero, List.set_cons_succ]
    refine wpAnyH_take (i := 21) (oi := { dst := some 66, op := Op.load 25 (Operand.tmp 65), type := _, pos := _, after := _, guard := some (16, false) }) (v := .agg (rcs f)) rfl (by kernel_rfl) (by kernel_rfl) (by kernel_rfl) (fun _ _ _ h => h) (Or.inl ⟨by rfl, fun w hSw => CaAt.exec (KX.ca hSw) rfl rfl⟩) (by assumption) ?_
    simp only [Act.put, List.setIfInBounds_toArray, List.set_cons_zero, List.set_cons_succ]
    refine wpAnyH_take (i := 24) (oi := { dst := some 69, op := Op.move (Operand.tmp 4), type := _, pos := _, after := _, guard := some (16, false) }) (v := .slice al L.length kl) rfl (by kernel_rfl) (by kernel_rfl) (by kernel_rfl) (fun _ _ _ h => h) (Or.inl ⟨by rfl, fun w hSw => by (try dsimp only at hSw); go_simp⟩) (by assumption) ?_
    simp only [Act.put, List.setIfInBounds_toArray, List.set_cons_zero, List.set_cons_succ]
    refine wpAnyH_take (i := 25) (oi := { dst := some 70, op := Op.call { callee := Callee.builtin Builtin.len, args := #[(Operand.tmp 69)], argTypes := #[42] }, type := _, pos := _, after := _, guard := some (16, false) }) (v := .int .i64 (L.length : Int)) rfl (by kernel_rfl) (by kernel_rfl) (by kernel_rfl) (fun _ _ _ h => h) (Or.inl ⟨by rfl, fun w hSw => by (try dsimp only at hSw); go_simp⟩) (by assumption) ?_
    simp only [Act.put, List.setIfInBounds_toArray, List.set_cons_zero, List.set_cons_succ]
    refine wpAnyH_take (i := 27) (oi := { dst := some 72, op := Op.move (Operand.tmp 5), type := _, pos := _, after := _, guard := some (16, false) }) (v := .slice aj J.length kj) rfl (by kernel_rfl) (by kernel_rfl) (by kernel_rfl) (fun _ _ _ h => h) (Or.inl ⟨by rfl, fun w hSw => by (try dsimp only at hSw); go_simp⟩) (by assumption) ?_
    simp only [Act.put, List.setIfInBounds_toArray, List.set_cons_zero, List.set_cons_succ]
    refine wpAnyH_take (i := 28) (oi := { dst := some 73, op := Op.call { callee := Callee.builtin Builtin.len, args := #[(Operand.tmp 72)], argTypes := #[42] }, type := _, pos := _, after := _, guard := some (16, false) }) (v := .int .i64 (J.length : Int)) rfl (by kernel_rfl) (by kernel_rfl) (by kernel_rfl) (fun _ _ _ h => h) (Or.inl ⟨by rfl, fun w hSw => by (try dsimp only at hSw); go_simp⟩) (by assumption) ?_
    simp only [Act.put, List.setIfInBounds_toArray, List.set_cons_zero, List.set_cons_succ]
    refine wpAnyH_ready (rs := [18]) (by kernel_rfl) (by simp) ?_
    refine AllReadyH.cons rfl (fun K hK => ?_) AllReadyH.nil
    go_simp
    refine (hpg _).mono ?_
    rintro e u1 ⟨⟨pa, pc, rfl⟩, hb1⟩
    go_wp2_with fail
    refine hK.out _ _ (KX.later hH0 hb1) (fun hH1 => ?_)
    clear hb1 hH0
    clear hK K
    try simp only [Act.put, List.setIfInBounds_toArray, List.set_cons_zero, List.set_cons_succ]
    refine wpAnyH_take (i := 19) (oi := { dst := some 64, op := Op.call { callee := Callee.builtin Builtin.len, args := #[(Operand.tmp 63)], argTypes := #[32] }, type := _, pos := _, after := _, guard := some (16, false) }) (v := .int .i64 (PG : Int)) rfl (by kernel_rfl) (by kernel_rfl) (by kernel_rfl) (fun _ _ _ h => h) (Or.inl ⟨by rfl, fun w hSw => by (try dsimp only at hSw); go_simp⟩) (by assumption) ?_
    simp only [Act.put, List.setIfInBounds_toArray, List.set_cons_zero, List.set_cons_succ]
    refine wpAnyH_ready (rs := [22]) (by kernel_rfl) (by simp) ?_
    refine AllReadyH.cons rfl (fun K hK => ?_) AllReadyH.nil
    go_simp
    refine (hpf _).mono ?_
    rintro e u2 ⟨⟨qa, qc, rfl⟩, hb2⟩
    go_wp2_with fail
    refine hK.out _ _ (KX.later hH1 hb2) (fun hH2 => ?_)
    clear hb2 hH1
    clear hK K
    try simp only [Act.put, List.setIfInBounds_toArray, List.set_cons_zero, List.set_cons_succ]
    refine wpAnyH_take (i := 23) (oi := { dst := some 68, op := Op.call { callee := Callee.builtin Builtin.len, args := #[(Operand.tmp 67)], argTypes := #[32] }, type := _, pos := _, after := _, guard := some (16, false) }) (v := .int .i64 (PF : Int)) rfl (by kernel_rfl) (by kernel_rfl) (by kernel_rfl) (fun _ _ _ h => h) (Or.inl ⟨by rfl, fun w hSw => by (try dsimp only at hSw); go_simp⟩) (by assumption) ?_
    simp only [Act.put, List.setIfInBounds_toArray, List.set_cons_zero, List.set_cons_succ]
    refine wpAnyH_take (i := 26) (oi := { dst := some 71, op := Op.binOp BinOp.sub 3 (Operand.tmp 68) (Operand.tmp 70) 3, type := _, pos := _, after := _, guard := some (16, false) }) (v := .int .i64 ((PF : Int) - (L.length : Int))) rfl (by kernel_rfl) (by kernel_rfl) (by kernel_rfl) (fun _ _ _ h => h) (Or.inl ⟨by rfl, fun w hSw => by (try dsimp only at hSw); go_simp⟩) (by assumption) ?_
    simp only [Act.put, List.setIfInBounds_toArray, List.set_cons_zero, List.set_cons_succ]
    refine wpAnyH_take (i := 29) (oi := { dst := some 74, op := Op.binOp BinOp.add 3 (Operand.tmp 71) (Operand.tmp 73) 3, type := _, pos := _, after := _, guard := some (16, false) }) (v := .int .i64 ((PF : Int) - (L.length : Int) + (J.length : Int))) rfl (by kernel_rfl) (by kernel_rfl) (by kernel_rfl) (fun _ _ _ h => h) (Or.inl ⟨by rfl, fun w hSw => by (try dsimp only at hSw); go_simp⟩) (by assumption) ?_
    simp only [Act.put, List.setIfInBounds_toArray, List.set_cons_zero, List.set_cons_succ]
    refine wpAnyH_take (i := 30) (oi := { dst := some 75, op := Op.binOp BinOp.neq 3 (Operand.tmp 64) (Operand.tmp 74) 3, type := _, pos := _, after := _, guard := some (16, false) }) (v := .bool false) rfl (by kernel_rfl) (by kernel_rfl) (by kernel_rfl) (fun _ _ _ h => h) (Or.inl ⟨by rfl, fun w hSw => by (try dsimp only at hSw); go_simp⟩) (by assumption) ?_
    simp only [Act.put, List.setIfInBounds_toArray, List.set_cons_zero, List.set_cons_succ]
    refine wpAnyH_take (i := 31) (oi := { dst := some 76, op := Op.pick (Operand.tmp 61) (Operand.const (Value.bool true)) (Operand.tmp 75), type := _, pos := _, after := _, guard := none }) (v := .bool false) rfl (by kernel_rfl) (by kernel_rfl) (by kernel_rfl) (fun _ _ _ h => h) (Or.inl ⟨by rfl, fun w hSw => by (try dsimp only at hSw); go_simp⟩) (by assumption) ?_
    simp only [Act.put, List.setIfInBounds_toArray, List.set_cons_zero, List.set_cons_succ]
    refine wpAnyH_done (by kernel_rfl) ?_ _
    clear hpg hpf hw1 hw2 hw3 hS0 hX4
    have hmm := @run_makeMap Tryd.prog
    go_upto_region 9 with (fail)
    have hb7 : Below u2.heap.size u2 (u2.alloc (.map #[] 0)) := (Below.refl _ u2).alloc (Nat.le_refl _) _
    have hX7 := KX.later hH2 hb7
    have hM7 := Mi.new u2
    have hbm : w.heap.size ≤ u2.heap.size := (KX.bel hH2).size
    generalize u2.alloc (.map #[] 0) = w7 at *
    generalize u2.heap.size = bm at *
    clear hb7 hH2 hmm
    obtain ⟨x0, x1, x2, x3⟩ := (KX.ca hX7).cells
    have HX7 : Hid (KX w w7 f g aL aJ L J cL cJ sc bs B3 al aj ll lj) := hX7
    have HM7 : Hid (Mi w7 bm 0 []) := hM7
    clear hX7 hM7
    go_wp2_with fail
    go_loopw [82] (fun i wx => ∃ k : Nat, k ≤ L.length ∧ i = .int .i64 (k : Int) ∧ KX w wx f g aL aJ L J cL cJ sc bs B3 al aj ll lj ∧ Mi wx bm k (L.take k)) (fun i _ => L.length - (intOf i).toNat)
    case atStart => exact ⟨0, by omega, rfl, HX7.out, HM7.out⟩
    case round =>
      obtain ⟨k, hk, rfl, hx, hmi⟩ := hrel
      have HX : Hid (KX w wr f g aL aJ L J cL cJ sc bs B3 al aj ll lj) := hx
      have HM : Hid (Mi wr bm k (L.take k)) := hmi
      clear hx hmi HX7 HM7 x0 x1 x2 x3
      by_cases hkN : k < L.length
      · have i1 : (0 : Int) ≤ (k : Int) := by omega
        have i2 : (k : Int) < (L.length : Int) := by omega
        obtain ⟨b, o, hal, hcell⟩ := (rL.later HX.out.bel) k hkN
        obtain ⟨v1, v2, v3⟩ := HV.out.ok.lv k hkN
        have hkL : k < ll.length := by rw [← HLL.out, evl_length]; exact hkN
        have HLK : Hid (ll.getD k (0, 0) = (L.getD k 0, fnd f (L.getD k 0))) := by show ll.getD k (0, 0) = _; rw [← HLL.out, evl_get hkN, fnd_evs v2]
        obtain ⟨bl0, hbl0, _, _⟩ := HX.out.rl k hkL
        have hfx : fnd g (L.getD k 0) = -1 := by rw [← HGR.out]; exact mv_leaves HEE.out (getD_mem hkN)
        have HT : Hid (L.take (k + 1) = L.take k ++ [L.getD k 0]) := take_getD hkN
        obtain ⟨x, hx⟩ : ∃ x, L.getD k 0 = x := ⟨_, rfl⟩
        rw [hx] at hcell HLK hfx HT v1
        clear hx v2 v3
        have hwx := wok_wf v1
        have hff := find_any f x
        have hfg := find_any g x
        rw [hfx] at hfg
        obtain ⟨s, hs⟩ : ∃ s, fnd f x = s := ⟨_, rfl⟩
        rw [hs] at hff HLK
        clear hs hfx v1
        subst hal
        subst hbl0
        go_upto_region 12 with (fail)
        have hS0 := HX.out.later (drew_below wr)
        refine wp_region_held_drew (S := fun W => KX w W f g (some ⟨b, o, none⟩) aJ L J cL cJ sc bs B3 (some ⟨bl0, 0, none⟩) aj ll lj) (by kernel_rfl) hS0 (fun hH0 => ?_)
        have HM0 : Hid (Mi wr.drew bm k (L.take k)) := HM.out.later (drew_below wr)
        refine wpAnyH_take (i := 0) (oi := { dst := some 87, op := Op.move (Operand.tmp 4), type := _, pos := _, after := _, guard := none }) (v := .slice (some ⟨bl0, 0, none⟩) L.length kl) rfl (by kernel_rfl) (by kernel_rfl) (by kernel_rfl) (fun _ _ _ h => h) (Or.inl ⟨by rfl, fun w hSw => by (try dsimp only at hSw); go_simp⟩) (by assumption) ?_
        simp only [Act.put, List.setIfInBounds_toArray, List.set_cons_zero, List.set_cons_succ]
        refine wpAnyH_take (i := 1) (oi := { dst := some 88, op := Op.move (Operand.tmp 8), type := _, pos := _, after := _, guard := none }) (v := .int .i64 (k : Int)) rfl (by kernel_rfl) (by kernel_rfl) (by kernel_rfl) (fun _ _ _ h => h) (Or.inl ⟨by rfl, fun w hSw => by (try dsimp only at hSw); go_simp⟩) (by assumption) ?_
        simp only [Act.put, List.setIfInBounds_toArray, List.set_cons_zero, List.set_cons_succ]
        refine wpAnyH_take (i := 2) (oi := { dst := some 89, op := Op.indexAddr 42 (Operand.tmp 87) (Operand.tmp 88), type := _, pos := _, after := _, guard := none }) (v := .pointer (some ⟨bl0, k * 2, none⟩)) rfl (by kernel_rfl) (by kernel_rfl) (by kernel_rfl) (fun _ _ _ h => h) (Or.inl ⟨by rfl, fun w hSw => by (try dsimp only at hSw); go_simp⟩) (by assumption) ?_
        simp only [Act.put, List.setIfInBounds_toArray, List.set_cons_zero, List.set_cons_succ]
        refine wpAnyH_take (i := 3) (oi := { dst := some 90, op := Op.fieldAddr 49 (Operand.tmp 89) 0, type := _, pos := _, after := _, guard := none }) (v := .pointer (some ⟨bl0, k * 2, none⟩)) rfl (by kernel_rfl) (by kernel_rfl) (by kernel_rfl) (fun _ _ _ h => h) (Or.inl ⟨by rfl, fun w hSw => by (try dsimp only at hSw); go_simp⟩) (by assumption) ?_
        simp only [Act.put, List.setIfInBounds_toArray, List.set_cons_zero, List.set_cons_succ]
        refine wpAnyH_take (i := 4) (oi := { dst := some 91, op := Op.load 3 (Operand.tmp 90), type := _, pos := _, after := _, guard := none }) (v := .int .i64 x) rfl (by kernel_rfl) (by kernel_rfl) (by kernel_rfl) (fun _ _ _ h => h) (Or.inl ⟨by rfl, fun w hSw => by obtain ⟨bq, eq0, d0, d1⟩ := KX.rl hSw k hkL; rw [HLK.out] at d0 d1; simp at eq0; subst eq0; clear hSw; go_simp⟩) (by assumption) ?_
        simp only [Act.put, List.setIfInBounds_toArray, List.set_cons_zero, List.set_cons_succ]
        refine wpAnyH_take (i := 5) (oi := { dst := some 92, op := Op.move (Operand.tmp 9), type := _, pos := _, after := _, guard := none }) (v := .int .i64 x) rfl (by kernel_rfl) (by kernel_rfl) (by kernel_rfl) (fun _ _ _ h => h) (Or.inl ⟨by rfl, fun w hSw => by (try dsimp only at hSw); go_simp⟩) (by assumption) ?_
        simp only [Act.put, List.setIfInBounds_toArray, List.set_cons_zero, List.set_cons_succ]
        refine wpAnyH_take (i := 6) (oi := { dst := some 93, op := Op.binOp BinOp.neq 3 (Operand.tmp 91) (Operand.tmp 92) 3, type := _, pos := _, after := _, guard := none }) (v := .bool false) rfl (by kernel_rfl) (by kernel_rfl) (by kernel_rfl) (fun _ _ _ h => h) (Or.inl ⟨by rfl, fun w hSw => by (try dsimp only at hSw); go_simp⟩) (by assumption) ?_
        simp only [Act.put, List.setIfInBounds_toArray, List.set_cons_zero, List.set_cons_succ]
        refine wpAnyH_take (i := 7) (oi := { dst := some 94, op := Op.move (Operand.tmp 93), type := _, pos := _, after := _, guard := none }) (v := .bool false) rfl (by kernel_rfl) (by kernel_rfl) (by kernel_rfl) (fun _ _ _ h => h) (Or.inl ⟨by rfl, fun w hSw => by (try dsimp only at hSw); go_simp⟩) (by assumption) ?_
        simp only [Act.put, List.setIfInBounds_toArray, List.set_cons_zero, List.set_cons_succ]
        refine wpAnyH_take (i := 8) (oi := { dst := some 95, op := Op.move (Operand.tmp 4), type := _, pos := _, after := _, guard := some (7, false) }) (v := .slice (some ⟨bl0, 0, none⟩) L.length kl) rfl (by kernel_rfl) (by kernel_rfl) (by kernel_rfl) (fun _ _ _ h => h) (Or.inl ⟨by rfl, fun w hSw => by (try dsimp only at hSw); go_simp⟩) (by assumption) ?_
        simp only [Act.put, List.setIfInBounds_toArray, List.set_cons_zero, List.set_cons_succ]
        refine wpAnyH_take (i := 9) (oi := { dst := some 96, op := Op.move (Operand.tmp 8), type := _, pos := _, after := _, guard := some (7, false) }) (v := .int .i64 (k : Int)) rfl (by kernel_rfl) (by kernel_rfl) (by kernel_rfl) (fun _ _ _ h => h) (Or.inl ⟨by rfl, fun w hSw => by (try dsimp only at hSw); go_simp⟩) (by assumption) ?_
        simp only [Act.put, List.setIfInBounds_toArray, List.set_cons_zero, List.set_cons_succ]
        refine wpAnyH_take (i := 10) (oi := { dst := some 97, op := Op.indexAddr 42 (Operand.tmp 95) (Operand.tmp 96), type := _, pos := _, after := _, guard := some (7, false) }) (v := .pointer (some ⟨bl0, k * 2, none⟩)) rfl (by kernel_rfl) (by kernel_rfl) (by kernel_rfl) (fun _ _ _ h => h) (Or.inl ⟨by rfl, fun w hSw => by (try dsimp only at hSw); go_simp⟩) (by assumption) ?_
        simp only [Act.put, List.setIfInBounds_toArray, List.set_cons_zero, List.set_cons_succ]
        refine wpAnyH_take (i := 11) (oi := { dst := some 98, op := Op.fieldAddr 49 (Operand.tmp 97) 1, type := _, pos := _, after := _, guard := some (7, false) }) (v := .pointer (some ⟨bl0, k * 2 + 1, none⟩)) rfl (by kernel_rfl) (by kernel_rfl) (by kernel_rfl) (fun _ _ _ h => h) (Or.inl ⟨by rfl, fun w hSw => by (try dsimp only at hSw); go_simp⟩) (by assumption) ?_
        simp only [Act.put, List.setIfInBounds_toArray, List.set_cons_zero, List.set_cons_succ]
        refine wpAnyH_take (i := 12) (oi := { dst := some 99, op := Op.load 3 (Operand.tmp 98), type := _, pos := _, after := _, guard := some (7, false) }) (v := .int .i64 s) rfl (by kernel_rfl) (by kernel_rfl) (by kernel_rfl) (fun _ _ _ h => h) (Or.inl ⟨by rfl, fun w hSw => by obtain ⟨bq, eq0, d0, d1⟩ := KX.rl hSw k hkL; rw [HLK.out] at d0 d1; simp at eq0; subst eq0; clear hSw; go_simp⟩) (by assumption) ?_
        simp only [Act.put, List.setIfInBounds_toArray, List.set_cons_zero, List.set_cons_succ]
        refine wpAnyH_take (i := 13) (oi := { dst := some 100, op := Op.fieldAddr 41 (Operand.tmp 1) 0, type := _, pos := _, after := _, guard := some (7, false) }) (v := .pointer (some ⟨w.heap.size, 0, none⟩)) rfl (by kernel_rfl) (by kernel_rfl) (by kernel_rfl) (fun _ _ _ h => h) (Or.inl ⟨by rfl, fun w hSw => by (try dsimp only at hSw); go_simp⟩) (by assumption) ?_
        simp only [Act.put, List.setIfInBounds_toArray, List.set_cons_zero, List.set_cons_succ]
        refine wpAnyH_take (i := 14) (oi := { dst := some 101, op := Op.load 25 (Operand.tmp 100), type := _, pos := _, after := _, guard := some (7, false) }) (v := .agg (rcs f)) rfl (by kernel_rfl) (by kernel_rfl) (by kernel_rfl) (fun _ _ _ h => h) (Or.inl ⟨by rfl, fun w hSw => CaAt.exec (KX.ca hSw) rfl rfl⟩) (by assumption) ?_
        simp only [Act.put, List.setIfInBounds_toArray, List.set_cons_zero, List.set_cons_succ]
        refine wpAnyH_take (i := 15) (oi := { dst := some 102, op := Op.move (Operand.tmp 9), type := _, pos := _, after := _, guard := some (7, false) }) (v := .int .i64 x) rfl (by kernel_rfl) (by kernel_rfl) (by kernel_rfl) (fun _ _ _ h => h) (Or.inl ⟨by rfl, fun w hSw => by (try dsimp only at hSw); go_simp⟩) (by assumption) ?_
        simp only [Act.put, List.setIfInBounds_toArray, List.set_cons_zero, List.set_cons_succ]
        refine wpAnyH_ready (rs := [16]) (by kernel_rfl) (by simp) ?_
        refine AllReadyH.cons rfl (fun K hK => ?_) AllReadyH.nil
        go_simp
        refine (hff _).mono ?_
        rintro e u1 ⟨rfl, hb1⟩
        have HM1 : Hid (Mi u1 bm k (L.take k)) := HM0.out.later hb1
        go_wp2_with fail
        refine hK.out _ _ (KX.later hH0 hb1) (fun hH1 => ?_)
        clear hb1 hH0
        clear hK K
        try simp only [Act.put, List.setIfInBounds_toArray, List.set_cons_zero, List.set_cons_succ]
        refine wpAnyH_take (i := 17) (oi := { dst := some 104, op := Op.binOp BinOp.neq 3 (Operand.tmp 99) (Operand.tmp 103) 3, type := _, pos := _, after := _, guard := some (7, false) }) (v := .bool false) rfl (by kernel_rfl) (by kernel_rfl) (by kernel_rfl) (fun _ _ _ h => h) (Or.inl ⟨by rfl, fun w hSw => by (try dsimp only at hSw); go_simp⟩) (by assumption) ?_
        simp only [Act.put, List.setIfInBounds_toArray, List.set_cons_zero, List.set_cons_succ]
        refine wpAnyH_take (i := 18) (oi := { dst := some 105, op := Op.pick (Operand.tmp 94) (Operand.const (Value.bool true)) (Operand.tmp 104), type := _, pos := _, after := _, guard := none }) (v := .bool false) rfl (by kernel_rfl) (by kernel_rfl) (by kernel_rfl) (fun _ _ _ h => h) (Or.inl ⟨by rfl, fun w hSw => by (try dsimp only at hSw); go_simp⟩) (by assumption) ?_
        simp only [Act.put, List.setIfInBounds_toArray, List.set_cons_zero, List.set_cons_succ]
        refine wpAnyH_take (i := 19) (oi := { dst := some 106, op := Op.move (Operand.tmp 105), type := _, pos := _, after := _, guard := none }) (v := .bool false) rfl (by kernel_rfl) (by kernel_rfl) (by kernel_rfl) (fun _ _ _ h => h) (Or.inl ⟨by rfl, fun w hSw => by (try dsimp only at hSw); go_simp⟩) (by assumption) ?_
        simp only [Act.put, List.setIfInBounds_toArray, List.set_cons_zero, List.set_cons_succ]
        refine wpAnyH_take (i := 20) (oi := { dst := some 107, op := Op.load 25 (Operand.tmp 3), type := _, pos := _, after := _, guard := some (19, false) }) (v := .agg (rcs g)) rfl (by kernel_rfl) (by kernel_rfl) (by kernel_rfl) (fun _ _ _ h => h) (Or.inl ⟨by rfl, fun w hSw => ld25_exec (KX.ro hSw) rfl rfl⟩) (by assumption) ?_
        simp only [Act.put, List.setIfInBounds_toArray, List.set_cons_zero, List.set_cons_succ]
        refine wpAnyH_take (i := 21) (oi := { dst := some 108, op := Op.move (Operand.tmp 9), type := _, pos := _, after := _, guard := some (19, false) }) (v := .int .i64 x) rfl (by kernel_rfl) (by kernel_rfl) (by kernel_rfl) (fun _ _ _ h => h) (Or.inl ⟨by rfl, fun w hSw => by (try dsimp only at hSw); go_simp⟩) (by assumption) ?_
        simp only [Act.put, List.setIfInBounds_toArray, List.set_cons_zero, List.set_cons_succ]
        refine wpAnyH_ready (rs := [22]) (by kernel_rfl) (by simp) ?_
        refine AllReadyH.cons rfl (fun K hK => ?_) AllReadyH.nil
        go_simp
        refine (hfg _).mono ?_
        rintro e u2 ⟨rfl, hb2⟩
        have HM2 : Hid (Mi u2 bm k (L.take k)) := HM1.out.later hb2
        go_wp2_with fail
        refine hK.out _ _ (KX.later hH1 hb2) (fun hH2 => ?_)
        clear hb2 hH1
        clear hK K
        try simp only [Act.put, List.setIfInBounds_toArray, List.set_cons_zero, List.set_cons_succ]
        refine wpAnyH_take (i := 23) (oi := { dst := some 110, op := Op.binOp BinOp.neq 3 (Operand.tmp 109) (Operand.const (Value.int IntKind.i64 (-1))) 3, type := _, pos := _, after := _, guard := some (19, false) }) (v := .bool false) rfl (by kernel_rfl) (by kernel_rfl) (by kernel_rfl) (fun _ _ _ h => h) (Or.inl ⟨by rfl, fun w hSw => by (try dsimp only at hSw); go_simp⟩) (by assumption) ?_
        simp only [Act.put, List.setIfInBounds_toArray, List.set_cons_zero, List.set_cons_succ]
        refine wpAnyH_take (i := 24) (oi := { dst := some 111, op := Op.pick (Operand.tmp 106) (Operand.const (Value.bool true)) (Operand.tmp 110), type := _, pos := _, after := _, guard := none }) (v := .bool false) rfl (by kernel_rfl) (by kernel_rfl) (by kernel_rfl) (fun _ _ _ h => h) (Or.inl ⟨by rfl, fun w hSw => by (try dsimp only at hSw); go_simp⟩) (by assumption) ?_
        simp only [Act.put, List.setIfInBounds_toArray, List.set_cons_zero, List.set_cons_succ]
        refine wpAnyH_done (by kernel_rfl) ?_ _
        clear hff hfg hS0 HX HM HM0 HM1
        go_wp2_with (refine Mi.upd HM2.out (by omega) hwx rfl _ _ _ rfl rfl rfl rfl ?_; intro w9 hm9 hg9)
        go_roundw
        case rel => exact ⟨k + 1, by omega, by go_num, KX.grown hH2 HM2.out hg9 hbm, by rw [HT.out]; exact hm9⟩
        case measure => simp [intOf]; omega
      · obtain rfl : k = L.length := by omega
        have hdk : decide ((L.length : Int) < (L.length : Int)) = false := by simp
        obtain ⟨w9, hw9⟩ : ∃ w9, wr = w9 := ⟨_, rfl⟩
        rw [hw9] at HX HM ⊢
        clear hw9
        obtain ⟨x0, x1, x2, x3⟩ := (KX.ca HX.out).cells
        have HX9 : Hid (KX w w9 f g aL aJ L J cL cJ sc bs B3 al aj ll lj) := HX.out
        have HM9 : Hid (Mi w9 bm L.length L) := by have h := HM.out; rw [List.take_length] at h; exact h
        clear HX HM
        go_wp2_with fail
        go_loopw [119] (fun i wx => ∃ k : Nat, k ≤ J.length ∧ i = .int .i64 (k : Int) ∧ KX w wx f g aL aJ L J cL cJ sc bs B3 al aj ll lj ∧ Mi wx bm L.length L) (fun i _ => J.length - (intOf i).toNat)
        case atStart => exact ⟨0, by omega, rfl, HX9.out, HM9.out⟩
        case round =>
          obtain ⟨k, hk, rfl, hx, hmi⟩ := hrel
          have HX : Hid (KX w wr f g aL aJ L J cL cJ sc bs B3 al aj ll lj) := hx
          have HM : Hid (Mi wr bm L.length L) := hmi
          clear hx hmi HX9 HM9 x0 x1 x2 x3
          by_cases hkN : k < J.length
          · have i1 : (0 : Int) ≤ (k : Int) := by omega
            have i2 : (k : Int) < (J.length : Int) := by omega
            obtain ⟨b, o, hal, hcell⟩ := (rJ.later HX.out.bel) k hkN
            obtain ⟨v1, v2, v3⟩ := HV.out.ok.jn k hkN
            have hkJ : k < lj.length := by rw [← HLJ.out, adl_length]; exact hkN
            have HJK : Hid (lj.getD k (0, 0) = (J.getD k 0, (((mvT f L J).getD k 0 : Nat) : Int))) := by show lj.getD k (0, 0) = _; rw [← HLJ.out, adl_get _ _ _ hkN]
            obtain ⟨bl0, hbl0, _, _⟩ := HX.out.rj k hkJ
            have hgx : fnd g (J.getD k 0) = (((mvT f L J).getD k 0 : Nat) : Int) := by rw [← HGR.out]; exact mv_joins HEE.out hkN
            have hfx : fnd f (J.getD k 0) = -1 := by rw [on_ne] at v3; simpa using v3
            obtain ⟨x, hx⟩ : ∃ x, J.getD k 0 = x := ⟨_, rfl⟩
            rw [hx] at hcell HJK hgx hfx
            obtain ⟨s, hs⟩ : ∃ s : Int, (((mvT f L J).getD k 0 : Nat) : Int) = s := ⟨_, rfl⟩
            have hs0 : ¬ s < 0 := by omega
            have hs1 : decide (s < 0) = false := decide_eq_false hs0
            rw [hs] at HJK hgx
            clear hx v1 v2 v3 hs hs0
            have hff := find_any f x
            have hfg := find_any g x
            rw [hfx] at hff
            rw [hgx] at hfg
            clear hfx hgx
            subst hal
            subst hbl0
            go_upto_region 19 with (fail)
            have hS0 := HX.out.later (drew_below wr)
            refine wp_region_held_drew (S := fun W => KX w W f g aL (some ⟨b, o, none⟩) L J cL cJ sc bs B3 al (some ⟨bl0, 0, none⟩) ll lj) (by kernel_rfl) hS0 (fun hH0 => ?_)
            have HM0 : Hid (Mi wr.drew bm L.length L) := HM.out.later (drew_below wr)
            refine wpAnyH_take (i := 0) (oi := { dst := some 124, op := Op.move (Operand.tmp 5), type := _, pos := _, after := _, guard := none }) (v := .slice (some ⟨bl0, 0, none⟩) J.length kj) rfl (by kernel_rfl) (by kernel_rfl) (by kernel_rfl) (fun _ _ _ h => h) (Or.inl ⟨by rfl, fun w hSw => by (try dsimp only at hSw); go_simp⟩) (by assumption) ?_
            simp only [Act.put, List.setIfInBounds_toArray, List.set_cons_zero, List.set_cons_succ]
            refine wpAnyH_take (i := 1) (oi := { dst := some 125, op := Op.move (Operand.tmp 10), type := _, pos := _, after := _, guard := none }) (v := .int .i64 (k : Int)) rfl (by kernel_rfl) (by kernel_rfl) (by kernel_rfl) (fun _ _ _ h => h) (Or.inl ⟨by rfl, fun w hSw => by (try dsimp only at hSw); go_simp⟩) (by assumption) ?_
            simp only [Act.put, List.setIfInBounds_toArray, List.set_cons_zero, List.set_cons_succ]
            refine wpAnyH_take (i := 2) (oi := { dst := some 126, op := Op.indexAddr 42 (Operand.tmp 124) (Operand.tmp 125), type := _, pos := _, after := _, guard := none }) (v := .pointer (some ⟨bl0, k * 2, none⟩)) rfl (by kernel_rfl) (by kernel_rfl) (by kernel_rfl) (fun _ _ _ h => h) (Or.inl ⟨by rfl, fun w hSw => by (try dsimp only at hSw); go_simp⟩) (by assumption) ?_
            simp only [Act.put, List.setIfInBounds_toArray, List.set_cons_zero, List.set_cons_succ]
            refine wpAnyH_take (i := 3) (oi := { dst := some 127, op := Op.fieldAddr 49 (Operand.tmp 126) 0, type := _, pos := _, after := _, guard := none }) (v := .pointer (some ⟨bl0, k * 2, none⟩)) rfl (by kernel_rfl) (by kernel_rfl) (by kernel_rfl) (fun _ _ _ h => h) (Or.inl ⟨by rfl, fun w hSw => by (try dsimp only at hSw); go_simp⟩) (by assumption) ?_
            simp only [Act.put, List.setIfInBounds_toArray, List.set_cons_zero, List.set_cons_succ]
            refine wpAnyH_take (i := 4) (oi := { dst := some 128, op := Op.load 3 (Operand.tmp 127), type := _, pos := _, after := _, guard := none }) (v := .int .i64 x) rfl (by kernel_rfl) (by kernel_rfl) (by kernel_rfl) (fun _ _ _ h => h) (Or.inl ⟨by rfl, fun w hSw => by obtain ⟨bq, eq0, d0, d1⟩ := KX.rj hSw k hkJ; rw [HJK.out] at d0 d1; simp at eq0; subst eq0; clear hSw; go_simp⟩) (by assumption) ?_
            simp only [Act.put, List.setIfInBounds_toArray, List.set_cons_zero, List.set_cons_succ]
            refine wpAnyH_take (i := 5) (oi := { dst := some 129, op := Op.move (Operand.tmp 11), type := _, pos := _, after := _, guard := none }) (v := .int .i64 x) rfl (by kernel_rfl) (by kernel_rfl) (by kernel_rfl) (fun _ _ _ h => h) (Or.inl ⟨by rfl, fun w hSw => by (try dsimp only at hSw); go_simp⟩) (by assumption) ?_
            simp only [Act.put, List.setIfInBounds_toArray, List.set_cons_zero, List.set_cons_succ]
            refine wpAnyH_take (i := 6) (oi := { dst := some 130, op := Op.binOp BinOp.neq 3 (Operand.tmp 128) (Operand.tmp 129) 3, type := _, pos := _, after := _, guard := none }) (v := .bool false) rfl (by kernel_rfl) (by kernel_rfl) (by kernel_rfl) (fun _ _ _ h => h) (Or.inl ⟨by rfl, fun w hSw => by (try dsimp only at hSw); go_simp⟩) (by assumption) ?_
            simp only [Act.put, List.setIfInBounds_toArray, List.set_cons_zero, List.set_cons_succ]
            refine wpAnyH_take (i := 7) (oi := { dst := some 131, op := Op.move (Operand.tmp 130), type := _, pos := _, after := _, guard := none }) (v := .bool false) rfl (by kernel_rfl) (by kernel_rfl) (by kernel_rfl) (fun _ _ _ h => h) (Or.inl ⟨by rfl, fun w hSw => by (try dsimp only at hSw); go_simp⟩) (by assumption) ?_
            simp only [Act.put, List.setIfInBounds_toArray, List.set_cons_zero, List.set_cons_succ]
            refine wpAnyH_take (i := 8) (oi := { dst := some 132, op := Op.load 25 (Operand.tmp 3), type := _, pos := _, after := _, guard := some (7, false) }) (v := .agg (rcs g)) rfl (by kernel_rfl) (by kernel_rfl) (by kernel_rfl) (fun _ _ _ h => h) (Or.inl ⟨by rfl, fun w hSw => ld25_exec (KX.ro hSw) rfl rfl⟩) (by assumption) ?_
            simp only [Act.put, List.setIfInBounds_toArray, List.set_cons_zero, List.set_cons_succ]
            refine wpAnyH_take (i := 9) (oi := { dst := some 133, op := Op.move (Operand.tmp 11), type := _, pos := _, after := _, guard := some (7, false) }) (v := .int .i64 x) rfl (by kernel_rfl) (by kernel_rfl) (by kernel_rfl) (fun _ _ _ h => h) (Or.inl ⟨by rfl, fun w hSw => by (try dsimp only at hSw); go_simp⟩) (by assumption) ?_
            simp only [Act.put, List.setIfInBounds_toArray, List.set_cons_zero, List.set_cons_succ]
            refine wpAnyH_take (i := 11) (oi := { dst := some 135, op := Op.move (Operand.tmp 5), type := _, pos := _, after := _, guard := some (7, false) }) (v := .slice (some ⟨bl0, 0, none⟩) J.length kj) rfl (by kernel_rfl) (by kernel_rfl) (by kernel_rfl) (fun _ _ _ h => h) (Or.inl ⟨by rfl, fun w hSw => by (try dsimp only at hSw); go_simp⟩) (by assumption) ?_
            simp only [Act.put, List.setIfInBounds_toArray, List.set_cons_zero, List.set_cons_succ]
            refine wpAnyH_take (i := 12) (oi := { dst := some 136, op := Op.move (Operand.tmp 10), type := _, pos := _, after := _, guard := some (7, false) }) (v := .int .i64 (k : Int)) rfl (by kernel_rfl) (by kernel_rfl) (by kernel_rfl) (fun _ _ _ h => h) (Or.inl ⟨by rfl, fun w hSw => by (try dsimp only at hSw); go_simp⟩) (by assumption) ?_
            simp only [Act.put, List.setIfInBounds_toArray, List.set_cons_zero, List.set_cons_succ]
            refine wpAnyH_take (i := 13) (oi := { dst := some 137, op := Op.indexAddr 42 (Operand.tmp 135) (Operand.tmp 136), type := _, pos := _, after := _, guard := some (7, false) }) (v := .pointer (some ⟨bl0, k * 2, none⟩)) rfl (by kernel_rfl) (by kernel_rfl) (by kernel_rfl) (fun _ _ _ h => h) (Or.inl ⟨by rfl, fun w hSw => by (try dsimp only at hSw); go_simp⟩) (by assumption) ?_
            simp only [Act.put, List.setIfInBounds_toArray, List.set_cons_zero, List.set_cons_succ]
            refine wpAnyH_take (i := 14) (oi := { dst := some 138, op := Op.fieldAddr 49 (Operand.tmp 137) 1, type := _, pos := _, after := _, guard := some (7, false) }) (v := .pointer (some ⟨bl0, k * 2 + 1, none⟩)) rfl (by kernel_rfl) (by kernel_rfl) (by kernel_rfl) (fun _ _ _ h => h) (Or.inl ⟨by rfl, fun w hSw => by (try dsimp only at hSw); go_simp⟩) (by assumption) ?_
            simp only [Act.put, List.setIfInBounds_toArray, List.set_cons_zero, List.set_cons_succ]
            refine wpAnyH_take (i := 15) (oi := { dst := some 139, op := Op.load 3 (Operand.tmp 138), type := _, pos := _, after := _, guard := some (7, false) }) (v := .int .i64 s) rfl (by kernel_rfl) (by kernel_rfl) (by kernel_rfl) (fun _ _ _ h => h) (Or.inl ⟨by rfl, fun w hSw => by obtain ⟨bq, eq0, d0, d1⟩ := KX.rj hSw k hkJ; rw [HJK.out] at d0 d1; simp at eq0; subst eq0; clear hSw; go_simp⟩) (by assumption) ?_
            simp only [Act.put, List.setIfInBounds_toArray, List.set_cons_zero, List.set_cons_succ]
            refine wpAnyH_ready (rs := [10]) (by kernel_rfl) (by simp) ?_
            refine AllReadyH.cons rfl (fun K hK => ?_) AllReadyH.nil
            go_simp
            refine (hfg _).mono ?_
            rintro e u1 ⟨rfl, hb1⟩
            have HM1 : Hid (Mi u1 bm L.length L) := HM0.out.later hb1
            go_wp2_with fail
            refine hK.out _ _ (KX.later hH0 hb1) (fun hH1 => ?_)
            clear hb1 hH0
            clear hK K
            try simp only [Act.put, List.setIfInBounds_toArray, List.set_cons_zero, List.set_cons_succ]
            refine wpAnyH_take (i := 16) (oi := { dst := some 140, op := Op.binOp BinOp.neq 3 (Operand.tmp 134) (Operand.tmp 139) 3, type := _, pos := _, after := _, guard := some (7, false) }) (v := .bool false) rfl (by kernel_rfl) (by kernel_rfl) (by kernel_rfl) (fun _ _ _ h => h) (Or.inl ⟨by rfl, fun w hSw => by (try dsimp only at hSw); go_simp⟩) (by assumption) ?_
            simp only [Act.put, List.setIfInBounds_toArray, List.set_cons_zero, List.set_cons_succ]
            refine wpAnyH_take (i := 17) (oi := { dst := some 141, op := Op.pick (Operand.tmp 131) (Operand.const (Value.bool true)) (Operand.tmp 140), type := _, pos := _, after := _, guard := none }) (v := .bool false) rfl (by kernel_rfl) (by kernel_rfl) (by kernel_rfl) (fun _ _ _ h => h) (Or.inl ⟨by rfl, fun w hSw => by (try dsimp only at hSw); go_simp⟩) (by assumption) ?_
            simp only [Act.put, List.setIfInBounds_toArray, List.set_cons_zero, List.set_cons_succ]
            refine wpAnyH_take (i := 18) (oi := { dst := some 142, op := Op.move (Operand.tmp 141), type := _, pos := _, after := _, guard := none }) (v := .bool false) rfl (by kernel_rfl) (by kernel_rfl) (by kernel_rfl) (fun _ _ _ h => h) (Or.inl ⟨by rfl, fun w hSw => by (try dsimp only at hSw); go_simp⟩) (by assumption) ?_
            simp only [Act.put, List.setIfInBounds_toArray, List.set_cons_zero, List.set_cons_succ]
            refine wpAnyH_take (i := 19) (oi := { dst := some 143, op := Op.move (Operand.tmp 5), type := _, pos := _, after := _, guard := some (18, false) }) (v := .slice (some ⟨bl0, 0, none⟩) J.length kj) rfl (by kernel_rfl) (by kernel_rfl) (by kernel_rfl) (fun _ _ _ h => h) (Or.inl ⟨by rfl, fun w hSw => by (try dsimp only at hSw); go_simp⟩) (by assumption) ?_
            simp only [Act.put, List.setIfInBounds_toArray, List.set_cons_zero, List.set_cons_succ]
            refine wpAnyH_take (i := 20) (oi := { dst := some 144, op := Op.move (Operand.tmp 10), type := _, pos := _, after := _, guard := some (18, false) }) (v := .int .i64 (k : Int)) rfl (by kernel_rfl) (by kernel_rfl) (by kernel_rfl) (fun _ _ _ h => h) (Or.inl ⟨by rfl, fun w hSw => by (try dsimp only at hSw); go_simp⟩) (by assumption) ?_
            simp only [Act.put, List.setIfInBounds_toArray, List.set_cons_zero, List.set_cons_succ]
            refine wpAnyH_take (i := 21) (oi := { dst := some 145, op := Op.indexAddr 42 (Operand.tmp 143) (Operand.tmp 144), type := _, pos := _, after := _, guard := some (18, false) }) (v := .pointer (some ⟨bl0, k * 2, none⟩)) rfl (by kernel_rfl) (by kernel_rfl) (by kernel_rfl) (fun _ _ _ h => h) (Or.inl ⟨by rfl, fun w hSw => by (try dsimp only at hSw); go_simp⟩) (by assumption) ?_
            simp only [Act.put, List.setIfInBounds_toArray, List.set_cons_zero, List.set_cons_succ]
            refine wpAnyH_take (i := 22) (oi := { dst := some 146, op := Op.fieldAddr 49 (Operand.tmp 145) 1, type := _, pos := _, after := _, guard := some (18, false) }) (v := .pointer (some ⟨bl0, k * 2 + 1, none⟩)) rfl (by kernel_rfl) (by kernel_rfl) (by kernel_rfl) (fun _ _ _ h => h) (Or.inl ⟨by rfl, fun w hSw => by (try dsimp only at hSw); go_simp⟩) (by assumption) ?_
            simp only [Act.put, List.setIfInBounds_toArray, List.set_cons_zero, List.set_cons_succ]
            refine wpAnyH_take (i := 23) (oi := { dst := some 147, op := Op.load 3 (Operand.tmp 146), type := _, pos := _, after := _, guard := some (18, false) }) (v := .int .i64 s) rfl (by kernel_rfl) (by kernel_rfl) (by kernel_rfl) (fun _ _ _ h => h) (Or.inl ⟨by rfl, fun w hSw => by obtain ⟨bq, eq0, d0, d1⟩ := KX.rj hSw k hkJ; rw [HJK.out] at d0 d1; simp at eq0; subst eq0; clear hSw; go_simp⟩) (by assumption) ?_
            simp only [Act.put, List.setIfInBounds_toArray, List.set_cons_zero, List.set_cons_succ]
            refine wpAnyH_take (i := 24) (oi := { dst := some 148, op := Op.binOp BinOp.lss 3 (Operand.tmp 147) (Operand.const (Value.int IntKind.i64 0)) 3, type := _, pos := _, after := _, guard := some (18, false) }) (v := .bool false) rfl (by kernel_rfl) (by kernel_rfl) (by kernel_rfl) (fun _ _ _ h => h) (Or.inl ⟨by rfl, fun w hSw => by (try dsimp only at hSw); go_simp⟩) (by assumption) ?_
            simp only [Act.put, List.setIfInBounds_toArray, List.set_cons_zero, List.set_cons_succ]
            refine wpAnyH_take (i := 25) (oi := { dst := some 149, op := Op.pick (Operand.tmp 142) (Operand.const (Value.bool true)) (Operand.tmp 148), type := _, pos := _, after := _, guard := none }) (v := .bool false) rfl (by kernel_rfl) (by kernel_rfl) (by kernel_rfl) (fun _ _ _ h => h) (Or.inl ⟨by rfl, fun w hSw => by (try dsimp only at hSw); go_simp⟩) (by assumption) ?_
            simp only [Act.put, List.setIfInBounds_toArray, List.set_cons_zero, List.set_cons_succ]
            refine wpAnyH_take (i := 26) (oi := { dst := some 150, op := Op.move (Operand.tmp 149), type := _, pos := _, after := _, guard := none }) (v := .bool false) rfl (by kernel_rfl) (by kernel_rfl) (by kernel_rfl) (fun _ _ _ h => h) (Or.inl ⟨by rfl, fun w hSw => by (try dsimp only at hSw); go_simp⟩) (by assumption) ?_
            simp only [Act.put, List.setIfInBounds_toArray, List.set_cons_zero, List.set_cons_succ]
            refine wpAnyH_take (i := 27) (oi := { dst := some 151, op := Op.fieldAddr 41 (Operand.tmp 1) 0, type := _, pos := _, after := _, guard := some (26, false) }) (v := .pointer (some ⟨w.heap.size, 0, none⟩)) rfl (by kernel_rfl) (by kernel_rfl) (by kernel_rfl) (fun _ _ _ h => h) (Or.inl ⟨by rfl, fun w hSw => by (try dsimp only at hSw); go_simp⟩) (by assumption) ?_
            simp only [Act.put, List.setIfInBounds_toArray, List.set_cons_zero, List.set_cons_succ]
            refine wpAnyH_take (i := 28) (oi := { dst := some 152, op := Op.load 25 (Operand.tmp 151), type := _, pos := _, after := _, guard := some (26, false) }) (v := .agg (rcs f)) rfl (by kernel_rfl) (by kernel_rfl) (by kernel_rfl) (fun _ _ _ h => h) (Or.inl ⟨by rfl, fun w hSw => CaAt.exec (KX.ca hSw) rfl rfl⟩) (by assumption) ?_
            simp only [Act.put, List.setIfInBounds_toArray, List.set_cons_zero, List.set_cons_succ]
            refine wpAnyH_take (i := 29) (oi := { dst := some 153, op := Op.move (Operand.tmp 11), type := _, pos := _, after := _, guard := some (26, false) }) (v := .int .i64 x) rfl (by kernel_rfl) (by kernel_rfl) (by kernel_rfl) (fun _ _ _ h => h) (Or.inl ⟨by rfl, fun w hSw => by (try dsimp only at hSw); go_simp⟩) (by assumption) ?_
            simp only [Act.put, List.setIfInBounds_toArray, List.set_cons_zero, List.set_cons_succ]
            refine wpAnyH_ready (rs := [30]) (by kernel_rfl) (by simp) ?_
            refine AllReadyH.cons rfl (fun K hK => ?_) AllReadyH.nil
            go_simp
            refine (hff _).mono ?_
            rintro e u2 ⟨rfl, hb2⟩
            have HM2 : Hid (Mi u2 bm L.length L) := HM1.out.later hb2
            go_wp2_with fail
            refine hK.out _ _ (KX.later hH1 hb2) (fun hH2 => ?_)
            clear hb2 hH1
            clear hK K
            try simp only [Act.put, List.setIfInBounds_toArray, List.set_cons_zero, List.set_cons_succ]
            refine wpAnyH_take (i := 31) (oi := { dst := some 155, op := Op.binOp BinOp.neq 3 (Operand.tmp 154) (Operand.const (Value.int IntKind.i64 (-1))) 3, type := _, pos := _, after := _, guard := some (26, false) }) (v := .bool false) rfl (by kernel_rfl) (by kernel_rfl) (by kernel_rfl) (fun _ _ _ h => h) (Or.inl ⟨by rfl, fun w hSw => by (try dsimp only at hSw); go_simp⟩) (by assumption) ?_
            simp only [Act.put, List.setIfInBounds_toArray, List.set_cons_zero, List.set_cons_succ]
            refine wpAnyH_take (i := 32) (oi := { dst := some 156, op := Op.pick (Operand.tmp 150) (Operand.const (Value.bool true)) (Operand.tmp 155), type := _, pos := _, after := _, guard := none }) (v := .bool false) rfl (by kernel_rfl) (by kernel_rfl) (by kernel_rfl) (fun _ _ _ h => h) (Or.inl ⟨by rfl, fun w hSw => by (try dsimp only at hSw); go_simp⟩) (by assumption) ?_
            simp only [Act.put, List.setIfInBounds_toArray, List.set_cons_zero, List.set_cons_succ]
            refine wpAnyH_done (by kernel_rfl) ?_ _
            clear hff hfg hS0 HX HM HM0 HM1
            go_wp2_with fail
            go_roundw
            case rel => exact ⟨k + 1, by omega, by go_num, hH2, HM2.out⟩
            case measure => simp [intOf]; omega
          · obtain rfl : k = J.length := by omega
            have hdk2 : decide ((J.length : Int) < (J.length : Int)) = false := by simp
            go_upto_region 22 with (fail)
            obtain ⟨cf, hcf⟩ : ∃ cf, rcs f = cf := ⟨_, rfl⟩
            go_wp2_with (refine ld25c HX.out.ca rfl _ rfl rfl ?_)
            try rw [hcf]
            obtain ⟨w10, hw10⟩ : ∃ w10, wr = w10 := ⟨_, rfl⟩
            rw [hw10] at HX HM ⊢
            clear hw10
            go_loopw [160] (fun i wx => ∃ m : Nat, m ≤ 64 ∧ i = .int .i64 (m : Int) ∧ KX w wx f g aL aJ L J cL cJ sc bs B3 al aj ll lj ∧ Mi wx bm L.length L) (fun i _ => 64 - (intOf i).toNat)
            case atStart => exact ⟨0, by omega, rfl, HX.out, HM.out⟩
            case round =>
              obtain ⟨m, hm, rfl, hx, hmi⟩ := hrel
              by_cases hm8 : m < 64
              · have m8 : (m : Int) < 64 := by omega
                have hi := idx25 f m hm8
                rw [hcf] at hi
                have hE := EnAt.new wr (f m)
                have hBE := alloc_en wr (f m)
                have hwe := (HWF.out m hm8).1
                have HST : Hid (tkn (f m) = true → (f m).who ∉ L → g m = f m) := fun h1 h2 => by rw [← HGR.out]; exact mv_stays HEE.out h1 h2
                have hX5 := hx.later hBE
                have hM5 := hmi.later hBE
                obtain ⟨e, he⟩ : ∃ e, f m = e := ⟨_, rfl⟩
                rw [he] at hi hE hBE hwe HST hX5 hM5
                clear hcf he hx hmi HX HM
                go_upto_region 25 with (fail)
                generalize wr.alloc (.cells #[.int .i64 e.who, .int .i64 e.bas, .int .i64 e.snc] 23) = w11 at *
                generalize wr.heap.size = Be at *
                obtain ⟨nm, hnm⟩ : ∃ nm, L.length = nm := ⟨_, rfl⟩
                have hM6 : Mi w11 bm nm L := by rw [← hnm]; exact hM5
                have HNM : Hid (L.length = nm) := hnm
                have hS5 : KX w w11.drew f g aL aJ L J cL cJ sc bs B3 al aj ll lj ∧ EnAt w11.drew Be e ∧ Mi w11.drew bm nm L := ⟨hX5.later (drew_below _), hE.later (drew_below _), hM6.later (drew_below _)⟩
                clear hnm hM5 hM6 hX5 hE hBE hi
                cases htk : tkn e with
                | false =>
                  have q1 : (e.bas != 0) = false := by simp [tkn_neg htk]
                  refine wp_region_held_drew (S := fun W => KX w W f g aL aJ L J cL cJ sc bs B3 al aj ll lj ∧ EnAt W Be e ∧ Mi W bm nm L) (by kernel_rfl) hS5 (fun hH0 => ?_)
                  refine wpAnyH_take (i := 0) (oi := { dst := some 164, op := Op.fieldAddr 23 (Operand.tmp 13) 1, type := _, pos := _, after := _, guard := none }) (v := .pointer (some ⟨Be, 1, none⟩)) rfl (by kernel_rfl) (by kernel_rfl) (by kernel_rfl) (fun _ _ _ h => h) (Or.inl ⟨by rfl, fun w hSw => by (try dsimp only at hSw); go_simp⟩) (by assumption) ?_
                  simp only [Act.put, List.setIfInBounds_toArray, List.set_cons_zero, List.set_cons_succ]
                  refine wpAnyH_take (i := 1) (oi := { dst := some 165, op := Op.load 3 (Operand.tmp 164), type := _, pos := _, after := _, guard := none }) (v := .int .i64 e.bas) rfl (by kernel_rfl) (by kernel_rfl) (by kernel_rfl) (fun _ _ _ h => h) (Or.inl ⟨by rfl, fun w hSw => by obtain ⟨e0, e1, e2⟩ := EnAt.cells hSw.2.1; clear hSw; go_simp⟩) (by assumption) ?_
                  simp only [Act.put, List.setIfInBounds_toArray, List.set_cons_zero, List.set_cons_succ]
                  refine wpAnyH_take (i := 2) (oi := { dst := some 166, op := Op.binOp BinOp.neq 3 (Operand.tmp 165) (Operand.const (Value.int IntKind.i64 0)) 3, type := _, pos := _, after := _, guard := none }) (v := .bool false) rfl (by kernel_rfl) (by kernel_rfl) (by kernel_rfl) (fun _ _ _ h => h) (Or.inl ⟨by rfl, fun w hSw => by (try dsimp only at hSw); go_simp⟩) (by assumption) ?_
                  simp only [Act.put, List.setIfInBounds_toArray, List.set_cons_zero, List.set_cons_succ]
                  refine wpAnyH_take (i := 3) (oi := { dst := some 167, op := Op.move (Operand.tmp 166), type := _, pos := _, after := _, guard := none }) (v := .bool false) rfl (by kernel_rfl) (by kernel_rfl) (by kernel_rfl) (fun _ _ _ h => h) (Or.inl ⟨by rfl, fun w hSw => by (try dsimp only at hSw); go_simp⟩) (by assumption) ?_
                  simp only [Act.put, List.setIfInBounds_toArray, List.set_cons_zero, List.set_cons_succ]
                  refine wpAnyH_take (i := 4) (oi := { dst := some 168, op := Op.move (Operand.tmp 7), type := _, pos := _, after := _, guard := some (3, true) }) (v := undef) rfl (by kernel_rfl) (by kernel_rfl) (by kernel_rfl) (fun _ _ _ h => h) (Or.inr ⟨by rfl, rfl⟩) (by assumption) ?_
                  simp only [Act.put, List.setIfInBounds_toArray, List.set_cons_zero, List.set_cons_succ]
                  refine wpAnyH_take (i := 5) (oi := { dst := some 169, op := Op.fieldAddr 23 (Operand.tmp 13) 0, type := _, pos := _, after := _, guard := some (3, true) }) (v := undef) rfl (by kernel_rfl) (by kernel_rfl) (by kernel_rfl) (fun _ _ _ h => h) (Or.inr ⟨by rfl, rfl⟩) (by assumption) ?_
                  simp only [Act.put, List.setIfInBounds_toArray, List.set_cons_zero, List.set_cons_succ]
                  refine wpAnyH_take (i := 6) (oi := { dst := some 170, op := Op.load 3 (Operand.tmp 169), type := _, pos := _, after := _, guard := some (3, true) }) (v := undef) rfl (by kernel_rfl) (by kernel_rfl) (by kernel_rfl) (fun _ _ _ h => h) (Or.inr ⟨by rfl, rfl⟩) (by assumption) ?_
                  simp only [Act.put, List.setIfInBounds_toArray, List.set_cons_zero, List.set_cons_succ]
                  refine wpAnyH_take (i := 7) (oi := { dst := some 171, op := Op.lookup 47 (Operand.tmp 168) (Operand.tmp 170) false, type := _, pos := _, after := _, guard := some (3, true) }) (v := undef) rfl (by kernel_rfl) (by kernel_rfl) (by kernel_rfl) (fun _ _ _ h => h) (Or.inr ⟨by rfl, rfl⟩) (by assumption) ?_
                  simp only [Act.put, List.setIfInBounds_toArray, List.set_cons_zero, List.set_cons_succ]
                  refine wpAnyH_take (i := 8) (oi := { dst := some 172, op := Op.binOp BinOp.eql 3 (Operand.tmp 171) (Operand.const (Value.int IntKind.i64 0)) 3, type := _, pos := _, after := _, guard := some (3, true) }) (v := undef) rfl (by kernel_rfl) (by kernel_rfl) (by kernel_rfl) (fun _ _ _ h => h) (Or.inr ⟨by rfl, rfl⟩) (by assumption) ?_
                  simp only [Act.put, List.setIfInBounds_toArray, List.set_cons_zero, List.set_cons_succ]
                  refine wpAnyH_take (i := 9) (oi := { dst := some 173, op := Op.pick (Operand.tmp 167) (Operand.tmp 172) (Operand.const (Value.bool false)), type := _, pos := _, after := _, guard := none }) (v := .bool false) rfl (by kernel_rfl) (by kernel_rfl) (by kernel_rfl) (fun _ _ _ h => h) (Or.inl ⟨by rfl, fun w hSw => by (try dsimp only at hSw); go_simp⟩) (by assumption) ?_
                  simp only [Act.put, List.setIfInBounds_toArray, List.set_cons_zero, List.set_cons_succ]
                  refine wpAnyH_take (i := 10) (oi := { dst := some 174, op := Op.move (Operand.tmp 173), type := _, pos := _, after := _, guard := none }) (v := .bool false) rfl (by kernel_rfl) (by kernel_rfl) (by kernel_rfl) (fun _ _ _ h => h) (Or.inl ⟨by rfl, fun w hSw => by (try dsimp only at hSw); go_simp⟩) (by assumption) ?_
                  simp only [Act.put, List.setIfInBounds_toArray, List.set_cons_zero, List.set_cons_succ]
                  refine wpAnyH_take (i := 11) (oi := { dst := some 175, op := Op.move (Operand.tmp 12), type := _, pos := _, after := _, guard := some (10, true) }) (v := undef) rfl (by kernel_rfl) (by kernel_rfl) (by kernel_rfl) (fun _ _ _ h => h) (Or.inr ⟨by rfl, rfl⟩) (by assumption) ?_
                  simp only [Act.put, List.setIfInBounds_toArray, List.set_cons_zero, List.set_cons_succ]
                  refine wpAnyH_take (i := 12) (oi := { dst := some 176, op := Op.indexAddr 25 (Operand.tmp 3) (Operand.tmp 175), type := _, pos := _, after := _, guard := some (10, true) }) (v := undef) rfl (by kernel_rfl) (by kernel_rfl) (by kernel_rfl) (fun _ _ _ h => h) (Or.inr ⟨by rfl, rfl⟩) (by assumption) ?_
                  simp only [Act.put, List.setIfInBounds_toArray, List.set_cons_zero, List.set_cons_succ]
                  refine wpAnyH_take (i := 13) (oi := { dst := some 177, op := Op.load 23 (Operand.tmp 176), type := _, pos := _, after := _, guard := some (10, true) }) (v := undef) rfl (by kernel_rfl) (by kernel_rfl) (by kernel_rfl) (fun _ _ _ h => h) (Or.inr ⟨by rfl, rfl⟩) (by assumption) ?_
                  simp only [Act.put, List.setIfInBounds_toArray, List.set_cons_zero, List.set_cons_succ]
                  refine wpAnyH_take (i := 14) (oi := { dst := some 178, op := Op.load 23 (Operand.tmp 13), type := _, pos := _, after := _, guard := some (10, true) }) (v := undef) rfl (by kernel_rfl) (by kernel_rfl) (by kernel_rfl) (fun _ _ _ h => h) (Or.inr ⟨by rfl, rfl⟩) (by assumption) ?_
                  simp only [Act.put, List.setIfInBounds_toArray, List.set_cons_zero, List.set_cons_succ]
                  refine wpAnyH_take (i := 15) (oi := { dst := some 179, op := Op.binOp BinOp.neq 23 (Operand.tmp 177) (Operand.tmp 178) 23, type := _, pos := _, after := _, guard := some (10, true) }) (v := undef) rfl (by kernel_rfl) (by kernel_rfl) (by kernel_rfl) (fun _ _ _ h => h) (Or.inr ⟨by rfl, rfl⟩) (by assumption) ?_
                  simp only [Act.put, List.setIfInBounds_toArray, List.set_cons_zero, List.set_cons_succ]
                  refine wpAnyH_take (i := 16) (oi := { dst := some 180, op := Op.pick (Operand.tmp 174) (Operand.tmp 179) (Operand.const (Value.bool false)), type := _, pos := _, after := _, guard := none }) (v := .bool false) rfl (by kernel_rfl) (by kernel_rfl) (by kernel_rfl) (fun _ _ _ h => h) (Or.inl ⟨by rfl, fun w hSw => by (try dsimp only at hSw); go_simp⟩) (by assumption) ?_
                  simp only [Act.put, List.setIfInBounds_toArray, List.set_cons_zero, List.set_cons_succ]
                  refine wpAnyH_done (by kernel_rfl) ?_ _
                  go_wp2_with fail
                  go_roundw
                  case rel => exact ⟨m + 1, by omega, by go_num, hH0.1, by rw [HNM.out]; exact hH0.2.2⟩
                  case measure => simp [intOf]; omega
                | true =>
                  have q1 : (e.bas != 0) = true := by simp [tkn_pos htk]
                  by_cases hin : e.who ∈ L
                  · have hmk : mrk L e.who = 1 := by simp [mrk, hin]
                    refine wp_region_held_drew (S := fun W => KX w W f g aL aJ L J cL cJ sc bs B3 al aj ll lj ∧ EnAt W Be e ∧ Mi W bm nm L) (by kernel_rfl) hS5 (fun hH0 => ?_)
                    refine wpAnyH_take (i := 0) (oi := { dst := some 164, op := Op.fieldAddr 23 (Operand.tmp 13) 1, type := _, pos := _, after := _, guard := none }) (v := .pointer (some ⟨Be, 1, none⟩)) rfl (by kernel_rfl) (by kernel_rfl) (by kernel_rfl) (fun _ _ _ h => h) (Or.inl ⟨by rfl, fun w hSw => by (try dsimp only at hSw); go_simp⟩) (by assumption) ?_
                    simp only [Act.put, List.setIfInBounds_toArray, List.set_cons_zero, List.set_cons_succ]
                    refine wpAnyH_take (i := 1) (oi := { dst := some 165, op := Op.load 3 (Operand.tmp 164), type := _, pos := _, after := _, guard := none }) (v := .int .i64 e.bas) rfl (by kernel_rfl) (by kernel_rfl) (by kernel_rfl) (fun _ _ _ h => h) (Or.inl ⟨by rfl, fun w hSw => by obtain ⟨e0, e1, e2⟩ := EnAt.cells hSw.2.1; clear hSw; go_simp⟩) (by assumption) ?_
                    simp only [Act.put, List.setIfInBounds_toArray, List.set_cons_zero, List.set_cons_succ]
                    refine wpAnyH_take (i := 2) (oi := { dst := some 166, op := Op.binOp BinOp.neq 3 (Operand.tmp 165) (Operand.const (Value.int IntKind.i64 0)) 3, type := _, pos := _, after := _, guard := none }) (v := .bool true) rfl (by kernel_rfl) (by kernel_rfl) (by kernel_rfl) (fun _ _ _ h => h) (Or.inl ⟨by rfl, fun w hSw => by (try dsimp only at hSw); go_simp⟩) (by assumption) ?_
                    simp only [Act.put, List.setIfInBounds_toArray, List.set_cons_zero, List.set_cons_succ]
                    refine wpAnyH_take (i := 3) (oi := { dst := some 167, op := Op.move (Operand.tmp 166), type := _, pos := _, after := _, guard := none }) (v := .bool true) rfl (by kernel_rfl) (by kernel_rfl) (by kernel_rfl) (fun _ _ _ h => h) (Or.inl ⟨by rfl, fun w hSw => by (try dsimp only at hSw); go_simp⟩) (by assumption) ?_
                    simp only [Act.put, List.setIfInBounds_toArray, List.set_cons_zero, List.set_cons_succ]
                    refine wpAnyH_take (i := 4) (oi := { dst := some 168, op := Op.move (Operand.tmp 7), type := _, pos := _, after := _, guard := some (3, true) }) (v := .map (some bm)) rfl (by kernel_rfl) (by kernel_rfl) (by kernel_rfl) (fun _ _ _ h => h) (Or.inl ⟨by rfl, fun w hSw => by (try dsimp only at hSw); go_simp⟩) (by assumption) ?_
                    simp only [Act.put, List.setIfInBounds_toArray, List.set_cons_zero, List.set_cons_succ]
                    refine wpAnyH_take (i := 5) (oi := { dst := some 169, op := Op.fieldAddr 23 (Operand.tmp 13) 0, type := _, pos := _, after := _, guard := some (3, true) }) (v := .pointer (some ⟨Be, 0, none⟩)) rfl (by kernel_rfl) (by kernel_rfl) (by kernel_rfl) (fun _ _ _ h => h) (Or.inl ⟨by rfl, fun w hSw => by (try dsimp only at hSw); go_simp⟩) (by assumption) ?_
                    simp only [Act.put, List.setIfInBounds_toArray, List.set_cons_zero, List.set_cons_succ]
                    refine wpAnyH_take (i := 6) (oi := { dst := some 170, op := Op.load 3 (Operand.tmp 169), type := _, pos := _, after := _, guard := some (3, true) }) (v := .int .i64 e.who) rfl (by kernel_rfl) (by kernel_rfl) (by kernel_rfl) (fun _ _ _ h => h) (Or.inl ⟨by rfl, fun w hSw => by obtain ⟨e0, e1, e2⟩ := EnAt.cells hSw.2.1; clear hSw; go_simp⟩) (by assumption) ?_
                    simp only [Act.put, List.setIfInBounds_toArray, List.set_cons_zero, List.set_cons_succ]
                    refine wpAnyH_take (i := 7) (oi := { dst := some 171, op := Op.lookup 47 (Operand.tmp 168) (Operand.tmp 170) false, type := _, pos := _, after := _, guard := some (3, true) }) (v := .int .i64 1) rfl (by kernel_rfl) (by kernel_rfl) (by kernel_rfl) (fun _ _ _ h => h) (Or.inl ⟨by rfl, fun w hSw => by rw [Mi.exec hSw.2.2 hwe rfl rfl rfl, hmk]⟩) (by assumption) ?_
                    simp only [Act.put, List.setIfInBounds_toArray, List.set_cons_zero, List.set_cons_succ]
                    refine wpAnyH_take (i := 8) (oi := { dst := some 172, op := Op.binOp BinOp.eql 3 (Operand.tmp 171) (Operand.const (Value.int IntKind.i64 0)) 3, type := _, pos := _, after := _, guard := some (3, true) }) (v := .bool false) rfl (by kernel_rfl) (by kernel_rfl) (by kernel_rfl) (fun _ _ _ h => h) (Or.inl ⟨by rfl, fun w hSw => by (try dsimp only at hSw); go_simp⟩) (by assumption) ?_
                    simp only [Act.put, List.setIfInBounds_toArray, List.set_cons_zero, List.set_cons_succ]
                    refine wpAnyH_take (i := 9) (oi := { dst := some 173, op := Op.pick (Operand.tmp 167) (Operand.tmp 172) (Operand.const (Value.bool false)), type := _, pos := _, after := _, guard := none }) (v := .bool false) rfl (by kernel_rfl) (by kernel_rfl) (by kernel_rfl) (fun _ _ _ h => h) (Or.inl ⟨by rfl, fun w hSw => by (try dsimp only at hSw); go_simp⟩) (by assumption) ?_
                    simp only [Act.put, List.setIfInBounds_toArray, List.set_cons_zero, List.set_cons_succ]
                    refine wpAnyH_take (i := 10) (oi := { dst := some 174, op := Op.move (Operand.tmp 173), type := _, pos := _, after := _, guard := none }) (v := .bool false) rfl (by kernel_rfl) (by kernel_rfl) (by kernel_rfl) (fun _ _ _ h => h) (Or.inl ⟨by rfl, fun w hSw => by (try dsimp only at hSw); go_simp⟩) (by assumption) ?_
                    simp only [Act.put, List.setIfInBounds_toArray, List.set_cons_zero, List.set_cons_succ]
                    refine wpAnyH_take (i := 11) (oi := { dst := some 175, op := Op.move (Operand.tmp 12), type := _, pos := _, after := _, guard := some (10, true) }) (v := undef) rfl (by kernel_rfl) (by kernel_rfl) (by kernel_rfl) (fun _ _ _ h => h) (Or.inr ⟨by rfl, rfl⟩) (by assumption) ?_
                    simp only [Act.put, List.setIfInBounds_toArray, List.set_cons_zero, List.set_cons_succ]
                    refine wpAnyH_take (i := 12) (oi := { dst := some 176, op := Op.indexAddr 25 (Operand.tmp 3) (Operand.tmp 175), type := _, pos := _, after := _, guard := some (10, true) }) (v := undef) rfl (by kernel_rfl) (by kernel_rfl) (by kernel_rfl) (fun _ _ _ h => h) (Or.inr ⟨by rfl, rfl⟩) (by assumption) ?_
                    simp only [Act.put, List.setIfInBounds_toArray, List.set_cons_zero, List.set_cons_succ]
                    refine wpAnyH_take (i := 13) (oi := { dst := some 177, op := Op.load 23 (Operand.tmp 176), type := _, pos := _, after := _, guard := some (10, true) }) (v := undef) rfl (by kernel_rfl) (by kernel_rfl) (by kernel_rfl) (fun _ _ _ h => h) (Or.inr ⟨by rfl, rfl⟩) (by assumption) ?_
                    simp only [Act.put, List.setIfInBounds_toArray, List.set_cons_zero, List.set_cons_succ]
                    refine wpAnyH_take (i := 14) (oi := { dst := some 178, op := Op.load 23 (Operand.tmp 13), type := _, pos := _, after := _, guard := some (10, true) }) (v := undef) rfl (by kernel_rfl) (by kernel_rfl) (by kernel_rfl) (fun _ _ _ h => h) (Or.inr ⟨by rfl, rfl⟩) (by assumption) ?_
                    simp only [Act.put, List.setIfInBounds_toArray, List.set_cons_zero, List.set_cons_succ]
                    refine wpAnyH_take (i := 15) (oi := { dst := some 179, op := Op.binOp BinOp.neq 23 (Operand.tmp 177) (Operand.tmp 178) 23, type := _, pos := _, after := _, guard := some (10, true) }) (v := undef) rfl (by kernel_rfl) (by kernel_rfl) (by kernel_rfl) (fun _ _ _ h => h) (Or.inr ⟨by rfl, rfl⟩) (by assumption) ?_
                    simp only [Act.put, List.setIfInBounds_toArray, List.set_cons_zero, List.set_cons_succ]
                    refine wpAnyH_take (i := 16) (oi := { dst := some 180, op := Op.pick (Operand.tmp 174) (Operand.tmp 179) (Operand.const (Value.bool false)), type := _, pos := _, after := _, guard := none }) (v := .bool false) rfl (by kernel_rfl) (by kernel_rfl) (by kernel_rfl) (fun _ _ _ h => h) (Or.inl ⟨by rfl, fun w hSw => by (try dsimp only at hSw); go_simp⟩) (by assumption) ?_
                    simp only [Act.put, List.setIfInBounds_toArray, List.set_cons_zero, List.set_cons_succ]
                    refine wpAnyH_done (by kernel_rfl) ?_ _
                    go_wp2_with fail
                    go_roundw
                    case rel => exact ⟨m + 1, by omega, by go_num, hH0.1, by rw [HNM.out]; exact hH0.2.2⟩
                    case measure => simp [intOf]; omega
                  · have hmk : mrk L e.who = 0 := by simp [mrk, hin]
                    have hge := HST.out htk hin
                    refine wp_region_held_drew (S := fun W => KX w W f g aL aJ L J cL cJ sc bs B3 al aj ll lj ∧ EnAt W Be e ∧ Mi W bm nm L) (by kernel_rfl) hS5 (fun hH0 => ?_)
                    refine wpAnyH_take (i := 0) (oi := { dst := some 164, op := Op.fieldAddr 23 (Operand.tmp 13) 1, type := _, pos := _, after := _, guard := none }) (v := .pointer (some ⟨Be, 1, none⟩)) rfl (by kernel_rfl) (by kernel_rfl) (by kernel_rfl) (fun _ _ _ h => h) (Or.inl ⟨by rfl, fun w hSw => by (try dsimp only at hSw); go_simp⟩) (by assumption) ?_
                    simp only [Act.put, List.setIfInBounds_toArray, List.set_cons_zero, List.set_cons_succ]
                    refine wpAnyH_take (i := 1) (oi := { dst := some 165, op := Op.load 3 (Operand.tmp 164), type := _, pos := _, after := _, guard := none }) (v := .int .i64 e.bas) rfl (by kernel_rfl) (by kernel_rfl) (by kernel_rfl) (fun _ _ _ h => h) (Or.inl ⟨by rfl, fun w hSw => by obtain ⟨e0, e1, e2⟩ := EnAt.cells hSw.2.1; clear hSw; go_simp⟩) (by assumption) ?_
                    simp only [Act.put, List.setIfInBounds_toArray, List.set_cons_zero, List.set_cons_succ]
                    refine wpAnyH_take (i := 2) (oi := { dst := some 166, op := Op.binOp BinOp.neq 3 (Operand.tmp 165) (Operand.const (Value.int IntKind.i64 0)) 3, type := _, pos := _, after := _, guard := none }) (v := .bool true) rfl (by kernel_rfl) (by kernel_rfl) (by kernel_rfl) (fun _ _ _ h => h) (Or.inl ⟨by rfl, fun w hSw => by (try dsimp only at hSw); go_simp⟩) (by assumption) ?_
                    simp only [Act.put, List.setIfInBounds_toArray, List.set_cons_zero, List.set_cons_succ]
                    refine wpAnyH_take (i := 3) (oi := { dst := some 167, op := Op.move (Operand.tmp 166), type := _, pos := _, after := _, guard := none }) (v := .bool true) rfl (by kernel_rfl) (by kernel_rfl) (by kernel_rfl) (fun _ _ _ h => h) (Or.inl ⟨by rfl, fun w hSw => by (try dsimp only at hSw); go_simp⟩) (by assumption) ?_
                    simp only [Act.put, List.setIfInBounds_toArray, List.set_cons_zero, List.set_cons_succ]
                    refine wpAnyH_take (i := 4) (oi := { dst := some 168, op := Op.move (Operand.tmp 7), type := _, pos := _, after := _, guard := some (3, true) }) (v := .map (some bm)) rfl (by kernel_rfl) (by kernel_rfl) (by kernel_rfl) (fun _ _ _ h => h) (Or.inl ⟨by rfl, fun w hSw => by (try dsimp only at hSw); go_simp⟩) (by assumption) ?_
                    simp only [Act.put, List.setIfInBounds_toArray, List.set_cons_zero, List.set_cons_succ]
                    refine wpAnyH_take (i := 5) (oi := { dst := some 169, op := Op.fieldAddr 23 (Operand.tmp 13) 0, type := _, pos := _, after := _, guard := some (3, true) }) (v := .pointer (some ⟨Be, 0, none⟩)) rfl (by kernel_rfl) (by kernel_rfl) (by kernel_rfl) (fun _ _ _ h => h) (Or.inl ⟨by rfl, fun w hSw => by (try dsimp only at hSw); go_simp⟩) (by assumption) ?_
                    simp only [Act.put, List.setIfInBounds_toArray, List.set_cons_zero, List.set_cons_succ]
                    refine wpAnyH_take (i := 6) (oi := { dst := some 170, op := Op.load 3 (Operand.tmp 169), type := _, pos := _, after := _, guard := some (3, true) }) (v := .int .i64 e.who) rfl (by kernel_rfl) (by kernel_rfl) (by kernel_rfl) (fun _ _ _ h => h) (Or.inl ⟨by rfl, fun w hSw => by obtain ⟨e0, e1, e2⟩ := EnAt.cells hSw.2.1; clear hSw; go_simp⟩) (by assumption) ?_
                    simp only [Act.put, List.setIfInBounds_toArray, List.set_cons_zero, List.set_cons_succ]
                    refine wpAnyH_take (i := 7) (oi := { dst := some 171, op := Op.lookup 47 (Operand.tmp 168) (Operand.tmp 170) false, type := _, pos := _, after := _, guard := some (3, true) }) (v := .int .i64 0) rfl (by kernel_rfl) (by kernel_rfl) (by kernel_rfl) (fun _ _ _ h => h) (Or.inl ⟨by rfl, fun w hSw => by rw [Mi.exec hSw.2.2 hwe rfl rfl rfl, hmk]⟩) (by assumption) ?_
                    simp only [Act.put, List.setIfInBounds_toArray, List.set_cons_zero, List.set_cons_succ]
                    refine wpAnyH_take (i := 8) (oi := { dst := some 172, op := Op.binOp BinOp.eql 3 (Operand.tmp 171) (Operand.const (Value.int IntKind.i64 0)) 3, type := _, pos := _, after := _, guard := some (3, true) }) (v := .bool true) rfl (by kernel_rfl) (by kernel_rfl) (by kernel_rfl) (fun _ _ _ h => h) (Or.inl ⟨by rfl, fun w hSw => by (try dsimp only at hSw); go_simp⟩) (by assumption) ?_
                    simp only [Act.put, List.setIfInBounds_toArray, List.set_cons_zero, List.set_cons_succ]
                    refine wpAnyH_take (i := 9) (oi := { dst := some 173, op := Op.pick (Operand.tmp 167) (Operand.tmp 172) (Operand.const (Value.bool false)), type := _, pos := _, after := _, guard := none }) (v := .bool true) rfl (by kernel_rfl) (by kernel_rfl) (by kernel_rfl) (fun _ _ _ h => h) (Or.inl ⟨by rfl, fun w hSw => by (try dsimp only at hSw); go_simp⟩) (by assumption) ?_
                    simp only [Act.put, List.setIfInBounds_toArray, List.set_cons_zero, List.set_cons_succ]
                    refine wpAnyH_take (i := 10) (oi := { dst := some 174, op := Op.move (Operand.tmp 173), type := _, pos := _, after := _, guard := none }) (v := .bool true) rfl (by kernel_rfl) (by kernel_rfl) (by kernel_rfl) (fun _ _ _ h => h) (Or.inl ⟨by rfl, fun w hSw => by (try dsimp only at hSw); go_simp⟩) (by assumption) ?_
                    simp only [Act.put, List.setIfInBounds_toArray, List.set_cons_zero, List.set_cons_succ]
                    refine wpAnyH_take (i := 11) (oi := { dst := some 175, op := Op.move (Operand.tmp 12), type := _, pos := _, after := _, guard := some (10, true) }) (v := .int .i64 (m : Int)) rfl (by kernel_rfl) (by kernel_rfl) (by kernel_rfl) (fun _ _ _ h => h) (Or.inl ⟨by rfl, fun w hSw => by (try dsimp only at hSw); go_simp⟩) (by assumption) ?_
                    simp only [Act.put, List.setIfInBounds_toArray, List.set_cons_zero, List.set_cons_succ]
                    refine wpAnyH_take (i := 12) (oi := { dst := some 176, op := Op.indexAddr 25 (Operand.tmp 3) (Operand.tmp 175), type := _, pos := _, after := _, guard := some (10, true) }) (v := .pointer (some ⟨B3, m * 3, none⟩)) rfl (by kernel_rfl) (by kernel_rfl) (by kernel_rfl) (fun _ _ _ h => h) (Or.inl ⟨by rfl, fun w hSw => by (try dsimp only at hSw); go_simp⟩) (by assumption) ?_
                    simp only [Act.put, List.setIfInBounds_toArray, List.set_cons_zero, List.set_cons_succ]
                    refine wpAnyH_take (i := 13) (oi := { dst := some 177, op := Op.load 23 (Operand.tmp 176), type := _, pos := _, after := _, guard := some (10, true) }) (v := .agg #[.int .i64 e.who, .int .i64 e.bas, .int .i64 e.snc]) rfl (by kernel_rfl) (by kernel_rfl) (by kernel_rfl) (fun _ _ _ h => h) (Or.inl ⟨by rfl, fun w hSw => by obtain ⟨c0, c1, c2⟩ := (KX.ro hSw.1).cells m hm8; rw [hge] at c0 c1 c2; clear hSw; go_simp⟩) (by assumption) ?_
                    simp only [Act.put, List.setIfInBounds_toArray, List.set_cons_zero, List.set_cons_succ]
                    refine wpAnyH_take (i := 14) (oi := { dst := some 178, op := Op.load 23 (Operand.tmp 13), type := _, pos := _, after := _, guard := some (10, true) }) (v := .agg #[.int .i64 e.who, .int .i64 e.bas, .int .i64 e.snc]) rfl (by kernel_rfl) (by kernel_rfl) (by kernel_rfl) (fun _ _ _ h => h) (Or.inl ⟨by rfl, fun w hSw => by obtain ⟨e0, e1, e2⟩ := EnAt.cells hSw.2.1; clear hSw; go_simp⟩) (by assumption) ?_
                    simp only [Act.put, List.setIfInBounds_toArray, List.set_cons_zero, List.set_cons_succ]
                    refine wpAnyH_take (i := 15) (oi := { dst := some 179, op := Op.binOp BinOp.neq 23 (Operand.tmp 177) (Operand.tmp 178) 23, type := _, pos := _, after := _, guard := some (10, true) }) (v := .bool false) rfl (by kernel_rfl) (by kernel_rfl) (by kernel_rfl) (fun _ _ _ h => h) (Or.inl ⟨by rfl, fun w hSw => by rw [neq_exec (e := e) (d := e) rfl rfl rfl, eqE_iff.2 rfl]; rfl⟩) (by assumption) ?_
                    simp only [Act.put, List.setIfInBounds_toArray, List.set_cons_zero, List.set_cons_succ]
                    refine wpAnyH_take (i := 16) (oi := { dst := some 180, op := Op.pick (Operand.tmp 174) (Operand.tmp 179) (Operand.const (Value.bool false)), type := _, pos := _, after := _, guard := none }) (v := .bool false) rfl (by kernel_rfl) (by kernel_rfl) (by kernel_rfl) (fun _ _ _ h => h) (Or.inl ⟨by rfl, fun w hSw => by (try dsimp only at hSw); go_simp⟩) (by assumption) ?_
                    simp only [Act.put, List.setIfInBounds_toArray, List.set_cons_zero, List.set_cons_succ]
                    refine wpAnyH_done (by kernel_rfl) ?_ _
                    go_wp2_with fail
                    go_roundw
                    case rel => exact ⟨m + 1, by omega, by go_num, hH0.1, by rw [HNM.out]; exact hH0.2.2⟩
                    case measure => simp [intOf]; omega
              · obtain rfl : m = 64 := by omega
                go_wp2_with fail
                go_ret
                exact ⟨rfl, hx.bel⟩
  · have hE1 : (E == 0) = false := by simp [hE0]
    have hml : mvL f L J sc bs = [] := by unfold mvL; rw [if_neg (by rw [HEE.out]; exact hE0)]
    have hmj : mvJ f L J sc bs = [] := by unfold mvJ; rw [if_neg (by rw [HEE.out]; exact hE0)]
    have hgz : g = fun _ => zE := by rw [← HGR.out]; unfold mvR; rw [if_neg (by rw [HEE.out]; exact hE0)]
    rw [hml, hmj]
    have HQ : Hid (eqB g (fun _ => zE) = true) := by show eqB g _ = true; rw [hgz]; exact eqB_refl _
    clear hml hmj hgz
    go_wp2_with (first
      | (refine rd_guard (v := .agg (rcs g)) (by rfl) (ld25_exec hG4 rfl rfl) ?_)
      | (refine rd_guard (v := .bool true) (by rfl) (eq_run HQ.out rfl rfl zero25') ?_))
    go_ret
    exact ⟨rfl, hB4⟩
end Go.Proofs.YtieagbjempndnaaDoor.rosterKeeps
