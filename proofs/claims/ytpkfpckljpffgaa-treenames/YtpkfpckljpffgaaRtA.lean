/- Keys in a block: loads, stores, parts; isOwn, named. -/
import Derived.Test.YtpkfpckljpffgaaKeyA
import Derived.Test.YtpkfpckljpffgaaRtMath
import Derived.Deep.WholeRow
import Derived.Deep.LoopGhost
import Derived.Deep.DeepCutAuto
import Derived.Laws.ResultCell
import Derived.Laws.Rows
import Derived.Great.Walk
import Derived.ChangeKeysEq
import Derived.BigQuiet
namespace Go.Proofs.Ytpkfpckljpffgaa.Rt
open Go.RowKit Go.Great
set_option linter.unusedVariables false
set_option linter.unusedSimpArgs false

theorem i64_fit (z : Int) (h0 : -9223372036854775808 ≤ z) (h1 : z < 9223372036854775808) : IntKind.i64.wrap z = z := by
  simp only [IntKind.wrap, IntKind.bits, IntKind.signed]
  simp
  omega
theorem infoK : (Try.prog.info? 25).map (·.size) = some 42 := by kernel_rfl
def KsAt (w : World) (B : Nat) (f : Nat → Ky) : Prop := w.heap[B]? = some (.cells (kcs f) 25 (0, 0))
theorem KsAt.lt {w : World} {B : Nat} {f : Nat → Ky} (h : KsAt w B f) : B < w.heap.size := (Array.getElem?_eq_some_iff.1 h).1
theorem KsAt.below {n : Nat} {w w' : World} {B : Nat} {f : Nat → Ky} (h : KsAt w B f) (hb : Below n w w') (hn : B < n) : KsAt w' B f := (hb.block B hn).trans h
theorem KsAt.later {w w' : World} {B : Nat} {f : Nat → Ky} (h : KsAt w B f) (hb : Below w.heap.size w w') : KsAt w' B f := h.below hb h.lt
theorem KsAt.new (w : World) (f : Nat → Ky) : KsAt (w.alloc (.cells (kcs f) 25)) w.heap.size f := heap_alloc_last w _
theorem KsAt.congr {w : World} {B : Nat} {f g : Nat → Ky} (h : KsAt w B f) (e : kcs f = kcs g) : KsAt w B g := by unfold KsAt at *; rw [← e]; exact h
theorem alloc_ks (w : World) (f : Nat → Ky) : Below w.heap.size w (w.alloc (.cells (kcs f) 25)) := (Below.refl _ w).alloc (Nat.le_refl _) _
theorem alloc_ky (w : World) (k : Ky) : Below w.heap.size w (w.alloc (.cells #[.int .i64 k.bas, .int .i64 k.stp] 23)) := (Below.refl _ w).alloc (Nat.le_refl _) _
theorem KsAt.cells {w : World} {B : Nat} {f : Nat → Ky} (h : KsAt w B f) (k : Nat) (hk : k < 21) : w.cell? ⟨B, k * 2, none⟩ = some (.int .i64 (f k).bas) ∧ w.cell? ⟨B, k * 2 + 1, none⟩ = some (.int .i64 (f k).stp) := by
  obtain ⟨h0, h1⟩ := kcs_get f k hk
  exact ⟨(cell_of_row w B _ _ _ _ h).trans h0, (cell_of_row w B _ _ _ _ h).trans h1⟩
theorem cell_alloc_lt {w : World} {a : Addr} {v : Value} (h : w.cell? a = some v) (o : Obj) : (w.alloc o).cell? a = some v := cell_later ((Below.refl _ w).alloc (Nat.le_refl _) o) h
/- A key lies in a block. -/
def KyAt (w : World) (B : Nat) (e : Ky) : Prop := w.heap[B]? = some (.cells #[.int .i64 e.bas, .int .i64 e.stp] 23 (0, 0))
theorem KyAt.lt {w : World} {B : Nat} {f : Ky} (h : KyAt w B f) : B < w.heap.size := (Array.getElem?_eq_some_iff.1 h).1
theorem KyAt.later {w w' : World} {B : Nat} {f : Ky} (h : KyAt w B f) (hb : Below w.heap.size w w') : KyAt w' B f := (hb.block B h.lt).trans h
theorem KyAt.new (w : World) (e : Ky) : KyAt (w.alloc (.cells #[.int .i64 e.bas, .int .i64 e.stp] 23)) w.heap.size e := heap_alloc_last w _
theorem KyAt.cells {w : World} {B : Nat} {e : Ky} (h : KyAt w B e) : w.cell? ⟨B, 0, none⟩ = some (.int .i64 e.bas) ∧ w.cell? ⟨B, 1, none⟩ = some (.int .i64 e.stp) :=
  ⟨cell_of_row w B 0 _ _ _ h, cell_of_row w B 1 _ _ _ h⟩
/- Whole loads and stores. -/
theorem ldK {ops : Array Oper} {rest : List Oper} {o : Oper} {a : Act} {w : World} {Q : Exit → Act → World → Prop} {B : Nat} {f : Nat → Ky} (h : KsAt w B f) (hgd : o.guard = none) (x : Operand) (ho : o.op = .load 25 x)
    (hx : a.eval x = .pointer (some ⟨B, 0, none⟩)) (k : wpList Try.prog ops Q rest (a.put o.dst (.agg (kcs f))) w) : wpList Try.prog ops Q (o :: rest) a w :=
  wpList_load_row hgd 25 x ho B hx 25 (kcs f) (0, 0) _ h Try.underlying25 rfl (by rw [kcs_size]; exact infoK) k
theorem stK {ops : Array Oper} {rest : List Oper} {o : Oper} {a : Act} {w : World} {Q : Exit → Act → World → Prop} {B : Nat} {f g : Nat → Ky} (h : KsAt w B f) (hgd : o.guard = none) (x y : Operand) (ho : o.op = .store 25 x y)
    (hx : a.eval x = .pointer (some ⟨B, 0, none⟩)) (hy : a.eval y = .agg (kcs g)) (k : wpList Try.prog ops Q rest (a.put o.dst undef) (w.setRow B (kcs g))) : wpList Try.prog ops Q (o :: rest) a w :=
  wpList_store_row hgd 25 x y ho B (kcs g) hx hy 25 (kcs f) h (by rw [kcs_size]; exact infoK) (by rw [kcs_size, kcs_size]) (kcs_one g) k
theorem heap_setRow_same {w : World} {g : Nat} {cs : Array Value} {t : TypeId} {fr : Nat × Nat} (h : w.heap[g]? = some (.cells cs t fr)) (cs' : Array Value) : (w.setRow g cs').heap[g]? = some (.cells cs' t fr) := by
  simp only [World.setRow, Array.getElem?_modify]
  rw [if_pos trivial, h]
  rfl
theorem setRow_below {n g : Nat} {w W : World} (hg : n ≤ g) (h : Below n w W) (cs : Array Value) : Below n w (W.setRow g cs) := by
  refine h.trans ⟨rfl, rfl, rfl, by simp, fun k hk => ?_⟩
  simp only [World.setRow, Array.getElem?_modify]
  rw [if_neg (by omega)]
theorem row_other {w : World} {B C : Nat} (h : C ≠ B) (cs : Array Value) : (w.setRow B cs).heap[C]? = w.heap[C]? := by
  simp only [World.setRow, Array.getElem?_modify]
  rw [if_neg (fun e => h e.symm)]
theorem KsAt.row {w : World} {B : Nat} {f : Nat → Ky} (h : KsAt w B f) (g : Nat → Ky) : KsAt (w.setRow B (kcs g)) B g := heap_setRow_same h _
theorem row_frozen {w : World} {B : Nat} {cs : Array Value} {t : TypeId} (h : w.heap[B]? = some (.cells cs t (0, 0))) (k : Nat) : w.frozen? ⟨B, k, none⟩ = false := by
  simp [World.frozen?, h]
theorem row_setCell {w : World} {B : Nat} {cs : Array Value} {t : TypeId} (h : w.heap[B]? = some (.cells cs t (0, 0))) (k : Nat) (v : Value) : (w.setCell ⟨B, k, none⟩ v).heap[B]? = some (.cells (cs.setIfInBounds k v) t (0, 0)) := by
  simp only [World.setCell, Array.getElem?_modify]
  rw [if_pos trivial, h]
  rfl
theorem other_setCell {w : World} {B C : Nat} (h : C ≠ B) (k : Nat) (v : Value) : (w.setCell ⟨B, k, none⟩ v).heap[C]? = w.heap[C]? := by
  simp only [World.setCell, Array.getElem?_modify]
  rw [if_neg (fun e => h e.symm)]
theorem KsAt.set2 {w : World} {B : Nat} {f : Nat → Ky} (h : KsAt w B f) (k : Nat) (hk : k < 21) (a b : Int) :
    KsAt ((w.setCell ⟨B, k * 2, none⟩ (.int .i64 a)).setCell ⟨B, k * 2 + 1, none⟩ (.int .i64 b)) B (kup f k ⟨a, b⟩) := by
  have h3 := row_setCell (row_setCell h (k * 2) (.int .i64 a)) (k * 2 + 1) (.int .i64 b)
  rw [kcs_set f k ⟨a, b⟩ hk] at h3
  exact h3
theorem set2_below {n : Nat} {w W : World} (h : Below n w W) {B : Nat} (hB : n ≤ B) (i j : Nat) (a b : Value) : Below n w ((W.setCell ⟨B, i, none⟩ a).setCell ⟨B, j, none⟩ b) :=
  (h.setCell (p := ⟨B, i, none⟩) hB a).setCell (p := ⟨B, j, none⟩) hB b
theorem set2_other {w : World} {B C : Nat} (h : C ≠ B) (i j : Nat) (a b : Value) : ((w.setCell ⟨B, i, none⟩ a).setCell ⟨B, j, none⟩ b).heap[C]? = w.heap[C]? := by
  rw [other_setCell h, other_setCell h]
theorem zero42 : (#[Value.int .i64 0, Value.int .i64 0, Value.int .i64 0, Value.int .i64 0, Value.int .i64 0, Value.int .i64 0, Value.int .i64 0, Value.int .i64 0, Value.int .i64 0, Value.int .i64 0, Value.int .i64 0, Value.int .i64 0, Value.int .i64 0, Value.int .i64 0, Value.int .i64 0, Value.int .i64 0, Value.int .i64 0, Value.int .i64 0, Value.int .i64 0, Value.int .i64 0, Value.int .i64 0, Value.int .i64 0, Value.int .i64 0, Value.int .i64 0, Value.int .i64 0, Value.int .i64 0, Value.int .i64 0, Value.int .i64 0, Value.int .i64 0, Value.int .i64 0, Value.int .i64 0, Value.int .i64 0, Value.int .i64 0, Value.int .i64 0, Value.int .i64 0, Value.int .i64 0, Value.int .i64 0, Value.int .i64 0, Value.int .i64 0, Value.int .i64 0, Value.int .i64 0, Value.int .i64 0] : Array Value) = kcs fun _ => zK := by kernel_rfl
/- A key out of a whole value. -/
theorem extK (f : Nat → Ky) (k : Nat) (hk : k < 21) : (kcs f).extract (k * 2) (k * 2 + 2) = #[.int .i64 (f k).bas, .int .i64 (f k).stp] := by
  obtain ⟨h0, h1⟩ := kcs_get f k hk
  have hs := kcs_size f
  apply Array.ext
  · simp; omega
  · intro i h3 h4
    simp at h4
    rw [Array.getElem_extract]
    match i, h4 with
    | 0, _ => simpa using (Array.getElem?_eq_some_iff.1 h0).2
    | 1, _ => simpa using (Array.getElem?_eq_some_iff.1 h1).2
theorem idxK (f : Nat → Ky) (k : Nat) (hk : k < 21) (W : World) : (Instr.index 25 (.agg (kcs f)) (.int .i64 (k : Int))).run Try.prog W = .ok (.agg #[.int .i64 (f k).bas, .int .i64 (f k).stp]) W := by
  have hk2 : (k : Int) < 21 := by omega
  have hk3 : (0 : Int) ≤ (k : Int) := by omega
  have e := extK f k hk
  have hs := kcs_size f
  generalize kcs f = c at *
  simp [Instr.index, asIntOf, hk2, hk3, part, go_sem, e]
  omega
/- '==' of whole values. -/
def eqY (a b : Ky) : Bool := decide (a.bas = b.bas) && decide (a.stp = b.stp)
theorem eqY_iff {a b : Ky} : eqY a b = true ↔ a = b := by
  simp only [eqY, Bool.and_eq_true, decide_eq_true_eq]
  exact ⟨fun h => Ky.ext' h.1 h.2, fun h => by subst h; simp⟩
theorem eqY_refl (a : Ky) : eqY a a = true := eqY_iff.2 rfl
theorem run_eqKy (d : Nat) (a b : Ky) (w : World) : (Op.equalIn (d + 2) 23 (.agg #[.int .i64 a.bas, .int .i64 a.stp]) (.agg #[.int .i64 b.bas, .int .i64 b.stp])).run Try.prog w = .ok (eqY a b) w := by
  rw [run_equalIn_agg w (d + 1) 23 _ _ (by kernel_rfl) (by kernel_rfl)]
  by_cases h1 : a.bas = b.bas <;> by_cases h2 : a.stp = b.stp <;> simp [eqY, go_sem, part, h1, h2]
def eqA (f g : Nat → Ky) : Bool := (List.range 21).all fun i => eqY (f i) (g i)
theorem eqA_iff {f g : Nat → Ky} : eqA f g = true ↔ ∀ i, i < 21 → f i = g i := by
  unfold eqA
  rw [List.all_eq_true]
  exact ⟨fun h i hi => eqY_iff.1 (h i (List.mem_range.2 hi)), fun h i hi => eqY_iff.2 (h i (List.mem_range.1 hi))⟩
theorem eqA_refl (f : Nat → Ky) : eqA f f = true := eqA_iff.2 fun _ _ => rfl
theorem partK (f : Nat → Ky) (i : Nat) (hi : i < 21) (w : World) : (part 23 (kcs f) (i * 2)).run Try.prog w = .ok (.agg #[.int .i64 (f i).bas, .int .i64 (f i).stp]) w := by
  have e := extK f i hi
  simp [part, go_sem, e]
theorem eqItemsK (f g : Nat → Ky) (d : Nat) (w : World) : ∀ l : List Nat, (∀ i ∈ l, i < 21) → (Op.eqItems (d + 2) 23 2 (kcs f) (kcs g) l).run Try.prog w = .ok (l.all fun i => eqY (f i) (g i)) w
  | [], _ => by simp [Op.eqItems]
  | i :: l, h => by
    have hi := h i (by simp)
    have ih := eqItemsK f g d w l fun j hj => h j (by simp [hj])
    cases he : eqY (f i) (g i) with
    | false => simp [Op.eqItems, Sem.run_bind, Sem.run_ite, partK _ i hi, Result.andThen_ok, run_eqKy d, he]
    | true => simp [Op.eqItems, Sem.run_bind, Sem.run_ite, partK _ i hi, Result.andThen_ok, run_eqKy d, he, ih]
theorem info_ky : (Try.prog.info? 23).isSome = true := by kernel_rfl
theorem cells_ky : Try.prog.cellsOf 23 = 2 := by kernel_rfl
theorem run_eqKs (f g : Nat → Ky) (w : World) : (Op.equalIn 10000 25 (.agg (kcs f)) (.agg (kcs g))).run Try.prog w = .ok (eqA f g) w := by
  obtain ⟨i, hi⟩ := Option.isSome_iff_exists.mp info_ky
  rw [run_equalIn_array w 9999 _ _ Try.underlying25 hi]
  have h := eqItemsK f g 9997 w (List.range 21) fun i hi => List.mem_range.1 hi
  rw [cells_ky]
  exact h
theorem eqK {ops : Array Oper} {rest : List Oper} {o : Oper} {a : Act} {w : World} {Q : Exit → Act → World → Prop} {f g : Nat → Ky} {b : Bool} (hb : eqA f g = b) (hgd : o.guard = none) (x y : Operand) (ho : o.op = .binOp .eql 25 x y 25)
    (hx : a.eval x = .agg (kcs f)) (hy : a.eval y = .agg (kcs g)) (k : wpList Try.prog ops Q rest (a.put o.dst (.bool b)) w) : wpList Try.prog ops Q (o :: rest) a w := by
  subst hb
  refine wpList_readTo hgd o.dst rfl (.bool (eqA f g)) ?_ k
  have h1 := run_eqGuard_agg (P := Try.prog) w .eql 25 x y (kcs f) (kcs g) Try.eqGuardType25
  have h2 := run_eql_struct (P := Try.prog) w 25 (kcs f) (kcs g)
  rw [run_eqKs] at h2
  simp [execOp, ho, hx, hy, h1, h2, Sem.run_bind, Result.andThen]
/- isOwn and named. -/
def own (n : Int) : Bool := decide (1 ≤ n) && decide (n < 32768)
theorem isOwn_any (n : Int) (w : World) : Calls Try.prog 48 #[.int .i64 n] w fun e w' => e = .returned (.bool (own n)) ∧ w' = w := by
  by_cases h0 : 1 ≤ n
  · by_cases h1 : n < 32768
    · go_enter Try.func48, Try.ntmps48
      go_wp2
      go_ret
      exact ⟨ret_bool (by simp [own, h0, h1]), rfl⟩
    · go_enter Try.func48, Try.ntmps48
      go_wp2
      go_ret
      exact ⟨ret_bool (by simp [own, h0, h1]), rfl⟩
  · go_enter Try.func48, Try.ntmps48
    go_wp2
    go_ret
    exact ⟨ret_bool (by simp [own]; omega), rfl⟩
set_option maxRecDepth 100000 in
set_option maxHeartbeats 1000000 in
theorem named_any {B : Nat} {f : Nat → Ky} (n c : Nat) (hn : n ≤ 21) (x y : Int) (w : World) (hK : KsAt w B f) :
    Calls Try.prog 49 #[.slice (some ⟨B, 0, none⟩) n c, .int .i64 x, .int .i64 y] w fun e w' => e = .returned (.bool (nmd f n x y)) ∧ Below w.heap.size w w' := by
  go_enter Try.func49, Try.ntmps49
  go_wp2_with fail
  go_loopw [11] (fun i wx => ∃ k : Nat, k ≤ n ∧ i = .int .i64 (k : Int) ∧ Below w.heap.size w wx ∧ ∀ j, j < k → nm1 (f j) x y = false) (fun i _ => n - (intOf i).toNat)
  case atStart => exact ⟨0, by omega, rfl, Below.refl _ _, fun j hj => by omega⟩
  case round =>
    obtain ⟨k, hk, rfl, hb, hf⟩ := hrel
    have HB : Hid (Below w.heap.size w wr) := hb
    have HF : Hid (∀ j, j < k → nm1 (f j) x y = false) := hf
    have hK2 := hK.later hb
    clear hb hf
    by_cases hk8 : k < n
    · have i1 : (0 : Int) ≤ (k : Int) := by omega
      have i2 : (k : Int) < (n : Int) := by omega
      obtain ⟨c0, c1⟩ := hK2.cells k (by omega)
      have HBE : Hid (Below wr.heap.size wr (wr.alloc (.cells #[.int .i64 (f k).bas, .int .i64 (f k).stp] 23))) := alloc_ky wr (f k)
      have HE : Hid (nm1 (f k) x y = (decide (x ≤ (f k).bas) && decide ((f k).bas < y))) := rfl
      have HY : Hid (nm1 (f k) x y = true → nmd f n x y = true) := nmd_yes hk8
      obtain ⟨e, he⟩ : ∃ e, f k = e := ⟨_, rfl⟩
      have HKE : Hid (f k = e) := he
      rw [he] at c0 c1 HBE HE HY
      clear he hK2
      by_cases g1 : x ≤ e.bas
      · by_cases g2 : e.bas < y
        · go_wp2_with fail
          go_ret
          exact ⟨ret_bool (by rw [HY.out (by rw [HE.out, decide_eq_true g1, decide_eq_true g2]; rfl)]), HB.out.trans (HBE.out.mono HB.out.size)⟩
        · go_wp2_with fail
          go_roundw
          case rel =>
            refine ⟨k + 1, by omega, by go_num, HB.out.trans (HBE.out.mono HB.out.size), fun j hj => ?_⟩
            rcases Nat.lt_or_ge j k with h | h
            · exact HF.out j h
            · obtain rfl : j = k := by omega
              rw [HKE.out, HE.out, decide_eq_false g2, Bool.and_false]
          case measure => simp [intOf]; omega
      · go_wp2_with fail
        go_roundw
        case rel =>
          refine ⟨k + 1, by omega, by go_num, HB.out.trans (HBE.out.mono HB.out.size), fun j hj => ?_⟩
          rcases Nat.lt_or_ge j k with h | h
          · exact HF.out j h
          · obtain rfl : j = k := by omega
            rw [HKE.out, HE.out, decide_eq_false g1, Bool.false_and]
        case measure => simp [intOf]; omega
    · obtain rfl : k = n := by omega
      have hd : decide ((k : Int) < (k : Int)) = false := by simp
      go_wp2_with fail
      go_ret
      exact ⟨ret_bool (by rw [nmd_no HF.out]), HB.out⟩
end Go.Proofs.Ytpkfpckljpffgaa.Rt
