/- '==' of keys, seats, boxes, items, paths, replies, sealed texts. -/
import Derived.Test.YtdkfifnhmfbagaaWiT
namespace Go.Proofs.Ytdkfifnhmfbagaa.Wi
open Go.RowKit Go.Maps
set_option linter.unusedVariables false
set_option linter.unusedSimpArgs false
set_option maxRecDepth 100000

theorem run_eqPr (T : TypeId) {w : World} (d : Nat) (x y : Int × Int) (h : T = 29 ∨ T = 78 ∨ T = 27) : (Op.equalIn (d + 2) T (.agg (stl x).toArray) (.agg (stl y).toArray)).run Try.prog w = .ok (decide (x = y)) w := by
  obtain ⟨a, b⟩ := x
  obtain ⟨c, e⟩ := y
  unfold stl
  rcases h with rfl | rfl | rfl <;> rw [run_equalIn_agg w (d + 1) _ _ _ (by kernel_rfl) (by kernel_rfl)] <;> by_cases h1 : a = c <;> by_cases h2 : b = e <;> simp [go_sem, part, h1, h2]
theorem run_eqBx {w : World} (d : Nat) (x y : (Int × Int) × (Int × Int)) : (Op.equalIn (d + 3) 31 (.agg (bxl x).toArray) (.agg (bxl y).toArray)).run Try.prog w = .ok (decide (x = y)) w := by
  obtain ⟨⟨a, b⟩, c, e⟩ := x
  obtain ⟨⟨a', b'⟩, c', e'⟩ := y
  unfold bxl
  rw [run_equalIn_agg w (d + 2) _ _ _ (by kernel_rfl) (by kernel_rfl)]
  by_cases h1 : a = a' <;> by_cases h2 : b = b' <;> by_cases h3 : c = c' <;> by_cases h4 : e = e' <;> simp [go_sem, part, h1, h2, h3, h4]
theorem run_eqIm {w : World} (d : Nat) (x y : (Int × Int) × ((Int × Int) × (Int × Int))) : (Op.equalIn (d + 4) 82 (.agg (itl x).toArray) (.agg (itl y).toArray)).run Try.prog w = .ok (decide (x = y)) w := by
  obtain ⟨⟨v, u⟩, bx⟩ := x
  obtain ⟨⟨v', u'⟩, bx'⟩ := y
  have e1 := run_eqBx (w := w) d bx bx'
  unfold bxl at e1
  unfold itl
  rw [run_equalIn_agg w (d + 3) _ _ _ (by kernel_rfl) (by kernel_rfl)]
  obtain ⟨⟨a, b⟩, c, e⟩ := bx
  obtain ⟨⟨a', b'⟩, c', e'⟩ := bx'
  clear e1
  by_cases h1 : v = v' <;> by_cases h2 : u = u' <;> simp [go_sem, part, h1, h2]
  by_cases h1 : a = a' <;> by_cases h2 : b = b' <;> by_cases h3 : c = c' <;> by_cases h4 : e = e' <;> simp [go_sem, part, h1, h2, h3, h4]
theorem bl_iff {X Y : ByteArray} : X.toList = Y.toList ↔ X = Y := by
  rw [ByteArray.toList_eq, ByteArray.toList_eq]
  exact ⟨fun e => ByteArray.ext (Array.ext' e), fun e => by rw [e]⟩
theorem run_eqSd {w : World} (d : Nat) (x y : Int × ((Int × Int) × ByteArray)) : (Op.equalIn (d + 3) 36 (.agg (sdl x).toArray) (.agg (sdl y).toArray)).run Try.prog w = .ok (decide (x = y)) w := by
  obtain ⟨a, ⟨b, c⟩, s⟩ := x
  obtain ⟨a', ⟨b', c'⟩, s'⟩ := y
  unfold sdl
  rw [run_equalIn_agg w (d + 2) _ _ _ (by kernel_rfl) (by kernel_rfl)]
  by_cases h1 : a = a' <;> by_cases h2 : b = b' <;> by_cases h3 : c = c' <;> by_cases h4 : s = s' <;> simp [go_sem, part, h1, h2, h3, h4, bl_iff]
def pal (x y z : (Int × Int) × (Int × Int)) : List Value := [.int .i64 x.1.1, .int .i64 x.1.2, .int .i64 x.2.1, .int .i64 x.2.2, .int .i64 y.1.1, .int .i64 y.1.2, .int .i64 y.2.1, .int .i64 y.2.2, .int .i64 z.1.1, .int .i64 z.1.2, .int .i64 z.2.1, .int .i64 z.2.2]
theorem info_bx : (Try.prog.info? 31).isSome = true := by kernel_rfl
theorem cells_bx : Try.prog.cellsOf 31 = 4 := by kernel_rfl
theorem run_eqPt {w : World} (d : Nat) (x y z x' y' z' : (Int × Int) × (Int × Int)) : (Op.equalIn (d + 4) 32 (.agg (pal x y z).toArray) (.agg (pal x' y' z').toArray)).run Try.prog w = .ok (decide (x = x') && (decide (y = y') && decide (z = z'))) w := by
  obtain ⟨i, hi⟩ := Option.isSome_iff_exists.mp info_bx
  rw [run_equalIn_array w (d + 3) _ _ Try.underlying32 hi, cells_bx]
  have h1 := run_eqBx (w := w) d x x'
  have h2 := run_eqBx (w := w) d y y'
  have h3 := run_eqBx (w := w) d z z'
  unfold bxl at h1 h2 h3
  unfold pal
  obtain ⟨a, ha⟩ : ∃ a, decide (x = x') = a := ⟨_, rfl⟩
  obtain ⟨b, hb⟩ : ∃ a, decide (y = y') = a := ⟨_, rfl⟩
  obtain ⟨c, hc⟩ : ∃ a, decide (z = z') = a := ⟨_, rfl⟩
  rw [ha] at h1
  rw [hb] at h2
  rw [hc] at h3
  rw [ha, hb, hc]
  cases a <;> cases b <;> cases c <;> simp [List.range, List.range.loop, Op.eqItems, Sem.run_bind, Sem.run_ite, part, Result.andThen_ok, h1, h2, h3]
theorem run_eqRp {w : World} (d : Nat) (p q : (Int × Int) × (Int × (((Int × Int) × (Int × Int)) × (((Int × Int) × (Int × Int)) × ((Int × Int) × (Int × Int)))))) : (Op.equalIn (d + 5) 34 (.agg (rpl p).toArray) (.agg (rpl q).toArray)).run Try.prog w = .ok (decide (p = q)) w := by
  obtain ⟨⟨a, b⟩, c, x, y, z⟩ := p
  obtain ⟨⟨a', b'⟩, c', x', y', z'⟩ := q
  have h := run_eqPt (w := w) d x y z x' y' z'
  unfold pal at h
  unfold rpl
  rw [run_equalIn_agg w (d + 4) _ _ _ (by kernel_rfl) (by kernel_rfl)]
  have e : decide ((((a, b), c, x, y, z) : (Int × Int) × (Int × (((Int × Int) × (Int × Int)) × (((Int × Int) × (Int × Int)) × ((Int × Int) × (Int × Int)))))) = ((a', b'), c', x', y', z')) = (decide (a = a') && (decide (b = b') && (decide (c = c') && (decide (x = x') && (decide (y = y') && decide (z = z')))))) := by
    simp [and_assoc]
  rw [e]
  obtain ⟨g, hg⟩ : ∃ g, (decide (x = x') && (decide (y = y') && decide (z = z'))) = g := ⟨_, rfl⟩
  rw [hg] at h
  rw [hg]
  clear hg e
  cases g <;> by_cases h1 : a = a' <;> by_cases h2 : b = b' <;> by_cases h3 : c = c' <;> simp [go_sem, part, h, h1, h2, h3]
/- The arms of the walk. -/
theorem eqX {T : TypeId} {w : World} {cx cy : Array Value} {b : Bool} {ops : Array Oper} {rest : List Oper} {o : Oper} {a : Act} {Q : Exit → Act → World → Prop} (h : (Op.equalIn 10000 T (.agg cx) (.agg cy)).run Try.prog w = .ok b w) (hgt : Try.prog.eqGuardType Try.prog.depth T = false) (x y : Operand) (ho : o.op = .binOp .eql T x y T)
    (hx : a.eval x = .agg cx) (hy : a.eval y = .agg cy) (hw : Region.wanted o (yielded ops a.tmps) = true) (k : wpList Try.prog ops Q rest (a.put o.dst (.bool b)) w) : wpList Try.prog ops Q (o :: rest) a w := by
  refine rd_guard hw ?_ k
  have h1 := run_eqGuard_agg (P := Try.prog) w .eql T x y cx cy hgt
  have h2 := run_eql_struct (P := Try.prog) w T cx cy
  rw [h] at h2
  simp [execOp, ho, hx, hy, h1, h2, Sem.run_bind, Result.andThen]
theorem ne_exec {T : TypeId} {w : World} {cx cy : Array Value} {b : Bool} {o : Oper} {a : Act} {x y : Operand} (h : (Op.equalIn 10000 T (.agg cx) (.agg cy)).run Try.prog w = .ok b w) (hgt : Try.prog.eqGuardType Try.prog.depth T = false) (ho : o.op = .binOp .neq T x y T)
    (hx : a.eval x = .agg cx) (hy : a.eval y = .agg cy) : (execOp a.eval o).run Try.prog w = .ok (.value (.bool (!b))) w := by
  have h1 := run_eqGuard_agg (P := Try.prog) w .neq T x y cx cy hgt
  have h2 := run_neq_struct (P := Try.prog) w T cx cy
  rw [h] at h2
  simp [execOp, ho, hx, hy, h1, h2, Sem.run_bind, Result.andThen]
end Go.Proofs.Ytdkfifnhmfbagaa.Wi
