/- TrE, TrF, TrL, TrMp, TrH, TrK0, joined. -/
import Derived.Test.YtdkfifnhmfbagaaGreatDoorTrJ3
import Derived.Test.YtdkfifnhmfbagaaGreatDoorShJ
import Derived.Deep.RegionHeld3
import Derived.Maps.Own
import Derived.Maps.OwnOps
import Derived.Maps.StringElems
import Derived.Test.YtdkfifnhmfbagaaGreatDoorShK
namespace Go.Proofs.YtdkfifnhmfbagaaGreatDoor
open Go.RowKit
open Rt (Ky zK kcs KsAt KyAt lfE lfB lfS)
open Rs (En zE rcs RoAt EnAt tkn)
set_option linter.unusedVariables false
set_option linter.unusedSimpArgs false
theorem infoKy : (Tryz.prog.info? 38).map (·.size) = some 2 := by kernel_rfl
theorem stKy {ops : Array Oper} {rest : List Oper} {o : Oper} {a : Act} {w : World} {Q : Exit → Act → World → Prop} {B : Nat} {e : Ky} (h : KyAt w B e) (d : Ky) (hgd : o.guard = none) (x y : Operand) (ho : o.op = .store 38 x y)
  (hx : a.eval x = .pointer (some ⟨B, 0, none⟩)) (hy : a.eval y = .agg #[.int .i64 d.bas, .int .i64 d.stp]) (k : wpList Tryz.prog ops Q rest (a.put o.dst undef) (w.setRow B #[.int .i64 d.bas, .int .i64 d.stp])) : wpList Tryz.prog ops Q (o :: rest) a w :=
 wpList_store_row hgd 38 x y ho B _ hx hy 38 _ h infoKy rfl (by simp [Value.oneCell']) k
theorem KyAt.row {w : World} {B : Nat} {e : Ky} (h : KyAt w B e) (d : Ky) : KyAt (w.setRow B #[.int .i64 d.bas, .int .i64 d.stp]) B d := Rt.heap_setRow_same h _
theorem KyAt.set {w : World} {B : Nat} {e : Ky} (h : KyAt w B e) (a b : Int) : KyAt ((w.setCell ⟨B, 0, none⟩ (.int .i64 a)).setCell ⟨B, 1, none⟩ (.int .i64 b)) B ⟨a, b⟩ := by
 have h3 := Rt.row_setCell (Rt.row_setCell h 0 (.int .i64 a)) 1 (.int .i64 b)
 exact h3
/- What stands while a key is looked up. -/
structure SK (w W : World) (B K : Nat) (t : Tr) : Prop where
 tr : TrAt W B t
 ky : ∃ e : Ky, KyAt W K e
 bel : Below w.heap.size w W
 ne : B ≠ K
 ge : w.heap.size ≤ K
theorem SK.later {w W W' : World} {B K : Nat} {t : Tr} (h : SK w W B K t) (hb : Below W.heap.size W W') : SK w W' B K t := ⟨h.tr.later hb, h.ky.elim fun e he => ⟨e, he.later hb⟩, h.bel.trans (hb.mono h.bel.size), h.ne, h.ge⟩
theorem SK.new (w : World) (t : Tr) : SK w ((w.alloc (.cells (tcs t) 62)).alloc (.cells #[.int .i64 0, .int .i64 0] 38)) w.heap.size (w.heap.size + 1) t := by
 have h1 := TrAt.new w t
 have hb1 := alloc_tr w t
 have h2 := KyAt.new (w.alloc (.cells (tcs t) 62)) zK
 have hb2 := Rt.alloc_ky (w.alloc (.cells (tcs t) 62)) zK
 rw [World.size_alloc] at h2
 exact ⟨h1.later hb2, ⟨_, h2⟩, hb1.trans (hb2.mono hb1.size), by omega, by omega⟩
open Rt (Ky zK kcs KsAt KyAt)
open Go.RowKit Go.Maps
open Rt (Ky zK KyAt)
open Rs (En tkn)
/- The key of a node, in a right tree. -/
theorem kn {t : Tr} (h : tck t = true) {k : Nat} (hk : k < 85) (h0 : koE t (k : Int) = 0) : (k < 21 ∧ koK t (k : Int) = t.ks k) ∨ ∃ s, s < 64 ∧ k = 21 + s ∧ tkn (t.ro s) = true ∧ koK t (k : Int) = ⟨(t.ro s).bas, t.ep - (t.ro s).snc⟩ := by
 by_cases hi : k < 21
 ·left
  refine ⟨hi, ?_⟩
  unfold koK
  rw [h0, if_pos rfl, if_pos (by omega), Int.toNat_natCast]
 ·right
  refine ⟨k - 21, by omega, by omega, ?_, ?_⟩
  ·have e : (k : Int) = 21 + ((k - 21 : Nat) : Int) := by omega
   rw [e, koE_leaf h (by omega)] at h0
   cases ht : tkn (t.ro (k - 21)) with
   | true => rfl
   | false => rw [leaf_free ht] at h0; cases h0
  ·unfold koK
   rw [h0, if_pos rfl, if_neg (by omega), show ((k : Int) - 21).toNat = k - 21 by omega]
open Rt (Ky zK kcs)
open Rs (En zE rcs RoAt EnAt tkn tk)
open Sh (belB msk)
theorem hld_and (r : Nat → En) (v : Int) : (bits .and .u64 ((tk r : Nat) : Int) (msk v) != 0) = hld r v := by
 have h := Sh.hit_and v ((tk r : Nat) : Int) (by omega) (by have := Rs.tk_lt r; omega)
 obtain ⟨m0, m1⟩ := Sh.msk_bd v
 rw [u64_and _ _ m0 m1 (by omega) (by have := Rs.tk_lt r; omega), Nat.and_comm, ← u64_and _ _ (by omega) (by have := Rs.tk_lt r; omega) m0 m1, hit_hld] at h
 exact h
theorem row_later {w w' : World} {B : Nat} {o : Obj} (h : w.heap[B]? = some o) (hb : Below w.heap.size w w') : w'.heap[B]? = some o := (hb.block B (Array.getElem?_eq_some_iff.1 h).1).trans h
end Go.Proofs.YtdkfifnhmfbagaaGreatDoor
