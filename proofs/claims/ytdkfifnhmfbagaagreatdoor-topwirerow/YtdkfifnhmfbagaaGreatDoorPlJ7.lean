/- PlG, PlH, PlI, joined. -/
import Derived.Test.YtdkfifnhmfbagaaGreatDoorPlF
import Derived.Test.YtdkfifnhmfbagaaGreatDoorPlJ1
import Derived.Deep.RegionHeld3
namespace Go.Proofs.YtdkfifnhmfbagaaGreatDoor
open Go.RowKit Go.Maps
open Rt (Ky zK kcs KyAt)
open Rs (En zE rcs RoAt tkn RdS)
set_option linter.unusedVariables false
set_option linter.unusedSimpArgs false
open Go.RowKit Go.Maps Go.Great
open Rt (Ky zK kcs)
open Rs (En zE rcs tkn RdI RdS ps evl Tb)
theorem rk_one (p : Int) (a b c : Option Addr) (l m n i j k : Nat) : (#[.int .i64 p, .slice a l i, .slice b m j, .slice c n k] : Array Value).all (·.oneCell') = true := by simp [Value.oneCell']
/- An answer's two boxes. -/
theorem two_boxes (w : World) (u : Tr) (c cs : Array Value) (hc : tcs u = c) :
  TrAt ((w.alloc (.cells Tryz.zeroCells62 62)).alloc (.cells #[.int .i64 0, .slice none 0 0, .slice none 0 0, .slice none 0 0] 31)) w.heap.size (tz 0)
  ∧ RkAt (((w.alloc (.cells Tryz.zeroCells62 62)).alloc (.cells #[.int .i64 0, .slice none 0 0, .slice none 0 0, .slice none 0 0] 31)).setRow w.heap.size c) (w.heap.size + 1) rkz
  ∧ ∃ W, (((w.alloc (.cells Tryz.zeroCells62 62)).alloc (.cells #[.int .i64 0, .slice none 0 0, .slice none 0 0, .slice none 0 0] 31)).setRow w.heap.size c).setRow (w.heap.size + 1) cs = W ∧ TrAt W w.heap.size u ∧ RkAt W (w.heap.size + 1) cs ∧ Below w.heap.size w W := by
 rw [alloc_trz]
 have h1 := TrAt.new w (tz 0)
 have hb1 := alloc_tr w (tz 0)
 have h2 : RkAt ((w.alloc (.cells (tcs (tz 0)) 62)).alloc (.cells #[.int .i64 0, .slice none 0 0, .slice none 0 0, .slice none 0 0] 31)) (w.heap.size + 1) rkz := by
  have h := heap_alloc_last (w.alloc (.cells (tcs (tz 0)) 62)) (.cells #[.int .i64 0, .slice none 0 0, .slice none 0 0, .slice none 0 0] 31)
  rw [World.size_alloc] at h
  exact h
 have hb2 := below_alloc (w.alloc (.cells (tcs (tz 0)) 62)) (.cells #[.int .i64 0, .slice none 0 0, .slice none 0 0, .slice none 0 0] 31)
 have h3 := h1.later hb2
 have hb := hb1.trans (hb2.mono hb1.size)
 generalize (w.alloc (.cells (tcs (tz 0)) 62)).alloc (.cells #[.int .i64 0, .slice none 0 0, .slice none 0 0, .slice none 0 0] 31) = W at *
 subst hc
 have h4 : RkAt (W.setRow w.heap.size (tcs u)) (w.heap.size + 1) rkz := (Rt.row_other (by omega) _).trans h2
 have h5 := h3.row u
 exact ⟨h3, h4, _, rfl, (Rt.row_other (by omega) _).trans h5, Rt.heap_setRow_same h4 _, Rt.setRow_below (by omega) (Rt.setRow_below (by omega) hb _) _⟩
/- Items that lie in memory. -/
def RdT (w : World) (a : Option Addr) (l : List It) : Prop := ∀ i, i < l.length → ∃ b, a = some ⟨b, 0, none⟩ ∧ ∀ k v, (ics (l.getD i ⟨0, 0, zK, zK⟩))[k]? = some v → w.cell? ⟨b, i * 6 + k, none⟩ = some v
end Go.Proofs.YtdkfifnhmfbagaaGreatDoor
