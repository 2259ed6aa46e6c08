/- Who stands at a tree seals and opens, on plain data; a state that loses its path, in memory. -/
import Derived.Test.YtpimbpfefhkojaaDaB
import Derived.Test.YtpimbpfefhkojaaRvMath2
namespace Go.Proofs.Ytpimbpfefhkojaa.Rv
open Go.RowKit Go.Maps Mb
open Rt (Ky zK gd gv Gd gd_iff)
open Rs (tkn fnd)
open Wi (gE gK gW gD zD sdl stl)
set_option linter.unusedVariables false
set_option linter.unusedSimpArgs false

theorem gr_3 {m : Mb} (h : knd m = 3) : grE m = 0 ∧ grK m = m.p2 := by unfold grE grK; rw [h]; exact ⟨rfl, rfl⟩
theorem gr_2 {m : Mb} (h : knd m = 2) : grE m = 22 := by unfold grE; rw [h]; rfl
theorem gr_1 {m : Mb} (h : knd m = 1) : grE m = 20 := by unfold grE; rw [h]; rfl
section
variable {t : Tr} (ht : tck t = true) {s : Nat} (hs : s < 64) (hk : tkn (t.ro s) = true)
theorem at_gr (ht : tck t = true) (hs : s < 64) (hk : tkn (t.ro s) = true) : grE (atS t s 0) = 0 ∧ grK (atS t s 0) = t.ks 0 := gr_3 (atS_kind ht hs hk (.inl rfl))
theorem at_sl1 (ht : tck t = true) (hs : s < 64) (hk : tkn (t.ro s) = true) {x : ByteArray} (hn : x.size ≤ 64) : slE (atS t s 0) x.size = 0 ∧ slD (atS t s 0) x = (t.ep, (kpr2 (t.ks 0), x)) := by
  obtain ⟨h1, h2⟩ := at_gr ht hs hk
  have h := sl_yes (s := x) h1 hn
  rw [h2] at h
  exact h
theorem at_sl2 (ht : tck t = true) (hs : s < 64) (hk : tkn (t.ro s) = true) {x : ByteArray} (hn : ¬ x.size ≤ 64) : slE (atS t s 0) x.size = 25 ∧ slD (atS t s 0) x = zD := by
  obtain ⟨h1, h2⟩ := at_gr ht hs hk
  have h3 : slE (atS t s 0) x.size = 25 := by unfold slE; rw [if_pos h1, if_neg hn]
  exact ⟨h3, by unfold slD; rw [h3]; rfl⟩
theorem at_good (ht : tck t = true) (hs : s < 64) (hk : tkn (t.ro s) = true) {x : ByteArray} (hn : x.size ≤ 64) : gD (t.ep, (kpr2 (t.ks 0), x)) = true := by
  have h1 := (atS_sat ht hs hk (b := 0) (.inl rfl)).ep
  have h2 := node_good ht (v := 0) (by omega)
  show (gE t.ep && (gK (kpr2 (t.ks 0)) && decide (x.size ≤ 64))) = true
  rw [Wi.gE_iff.2 (show 1 ≤ t.ep ∧ t.ep ≤ 200 from h1), show gK (kpr2 (t.ks 0)) = true from h2, decide_eq_true hn]
  rfl
theorem at_op (ht : tck t = true) (hs : s < 64) (hk : tkn (t.ro s) = true) {x : ByteArray} (hn : x.size ≤ 64) : opE (atS t s 0) (t.ep, (kpr2 (t.ks 0), x)) = 0 ∧ opS (atS t s 0) (t.ep, (kpr2 (t.ks 0), x)) = x := by
  obtain ⟨h1, h2⟩ := at_gr ht hs hk
  exact op_yes (d := (t.ep, (kpr2 (t.ks 0), x))) h1 (at_good ht hs hk hn) rfl (by rw [h2])
theorem bare_op (ht : tck t = true) (hs : s < 64) (hk : tkn (t.ro s) = true) (d : Sd) : opE (bare (atS t s 0) true) d = 22 ∧ opS (bare (atS t s 0) true) d = ⟨#[]⟩ := by
  have h := atS_sat ht hs hk (b := 0) (.inl rfl)
  have h1 := gr_2 (Sat.kind2 (m := bare (atS t s 0) true) ⟨rfl, h.cd, h.bh⟩ rfl rfl rfl rfl)
  have h2 : opE (bare (atS t s 0) true) d = 22 := by unfold opE; rw [h1]; rfl
  exact ⟨h2, by unfold opS; rw [h2]; rfl⟩
theorem at_old (ht : tck t = true) (hs : s < 64) (hk : tkn (t.ro s) = true) {d : Sd} (hg : gD d = true) (h : d.1 < t.ep) : opE (atS t s 0) d = 21 ∧ opS (atS t s 0) d = ⟨#[]⟩ := by
  obtain ⟨h1, h2⟩ := at_gr ht hs hk
  have h3 : opE (atS t s 0) d = 21 := by unfold opE; rw [if_pos h1, if_pos hg, if_pos (show d.1 < (atS t s 0).ep from h)]
  exact ⟨h3, by unfold opS; rw [h3]; rfl⟩
theorem at_ahead (ht : tck t = true) (hs : s < 64) (hk : tkn (t.ro s) = true) {d : Sd} (hg : gD d = true) (h : t.ep < d.1) : opE (atS t s 0) d = 32 ∧ opS (atS t s 0) d = ⟨#[]⟩ := by
  obtain ⟨h1, h2⟩ := at_gr ht hs hk
  have h3 : opE (atS t s 0) d = 32 := by unfold opE; rw [if_pos h1, if_pos hg, if_neg (show ¬ d.1 < (atS t s 0).ep by show ¬ d.1 < t.ep; omega), if_pos (show (atS t s 0).ep < d.1 from h)]
  exact ⟨h3, by unfold opS; rw [h3]; rfl⟩
theorem out_op {w e : Int} (h : gW w = true) (h1 : gE e = true) (d : Sd) : opE (outM w e) d = 20 ∧ opS (outM w e) d = ⟨#[]⟩ := by
  have h2 : opE (outM w e) d = 20 := by unfold opE; rw [gr_1 (out_kind h h1)]; rfl
  exact ⟨h2, by unfold opS; rw [h2]; rfl⟩
end
/- The path away, cell by cell. -/
theorem bare_row {W : World} {M : Nat} {m : Mb} (h : MA W M m) : MA (((((((W.setCell ⟨M, 11, none⟩ (.bool false)).setCell ⟨M, 5, none⟩ (.int .i64 0)).setCell ⟨M, 6, none⟩ (.int .i64 0)).setCell ⟨M, 7, none⟩ (.int .i64 0)).setCell ⟨M, 8, none⟩ (.int .i64 0)).setCell ⟨M, 9, none⟩ (.int .i64 0)).setCell ⟨M, 10, none⟩ (.int .i64 0)) M (bare m true) := by
  have h7 := Rt.row_setCell (Rt.row_setCell (Rt.row_setCell (Rt.row_setCell (Rt.row_setCell (Rt.row_setCell (Rt.row_setCell h 11 (.bool false)) 5 (.int .i64 0)) 6 (.int .i64 0)) 7 (.int .i64 0)) 8 (.int .i64 0)) 9 (.int .i64 0)) 10 (.int .i64 0)
  have e : (((((((mba m).setIfInBounds 11 (.bool false)).setIfInBounds 5 (.int .i64 0)).setIfInBounds 6 (.int .i64 0)).setIfInBounds 7 (.int .i64 0)).setIfInBounds 8 (.int .i64 0)).setIfInBounds 9 (.int .i64 0)).setIfInBounds 10 (.int .i64 0) = mba (bare m true) := by kernel_rfl
  rw [e] at h7
  exact h7
theorem o7 {W : World} {C M : Nat} (hne : C ≠ M) (a b c d e f g : Value) : (((((((W.setCell ⟨M, 11, none⟩ a).setCell ⟨M, 5, none⟩ b).setCell ⟨M, 6, none⟩ c).setCell ⟨M, 7, none⟩ d).setCell ⟨M, 8, none⟩ e).setCell ⟨M, 9, none⟩ f).setCell ⟨M, 10, none⟩ g).heap[C]? = W.heap[C]? := by
  rw [Rt.other_setCell hne, Rt.other_setCell hne, Rt.other_setCell hne, Rt.other_setCell hne, Rt.other_setCell hne, Rt.other_setCell hne, Rt.other_setCell hne]
theorem b7 {w W : World} {M n : Nat} (h : Below n w W) (hM : n ≤ M) (a b c d e f g : Value) : Below n w (((((((W.setCell ⟨M, 11, none⟩ a).setCell ⟨M, 5, none⟩ b).setCell ⟨M, 6, none⟩ c).setCell ⟨M, 7, none⟩ d).setCell ⟨M, 8, none⟩ e).setCell ⟨M, 9, none⟩ f).setCell ⟨M, 10, none⟩ g) :=
  ((((((h.setCell (p := ⟨M, 11, none⟩) hM _).setCell (p := ⟨M, 5, none⟩) hM _).setCell (p := ⟨M, 6, none⟩) hM _).setCell (p := ⟨M, 7, none⟩) hM _).setCell (p := ⟨M, 8, none⟩) hM _).setCell (p := ⟨M, 9, none⟩) hM _).setCell (p := ⟨M, 10, none⟩) hM _
structure TC (t : Tr) (c : Array Value) : Prop where
  out : tcs t = c
structure MC (m : Mb) (c : Array Value) : Prop where
  out : mba m = c
theorem mb_of {n : Nat} {w X : World} (h : Below n w (X.alloc (.cells (mba zMb) 27))) : MA (X.alloc (.cells (mba zMb) 27)) X.heap.size zMb := heap_alloc_last X _
theorem mb_of2 {n : Nat} {w X : World} (h : Below n w (X.alloc (.cells #[.int .i64 0, .int .i64 0, .int .i64 0, .int .i64 0, .int .i64 0, .int .i64 0, .int .i64 0, .int .i64 0, .int .i64 0, .int .i64 0, .int .i64 0, .bool false, .bool false, .int .i64 0] 27))) : MA (X.alloc (.cells #[.int .i64 0, .int .i64 0, .int .i64 0, .int .i64 0, .int .i64 0, .int .i64 0, .int .i64 0, .int .i64 0, .int .i64 0, .int .i64 0, .int .i64 0, .bool false, .bool false, .int .i64 0] 27)) X.heap.size zMb := heap_alloc_last X _
end Go.Proofs.Ytpimbpfefhkojaa.Rv
