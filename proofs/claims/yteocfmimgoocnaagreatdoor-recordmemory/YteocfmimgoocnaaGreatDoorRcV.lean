/- A record whose lists are written to, and what stays. -/
import Derived.Test.YteocfmimgoocnaaGreatDoorPlV
import Derived.Test.YteocfmimgoocnaaGreatDoorRcO
import Derived.Test.YteocfmimgoocnaaGreatDoorRcJ1
namespace Go.Proofs.YteocfmimgoocnaaGreatDoor.Rc
open Go.ChangeShapes Go.WideShapes Go.ChangeAt Go.RowKit Go.Maps Go.Shelf
open Rs (Ke Slot own_set own_ge own_ne own_other ps RdI i64s row_setCell other_setCell row_frozen grown_bel owns_later)
open Bt (tb bys tx pk bo)
set_option linter.unusedVariables false
set_option linter.unusedSimpArgs false

set_option maxRecDepth 100000 in
theorem smS_ne (a a' : Option Addr) (c c' n n' : Nat) (w : World) (hn : n ≠ n') :
    Calls Tryz.prog 19 #[.slice a n c, .slice a' n' c'] w fun e w' => e = .returned (.bool false) ∧ Below w.heap.size w w' := by
  have hne : (((n : Nat) : Int) != ((n' : Nat) : Int)) = true := by simp; omega
  have hne2 : (n != n') = true := by simpa using hn
  go_enter Tryz.func19, Tryz.ntmps19
  go_wp2_with fail
  go_ret
  exact ⟨rfl, Below.refl _ _⟩
theorem wantL {w w' : World} {aL a4 : Option Addr} {t : Tr} {L J : List Int} (h : a4 = aL ∨ a4 = none) (r : RdI w' a4 (oLv t L J)) (rL : RdI w aL L) : ∀ W, Below w.heap.size w W → RdI W a4 (oLv t L J) := fun W hW => by
  rcases h with rfl | rfl
  · unfold oLv
    split
    · exact rL.later hW
    · exact Rs.RdI.nil _ _
  · intro i hi
    obtain ⟨b, o, e, _⟩ := r i hi
    cases e
theorem own_cells1 {W : World} {b : Nat} {e : TypeId} {a : Option Addr} {n cap : Nat} {xs : List Value} (h : W.ownsRow b e 1 (.slice a n cap) n xs) {k : Nat} (hk : k < n) : ∃ g u0, a = some ⟨g, 0, none⟩ ∧ W.cell? ⟨g, k, none⟩ = some u0 ∧ W.frozen? ⟨g, k, none⟩ = false := by
  rcases h.2 with ⟨h0, h00⟩ | ⟨g, cap', cur, h5, h3, h4, h6, h7, h8, _⟩
  · omega
  · simp at h5
    obtain ⟨rfl, rfl⟩ := h5
    exact ⟨g, cur[k]'(by omega), rfl, by rw [cell_of_row W g _ _ _ _ h4]; exact Array.getElem?_eq_getElem (by omega), row_frozen h4 _⟩
def Wm (ga s7 s9 sc sd : Nat) (k : Nat) : Prop := k = ga ∨ (s7 ≤ k ∧ k < s9) ∨ (sc ≤ k ∧ k < sd)
/- A record's box and the seats that join, in a range of memory. -/
structure Mw (lo top : Nat) (W : World) (BN : Nat) (e f : Int) (a1 a2 : Option Addr) (k1 k2 : Nat) (ll : List Int) (lj : List (Int × Int)) : Prop where
  o2 : W.ownsRow lo 62 2 (.slice a2 lj.length k2) lj.length (ps lj)
  rc : RcAt W BN #[.int .i64 e, .int .i64 f, .slice a1 ll.length k1, .slice a2 lj.length k2]
  ge : lo ≤ BN
  lt : BN < top
  n2 : ∀ g, (Value.slice a2 lj.length k2).ownBlock = some g → lo ≤ g ∧ g < top
structure Ms (lo top : Nat) (W : World) (BN : Nat) (e f : Int) (a1 a2 : Option Addr) (k1 k2 : Nat) (ll : List Int) (lj : List (Int × Int)) : Prop where
  mw : Mw lo top W BN e f a1 a2 k1 k2 ll lj
  o1 : W.ownsRow lo 3 1 (.slice a1 ll.length k1) ll.length (i64s ll)
  n1 : ∀ g, (Value.slice a1 ll.length k1).ownBlock = some g → lo ≤ g ∧ g < top
section
variable {lo top : Nat} {V W W' : World} {BN : Nat} {e f : Int} {a1 a2 : Option Addr} {k1 k2 : Nat} {ll : List Int} {lj : List (Int × Int)} {ga s7 s9 sc sd : Nat}
theorem Mw.mk' (h2 : W.ownsRow lo 62 2 (.slice a2 lj.length k2) lj.length (ps lj)) (h5 : RcAt W BN #[.int .i64 e, .int .i64 f, .slice a1 ll.length k1, .slice a2 lj.length k2]) (h6 : lo ≤ BN) : Mw lo W.heap.size W BN e f a1 a2 k1 k2 ll lj :=
  ⟨h2, h5, h6, (Array.getElem?_eq_some_iff.1 h5).1, fun g e => own_ge h2 e⟩
theorem Ms.mk' (h1 : W.ownsRow lo 3 1 (.slice a1 ll.length k1) ll.length (i64s ll)) (h2 : W.ownsRow lo 62 2 (.slice a2 lj.length k2) lj.length (ps lj)) (h5 : RcAt W BN #[.int .i64 e, .int .i64 f, .slice a1 ll.length k1, .slice a2 lj.length k2]) (h6 : lo ≤ BN) : Ms lo W.heap.size W BN e f a1 a2 k1 k2 ll lj :=
  ⟨Mw.mk' h2 h5 h6, h1, fun g e => own_ge h1 e⟩
theorem Mw.later (h : Mw lo top W BN e f a1 a2 k1 k2 ll lj) (hb : Below W.heap.size W W') : Mw lo top W' BN e f a1 a2 k1 k2 ll lj := ⟨owns_later h.o2 hb, h.rc.later hb, h.ge, h.lt, h.n2⟩
theorem Ms.later (h : Ms lo top W BN e f a1 a2 k1 k2 ll lj) (hb : Below W.heap.size W W') : Ms lo top W' BN e f a1 a2 k1 k2 ll lj := ⟨h.mw.later hb, owns_later h.o1 hb, h.n1⟩
theorem Mw.ke (h : Mw lo top V BN e f a1 a2 k1 k2 ll lj) (hk : Ke (Wm ga s7 s9 sc sd) V W) (hg : ga < lo) (h1 : top ≤ s7 ∨ s9 ≤ lo) (h2 : top ≤ sc ∨ sd ≤ lo) : RdP W a2 lj ∧ RcAt W BN #[.int .i64 e, .int .i64 f, .slice a1 ll.length k1, .slice a2 lj.length k2] := by
  refine ⟨rdP_of (own_other h.o2 fun g hg' => ?_), ?_⟩
  · have q := h.n2 g hg'
    refine hk.block g (own_ge h.o2 hg').2 ?_
    rintro (h3 | h3 | h3) <;> omega
  · have q := h.ge
    have q' := h.lt
    refine (hk.block BN (Array.getElem?_eq_some_iff.1 h.rc).1 ?_).trans h.rc
    rintro (h3 | h3 | h3) <;> omega
theorem Ms.ke (h : Ms lo top V BN e f a1 a2 k1 k2 ll lj) (hk : Ke (Wm ga s7 s9 sc sd) V W) (hg : ga < lo) (h1 : top ≤ s7 ∨ s9 ≤ lo) (h2 : top ≤ sc ∨ sd ≤ lo) : RdI W a1 ll ∧ RdP W a2 lj ∧ RcAt W BN #[.int .i64 e, .int .i64 f, .slice a1 ll.length k1, .slice a2 lj.length k2] := by
  refine ⟨rdI_of (own_other h.o1 fun g hg' => ?_), h.mw.ke hk hg h1 h2⟩
  have q := h.n1 g hg'
  refine hk.block g (own_ge h.o1 hg').2 ?_
  rintro (h3 | h3 | h3) <;> omega
end
structure MM (w V W : World) (ga nA s7 s9 sc sd B1 B3 : Nat) (e1 f1 e3 f3 : Int) (vL1 vJ1 vL3 vJ3 : Value) (n1 m1 n3 m3 : Nat) : Prop where
  ke : Ke (Wm ga s7 s9 sc sd) V W
  bel : Below w.heap.size w W
  sa : Slot W ga 3 nA
  r1 : RcAt W B1 #[.int .i64 e1, .int .i64 f1, vL1, vJ1]
  r3 : RcAt W B3 #[.int .i64 e3, .int .i64 f3, vL3, vJ3]
  l1 : ∃ xs, W.ownsRow s7 3 1 vL1 n1 xs
  j1 : ∃ xs, W.ownsRow s7 62 2 vJ1 m1 xs
  l3 : ∃ xs, W.ownsRow sc 3 1 vL3 n3 xs
  j3 : ∃ xs, W.ownsRow sc 62 2 vJ3 m3 xs
structure MC (w V : World) (ga s7 s9 sc sd B1 B3 : Nat) : Prop where
  ws : w.heap.size ≤ ga
  ag : ga < s7
  b1 : s7 ≤ B1
  c1 : B1 < s9
  h1 : s9 ≤ sc
  b3 : sc ≤ B3
  c3 : B3 < sd
  v : sd ≤ V.heap.size
structure MZ (w V W : World) (ga s7 s9 sc sd B1 B3 : Nat) (c1 c3 : Array Value) : Prop where
  ke : Ke (Wm ga s7 s9 sc sd) V W
  bel : Below w.heap.size w W
  r1 : RcAt W B1 c1
  r3 : RcAt W B3 c3
section
variable {w V W W' : World} {ga nA s7 s9 sc sd B1 B3 : Nat} {e1 f1 e3 f3 : Int} {vL1 vJ1 vL3 vJ3 : Value} {n1 m1 n3 m3 : Nat}
theorem MM.set (h : MM w V W ga nA s7 s9 sc sd B1 B3 e1 f1 e3 f3 vL1 vJ1 vL3 vJ3 n1 m1 n3 m3) {g : Nat} (hP : Wm ga s7 s9 sc sd g) (hw : w.heap.size ≤ g) (hne : B1 ≠ g) (hne3 : B3 ≠ g) (j : Nat) (u : Value) : MM w V (W.setCell ⟨g, j, none⟩ u) ga nA s7 s9 sc sd B1 B3 e1 f1 e3 f3 vL1 vJ1 vL3 vJ3 n1 m1 n3 m3 := by
  obtain ⟨x1, h1⟩ := h.l1
  obtain ⟨x2, h2⟩ := h.j1
  obtain ⟨x3, h3⟩ := h.l3
  obtain ⟨x4, h4⟩ := h.j3
  exact ⟨h.ke.set hP j u, h.bel.setCell (p := ⟨g, j, none⟩) hw u, h.sa.set g j u, (other_setCell hne j u).trans h.r1, (other_setCell hne3 j u).trans h.r3, own_set h1 g j u, own_set h2 g j u, own_set h3 g j u, own_set h4 g j u⟩
theorem MM.set2 (h : MM w V W ga nA s7 s9 sc sd B1 B3 e1 f1 e3 f3 vL1 vJ1 vL3 vJ3 n1 m1 n3 m3) {g : Nat} (hP : Wm ga s7 s9 sc sd g) (hw : w.heap.size ≤ g) (hne : B1 ≠ g) (hne3 : B3 ≠ g) (j0 j1 : Nat) (u0 u1 : Value) : MM w V ((W.setCell ⟨g, j0, none⟩ u0).setCell ⟨g, j1, none⟩ u1) ga nA s7 s9 sc sd B1 B3 e1 f1 e3 f3 vL1 vJ1 vL3 vJ3 n1 m1 n3 m3 := (h.set hP hw hne hne3 j0 u0).set hP hw hne hne3 j1 u1
theorem MM.s1 (h : MM w V W ga nA s7 s9 sc sd B1 B3 e1 f1 e3 f3 vL1 vJ1 vL3 vJ3 n1 m1 n3 m3) : Slot W B1 38 0 := ⟨_, h.r1, Nat.zero_le _⟩
theorem MM.s3 (h : MM w V W ga nA s7 s9 sc sd B1 B3 e1 f1 e3 f3 vL1 vJ1 vL3 vJ3 n1 m1 n3 m3) : Slot W B3 38 0 := ⟨_, h.r3, Nat.zero_le _⟩
theorem rc_slot {c : Array Value} {B : Nat} (h : RcAt W B c) : Slot W B 38 0 := ⟨_, h, Nat.zero_le _⟩
/- A list of a record grows, and is put into it. -/
theorem rc_grown {v : Value} {c : Array Value} {B b sz n : Nat} {e : TypeId} {xs : List Value} {o : Obj} (h : RcAt W B c) (hx : W.ownsRow b e sz v n xs) (he : e ≠ 38) (hg : (W.alloc o).grownBy W' v.ownBlock) : RcAt W' B c :=
  (grown_lt hg (Array.getElem?_eq_some_iff.1 h).1 (own_ne hx (rc_slot h) he)).trans h
theorem MM.appL1 {v' : Value} {xs : List Value} {o : Obj} (h : MM w V W ga nA s7 s9 sc sd B1 B3 e1 f1 e3 f3 vL1 vJ1 vL3 vJ3 n1 m1 n3 m3) (hc : MC w V ga s7 s9 sc sd B1 B3) (hx : W.ownsRow s7 3 1 vL1 n1 xs) (hg : (W.alloc o).grownBy W' vL1.ownBlock) (hP : ∀ g, vL1.ownBlock = some g → s7 ≤ g ∧ g < s9) :
    MZ w V (W'.setCell ⟨B1, 2, none⟩ v') ga s7 s9 sc sd B1 B3 #[.int .i64 e1, .int .i64 f1, v', vJ1] #[.int .i64 e3, .int .i64 f3, vL3, vJ3] ∧ (∃ ys, (W'.setCell ⟨B1, 2, none⟩ v').ownsRow sc 3 1 vL3 n3 ys) ∧ ∃ ys, (W'.setCell ⟨B1, 2, none⟩ v').ownsRow s7 62 2 vJ1 m1 ys := by
  obtain ⟨x2, h2⟩ := h.j1
  obtain ⟨x3, h3⟩ := h.l3
  have c0 := hc.ws
  have c1 := hc.ag
  have c2 := hc.b1
  have c3 := hc.c1
  have c4 := hc.h1
  have c5 := hc.b3
  have h2' : W'.ownsRow s7 62 2 vJ1 m1 x2 := own_other h2 fun g hgj => grown_lt hg (own_ge h2 hgj).2 (own_ne2 hx h2 (by decide) hgj)
  have h3' : W'.ownsRow sc 3 1 vL3 n3 x3 := own_other h3 fun g hgj => grown_lt hg (own_ge h3 hgj).2 (fun e => by have q1 := hP g e; have q2 := own_ge h3 hgj; omega)
  refine ⟨⟨(h.ke.grown hg fun g e _ => .inr (.inl (hP g e))).set (.inr (.inl ⟨c2, c3⟩)) 2 v', (grown_bel h.bel hx (by omega) hg).setCell (p := ⟨B1, 2, none⟩) (by show w.heap.size ≤ B1; omega) v', ?_, ?_⟩, own_set h3' _ _ _, own_set h2' _ _ _⟩
  · exact row_setCell (rc_grown h.r1 hx (by decide) hg) 2 v'
  · exact (other_setCell (by omega) 2 v').trans (rc_grown h.r3 hx (by decide) hg)
theorem MZ.appL3 {v' : Value} {xs : List Value} {o : Obj} {vl1 : Value} (h : MZ w V W ga s7 s9 sc sd B1 B3 #[.int .i64 e1, .int .i64 f1, vl1, vJ1] #[.int .i64 e3, .int .i64 f3, vL3, vJ3]) (hj : ∃ ys, W.ownsRow s7 62 2 vJ1 m1 ys) (hc : MC w V ga s7 s9 sc sd B1 B3) (hx : W.ownsRow sc 3 1 vL3 n3 xs) (hg : (W.alloc o).grownBy W' vL3.ownBlock) (hP : ∀ g, vL3.ownBlock = some g → sc ≤ g ∧ g < sd) :
    MZ w V (W'.setCell ⟨B3, 2, none⟩ v') ga s7 s9 sc sd B1 B3 #[.int .i64 e1, .int .i64 f1, vl1, vJ1] #[.int .i64 e3, .int .i64 f3, v', vJ3] ∧ ∃ ys, (W'.setCell ⟨B3, 2, none⟩ v').ownsRow s7 62 2 vJ1 m1 ys := by
  obtain ⟨x2, h2⟩ := hj
  have c0 := hc.ws
  have c1 := hc.ag
  have c2 := hc.b1
  have c3 := hc.c1
  have c4 := hc.h1
  have c5 := hc.b3
  have c6 := hc.c3
  have h2' : W'.ownsRow s7 62 2 vJ1 m1 x2 := own_other h2 fun g hgj => grown_lt hg (own_ge h2 hgj).2 (own_ne2 hx h2 (by decide) hgj)
  refine ⟨⟨(h.ke.grown hg fun g e _ => .inr (.inr (hP g e))).set (.inr (.inr ⟨c5, c6⟩)) 2 v', (grown_bel h.bel hx (by omega) hg).setCell (p := ⟨B3, 2, none⟩) (by show w.heap.size ≤ B3; omega) v', ?_, ?_⟩, own_set h2' _ _ _⟩
  · exact (other_setCell (by omega) 2 v').trans (rc_grown h.r1 hx (by decide) hg)
  · exact row_setCell (rc_grown h.r3 hx (by decide) hg) 2 v'
theorem MZ.appJ1 {v' : Value} {xs : List Value} {o : Obj} {vl1 : Value} {c3' : Array Value} (h : MZ w V W ga s7 s9 sc sd B1 B3 #[.int .i64 e1, .int .i64 f1, vl1, vJ1] c3') (hc : MC w V ga s7 s9 sc sd B1 B3) (hx : W.ownsRow s7 62 2 vJ1 m1 xs) (hg : (W.alloc o).grownBy W' vJ1.ownBlock) (hP : ∀ g, vJ1.ownBlock = some g → s7 ≤ g ∧ g < s9) :
    MZ w V (W'.setCell ⟨B1, 3, none⟩ v') ga s7 s9 sc sd B1 B3 #[.int .i64 e1, .int .i64 f1, vl1, v'] c3' := by
  have c0 := hc.ws
  have c1 := hc.ag
  have c2 := hc.b1
  have c3 := hc.c1
  have c4 := hc.h1
  have c5 := hc.b3
  refine ⟨(h.ke.grown hg fun g e _ => .inr (.inl (hP g e))).set (.inr (.inl ⟨c2, c3⟩)) 3 v', (grown_bel h.bel hx (by omega) hg).setCell (p := ⟨B1, 3, none⟩) (by show w.heap.size ≤ B1; omega) v', ?_, ?_⟩
  · exact row_setCell (rc_grown h.r1 hx (by decide) hg) 3 v'
  · exact (other_setCell (by omega) 3 v').trans (rc_grown h.r3 hx (by decide) hg)
end
end Go.Proofs.YteocfmimgoocnaaGreatDoor.Rc
