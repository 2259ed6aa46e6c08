/- Contracts: Seal and Open, of the program and of the document, on plain data. -/
import Derived.Test.YtpimbpfefhkojaaMbJ1
import Derived.Test.YtpimbpfefhkojaaMbU
import Derived.Test.YtpimbpfefhkojaaWiJ2
import Derived.Test.YtpimbpfefhkojaaWiI
namespace Go.Proofs.Ytpimbpfefhkojaa.Rv
open Go.RowKit Go.Maps Mb
open Rt (Ky zK KyAt)
open Wi (gE gK gD zD sdl stl ldM rd_guard ra_of th_of ra_later RdV MR mgv mD)
set_option linter.unusedVariables false
set_option linter.unusedSimpArgs false

abbrev Sd := Int × ((Int × Int) × ByteArray)
def kpr2 (k : Ky) : Int × Int := (k.bas, k.stp)
def slE (m : Mb) (n : Nat) : Int := if grE m = 0 then (if n ≤ 64 then 0 else 25) else grE m
def slD (m : Mb) (s : ByteArray) : Sd := if slE m s.size = 0 then (m.ep, (kpr2 (grK m), s)) else zD
def opE (m : Mb) (d : Sd) : Int := if grE m = 0 then (if gD d = true then (if d.1 < m.ep then 21 else if m.ep < d.1 then 32 else if d.2.1 = kpr2 (grK m) then 0 else 5) else 13) else grE m
def opS (m : Mb) (d : Sd) : ByteArray := if opE m d = 0 then d.2.2 else ⟨#[]⟩
def SlA (m : Mb) (s : ByteArray) : Ending := .returned (.tuple #[.agg (sdl (slD m s)).toArray, .int .i64 (slE m s.size)])
def OpA (m : Mb) (d : Sd) : Ending := .returned (.tuple #[.string (opS m d), .int .i64 (opE m d)])
theorem sl_1 {m : Mb} {s : ByteArray} {e : Int} (h : grE m = e) (he : e ≠ 0) : Ending.returned (.tuple #[.agg (sdl zD).toArray, .int .i64 e]) = SlA m s := by subst h; unfold SlA slD slE; simp [he]
theorem sl_2 {m : Mb} {s : ByteArray} (h : grE m = 0) (hn : ¬ s.size ≤ 64) : Ending.returned (.tuple #[.agg (sdl zD).toArray, .int .i64 25]) = SlA m s := by unfold SlA slD slE; simp [h, hn]
theorem sl_3 {m : Mb} {s : ByteArray} {k : Ky} (h : grE m = 0) (hk : grK m = k) (hn : s.size ≤ 64) : Ending.returned (.tuple #[.agg (sdl (m.ep, (kpr2 k, s))).toArray, .int .i64 0]) = SlA m s := by subst hk; unfold SlA slD slE; simp [h, hn]
theorem op_1 {m : Mb} {d : Sd} {e : Int} (h : grE m = e) (he : e ≠ 0) : Ending.returned (.tuple #[.string ⟨#[]⟩, .int .i64 e]) = OpA m d := by subst h; unfold OpA opS opE; simp [he]
theorem op_2 {m : Mb} {d : Sd} (h : grE m = 0) (hg : gD d = false) : Ending.returned (.tuple #[.string ⟨#[]⟩, .int .i64 13]) = OpA m d := by unfold OpA opS opE; simp [h, hg]
theorem op_3 {m : Mb} {d : Sd} (h : grE m = 0) (hg : gD d = true) (h1 : d.1 < m.ep) : Ending.returned (.tuple #[.string ⟨#[]⟩, .int .i64 21]) = OpA m d := by unfold OpA opS opE; simp [h, hg, h1]
theorem op_4 {m : Mb} {d : Sd} (h : grE m = 0) (hg : gD d = true) (h1 : m.ep < d.1) : Ending.returned (.tuple #[.string ⟨#[]⟩, .int .i64 32]) = OpA m d := by unfold OpA opS opE; simp [h, hg, h1, show ¬ d.1 < m.ep by omega]
theorem op_5 {m : Mb} {d : Sd} {k : Ky} (h : grE m = 0) (hk : grK m = k) (hg : gD d = true) (h1 : d.1 = m.ep) (h2 : d.2.1 ≠ kpr2 k) : Ending.returned (.tuple #[.string ⟨#[]⟩, .int .i64 5]) = OpA m d := by subst hk; unfold OpA opS opE; simp [h, hg, h1, h2]
theorem op_6 {m : Mb} {d : Sd} {k : Ky} (h : grE m = 0) (hk : grK m = k) (hg : gD d = true) (h1 : d.1 = m.ep) (h2 : d.2.1 = kpr2 k) : Ending.returned (.tuple #[.string d.2.2, .int .i64 0]) = OpA m d := by subst hk; unfold OpA opS opE; simp [h, hg, h1, h2]
/- A sealed text in a block. -/
def DAt (w : World) (B : Nat) (d : Sd) : Prop := w.heap[B]? = some (.cells (sdl d).toArray 30 (0, 0))
theorem sdl_one (d : Sd) : (sdl d).toArray.all (·.oneCell') = true := by simp [sdl, Value.oneCell']
theorem DAt.later {w w' : World} {B : Nat} {d : Sd} (h : DAt w B d) (hb : Below w.heap.size w w') : DAt w' B d := row_later h hb
theorem DAt.new (w : World) (d : Sd) : DAt (w.alloc (.cells (sdl d).toArray 30)) w.heap.size d := heap_alloc_last w _
theorem DAt.all {w : World} {B : Nat} {d : Sd} (h : DAt w B d) : w.rangeAt B 0 (sdl d) := ra_of h 0 _ rfl
theorem DAt.key {w : World} {B : Nat} {d : Sd} (h : DAt w B d) : w.rangeAt B 1 (stl d.2.1) := ra_of h 1 _ rfl
theorem DAt.ep {w : World} {B : Nat} {d : Sd} (h : DAt w B d) : w.cell? ⟨B, 0, none⟩ = some (.int .i64 d.1) := cell_of_row w B 0 _ _ _ h
theorem DAt.txt {w : World} {B : Nat} {d : Sd} (h : DAt w B d) : w.cell? ⟨B, 3, none⟩ = some (.string d.2.2) := cell_of_row w B 3 _ _ _ h
theorem DAt.var {w : World} {B : Nat} {d : Sd} (h : DAt w B d) : (loadVar 30 ⟨B, 0, none⟩).run Try.prog w = .ok (.agg (sdl d).toArray) w := run_loadVar_row w B _ 30 _ _ _ h Try.underlying30 rfl Wi.szSd
theorem DAt.row {w : World} {B : Nat} {d : Sd} (h : DAt w B d) (d' : Sd) : DAt (w.setRow B (sdl d').toArray) B d' := Rt.heap_setRow_same h _
structure SE (w W : World) (B K : Nat) (m : Mb) : Prop where
  mb : MA W B m
  re : DAt W K zD
  bel : Below w.heap.size w W
  ge : w.heap.size ≤ K
theorem SE.later {w W W' : World} {B K : Nat} {m : Mb} (h : SE w W B K m) (hb : Below W.heap.size W W') : SE w W' B K m := ⟨h.mb.later hb, h.re.later hb, h.bel.trans (hb.mono h.bel.size), h.ge⟩
theorem SE.new (w : World) (m : Mb) : SE w ((w.alloc (.cells (mba m) 27)).alloc (.cells #[.int .i64 0, .int .i64 0, .int .i64 0, .string ⟨#[]⟩] 30)) w.heap.size (w.heap.size + 1) m := by
  have h2 := DAt.new (w.alloc (.cells (mba m) 27)) zD
  rw [World.size_alloc] at h2
  exact ⟨(MA.new w m).later (below_alloc _ _), h2, Wi.Below.plus (below_alloc _ _) _, by omega⟩
set_option maxRecDepth 100000 in
set_option maxHeartbeats 1000000 in
theorem seal_any (m : Mb) (s : ByteArray) (w : World) (hs : s.size < 4611686018427387904) : Calls Try.prog 8 #[.agg (mba m), .string s] w fun r w' => r = SlA m s ∧ Below w.heap.size w w' := by
  have hS := SE.new w m
  have h1 := group_any m
  unfold GrpA at h1
  obtain ⟨e, he⟩ : ∃ e, grE m = e := ⟨_, rfl⟩
  obtain ⟨k, hk⟩ : ∃ k, grK m = k := ⟨_, rfl⟩
  rw [he, hk] at h1
  have HE : Hid (grE m = e) := he
  have HK : Hid (grK m = k) := hk
  clear he hk
  obtain ⟨cm, hcm⟩ : ∃ c, mba m = c := ⟨_, rfl⟩
  have HC : Hid (mba m = cm) := hcm
  rw [hcm] at hS
  simp only [hcm] at h1
  rw [hcm]
  clear hcm
  go_enter Try.func8, Try.ntmps8
  go_upto_region 1 with (fail)
  generalize (w.alloc (.cells cm 27)).alloc (.cells #[.int .i64 0, .int .i64 0, .int .i64 0, .string ⟨#[]⟩] 30) = w1 at *
  obtain ⟨K, hKe⟩ : ∃ K, w.heap.size + 1 = K := ⟨_, rfl⟩
  obtain ⟨B, hBe⟩ : ∃ B, w.heap.size = B := ⟨_, rfl⟩
  rw [hKe, hBe] at hS ⊢
  clear hKe hBe
  go_wp2_with (refine ldMb hS.mb HC.out _ rfl rfl rfl ?_)
  refine (h1 _).mono ?_
  rintro r w2 ⟨rfl, hb2⟩
  have hS2 := hS.later (Wi.Below.join hb2 (below_alloc w2 (.cells #[.int .i64 k.bas, .int .i64 k.stp] 23)))
  have hG := heap_alloc_last w2 (.cells #[.int .i64 k.bas, .int .i64 k.stp] 23)
  clear hS hb2 h1
  go_upto_region 2 with (fail)
  generalize w2.alloc (.cells #[.int .i64 k.bas, .int .i64 k.stp] 23) = w3 at *
  generalize w2.heap.size = G at *
  have g0 : w3.cell? ⟨G, 0, none⟩ = some (.int .i64 k.bas) := cell_of_row w3 G 0 _ _ _ hG
  have g1 : w3.cell? ⟨G, 1, none⟩ = some (.int .i64 k.stp) := cell_of_row w3 G 1 _ _ _ hG
  have c2 := hS2.mb.ep
  have HBL : Hid (Below w.heap.size w w3) := hS2.bel
  have HGE : Hid (w.heap.size ≤ K) := hS2.ge
  have HD : Hid (DAt w3 K zD) := hS2.re
  clear hS2 hG
  by_cases he0 : e = 0
  · subst he0
    obtain ⟨n, hn⟩ : ∃ n, s.size = n := ⟨_, rfl⟩
    rw [hn] at hs
    by_cases h64 : n ≤ 64
    · have HA : Hid _ := sl_3 (s := s) HE.out HK.out (by rw [hn]; exact h64)
      have d1 : ¬ 64 < (n : Int) := by omega
      have d2 : decide (64 < (n : Int)) = false := decide_eq_false d1
      have d3 : decide ((n : Int) > 64) = false := decide_eq_false d1
      clear h64
      go_wp2_with (refine stRow Wi.szSd (cs := (sdl zD).toArray) rfl HD.out (sdl (m.ep, (kpr2 k, s))).toArray rfl (sdl_one _) rfl _ _ rfl rfl rfl ?_)
      refine bodyPost_ret (resRow (p := 4) (t := 5) rfl _ _ K (sdl (m.ep, (kpr2 k, s))).toArray rfl (HD.out.row (m.ep, (kpr2 k, s))).var) rfl ?_
      exact ⟨HA.out, Rt.setRow_below HGE.out HBL.out _⟩
    · have HA : Hid _ := sl_2 (s := s) HE.out (by rw [hn]; exact h64)
      have d1 : 64 < (n : Int) := by omega
      have d2 : decide (64 < (n : Int)) = true := decide_eq_true d1
      have d3 : decide ((n : Int) > 64) = true := decide_eq_true d1
      clear h64
      go_wp2_with (refine stRow Wi.szSd (cs := (sdl zD).toArray) rfl HD.out (sdl zD).toArray rfl (sdl_one _) rfl _ _ rfl rfl rfl ?_)
      refine bodyPost_ret (resRow (p := 4) (t := 5) rfl _ _ K (sdl zD).toArray rfl (HD.out.row zD).var) rfl ?_
      exact ⟨HA.out, Rt.setRow_below HGE.out HBL.out _⟩
  · have d0 : (e != 0) = true := by simpa using he0
    have HA : Hid _ := sl_1 (s := s) HE.out he0
    clear he0
    go_wp2_with (refine stRow Wi.szSd (cs := (sdl zD).toArray) rfl HD.out (sdl zD).toArray rfl (sdl_one _) rfl _ _ rfl rfl rfl ?_)
    refine bodyPost_ret (resRow (p := 4) (t := 5) rfl _ _ K (sdl zD).toArray rfl (HD.out.row zD).var) rfl ?_
    exact ⟨HA.out, Rt.setRow_below HGE.out HBL.out _⟩
set_option maxRecDepth 100000 in
set_option maxHeartbeats 1000000 in
theorem rSeal_any (m : Mb) (s : ByteArray) (w : World) (hs : s.size < 4611686018427387904) : Calls Try.prog 9 #[.agg (mba m), .string s] w fun r w' => r = SlA m s ∧ Below w.heap.size w w' := by
  have hS := SE.new w m
  have h1 := rGroup_any m
  unfold GrpA at h1
  obtain ⟨e, he⟩ : ∃ e, grE m = e := ⟨_, rfl⟩
  obtain ⟨k, hk⟩ : ∃ k, grK m = k := ⟨_, rfl⟩
  rw [he, hk] at h1
  have HE : Hid (grE m = e) := he
  have HK : Hid (grK m = k) := hk
  clear he hk
  obtain ⟨cm, hcm⟩ : ∃ c, mba m = c := ⟨_, rfl⟩
  have HC : Hid (mba m = cm) := hcm
  rw [hcm] at hS
  simp only [hcm] at h1
  rw [hcm]
  clear hcm
  go_enter Try.func9, Try.ntmps9
  go_upto_region 1 with (fail)
  generalize (w.alloc (.cells cm 27)).alloc (.cells #[.int .i64 0, .int .i64 0, .int .i64 0, .string ⟨#[]⟩] 30) = w1 at *
  obtain ⟨K, hKe⟩ : ∃ K, w.heap.size + 1 = K := ⟨_, rfl⟩
  obtain ⟨B, hBe⟩ : ∃ B, w.heap.size = B := ⟨_, rfl⟩
  rw [hKe, hBe] at hS ⊢
  clear hKe hBe
  go_wp2_with (refine ldMb hS.mb HC.out _ rfl rfl rfl ?_)
  refine (h1 _).mono ?_
  rintro r w2 ⟨rfl, hb2⟩
  have hS2 := hS.later (Wi.Below.join hb2 (below_alloc w2 (.cells #[.int .i64 k.bas, .int .i64 k.stp] 23)))
  have hG := heap_alloc_last w2 (.cells #[.int .i64 k.bas, .int .i64 k.stp] 23)
  clear hS hb2 h1
  go_upto_region 2 with (fail)
  generalize w2.alloc (.cells #[.int .i64 k.bas, .int .i64 k.stp] 23) = w3 at *
  generalize w2.heap.size = G at *
  have g0 : w3.cell? ⟨G, 0, none⟩ = some (.int .i64 k.bas) := cell_of_row w3 G 0 _ _ _ hG
  have g1 : w3.cell? ⟨G, 1, none⟩ = some (.int .i64 k.stp) := cell_of_row w3 G 1 _ _ _ hG
  have c2 := hS2.mb.ep
  have HBL : Hid (Below w.heap.size w w3) := hS2.bel
  have HGE : Hid (w.heap.size ≤ K) := hS2.ge
  have HD : Hid (DAt w3 K zD) := hS2.re
  clear hS2 hG
  by_cases he0 : e = 0
  · subst he0
    obtain ⟨n, hn⟩ : ∃ n, s.size = n := ⟨_, rfl⟩
    rw [hn] at hs
    by_cases h64 : n ≤ 64
    · have HA : Hid _ := sl_3 (s := s) HE.out HK.out (by rw [hn]; exact h64)
      have d1 : ¬ 64 < (n : Int) := by omega
      have d2 : decide (64 < (n : Int)) = false := decide_eq_false d1
      have d3 : decide ((n : Int) > 64) = false := decide_eq_false d1
      clear h64
      go_wp2_with (refine stRow Wi.szSd (cs := (sdl zD).toArray) rfl HD.out (sdl (m.ep, (kpr2 k, s))).toArray rfl (sdl_one _) rfl _ _ rfl rfl rfl ?_)
      refine bodyPost_ret (resRow (p := 4) (t := 5) rfl _ _ K (sdl (m.ep, (kpr2 k, s))).toArray rfl (HD.out.row (m.ep, (kpr2 k, s))).var) rfl ?_
      exact ⟨HA.out, Rt.setRow_below HGE.out HBL.out _⟩
    · have HA : Hid _ := sl_2 (s := s) HE.out (by rw [hn]; exact h64)
      have d1 : 64 < (n : Int) := by omega
      have d2 : decide (64 < (n : Int)) = true := decide_eq_true d1
      have d3 : decide ((n : Int) > 64) = true := decide_eq_true d1
      clear h64
      go_wp2_with (refine stRow Wi.szSd (cs := (sdl zD).toArray) rfl HD.out (sdl zD).toArray rfl (sdl_one _) rfl _ _ rfl rfl rfl ?_)
      refine bodyPost_ret (resRow (p := 4) (t := 5) rfl _ _ K (sdl zD).toArray rfl (HD.out.row zD).var) rfl ?_
      exact ⟨HA.out, Rt.setRow_below HGE.out HBL.out _⟩
  · have d0 : (e != 0) = true := by simpa using he0
    have HA : Hid _ := sl_1 (s := s) HE.out he0
    clear he0
    go_wp2_with (refine stRow Wi.szSd (cs := (sdl zD).toArray) rfl HD.out (sdl zD).toArray rfl (sdl_one _) rfl _ _ rfl rfl rfl ?_)
    refine bodyPost_ret (resRow (p := 4) (t := 5) rfl _ _ K (sdl zD).toArray rfl (HD.out.row zD).var) rfl ?_
    exact ⟨HA.out, Rt.setRow_below HGE.out HBL.out _⟩
theorem neX {T : TypeId} {w : World} {cx cy : Array Value} {b : Bool} {ops : Array Oper} {rest : List Oper} {o : Oper} {a : Act} {Q : Exit → Act → World → Prop} (h : (Op.equalIn 10000 T (.agg cx) (.agg cy)).run Try.prog w = .ok b w) (hgt : Try.prog.eqGuardType Try.prog.depth T = false) (x y : Operand) (ho : o.op = .binOp .neq T x y T)
    (hx : a.eval x = .agg cx) (hy : a.eval y = .agg cy) (hw : Region.wanted o (yielded ops a.tmps) = true) (k : wpList Try.prog ops Q rest (a.put o.dst (.bool (!b))) w) : wpList Try.prog ops Q (o :: rest) a w := by
  refine rd_guard hw ?_ k
  have h3 := run_eqGuard_agg (P := Try.prog) w .neq T x y cx cy hgt
  have h4 := run_neq_struct (P := Try.prog) w T cx cy
  rw [h] at h4
  simp [execOp, ho, hx, hy, h3, h4, Sem.run_bind, Result.andThen]
set_option maxRecDepth 100000 in
set_option maxHeartbeats 2000000 in
theorem open_any (m : Mb) (d : Sd) (w : World) (hs : d.2.2.size < 4611686018427387904) : Calls Try.prog 10 #[.agg (mba m), .agg (sdl d).toArray] w fun r w' => r = OpA m d ∧ Below w.heap.size w w' := by
  have h1 := group_any m
  have hgd : ∀ W, Calls Try.prog 17 #[.agg (mgv (mD d) none none none 0 0 0).toArray] W fun e w' => e = .returned (.bool (gD d)) ∧ Below W.heap.size W w' := fun W => by
    have h := Wi.good_any (mD d) none none none 0 0 0 W ⟨RdV.nil _ _ _ _, RdV.nil _ _ _ _, RdV.nil _ _ _ _, by show (0 : Nat) < _; decide, by show (0 : Nat) < _; decide, by show (0 : Nat) < _; decide, hs⟩
    rw [show Wi.gM (mD d) = gD d by unfold Wi.gM mD; simp [show Wi.nR Wi.zR = true from rfl]] at h
    exact h
  have HGD : Hid _ := hgd
  clear hgd hs
  have hM := MA.new w m
  have hD0 := DAt.new (w.alloc (.cells (mba m) 27)) d
  rw [World.size_alloc] at hD0
  have hM2 := hM.later (below_alloc _ (.cells (sdl d).toArray 30))
  have hB : Below w.heap.size w ((w.alloc (.cells (mba m) 27)).alloc (.cells (sdl d).toArray 30)) := Wi.Below.plus (below_alloc _ _) _
  clear hM
  unfold GrpA at h1
  obtain ⟨e, he⟩ : ∃ e, grE m = e := ⟨_, rfl⟩
  obtain ⟨k, hk⟩ : ∃ k, grK m = k := ⟨_, rfl⟩
  rw [he, hk] at h1
  have HE : Hid (grE m = e) := he
  have HK : Hid (grK m = k) := hk
  clear he hk
  obtain ⟨cm, hcm⟩ : ∃ c, mba m = c := ⟨_, rfl⟩
  have HC : Hid (mba m = cm) := hcm
  rw [hcm] at hM2 hD0 hB
  simp only [hcm] at h1
  rw [hcm]
  clear hcm
  go_enter Try.func10, Try.ntmps10
  go_upto_region 1 with (fail)
  generalize (w.alloc (.cells cm 27)).alloc (.cells (sdl d).toArray 30) = w1 at *
  obtain ⟨K, hKe⟩ : ∃ K, w.heap.size + 1 = K := ⟨_, rfl⟩
  have HB : Hid (Below w.heap.size w w1) := hB
  clear hB
  obtain ⟨B, hBe⟩ : ∃ B, w.heap.size = B := ⟨_, rfl⟩
  rw [hKe] at hD0 ⊢
  rw [hBe] at hM2 ⊢
  clear hKe hBe
  go_wp2_with (refine ldMb hM2 HC.out _ rfl rfl rfl ?_)
  refine (h1 _).mono ?_
  rintro r w2 ⟨rfl, hb2⟩
  have hb3 := Wi.Below.join hb2 (below_alloc w2 (.cells #[.int .i64 k.bas, .int .i64 k.stp] 23))
  have hM3 := hM2.later hb3
  have hD3 := hD0.later hb3
  have HB3 : Hid (Below w.heap.size w (w2.alloc (.cells #[.int .i64 k.bas, .int .i64 k.stp] 23))) := Wi.Below.join HB.out hb3
  have hG3 := heap_alloc_last w2 (.cells #[.int .i64 k.bas, .int .i64 k.stp] 23)
  clear hM2 hD0 HB hb2 hb3 h1
  go_upto_region 2 with (fail)
  generalize w2.alloc (.cells #[.int .i64 k.bas, .int .i64 k.stp] 23) = w3 at *
  generalize w2.heap.size = G at *
  by_cases he0 : e = 0
  rotate_left
  · have d0 : (e != 0) = true := by simpa using he0
    have HA : Hid _ := op_1 (d := d) HE.out he0
    clear he0 hM3 hD3 hG3
    go_wp2_with fail
    go_ret2
    exact ⟨HA.out, HB3.out⟩
  subst he0
  have HDA : Hid (w3.rangeAt K 0 [.int .i64 d.1, .int .i64 d.2.1.1, .int .i64 d.2.1.2, .string d.2.2]) := hD3.all
  go_wp2_with (refine ldM HDA.out Try.underlying30 rfl Wi.szSd _ rfl rfl rfl ?_)
  refine (HGD.out w3).mono ?_
  rintro r w4 ⟨rfl, hb4⟩
  have hM4 := hM3.later hb4
  have hD4 := hD3.later hb4
  have hG4 : w4.rangeAt G 0 (stl (kpr2 k)) := ra_of (row_later hG3 hb4) 0 _ rfl
  have HB4 : Hid (Below w.heap.size w w4) := Wi.Below.join HB3.out hb4
  clear hb4 hM3 hD3 hG3 HB3 HDA
  obtain ⟨g, hg⟩ : ∃ g, gD d = g := ⟨_, rfl⟩
  have HG : Hid (gD d = g) := hg
  rw [hg]
  clear hg
  cases g with
  | false =>
    have HA : Hid _ := op_2 (m := m) HE.out HG.out
    clear hM4 hD4 hG4
    go_wp2_with fail
    go_ret2
    exact ⟨HA.out, HB4.out⟩
  | true =>
    have c0 := hD4.ep
    have c2 := hM4.ep
    have HKD : Hid (w4.rangeAt K 1 (stl d.2.1)) := hD4.key
    have HGG : Hid (w4.rangeAt G 0 (stl (kpr2 k))) := hG4
    have c3 := hD4.txt
    have HA3 : Hid (d.1 < m.ep → Ending.returned (.tuple #[.string ⟨#[]⟩, .int .i64 21]) = OpA m d) := op_3 HE.out HG.out
    have HA4 : Hid (m.ep < d.1 → Ending.returned (.tuple #[.string ⟨#[]⟩, .int .i64 32]) = OpA m d) := op_4 HE.out HG.out
    have HA5 : Hid (d.1 = m.ep → d.2.1 ≠ kpr2 k → Ending.returned (.tuple #[.string ⟨#[]⟩, .int .i64 5]) = OpA m d) := op_5 HE.out HK.out HG.out
    have HA6 : Hid (d.1 = m.ep → d.2.1 = kpr2 k → Ending.returned (.tuple #[.string d.2.2, .int .i64 0]) = OpA m d) := op_6 HE.out HK.out HG.out
    clear hM4 hD4 hG4 HE HK HG HC
    generalize m.ep = me at *
    generalize d.1 = de at *
    generalize d.2.1 = dk at *
    by_cases h1 : de < me
    · have d1 : decide (de < me) = true := decide_eq_true h1
      have HA : Hid _ := HA3.out h1
      clear h1 HA3 HA4 HA5 HA6
      go_wp2_with fail
      go_ret2
      exact ⟨HA.out, HB4.out⟩
    · have d1 : decide (de < me) = false := decide_eq_false h1
      by_cases h2 : me < de
      · have d2 : decide (me < de) = true := decide_eq_true h2
        have d3 : decide (de > me) = true := decide_eq_true h2
        have HA : Hid _ := HA4.out h2
        clear h1 h2 HA3 HA4 HA5 HA6
        go_wp2_with fail
        go_ret2
        exact ⟨HA.out, HB4.out⟩
      · have hq : de = me := by omega
        have d2 : decide (me < de) = false := decide_eq_false h2
        have d3 : decide (de > me) = false := decide_eq_false h2
        clear h1 h2 HA3 HA4
        by_cases h3 : dk = kpr2 k
        · have HA : Hid _ := HA6.out hq h3
          have eqr : ∀ W : World, (Op.equalIn 10000 23 (.agg (stl dk).toArray) (.agg (stl (kpr2 k)).toArray)).run Try.prog W = .ok true W := fun W => by rw [Wi.run_eqPr 23 9998 dk (kpr2 k) (.inl rfl), decide_eq_true h3]
          clear hq h3 HA5 HA6
          have e1 := eqr w4
          clear eqr
          go_wp2_with (first | (refine ldM HKD.out Try.underlying23 rfl Wi.szKey _ rfl rfl rfl ?_) | (refine ldM HGG.out Try.underlying23 rfl Wi.szKey _ rfl rfl rfl ?_) | (refine neX e1 Try.eqGuardType23 _ _ rfl rfl rfl rfl ?_))
          go_ret2
          exact ⟨HA.out, HB4.out⟩
        · have HA : Hid _ := HA5.out hq h3
          have eqr : ∀ W : World, (Op.equalIn 10000 23 (.agg (stl dk).toArray) (.agg (stl (kpr2 k)).toArray)).run Try.prog W = .ok false W := fun W => by rw [Wi.run_eqPr 23 9998 dk (kpr2 k) (.inl rfl), decide_eq_false h3]
          clear hq h3 HA5 HA6
          have e1 := eqr w4
          clear eqr
          go_wp2_with (first | (refine ldM HKD.out Try.underlying23 rfl Wi.szKey _ rfl rfl rfl ?_) | (refine ldM HGG.out Try.underlying23 rfl Wi.szKey _ rfl rfl rfl ?_) | (refine neX e1 Try.eqGuardType23 _ _ rfl rfl rfl rfl ?_))
          go_ret2
          exact ⟨HA.out, HB4.out⟩
set_option maxRecDepth 100000 in
set_option maxHeartbeats 2000000 in
theorem rOpen_any (m : Mb) (d : Sd) (w : World) (hs : d.2.2.size < 4611686018427387904) : Calls Try.prog 11 #[.agg (mba m), .agg (sdl d).toArray] w fun r w' => r = OpA m d ∧ Below w.heap.size w w' := by
  have h1 := rGroup_any m
  have hgd := fun W => Wi.rSealed_any d W hs
  have HGD : Hid _ := hgd
  clear hgd hs
  have hM := MA.new w m
  have hD0 := DAt.new (w.alloc (.cells (mba m) 27)) d
  rw [World.size_alloc] at hD0
  have hM2 := hM.later (below_alloc _ (.cells (sdl d).toArray 30))
  have hB : Below w.heap.size w ((w.alloc (.cells (mba m) 27)).alloc (.cells (sdl d).toArray 30)) := Wi.Below.plus (below_alloc _ _) _
  clear hM
  unfold GrpA at h1
  obtain ⟨e, he⟩ : ∃ e, grE m = e := ⟨_, rfl⟩
  obtain ⟨k, hk⟩ : ∃ k, grK m = k := ⟨_, rfl⟩
  rw [he, hk] at h1
  have HE : Hid (grE m = e) := he
  have HK : Hid (grK m = k) := hk
  clear he hk
  obtain ⟨cm, hcm⟩ : ∃ c, mba m = c := ⟨_, rfl⟩
  have HC : Hid (mba m = cm) := hcm
  rw [hcm] at hM2 hD0 hB
  simp only [hcm] at h1
  rw [hcm]
  clear hcm
  go_enter Try.func11, Try.ntmps11
  go_upto_region 1 with (fail)
  generalize (w.alloc (.cells cm 27)).alloc (.cells (sdl d).toArray 30) = w1 at *
  obtain ⟨K, hKe⟩ : ∃ K, w.heap.size + 1 = K := ⟨_, rfl⟩
  have HB : Hid (Below w.heap.size w w1) := hB
  clear hB
  obtain ⟨B, hBe⟩ : ∃ B, w.heap.size = B := ⟨_, rfl⟩
  rw [hKe] at hD0 ⊢
  rw [hBe] at hM2 ⊢
  clear hKe hBe
  go_wp2_with (refine ldMb hM2 HC.out _ rfl rfl rfl ?_)
  refine (h1 _).mono ?_
  rintro r w2 ⟨rfl, hb2⟩
  have hb3 := Wi.Below.join hb2 (below_alloc w2 (.cells #[.int .i64 k.bas, .int .i64 k.stp] 23))
  have hM3 := hM2.later hb3
  have hD3 := hD0.later hb3
  have HB3 : Hid (Below w.heap.size w (w2.alloc (.cells #[.int .i64 k.bas, .int .i64 k.stp] 23))) := Wi.Below.join HB.out hb3
  have hG3 := heap_alloc_last w2 (.cells #[.int .i64 k.bas, .int .i64 k.stp] 23)
  clear hM2 hD0 HB hb2 hb3 h1
  go_upto_region 2 with (fail)
  generalize w2.alloc (.cells #[.int .i64 k.bas, .int .i64 k.stp] 23) = w3 at *
  generalize w2.heap.size = G at *
  by_cases he0 : e = 0
  rotate_left
  · have d0 : (e != 0) = true := by simpa using he0
    have HA : Hid _ := op_1 (d := d) HE.out he0
    clear he0 hM3 hD3 hG3
    go_wp2_with fail
    go_ret2
    exact ⟨HA.out, HB3.out⟩
  subst he0
  have HDA : Hid (w3.rangeAt K 0 [.int .i64 d.1, .int .i64 d.2.1.1, .int .i64 d.2.1.2, .string d.2.2]) := hD3.all
  go_wp2_with (refine ldM HDA.out Try.underlying30 rfl Wi.szSd _ rfl rfl rfl ?_)
  refine (HGD.out w3).mono ?_
  rintro r w4 ⟨rfl, hb4⟩
  have hM4 := hM3.later hb4
  have hD4 := hD3.later hb4
  have hG4 : w4.rangeAt G 0 (stl (kpr2 k)) := ra_of (row_later hG3 hb4) 0 _ rfl
  have HB4 : Hid (Below w.heap.size w w4) := Wi.Below.join HB3.out hb4
  clear hb4 hM3 hD3 hG3 HB3 HDA
  obtain ⟨g, hg⟩ : ∃ g, gD d = g := ⟨_, rfl⟩
  have HG : Hid (gD d = g) := hg
  rw [hg]
  clear hg
  cases g with
  | false =>
    have HA : Hid _ := op_2 (m := m) HE.out HG.out
    clear hM4 hD4 hG4
    go_wp2_with fail
    go_ret2
    exact ⟨HA.out, HB4.out⟩
  | true =>
    have c0 := hD4.ep
    have c2 := hM4.ep
    have HKD : Hid (w4.rangeAt K 1 (stl d.2.1)) := hD4.key
    have HGG : Hid (w4.rangeAt G 0 (stl (kpr2 k))) := hG4
    have c3 := hD4.txt
    have HA3 : Hid (d.1 < m.ep → Ending.returned (.tuple #[.string ⟨#[]⟩, .int .i64 21]) = OpA m d) := op_3 HE.out HG.out
    have HA4 : Hid (m.ep < d.1 → Ending.returned (.tuple #[.string ⟨#[]⟩, .int .i64 32]) = OpA m d) := op_4 HE.out HG.out
    have HA5 : Hid (d.1 = m.ep → d.2.1 ≠ kpr2 k → Ending.returned (.tuple #[.string ⟨#[]⟩, .int .i64 5]) = OpA m d) := op_5 HE.out HK.out HG.out
    have HA6 : Hid (d.1 = m.ep → d.2.1 = kpr2 k → Ending.returned (.tuple #[.string d.2.2, .int .i64 0]) = OpA m d) := op_6 HE.out HK.out HG.out
    clear hM4 hD4 hG4 HE HK HG HC
    generalize m.ep = me at *
    generalize d.1 = de at *
    generalize d.2.1 = dk at *
    by_cases h1 : de < me
    · have d1 : decide (de < me) = true := decide_eq_true h1
      have HA : Hid _ := HA3.out h1
      clear h1 HA3 HA4 HA5 HA6
      go_wp2_with fail
      go_ret2
      exact ⟨HA.out, HB4.out⟩
    · have d1 : decide (de < me) = false := decide_eq_false h1
      by_cases h2 : me < de
      · have d2 : decide (me < de) = true := decide_eq_true h2
        have d3 : decide (de > me) = true := decide_eq_true h2
        have HA : Hid _ := HA4.out h2
        clear h1 h2 HA3 HA4 HA5 HA6
        go_wp2_with fail
        go_ret2
        exact ⟨HA.out, HB4.out⟩
      · have hq : de = me := by omega
        have d2 : decide (me < de) = false := decide_eq_false h2
        have d3 : decide (de > me) = false := decide_eq_false h2
        clear h1 h2 HA3 HA4
        by_cases h3 : dk = kpr2 k
        · have HA : Hid _ := HA6.out hq h3
          have eqr : ∀ W : World, (Op.equalIn 10000 23 (.agg (stl dk).toArray) (.agg (stl (kpr2 k)).toArray)).run Try.prog W = .ok true W := fun W => by rw [Wi.run_eqPr 23 9998 dk (kpr2 k) (.inl rfl), decide_eq_true h3]
          clear hq h3 HA5 HA6
          have e1 := eqr w4
          clear eqr
          go_wp2_with (first | (refine ldM HKD.out Try.underlying23 rfl Wi.szKey _ rfl rfl rfl ?_) | (refine ldM HGG.out Try.underlying23 rfl Wi.szKey _ rfl rfl rfl ?_) | (refine neX e1 Try.eqGuardType23 _ _ rfl rfl rfl rfl ?_))
          go_ret2
          exact ⟨HA.out, HB4.out⟩
        · have HA : Hid _ := HA5.out hq h3
          have eqr : ∀ W : World, (Op.equalIn 10000 23 (.agg (stl dk).toArray) (.agg (stl (kpr2 k)).toArray)).run Try.prog W = .ok false W := fun W => by rw [Wi.run_eqPr 23 9998 dk (kpr2 k) (.inl rfl), decide_eq_false h3]
          clear hq h3 HA5 HA6
          have e1 := eqr w4
          clear eqr
          go_wp2_with (first | (refine ldM HKD.out Try.underlying23 rfl Wi.szKey _ rfl rfl rfl ?_) | (refine ldM HGG.out Try.underlying23 rfl Wi.szKey _ rfl rfl rfl ?_) | (refine neX e1 Try.eqGuardType23 _ _ rfl rfl rfl rfl ?_))
          go_ret2
          exact ⟨HA.out, HB4.out⟩
end Go.Proofs.Ytpimbpfefhkojaa.Rv
