/- For every text and list of widths, together of bulk at most 1048576: a reader, taking by taking, answers what the document's reader answers, and a second reader beside it stays where it is. Condition: that bulk. -/
import Derived.Test.YtpofjkjcbflloaaRows
import Derived.Test.YtpofjkjcbflloaaBitLives
import Derived.Test.YtpofjkjcbflloaaBitRefE
import Derived.Test.YtpofjkjcbflloaaOpenSl
namespace Go.Proofs.Ytpofjkjcbflloaa.bitsReads
open Go.ChangeShapes Go.WideShapes Go.ChangeAt Go.RowKit Go.Maps
set_option linter.unusedVariables false

/- Two readers, and the document's. -/
structure RS (B : Nat) (w : World) (g h m : Nat) (c d : Nat) (s : ByteArray) (T : List Bool) (x : Value) : Prop where
  one : Rr w g c s
  two : Rr w h 0 s
  mdl : Rm B w m d T x
  ne : g ≠ h
  lg : g < B
  lh : h < B
  lm : B ≤ m
theorem RS.later {B : Nat} {w w' : World} {g h m c d : Nat} {s : ByteArray} {T : List Bool} {x : Value} (r : RS B w g h m c d s T x) (hb : Below w.heap.size w w') : RS B w' g h m c d s T x :=
  ⟨r.one.kept (Kept.ofBelow (F := fun _ => False) hb) (fun h => h), r.two.kept (Kept.ofBelow (F := fun _ => False) hb) (fun h => h), r.mdl.kept (Kept.ofBelow (F := fun _ => False) hb) (fun h => h) (fun _ _ h => h), r.ne, r.lg, r.lh, r.lm⟩
theorem RS.drew {B : Nat} {w : World} {g h m c d : Nat} {s : ByteArray} {T : List Bool} {x : Value} (r : RS B w g h m c d s T x) : RS B w.drew g h m c d s T x :=
  ⟨r.one.drew, r.two.drew, r.mdl.drew, r.ne, r.lg, r.lh, r.lm⟩
theorem RS.drewN {B : Nat} {w : World} {g h m c d : Nat} {s : ByteArray} {T : List Bool} {x : Value} (r : RS B w g h m c d s T x) (n : Nat) : RS B (w.drewN n) g h m c d s T x :=
  ⟨⟨r.one.blk, r.one.le⟩, ⟨r.two.blk, r.two.le⟩, r.mdl.drewN n, r.ne, r.lg, r.lh, r.lm⟩
theorem RS.takeA {B : Nat} {w w' : World} {g h m c c' d : Nat} {s : ByteArray} {T : List Bool} {x : Value} (r : RS B w g h m c d s T x) (h1 : Rr w' g c' s) (hk : Kept (fun k => k = g) w w') : RS B w' g h m c' d s T x := by
  refine ⟨h1, r.two.kept hk (fun e => r.ne e.symm), r.mdl.kept hk (fun e => by have e' : m = g := e; have := r.lg; have := r.lm; omega) (fun k hx e => ?_), r.ne, r.lg, r.lh, r.lm⟩
  have e' : k = g := e
  have := (r.mdl.row.lt k hx).1
  have := r.lg
  omega
theorem RS.takeM {B : Nat} {w w' : World} {g h m c d d' : Nat} {s : ByteArray} {T : List Bool} {x : Value} (r : RS B w g h m c d s T x) (h1 : Rm B w' m d' T x) (hk : Kept (fun k => k = m) w w') : RS B w' g h m c d' s T x := by
  refine ⟨r.one.kept hk (fun e => ?_), r.two.kept hk (fun e => ?_), h1, r.ne, r.lg, r.lh, r.lm⟩
  · have e' : g = m := e; have := r.lg; have := r.lm; omega
  · have e' : h = m := e; have := r.lh; have := r.lm; omega
set_option maxHeartbeats 4000000 in
set_option maxRecDepth 100000 in
theorem walk_some (s : ByteArray) (b o cp n : Nat) (ws : List Int) (T : List Bool) (hn : ws.length = n) (hT : tb (bys s) = T) (w : World) (hl : n ≤ 1048576) (hs : s.size ≤ 1048576)
    (h1 : ∀ i, i < n → w.cell? ⟨b, o + i, none⟩ = some (.int .i64 (ws.getD i 0))) :
    Calls Try.prog 6 #[.string s, .slice (some ⟨b, o, none⟩) n cp] w fun e w' => e = .returned (.bool true) ∧ Below w.heap.size w w' := by
  have HN : Hid (ws.length = n) := hn
  have HT : Hid (tb (bys s) = T) := hT
  have HTL : Hid (T.length = 8 * s.size ∧ T.length < 4611686018427387904) := by
    have : T.length = 8 * s.size := by rw [← hT, tb_length, bys_length]
    exact ⟨this, by omega⟩
  clear hn hT
  go_enter Try.func6, Try.ntmps6
  go_wp2_with fail
  refine (lives_any _).mono ?_
  rintro e w1 ⟨rfl, hb1⟩
  have HB1 : Hid (Below w.heap.size w w1) := hb1
  clear hb1
  go_wp2_with fail
  refine (read_any _ _).mono ?_
  rintro e w2 ⟨rfl, rfl⟩
  go_wp2_with fail
  refine (read_any _ _).mono ?_
  rintro e w3 ⟨rfl, rfl⟩
  have hrd := rRead_any s ((w1.alloc (.cells #[.int .i64 0, .string s] 65)).alloc (.cells #[.int .i64 0, .string s] 65)) (by omega)
  rw [HT.out] at hrd
  go_wp2_with fail
  refine hrd.mono ?_
  rintro e w4 ⟨gm, x, rfl, hrm, hgm, hb4⟩
  have HS0 : Hid (RS (w1.heap.size + 2) w4 w1.heap.size (w1.heap.size + 1) gm 0 0 s T x) := by
    have hm2 : (((w1.alloc (.cells #[.int .i64 0, .string s] 65)).alloc (.cells #[.int .i64 0, .string s] 65))).heap.size = w1.heap.size + 2 := by simp
    have r1 : Rr ((w1.alloc (.cells #[.int .i64 0, .string s] 65)).alloc (.cells #[.int .i64 0, .string s] 65)) w1.heap.size 0 s := (Rr.new w1 s).kept ((Kept.refl (fun _ => False) _).alloc _) (fun h => h)
    have r2 : Rr ((w1.alloc (.cells #[.int .i64 0, .string s] 65)).alloc (.cells #[.int .i64 0, .string s] 65)) (w1.heap.size + 1) 0 s := by have := Rr.new (w1.alloc (.cells #[.int .i64 0, .string s] 65)) s; simpa using this
    rw [hm2] at hrm hgm
    exact ⟨r1.kept (Kept.ofBelow (F := fun _ => False) hb4) (fun h => h), r2.kept (Kept.ofBelow (F := fun _ => False) hb4) (fun h => h), hrm, by omega, by omega, by omega, hgm⟩
  have HB4 : Hid (Below w.heap.size w w4) := Below.then (Below.more (Below.more HB1.out _) _) hb4
  have hs1 := HB1.out.size
  clear hrd hrm hgm hb4
  go_wp2_with fail
  go_loopw [24] (fun i wr => ∃ k : Nat, k ≤ n ∧ i = .int .i64 (k : Int) ∧ Below w.heap.size w wr ∧ ∃ c, RS (w1.heap.size + 2) wr w1.heap.size (w1.heap.size + 1) gm c c s T x) (fun i _ => n - (intOf i).toNat)
  case atStart => exact ⟨0, by omega, rfl, HB4.out, 0, HS0.out⟩
  case round =>
    obtain ⟨k, hk, rfl, hb, c, hr⟩ := hrel
    have HB0 : Hid (Below w.heap.size w wr) := hb
    have HS0 : Hid (RS (w1.heap.size + 2) wr w1.heap.size (w1.heap.size + 1) gm c c s T x) := hr
    clear hr
    by_cases hkn : k < n
    · have c0 := cell_later hb (h1 k hkn)
      have i1 : (0 : Int) ≤ (k : Int) := by omega
      have i2 : (k : Int) < (n : Int) := by omega
      obtain ⟨d, ed⟩ : ∃ d, ws.getD k 0 = d := ⟨_, rfl⟩
      rw [ed] at c0
      clear h1 ed hb
      by_cases hd : Gw d ∧ d ≤ ((8 * s.size - c : Nat) : Int)
      · obtain ⟨⟨d1, d2⟩, d3⟩ := hd
        obtain ⟨q, rfl⟩ : ∃ q : Nat, d = (q : Int) := ⟨d.toNat, by omega⟩
        have hcq : c + q ≤ 8 * s.size := by have := HS0.out.one.le; omega
        have HP := take_yes w1.heap.size c q s wr HS0.out.one (by omega) (by omega) (by omega) hcq
        rw [HT.out] at HP
        obtain ⟨y, hy⟩ : ∃ y, bv ((T.drop c).take q) = y := ⟨_, rfl⟩
        rw [hy] at HP
        clear d3
        go_wp2_with fail
        refine HP.mono ?_
        rintro e w5 ⟨rfl, hr5, hk5⟩
        have HS5 : Hid (RS (w1.heap.size + 2) w5 w1.heap.size (w1.heap.size + 1) gm (c + q) c s T x) := HS0.out.takeA hr5 hk5
        have HB5 : Hid (Below w.heap.size w w5) := Kept.toBelow HB0.out hk5 (fun j hj => by have hj' : j = w1.heap.size := hj; omega)
        have HP := rTake_yes _ gm c q T x w5 HS5.out.mdl HTL.out.2 (by omega) (by omega) (by rw [HTL.out.1]; exact hcq)
        rw [hy] at HP
        clear hr5 hk5 hy
        go_wp2_with fail
        refine HP.mono ?_
        rintro e w5' ⟨rfl, hr5, hk5⟩
        have HS : Hid (RS (w1.heap.size + 2) w5' w1.heap.size (w1.heap.size + 1) gm (c + q) (c + q) s T x) := HS5.out.takeM hr5 hk5
        have HB : Hid (Below w.heap.size w w5') := Kept.toBelow HB5.out hk5 (fun j hj => by have hj' : j = gm := hj; have := HS5.out.lm; omega)
        clear hr5 hk5 HP HS5 HB5 HS0 HB0
        obtain ⟨c', hc'⟩ : ∃ c', c + q = c' := ⟨_, rfl⟩
        rw [hc'] at HS
        clear hc' hcq
        obtain ⟨c, rfl⟩ : ∃ c, c = c' := ⟨_, rfl⟩
        have hle := HS.out.one.le
        have HLE : Hid (c ≤ 8 * s.size) := hle
        clear hle
        go_wp2_with fail
        refine (left_any _ _ _ _ HS.out.one (by omega)).mono ?_
        rintro e w6 ⟨rfl, rfl⟩
        have HS6 : Hid _ := HS.out.drew
        have HB6 : Hid (Below w.heap.size w _) := HB.out.drew
        have hl6 := rLeft_any _ _ _ _ _ _ HS6.out.mdl HTL.out.2
        rw [HTL.out.1] at hl6
        go_wp2_with fail
        refine hl6.mono ?_
        rintro e w7 ⟨rfl, rfl⟩
        have HS7 : Hid _ := HS6.out.drew
        have HB7 : Hid (Below w.heap.size w _) := HB6.out.drew
        clear hl6
        have hd7 := done_any _ _ _ _ HS7.out.one (by omega)
        rw [HT.out] at hd7
        go_wp2_with fail
        refine hd7.mono ?_
        rintro e w8 ⟨rfl, hb8⟩
        have HS8 : Hid _ := HS7.out.later hb8
        have HB8 : Hid (Below w.heap.size w w8) := HB7.out.trans (hb8.mono HB7.out.size)
        clear hb8 hd7
        go_wp2_with fail
        refine (rDone_any _ _ _ _ _ _ HS8.out.mdl HTL.out.2).mono ?_
        rintro e w9 ⟨rfl, rfl⟩
        have HS9 : Hid _ := HS8.out.drew
        have HB9 : Hid (Below w.heap.size w _) := HB8.out.drew
        go_wp2_with fail
        go_roundw
        case rel => exact ⟨k + 1, by omega, by go_num, HB9.out, c, HS9.out⟩
        case measure => simp [intOf]; omega
      · have HP := take_no w1.heap.size c s d wr HS0.out.one (by omega) hd
        go_wp2_with fail
        refine HP.mono ?_
        rintro e w5 ⟨rfl, hw5⟩
        have HS5 : Hid (RS (w1.heap.size + 2) w5 w1.heap.size (w1.heap.size + 1) gm c c s T x) := by
          rcases hw5 with rfl | rfl
          · exact HS0.out
          · exact HS0.out.drew
        have HB5 : Hid (Below w.heap.size w w5) := by
          rcases hw5 with rfl | rfl
          · exact HB0.out
          · exact HB0.out.drew
        have HP := rTake_no _ gm c T x d w5 HS5.out.mdl HTL.out.2 (by rw [HTL.out.1]; exact hd)
        clear hw5 hd
        go_wp2_with fail
        refine HP.mono ?_
        rintro e w5' ⟨rfl, mm, rfl⟩
        have HS : Hid (RS (w1.heap.size + 2) (w5.drewN mm) w1.heap.size (w1.heap.size + 1) gm c c s T x) := HS5.out.drewN mm
        have HB : Hid (Below w.heap.size w (w5.drewN mm)) := ⟨HB5.out.os, HB5.out.tape, HB5.out.output, HB5.out.size, HB5.out.block⟩
        clear HP HS5 HB5 HS0 HB0
        have hle := HS.out.one.le
        have HLE : Hid (c ≤ 8 * s.size) := hle
        clear hle
        go_wp2_with fail
        refine (left_any _ _ _ _ HS.out.one (by omega)).mono ?_
        rintro e w6 ⟨rfl, rfl⟩
        have HS6 : Hid _ := HS.out.drew
        have HB6 : Hid (Below w.heap.size w _) := HB.out.drew
        have hl6 := rLeft_any _ _ _ _ _ _ HS6.out.mdl HTL.out.2
        rw [HTL.out.1] at hl6
        go_wp2_with fail
        refine hl6.mono ?_
        rintro e w7 ⟨rfl, rfl⟩
        have HS7 : Hid _ := HS6.out.drew
        have HB7 : Hid (Below w.heap.size w _) := HB6.out.drew
        clear hl6
        have hd7 := done_any _ _ _ _ HS7.out.one (by omega)
        rw [HT.out] at hd7
        go_wp2_with fail
        refine hd7.mono ?_
        rintro e w8 ⟨rfl, hb8⟩
        have HS8 : Hid _ := HS7.out.later hb8
        have HB8 : Hid (Below w.heap.size w w8) := HB7.out.trans (hb8.mono HB7.out.size)
        clear hb8 hd7
        go_wp2_with fail
        refine (rDone_any _ _ _ _ _ _ HS8.out.mdl HTL.out.2).mono ?_
        rintro e w9 ⟨rfl, rfl⟩
        have HS9 : Hid _ := HS8.out.drew
        have HB9 : Hid (Below w.heap.size w _) := HB8.out.drew
        go_wp2_with fail
        go_roundw
        case rel => exact ⟨k + 1, by omega, by go_num, HB9.out, c, HS9.out⟩
        case measure => simp [intOf]; omega
    · have hkn' : decide ((k : Int) < (n : Int)) = false := by simp; omega
      clear h1 hb
      go_wp2_with fail
      refine (left_any _ _ _ _ HS0.out.two (by omega)).mono ?_
      rintro e w6 ⟨rfl, rfl⟩
      have HS6 : Hid _ := HS0.out.drew
      have HB6 : Hid (Below w.heap.size w _) := HB0.out.drew
      have h8 : ((8 * s.size - 0 : Nat) : Int) = 8 * (s.size : Int) := by omega
      rw [h8]
      clear h8
      go_wp2_with fail
      refine (left_any _ _ _ _ HS6.out.one (by omega)).mono ?_
      rintro e w7 ⟨rfl, rfl⟩
      have HS7 : Hid _ := HS6.out.drew
      have HB7 : Hid (Below w.heap.size w _) := HB6.out.drew
      have hl7 := rLeft_any _ _ _ _ _ _ HS7.out.mdl HTL.out.2
      rw [HTL.out.1] at hl7
      go_wp2_with fail
      refine hl7.mono ?_
      rintro e w8 ⟨rfl, rfl⟩
      go_wp2_with fail
      go_ret
      exact ⟨ret_bool (by first | rfl | simp), HB7.out.drew⟩
set_option maxHeartbeats 4000000 in
set_option maxRecDepth 100000 in
theorem walk_none (s : ByteArray) (a : Option Addr) (cp : Nat) (T : List Bool) (hT : tb (bys s) = T) (w : World) (hs : s.size ≤ 1048576) :
    Calls Try.prog 6 #[.string s, .slice a 0 cp] w fun e w' => e = .returned (.bool true) ∧ Below w.heap.size w w' := by
  have HT : Hid (tb (bys s) = T) := hT
  have HTL : Hid (T.length = 8 * s.size ∧ T.length < 4611686018427387904) := by
    have : T.length = 8 * s.size := by rw [← hT, tb_length, bys_length]
    exact ⟨this, by omega⟩
  clear hT
  go_enter Try.func6, Try.ntmps6
  go_wp2_with fail
  refine (lives_any _).mono ?_
  rintro e w1 ⟨rfl, hb1⟩
  have HB1 : Hid (Below w.heap.size w w1) := hb1
  clear hb1
  go_wp2_with fail
  refine (read_any _ _).mono ?_
  rintro e w2 ⟨rfl, rfl⟩
  go_wp2_with fail
  refine (read_any _ _).mono ?_
  rintro e w3 ⟨rfl, rfl⟩
  have hrd := rRead_any s ((w1.alloc (.cells #[.int .i64 0, .string s] 65)).alloc (.cells #[.int .i64 0, .string s] 65)) (by omega)
  rw [HT.out] at hrd
  go_wp2_with fail
  refine hrd.mono ?_
  rintro e w4 ⟨gm, x, rfl, hrm, hgm, hb4⟩
  have HS0 : Hid (RS (w1.heap.size + 2) w4 w1.heap.size (w1.heap.size + 1) gm 0 0 s T x) := by
    have hm2 : (((w1.alloc (.cells #[.int .i64 0, .string s] 65)).alloc (.cells #[.int .i64 0, .string s] 65))).heap.size = w1.heap.size + 2 := by simp
    have r1 : Rr ((w1.alloc (.cells #[.int .i64 0, .string s] 65)).alloc (.cells #[.int .i64 0, .string s] 65)) w1.heap.size 0 s := (Rr.new w1 s).kept ((Kept.refl (fun _ => False) _).alloc _) (fun h => h)
    have r2 : Rr ((w1.alloc (.cells #[.int .i64 0, .string s] 65)).alloc (.cells #[.int .i64 0, .string s] 65)) (w1.heap.size + 1) 0 s := by have := Rr.new (w1.alloc (.cells #[.int .i64 0, .string s] 65)) s; simpa using this
    rw [hm2] at hrm hgm
    exact ⟨r1.kept (Kept.ofBelow (F := fun _ => False) hb4) (fun h => h), r2.kept (Kept.ofBelow (F := fun _ => False) hb4) (fun h => h), hrm, by omega, by omega, by omega, hgm⟩
  have HB0 : Hid (Below w.heap.size w w4) := Below.then (Below.more (Below.more HB1.out _) _) hb4
  clear hrd hrm hgm hb4
  go_wp2_with fail
  refine wp_loop_rounds 1 ?_
  rw [rounds_succ]
  go_wp2_with fail
  refine (left_any _ _ _ _ HS0.out.two (by omega)).mono ?_
  rintro e w6 ⟨rfl, rfl⟩
  have HS6 : Hid _ := HS0.out.drew
  have HB6 : Hid (Below w.heap.size w _) := HB0.out.drew
  have h8 : ((8 * s.size - 0 : Nat) : Int) = 8 * (s.size : Int) := by omega
  rw [h8]
  clear h8
  go_wp2_with fail
  refine (left_any _ _ _ _ HS6.out.one (by omega)).mono ?_
  rintro e w7 ⟨rfl, rfl⟩
  have HS7 : Hid _ := HS6.out.drew
  have HB7 : Hid (Below w.heap.size w _) := HB6.out.drew
  have hl7 := rLeft_any _ _ _ _ _ _ HS7.out.mdl HTL.out.2
  rw [HTL.out.1] at hl7
  go_wp2_with fail
  refine hl7.mono ?_
  rintro e w8 ⟨rfl, rfl⟩
  go_wp2_with fail
  go_ret
  exact ⟨ret_bool (by first | rfl | simp), HB7.out.drew⟩
theorem walk (s : ByteArray) (a : Option Addr) (c : Nat) (ws : List Int) (w : World) (hs : s.size ≤ 1048576) (h : RdI w a ws) (hl : ws.length ≤ 1048576) (hc : a = none → c = 0) :
    Calls Try.prog 6 #[.string s, .slice a ws.length c] w fun e w' => e = .returned (.bool true) ∧ Below w.heap.size w w' := by
  by_cases h0 : ws = []
  · subst h0; exact walk_none s a c _ rfl w hs
  · obtain ⟨b, o, rfl, k1⟩ := h.spot h0
    exact walk_some s b o c ws.length ws _ rfl rfl w hl hs k1
theorem own : ownKnob Try.prog.godebug = none := by kernel_rfl
theorem laidOut : laidOutB Try.prog = true := by kernel_rfl
theorem contract (H : Type) (enc : TypeId × Value → H) (W : World) (base : Nat) (args : Array Value) (ds gs : List (DataW H)) (before : List MemPlace)
    (hval : ∀ (j : Nat) t v, Try.f6.params[j]? = some t → args[j]? = some v → Value.okWide Try.prog W .any base t v)
    (hW : DataW.Whole enc Try.prog Try.f6.params.toList Rows.bitsReadsSpec.vars false W args.toList ds gs before) (hk : Rows.uptoSmall H (ds ++ gs) = true) :
    Calls Try.prog 6 args W fun e W' => ∃ v, e = .returned v ∧ Rows.bitsReadsSpec.post enc Try.prog Try.f6 false true false false W args v W' := by
  have hW' := hW
  obtain ⟨p, q, hA0, hV, rfl, hfz, hnd⟩ := hW
  have hA : DataW.TrodAll enc Try.prog W 0 (fun _ => true) true Try.f6.params.toList args.toList ds p := hA0
  rw [Try.params6] at hA hval
  obtain ⟨v0, vs0, d0, ds0, p0, q0, hargs, rfl, rfl, h0, r0⟩ := trodAll_cons hA
  obtain ⟨v1, vs1, d1, ds1, p1, q1, rfl, rfl, rfl, h1, r1⟩ := trodAll_cons r0
  obtain ⟨rfl, rfl, rfl⟩ := trodAll_nil r1
  obtain rfl : args = #[v0, v1] := by cases args; simp_all
  obtain ⟨rfl, rfl⟩ := trodVars_none hV
  have hk2 : Rows.uptoSmall H [d0, d1] = true := by simpa using hk
  have hb : Rows.uptoBulkAll [d0, d1] ≤ 1048576 := of_decide_eq_true hk2
  simp only [Rows.uptoBulkAll] at hb
  have k0 := h0
  have lt0 : ∀ x ∈ p0, x.block < W.heap.size := by obtain ⟨m, hm⟩ := k0; exact DataW.trod_lt m _ _ _ hm
  obtain ⟨s0, rfl, rfl, rfl, hs0⟩ := Go.ChangeMaps.open_string Try.underlying9 (hval 0 9 v0 rfl rfl) h0
  have hl0 := bulk_text (H := H) (s := s0) (by omega)
  have k1 := h1
  have lt1 : ∀ x ∈ p1, x.block < W.heap.size := by obtain ⟨m, hm⟩ := k1; exact DataW.trod_lt m _ _ _ hm
  obtain ⟨a1, c1, l1, rfl, rd1, hl1, hc1⟩ := ints_of (by omega) (okWide_slice Try.underlying23 (hval 1 23 v1 rfl rfl)) h1
  clear hA0
  refine (walk s0 a1 c1 l1 W hl0 rd1 hl1 hc1).mono fun e W' ⟨he, bel⟩ => ?_
  subst he
  exact ⟨_, rfl, _, _, _, [], _, [], hW', trodAll_mk1 (shut_bool Try.underlying4 _), (trodAll_cons_mk (Below.trod laidOut (by kernel_rfl) (of_decide_eq_true (by kernel_rfl)) k0 bel lt0) (trodAll_cons_mk (Below.trod laidOut (by kernel_rfl) (of_decide_eq_true (by kernel_rfl)) k1 bel lt1) trodAll_mk0)), rfl, bel.frame _, fun h => by cases h⟩
set_option maxRecDepth 100000 in
theorem lifted (os : Os) (started : os.Started) (H : Type) (enc : TypeId × Value → H) (F : Stop.Interp) :
    ReturnsInHanded {} Try.checked os 6 .any ((Rows.OpenSpec.upto Rows.bitsReadsSpec).pre6 enc Try.prog Try.f6 Rows.bitsReadsUptoRow.domain false) (((Rows.OpenSpec.upto Rows.bitsReadsSpec).at F).post enc Try.prog Try.f6 false true false false) := by
  refine returnsInHanded_of_cond (C := Try.checked) (s := Rows.OpenSpec.upto Rows.bitsReadsSpec) (k := Rows.uptoSmall) rfl own started (by kernel_rfl) Try.func6
    (OpenSpec.witness (enc := enc) (C := Try.checked) (s := Rows.OpenSpec.upto Rows.bitsReadsSpec) (k := Rows.uptoSmall) rfl false ⟨#[], #[.string ⟨#[]⟩, .slice none 0 0], []⟩ 8 (by kernel_rfl) (by kernel_rfl) (by kernel_rfl)
      (x := ([.lit (.string []), .nil], [], [])) (by kernel_rfl) rfl (by kernel_rfl)) ?_
  intro W base args ds gs before hval hW _ hk _
  exact contract H enc W base args ds gs before hval hW hk
theorem over : Rows.bitsReadsUptoRow.holds Try.pinned (Rows.OpenSpec.upto Rows.bitsReadsSpec) :=
  OpenClaim.holds_of_cond 6 Try.f6 rfl rfl rfl rfl rfl rfl rfl ⟨rfl, rfl, rfl, rfl, rfl⟩ rfl rfl rfl rfl rfl (by kernel_rfl) Try.func6 (by kernel_rfl)
    (of_decide_eq_true (by kernel_rfl)) (by unfold Func.isWrapper; first | (rw [if_pos (by decide +kernel)]; kernel_rfl) | (rw [if_neg (by decide +kernel)]; exact ⟨rfl, rfl⟩))
    (fun os started H enc _ F => lifted os started H enc F)
end Go.Proofs.Ytpofjkjcbflloaa.bitsReads
namespace Go.Proofs.Ytpofjkjcbflloaa
theorem bitsReads_holds : Rows.BitsReadsUptoSaid := bitsReads.over
#print axioms bitsReads_holds
end Go.Proofs.Ytpofjkjcbflloaa
