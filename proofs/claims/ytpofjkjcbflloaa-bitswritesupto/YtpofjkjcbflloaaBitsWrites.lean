/- For every list of fields of bulk at most 1048576: a writer, put by put, answers and holds what the document's list of bits says, and a second writer beside it stays empty. Condition: that bulk. -/
import Derived.Test.YtpofjkjcbflloaaRows
import Derived.Test.YtpofjkjcbflloaaBitLives
import Derived.Test.YtpofjkjcbflloaaBitRefE
import Derived.Test.YtpofjkjcbflloaaOpenSl
namespace Go.Proofs.Ytpofjkjcbflloaa.bitsWrites
open Go.ChangeShapes Go.WideShapes Go.ChangeAt Go.RowKit Go.Maps
set_option linter.unusedVariables false

/- Two writers, the second empty, and the document's row of bits. -/
structure WS (B : Nat) (w : World) (g h : Nat) (l m : List Bool) (x v : Value) : Prop where
  one : Wr B w g l x
  two : Wr B w h [] (.slice none 0 0)
  row : w.ownsRow B 5 1 v m.length (b01 m)
  ne : g ≠ h
  far : ∀ k, x.ownBlock = some k → v.ownBlock ≠ some k
theorem WS.kept {B : Nat} {w w' : World} {g h : Nat} {l m : List Bool} {x v : Value} (s : WS B w g h l m x v) (hb : Below w.heap.size w w') : WS B w' g h l m x v :=
  ⟨s.one.kept (Kept.ofBelow (F := fun _ => False) hb) (fun _ _ h => h), s.two.kept (Kept.ofBelow (F := fun _ => False) hb) (fun _ _ h => h), row_later s.row hb, s.ne, s.far⟩
theorem WS.put {B : Nat} {w w' : World} {g h : Nat} {l l' m : List Bool} {x x' v : Value} (s : WS B w g h l m x v) (h1 : Wr B w' g l' x') (hk : Kept (Fw g x) w w') (ho : x'.ownBlock = x.ownBlock ∨ ∀ k, x'.ownBlock = some k → w.heap.size ≤ k) : WS B w' g h l' m x' v := by
  refine ⟨h1, s.two.kept hk ?_, hk.row s.row ?_, s.ne, ?_⟩
  · rintro k (rfl | hk') (e | e)
    · exact s.ne e.symm
    · have := (s.one.row.lt _ e).1; have := s.two.lt; omega
    · simp [Value.ownBlock] at hk'
    · simp [Value.ownBlock] at hk'
  · rintro k hk' (e | e)
    · subst e; have := (s.row.lt _ hk').1; have := s.one.lt; omega
    · exact s.far k e hk'
  · intro k e e'
    rcases ho with ho | ho
    · exact s.far k (ho ▸ e) e'
    · have := ho k e; have := (s.row.lt k e').2; omega
theorem WS.add {B : Nat} {w w' : World} {g h : Nat} {l m m' : List Bool} {x v v' : Value} (s : WS B w g h l m x v) (h1 : w'.ownsRow B 5 1 v' m'.length (b01 m')) (hk : Kept (fun k => v.ownBlock = some k) w w') (ho : v'.ownBlock = v.ownBlock ∨ ∀ k, v'.ownBlock = some k → w.heap.size ≤ k) : WS B w' g h l m' x v' := by
  refine ⟨s.one.kept hk ?_, s.two.kept hk ?_, h1, s.ne, ?_⟩
  · rintro k (rfl | hk') e
    · have := (s.row.lt _ e).1; have := s.one.lt; omega
    · exact s.far k hk' e
  · rintro k (rfl | hk') e
    · have := (s.row.lt _ e).1; have := s.two.lt; omega
    · simp [Value.ownBlock] at hk'
  · intro k e e'
    rcases ho with ho | ho
    · exact s.far k e (ho ▸ e')
    · have := ho k e'; have := (s.one.row.lt k e).2; omega
theorem WS.start (w : World) : WS (w.heap.size + 2) ((w.alloc (.cells #[.int .i64 0, .slice none 0 0] 60)).alloc (.cells #[.int .i64 0, .slice none 0 0] 60)) w.heap.size (w.heap.size + 1) [] [] (.slice none 0 0) (.slice none 0 0) := by
  refine ⟨⟨?_, World.ownsRow_nil _ _ _ _, by omega⟩, ⟨?_, World.ownsRow_nil _ _ _ _, by omega⟩, World.ownsRow_nil _ _ _ _, by omega, by simp [Value.ownBlock]⟩
  · rw [Below.heap_alloc _ _ _ (by simp)]; exact heap_alloc_new w _
  · have := heap_alloc_new (w.alloc (.cells #[.int .i64 0, .slice none 0 0] 60)) (.cells #[.int .i64 0, .slice none 0 0] 60); simpa using this
theorem spell {w : World} {B e n : Nat} {v : Value} {xs : List Value} (h : w.ownsRow B e 1 v n xs) : ∃ a cap, v = .slice a n cap := by
  rcases h.2 with ⟨h0, h1⟩ | ⟨r, cap, cur, hv, _⟩
  · exact ⟨none, 0, by rw [h0, h1]⟩
  · exact ⟨_, cap, hv⟩
set_option maxHeartbeats 4000000 in
set_option maxRecDepth 100000 in
theorem walk_some (b o c n : Nat) (fs : List (Nat × Int)) (hn : fs.length = n) (w : World) (hl : n ≤ 1048576)
    (h1 : ∀ i, i < n → w.cell? ⟨b, o + i * 2, none⟩ = some (.int .u64 ((fs.getD i (0, 0)).1 : Int)) ∧ w.cell? ⟨b, o + i * 2 + 1, none⟩ = some (.int .i64 (fs.getD i (0, 0)).2) ∧ (fs.getD i (0, 0)).1 < 18446744073709551616) :
    Calls Try.prog 5 #[.slice (some ⟨b, o, none⟩) n c] w fun e w' => e = .returned (.bool true) ∧ Below w.heap.size w w' := by
  have HN : Hid (fs.length = n) := hn
  clear hn
  go_enter Try.func5, Try.ntmps5
  go_wp2_with fail
  refine (lives_any _).mono ?_
  rintro e w1 ⟨rfl, hb1⟩
  have HB1 : Hid (Below w.heap.size w w1) := hb1
  have hs1 := hb1.size
  clear hb1
  go_wp2_with fail
  refine (new_any _).mono ?_
  rintro e w2 ⟨rfl, rfl⟩
  go_wp2_with fail
  refine (new_any _).mono ?_
  rintro e w3 ⟨rfl, rfl⟩
  go_wp2_with fail
  go_loopw [5, 16] (fun v i wr => ∃ k : Nat, k ≤ n ∧ i = .int .i64 (k : Int) ∧ Below w.heap.size w wr ∧ w1.heap.size + 2 ≤ wr.heap.size ∧ ∃ l x, l.length ≤ 64 * k ∧ WS (w1.heap.size + 2) wr w1.heap.size (w1.heap.size + 1) l l x v) (fun _ i _ => n - (intOf i).toNat)
  case atStart => exact ⟨0, by omega, rfl, Below.more (Below.more HB1.out _) _, by simp, [], _, by simp, WS.start w1⟩
  case round =>
    obtain ⟨k, hk, rfl, hb, hsz, l, x, hll, hs⟩ := hrel
    have HB : Hid (Below w.heap.size w wr) := hb
    have HS : Hid (WS (w1.heap.size + 2) wr w1.heap.size (w1.heap.size + 1) l l x u5) := hs
    obtain ⟨a5, c5, rfl⟩ := spell hs.row
    clear hs
    by_cases hkn : k < n
    · obtain ⟨c0, c1, hv64⟩ := h1 k hkn
      have c0 := cell_later hb c0
      have c1 := cell_later hb c1
      have i1 : (0 : Int) ≤ (k : Int) := by omega
      have i2 : (k : Int) < (n : Int) := by omega
      obtain ⟨v, d, evd⟩ : ∃ v d, fs.getD k (0, 0) = (v, d) := ⟨_, _, rfl⟩
      rw [evd] at c0 c1 hv64
      clear h1 evd hb
      cases hf : okF (v, d) with
      | true =>
        obtain ⟨d1, d2, d3⟩ := okF_width hf
        obtain ⟨q, rfl⟩ : ∃ q : Nat, d = (q : Int) := ⟨d.toNat, by omega⟩
        have HP := fun ob => put_yes (w1.heap.size + 2) w1.heap.size v q l x (wr.alloc ob) (by omega) (by omega) (by simpa using d3) (by simp; omega) (HS.out.one.alloc ob) (by omega)
        clear d3
        go_wp2_with fail
        refine (HP _).mono ?_
        rintro e w4 ⟨rfl, x', hw4, hk4, ho4⟩
        have HS4 : Hid (WS (w1.heap.size + 2) w4 w1.heap.size (w1.heap.size + 1) (l ++ bo v q) l x' (.slice a5 l.length c5)) := (HS.out.kept (below1 _ _)).put hw4 hk4 ho4
        have HB4 : Hid (Below w.heap.size w w4) := (Below.more HB.out _).trans ((HS.out.one.alloc _).below hk4 (by omega))
        have hsz4 : w1.heap.size + 2 ≤ w4.heap.size := by have := hk4.size; simp at this; omega
        have hnf : ¬ Fw w1.heap.size x wr.heap.size := by
          rintro (e | e)
          · omega
          · have := (HS.out.one.row.lt _ e).2; omega
        have c0 : w4.cell? ⟨wr.heap.size, 0, none⟩ = some (.int .u64 (v : Int)) := hk4.cell (by simp [go_sem]) hnf
        have c1 : w4.cell? ⟨wr.heap.size, 1, none⟩ = some (.int .i64 (q : Int)) := hk4.cell (by simp [go_sem]) hnf
        clear HP hw4 hk4 ho4 hnf
        go_wp2_with fail
        refine (rRight_any v (q : Int) _ hv64).mono ?_
        rintro e w5 ⟨rfl, hb5⟩
        have c0 : w5.cell? ⟨wr.heap.size, 0, none⟩ = some (.int .u64 (v : Int)) := cell_later hb5 c0
        have c1 : w5.cell? ⟨wr.heap.size, 1, none⟩ = some (.int .i64 (q : Int)) := cell_later hb5 c1
        have HS5 : Hid (WS (w1.heap.size + 2) w5 w1.heap.size (w1.heap.size + 1) (l ++ bo v q) l x' (.slice a5 l.length c5)) := HS4.out.kept hb5
        have HB5 : Hid (Below w.heap.size w w5) := Below.then HB4.out hb5
        have hsz5 : w1.heap.size + 2 ≤ w5.heap.size := Nat.le_trans hsz4 hb5.size
        clear hb5
        rw [hf]
        clear hf
        have HP := rAdd_any (w1.heap.size + 2) v q _ l _ w5 (by omega) (by omega) rfl hsz5 HS5.out.row (by omega) hv64
        go_wp2_with fail
        refine HP.mono ?_
        rintro e w6 ⟨y, rfl, hr6, hk6, ho6⟩
        have HS6 : Hid (WS (w1.heap.size + 2) w6 w1.heap.size (w1.heap.size + 1) (l ++ bo v q) (l ++ bo v q) x' y) := HS5.out.add (by rw [List.length_append, bo_length]; exact hr6) hk6 ho6
        have HB6 : Hid (Below w.heap.size w w6) := Kept.toBelow HB5.out hk6 (fun j hj => by have := (HS5.out.row.lt j hj).1; omega)
        have hsz6 : w1.heap.size + 2 ≤ w6.heap.size := Nat.le_trans hsz5 hk6.size
        obtain ⟨a6, c6, rfl⟩ := spell hr6
        clear HP hr6 hk6 ho6
        have hlen : (l ++ bo v q).length = l.length + q := by simp
        have hlc := HS6.out.one.c0
        rw [hlen] at hlc
        have HLEN : Hid ((l ++ bo v q).length = l.length + q) := hlen
        clear hlen
        go_wp2_with fail
        refine (len_any _ (l.length + q) _ hlc).mono ?_
        rintro e w7 ⟨rfl, rfl⟩
        go_wp2_with fail
        go_roundw
        case rel => exact ⟨k + 1, by omega, by go_num, HB6.out, hsz6, l ++ bo v q, x', by rw [HLEN.out]; omega, HS6.out⟩
        case measure => simp [intOf]; omega
      | false =>
        have HP := fun w0 => put_no w1.heap.size v d w0 hv64 hf
        go_wp2_with fail
        refine (HP _).mono ?_
        rintro e w4 ⟨rfl, rfl⟩
        clear HP
        go_wp2_with fail
        refine (rRight_any v d _ hv64).mono ?_
        rintro e w5 ⟨rfl, hb5⟩
        have HS5 : Hid (WS (w1.heap.size + 2) w5 w1.heap.size (w1.heap.size + 1) l l x (.slice a5 l.length c5)) := (HS.out.kept (below1 _ _)).kept hb5
        have HB5 : Hid (Below w.heap.size w w5) := Below.then (Below.more HB.out _) hb5
        have hsz5 : w1.heap.size + 2 ≤ w5.heap.size := by have := hb5.size; simp at this; omega
        clear hb5
        rw [hf]
        clear hf
        have hlc := HS5.out.one.c0
        go_wp2_with fail
        refine (len_any _ l.length _ hlc).mono ?_
        rintro e w7 ⟨rfl, rfl⟩
        go_wp2_with fail
        go_roundw
        case rel => exact ⟨k + 1, by omega, by go_num, HB5.out, hsz5, l, x, by omega, HS5.out⟩
        case measure => simp [intOf]; omega
    · have hkn' : decide ((k : Int) < (n : Int)) = false := by simp; omega
      clear h1 hb
      go_wp2_with fail
      refine (bytes_any _ _ _ _ _ HS.out.one).mono ?_
      rintro e w4 ⟨rfl, rfl⟩
      go_wp2_with fail
      refine (rBytes_any _ _ _ _ _ rfl (by omega) HS.out.row).mono ?_
      rintro e w5 ⟨rfl, hb5⟩
      have HS5 : Hid (WS (w1.heap.size + 2) w5 w1.heap.size (w1.heap.size + 1) l l x (.slice a5 l.length c5)) := HS.out.kept hb5
      have HB5 : Hid (Below w.heap.size w w5) := Below.then HB.out hb5
      clear hb5
      go_wp2_with fail
      refine (bytes_any _ _ _ _ _ HS5.out.one).mono ?_
      rintro e w6 ⟨rfl, rfl⟩
      go_wp2_with fail
      refine (rBytes_any _ _ _ _ _ rfl (by omega) HS5.out.row).mono ?_
      rintro e w7 ⟨rfl, hb7⟩
      have HS7 : Hid (WS (w1.heap.size + 2) w7 w1.heap.size (w1.heap.size + 1) l l x (.slice a5 l.length c5)) := HS5.out.kept hb7
      have HB7 : Hid (Below w.heap.size w w7) := Below.then HB5.out hb7
      clear hb7
      go_wp2_with fail
      refine (len_any _ 0 _ HS7.out.two.c0).mono ?_
      rintro e w8 ⟨rfl, rfl⟩
      go_wp2_with fail
      refine (bytes_any _ _ _ _ _ HS7.out.two).mono ?_
      rintro e w9 ⟨rfl, rfl⟩
      rw [show tx (pk []) = (⟨#[]⟩ : ByteArray) from rfl]
      go_wp2_with fail
      go_ret
      exact ⟨ret_bool (by first | rfl | simp), HB7.out⟩
set_option maxHeartbeats 2000000 in
set_option maxRecDepth 100000 in
theorem walk_none (a : Option Addr) (c : Nat) (w : World) :
    Calls Try.prog 5 #[.slice a 0 c] w fun e w' => e = .returned (.bool true) ∧ Below w.heap.size w w' := by
  go_enter Try.func5, Try.ntmps5
  go_wp2_with fail
  refine (lives_any _).mono ?_
  rintro e w1 ⟨rfl, hb1⟩
  have HB1 : Hid (Below w.heap.size w w1) := hb1
  clear hb1
  go_wp2_with fail
  refine (new_any _).mono ?_
  rintro e w2 ⟨rfl, rfl⟩
  go_wp2_with fail
  refine (new_any _).mono ?_
  rintro e w3 ⟨rfl, rfl⟩
  have HS : Hid _ := WS.start w1
  have HB : Hid (Below w.heap.size w _) := Below.more (Below.more HB1.out (.cells #[.int .i64 0, .slice none 0 0] 60)) (.cells #[.int .i64 0, .slice none 0 0] 60)
  go_wp2_with fail
  refine wp_loop_rounds 1 ?_
  rw [rounds_succ]
  go_wp2_with fail
  refine (bytes_any _ _ _ _ _ HS.out.one).mono ?_
  rintro e w4 ⟨rfl, rfl⟩
  go_wp2_with fail
  refine (rBytes_nil _).mono ?_
  rintro e w5 ⟨rfl, hb5⟩
  have HS5 : Hid _ := HS.out.kept hb5
  have HB5 : Hid (Below w.heap.size w w5) := Below.then HB.out hb5
  clear hb5
  go_wp2_with fail
  refine (bytes_any _ _ _ _ _ HS5.out.one).mono ?_
  rintro e w6 ⟨rfl, rfl⟩
  go_wp2_with fail
  refine (rBytes_nil _).mono ?_
  rintro e w7 ⟨rfl, hb7⟩
  have HS7 : Hid _ := HS5.out.kept hb7
  have HB7 : Hid (Below w.heap.size w w7) := Below.then HB5.out hb7
  clear hb7
  go_wp2_with fail
  refine (len_any _ 0 _ HS7.out.two.c0).mono ?_
  rintro e w8 ⟨rfl, rfl⟩
  go_wp2_with fail
  refine (bytes_any _ _ _ _ _ HS7.out.two).mono ?_
  rintro e w9 ⟨rfl, rfl⟩
  rw [show tx (pk []) = (⟨#[]⟩ : ByteArray) from rfl]
  go_wp2_with fail
  go_ret
  exact ⟨ret_bool (by first | rfl | simp), HB7.out⟩
theorem walk (a : Option Addr) (c : Nat) (fs : List (Nat × Int)) (w : World) (h : RdF w a fs) (hl : fs.length ≤ 1048576) :
    Calls Try.prog 5 #[.slice a fs.length c] w fun e w' => e = .returned (.bool true) ∧ Below w.heap.size w w' := by
  by_cases h0 : fs = []
  · subst h0; exact walk_none a c w
  · obtain ⟨b, o, rfl, k1⟩ := h.spot h0
    exact walk_some b o c fs.length fs rfl w hl k1
theorem own : ownKnob Try.prog.godebug = none := by kernel_rfl
theorem laidOut : laidOutB Try.prog = true := by kernel_rfl
theorem contract (H : Type) (enc : TypeId × Value → H) (W : World) (base : Nat) (args : Array Value) (ds gs : List (DataW H)) (before : List MemPlace)
    (hval : ∀ (j : Nat) t v, Try.f5.params[j]? = some t → args[j]? = some v → Value.okWide Try.prog W .any base t v)
    (hW : DataW.Whole enc Try.prog Try.f5.params.toList Rows.bitsWritesSpec.vars false W args.toList ds gs before) (hk : Rows.uptoSmall H (ds ++ gs) = true) :
    Calls Try.prog 5 args W fun e W' => ∃ v, e = .returned v ∧ Rows.bitsWritesSpec.post enc Try.prog Try.f5 false true false false W args v W' := by
  have hW' := hW
  obtain ⟨p, q, hA0, hV, rfl, hfz, hnd⟩ := hW
  have hA : DataW.TrodAll enc Try.prog W 0 (fun _ => true) true Try.f5.params.toList args.toList ds p := hA0
  rw [Try.params5] at hA hval
  obtain ⟨v0, vs0, d0, ds0, p0, q0, hargs, rfl, rfl, h0, r0⟩ := trodAll_cons hA
  obtain ⟨rfl, rfl, rfl⟩ := trodAll_nil r0
  obtain rfl : args = #[v0] := by cases args; simp_all
  obtain ⟨rfl, rfl⟩ := trodVars_none hV
  have hk2 : Rows.uptoSmall H [d0] = true := by simpa using hk
  have hb : Rows.uptoBulkAll [d0] ≤ 1048576 := of_decide_eq_true hk2
  simp only [Rows.uptoBulkAll] at hb
  have k0 := h0
  have lt0 : ∀ x ∈ p0, x.block < W.heap.size := by obtain ⟨m, hm⟩ := k0; exact DataW.trod_lt m _ _ _ hm
  obtain ⟨a0, c0, l0, rfl, rd0, hl0⟩ := fields_of (by omega) (okWide_slice Try.underlying22 (hval 0 22 v0 rfl rfl)) h0
  clear hA0
  refine (walk a0 c0 l0 W rd0 hl0).mono fun e W' ⟨he, bel⟩ => ?_
  subst he
  exact ⟨_, rfl, _, _, _, [], _, [], hW', trodAll_mk1 (shut_bool Try.underlying4 _), (trodAll_cons_mk (Below.trod laidOut (by kernel_rfl) (of_decide_eq_true (by kernel_rfl)) k0 bel lt0) trodAll_mk0), rfl, bel.frame _, fun h => by cases h⟩
set_option maxRecDepth 100000 in
theorem lifted (os : Os) (started : os.Started) (H : Type) (enc : TypeId × Value → H) (F : Stop.Interp) :
    ReturnsInHanded {} Try.checked os 5 .any ((Rows.OpenSpec.upto Rows.bitsWritesSpec).pre6 enc Try.prog Try.f5 Rows.bitsWritesUptoRow.domain false) (((Rows.OpenSpec.upto Rows.bitsWritesSpec).at F).post enc Try.prog Try.f5 false true false false) := by
  refine returnsInHanded_of_cond (C := Try.checked) (s := Rows.OpenSpec.upto Rows.bitsWritesSpec) (k := Rows.uptoSmall) rfl own started (by kernel_rfl) Try.func5
    (OpenSpec.witness (enc := enc) (C := Try.checked) (s := Rows.OpenSpec.upto Rows.bitsWritesSpec) (k := Rows.uptoSmall) rfl false ⟨#[], #[.slice none 0 0], []⟩ 8 (by kernel_rfl) (by kernel_rfl) (by kernel_rfl)
      (x := ([.nil], [], [])) (by kernel_rfl) rfl (by kernel_rfl)) ?_
  intro W base args ds gs before hval hW _ hk _
  exact contract H enc W base args ds gs before hval hW hk
theorem over : Rows.bitsWritesUptoRow.holds Try.pinned (Rows.OpenSpec.upto Rows.bitsWritesSpec) :=
  OpenClaim.holds_of_cond 5 Try.f5 rfl rfl rfl rfl rfl rfl rfl ⟨rfl, rfl, rfl, rfl, rfl⟩ rfl rfl rfl rfl rfl (by kernel_rfl) Try.func5 (by kernel_rfl)
    (of_decide_eq_true (by kernel_rfl)) (by unfold Func.isWrapper; first | (rw [if_pos (by decide +kernel)]; kernel_rfl) | (rw [if_neg (by decide +kernel)]; exact ⟨rfl, rfl⟩))
    (fun os started H enc _ F => lifted os started H enc F)
end Go.Proofs.Ytpofjkjcbflloaa.bitsWrites
namespace Go.Proofs.Ytpofjkjcbflloaa
theorem bitsWrites_holds : Rows.BitsWritesUptoSaid := bitsWrites.over
#print axioms bitsWrites_holds
end Go.Proofs.Ytpofjkjcbflloaa
