/- Contracts: guess, Parse of package key. -/
import Derived.Test.YtpofjkjcbflloabDoorKtCut
namespace Go.Proofs.YtpofjkjcbflloabDoor
open Go.RowKit Go.Lib Go.Sort
set_option linter.unusedVariables false

def aval (l : List UInt8) : Int := match atoiAll l with
  | .ok v => v
  | .syntax => 0
  | .range => atoiSat l
theorem atoi_any (s : ByteArray) (hs : s.size ≤ 140737488351232) (w : World) (hv : Vs w) : Calls Tryd.prog 19 #[.string s] w fun e w' => ∃ ev, e = .returned (.tuple #[.int .i64 (aval s.data.toList), ev]) ∧ Below w.heap.size w w' := by
  cases h : atoiAll s.data.toList with
  | ok v =>
    have e : aval s.data.toList = v := by simp [aval, h]
    rw [e]
    exact (show Calls Tryd.prog 19 #[.string s] w fun e w' => e = .returned (.tuple #[.int .i64 v, .nilIface]) ∧ (w' = w ∨ ∃ t, w' = Lib.bytesWorld w 5 t) from Any.strconv_Atoi_ok Tryd.laysC172 s (by omega) v h w).mono fun e w' ⟨he, hw⟩ => ⟨_, he, by
      rcases hw with rfl | ⟨t, rfl⟩
      · exact Below.refl _ _
      · exact Lib.bytesWorld_below _ _ _⟩
  | «syntax» =>
    obtain ⟨tp, p, hc⟩ := hv.es
    have e : aval s.data.toList = 0 := by simp [aval, h]
    rw [e]
    exact (show Calls Tryd.prog 19 #[.string s] w fun e w' => ∃ N, e = .returned (.tuple #[.int .i64 (0), .iface 62 (.pointer (some ⟨N, 0, none⟩))]) ∧ w.heap.size ≤ N ∧ w'.heap[N]? = some (.cells #[.string ⟨#[65, 116, 111, 105]⟩, .string s, .iface tp p] 76 (0, 0)) ∧ Below w.heap.size w w' from Any.strconv_Atoi_syntax Tryd.laysC172 s (by omega) h _ w hc (Or.inr ⟨_, _, rfl⟩)).mono fun e w' ⟨N, he, _, _, hb⟩ => ⟨_, he, hb⟩
  | range =>
    obtain ⟨tp, p, hc⟩ := hv.er
    have e : aval s.data.toList = atoiSat s.data.toList := by simp [aval, h]
    rw [e]
    exact (show Calls Tryd.prog 19 #[.string s] w fun e w' => ∃ N, e = .returned (.tuple #[.int .i64 (Lib.atoiSat s.data.toList), .iface 62 (.pointer (some ⟨N, 0, none⟩))]) ∧ w.heap.size ≤ N ∧ w'.heap[N]? = some (.cells #[.string ⟨#[65, 116, 111, 105]⟩, .string s, .iface tp p] 76 (0, 0)) ∧ Below w.heap.size w w' from Any.strconv_Atoi_range Tryd.laysC172 s (by omega) h _ w hc (Or.inr ⟨_, _, rfl⟩)).mono fun e w' ⟨N, he, _, _, hb⟩ => ⟨_, he, hb⟩
theorem trim_any (s p : ByteArray) (w : World) : Calls Tryd.prog 18 #[.string s, .string p] w fun e w' => e = .returned (.string ⟨(trimPrefix s.data.toList p.data.toList).toArray⟩) ∧ w' = w := Any.strings_TrimPrefix Tryd.lays101 s p w
theorem cut_le (s sep : List UInt8) : (cut s sep).1.length ≤ s.length ∧ (cut s sep).2.1.length ≤ s.length := by
  unfold cut
  split
  · simp; omega
  · simp
def gx (l : List UInt8) : Int := aval (cut (trimPrefix l [107]) [46]).1
def gy (l : List UInt8) : Int := aval (cut (trimPrefix l [107]) [46]).2.1
theorem guess_tt (b s : Nat) (hb : b ≤ 65535) (hs : s ≤ 65535) : gx (tt b s).data.toList = b ∧ gy (tt b s).data.toList = s := by
  unfold gx gy
  rw [tt_list, trim_k, cut_dec]
  simp [aval, atoiAll_dec b hb, atoiAll_dec s hs]
theorem two_cells {w : World} {g : Nat} {x y : Value} {t : TypeId} (h : w.heap[g]? = some (.cells #[x, y] t)) : w.cell? ⟨g, 0, none⟩ = some x ∧ w.cell? ⟨g, 1, none⟩ = some y ∧ w.frozen? ⟨g, 0, none⟩ = false ∧ w.frozen? ⟨g, 1, none⟩ = false := by
  simp [World.cell?, World.frozen?, h]
theorem blk_later {w w' : World} {g : Nat} {o : Obj} (h : w.heap[g]? = some o) (hb : Below w.heap.size w w') : w'.heap[g]? = some o := by
  rw [hb.block g (Array.getElem?_eq_some_iff.1 h).1]; exact h
set_option maxHeartbeats 2000000 in
set_option maxRecDepth 100000 in
theorem guess_any (s : ByteArray) (w : World) (hs : s.size ≤ 140737488351232) (hv : Vs w) :
    Calls Tryd.prog 14 #[.string s] w fun e w' => e = .returned (.agg #[.int .i64 (gx s.data.toList), .int .i64 (gy s.data.toList)]) ∧ Below w.heap.size w w' := by
  have HV : Hid (Vs w) := hv
  have hl : s.data.toList.length = s.size := by rw [Lib.size_eq]
  have ht := trimPrefix_le s.data.toList [107]
  have hc := cut_le (trimPrefix s.data.toList [107]) [46]
  obtain ⟨A, hA⟩ : ∃ A : ByteArray, (⟨(trimPrefix s.data.toList [107]).toArray⟩ : ByteArray) = A := ⟨_, rfl⟩
  have hAl : A.data.toList = trimPrefix s.data.toList [107] := by rw [← hA]
  have hAs : A.size ≤ 140737488351232 := by rw [Lib.size_eq, hAl]; omega
  obtain ⟨X, hX⟩ : ∃ X : ByteArray, (⟨(cut A.data.toList [46]).1.toArray⟩ : ByteArray) = X := ⟨_, rfl⟩
  obtain ⟨Y, hY⟩ : ∃ Y : ByteArray, (⟨(cut A.data.toList [46]).2.1.toArray⟩ : ByteArray) = Y := ⟨_, rfl⟩
  have hXl : X.data.toList = (cut (trimPrefix s.data.toList [107]) [46]).1 := by rw [← hX, hAl]
  have hYl : Y.data.toList = (cut (trimPrefix s.data.toList [107]) [46]).2.1 := by rw [← hY, hAl]
  have hXs : X.size ≤ 140737488351232 := by rw [Lib.size_eq, hXl]; omega
  have hYs : Y.size ≤ 140737488351232 := by rw [Lib.size_eq, hYl]; omega
  have hgx : aval X.data.toList = gx s.data.toList := by rw [hXl]; rfl
  have hgy : aval Y.data.toList = gy s.data.toList := by rw [hYl]; rfl
  have c1 := fun w0 => trim_any s ⟨#[107]⟩ w0
  have e107 : (⟨#[107]⟩ : ByteArray).data.toList = [107] := rfl
  rw [e107, hA] at c1
  have c2 := fun w0 => cut_dot A w0 hAs
  rw [hX, hY] at c2
  have c3 := fun w0 hv0 => atoi_any X hXs w0 hv0
  have c4 := fun w0 hv0 => atoi_any Y hYs w0 hv0
  rw [hgx] at c3
  rw [hgy] at c4
  generalize (cut A.data.toList [46]).2.2 = fl at c2
  generalize gx s.data.toList = x at c3 ⊢
  generalize gy s.data.toList = y at c4 ⊢
  clear hl ht hc hA hAl hAs hX hY hXl hYl hXs hYs hgx hgy hv e107
  go_enter Tryd.func14, Tryd.ntmps14
  go_wp2_with fail
  refine (c1 _).mono ?_
  rintro e w1 ⟨rfl, rfl⟩
  go_wp2_with fail
  have HV1 : Hid (Vs (w.alloc (.cells #[.int .i64 0, .int .i64 0] 23))) := HV.out.later (below1 _ _)
  refine (c2 _).mono ?_
  rintro e w2 ⟨rfl, hb2⟩
  have HR2 : Hid (w2.heap[w.heap.size]? = some (.cells #[.int .i64 0, .int .i64 0] 23)) := blk_later (heap_alloc_new w _) hb2
  have HB2 : Hid (Below w.heap.size w w2) := Below.then (below1 _ _) hb2
  have HV2 : Hid (Vs w2) := HV1.out.later hb2
  have hs2 : w.heap.size < w2.heap.size := by have := hb2.size; simp at this; omega
  clear hb2
  go_wp2_with fail
  have HV3 : Hid (Vs (w2.alloc (.cells #[.int .i64 0, .int .i64 0] 23))) := HV2.out.later (below1 _ _)
  refine (c3 _ HV3.out).mono ?_
  rintro e w3 ⟨ev, rfl, hb3⟩
  have hk3 : w3.heap[w2.heap.size]? = some (.cells #[.int .i64 0, .int .i64 0] 23) := blk_later (heap_alloc_new w2 _) hb3
  have hr3 : w3.heap[w.heap.size]? = some (.cells #[.int .i64 0, .int .i64 0] 23) := blk_later (blk_later HR2.out (below1 _ _)) hb3
  have HB3 : Hid (Below w.heap.size w w3) := Below.then (Below.then HB2.out (below1 _ _)) hb3
  have HBk3 : Hid (Below w2.heap.size w2 w3) := Below.then (below1 _ _) hb3
  obtain ⟨q0, q1, f0, f1⟩ := two_cells hk3
  have HK3 : Hid (w3.heap[w2.heap.size]? = some (.cells #[.int .i64 0, .int .i64 0] 23)) := hk3
  have HR3 : Hid (w3.heap[w.heap.size]? = some (.cells #[.int .i64 0, .int .i64 0] 23)) := hr3
  clear hk3 hr3 hb3
  go_wp2_with fail
  have hk4 : (w3.setCell ⟨w2.heap.size, 0, none⟩ (.int .i64 x)).heap[w2.heap.size]? = some (.cells #[.int .i64 x, .int .i64 0] 23) := by rw [heap_setCell_same _ _ _ _ _ _ HK3.out]; rfl
  have hr4 : (w3.setCell ⟨w2.heap.size, 0, none⟩ (.int .i64 x)).heap[w.heap.size]? = some (.cells #[.int .i64 0, .int .i64 0] 23) := by rw [Below.heap_setCell _ _ _ _ (by show w.heap.size ≠ w2.heap.size; omega)]; exact HR3.out
  have hbs : Below w2.heap.size w2 (w3.setCell ⟨w2.heap.size, 0, none⟩ (.int .i64 x)) := HBk3.out.setCell (by simp) _
  have HV4 : Hid (Vs (w3.setCell ⟨w2.heap.size, 0, none⟩ (.int .i64 x))) := HV2.out.later hbs
  refine (c4 _ HV4.out).mono ?_
  rintro e w4 ⟨ev', rfl, hb4⟩
  have hk5 := blk_later hk4 hb4
  have hr5 := blk_later hr4 hb4
  have HB4 : Hid (Below w.heap.size w w4) := Below.then HB2.out (Below.then hbs hb4)
  obtain ⟨q0, q1, f0, f1⟩ := two_cells hk5
  obtain ⟨r0, r1, g0, g1⟩ := two_cells hr5
  have hne : w2.heap.size ≠ w.heap.size := by omega
  have hne2 : w.heap.size ≠ w2.heap.size := by omega
  clear hk4 hr4 hbs hb4 hk5 hr5
  go_wp2_with fail
  refine bodyPost_ret (v := .agg #[.int .i64 x, .int .i64 y]) (by simp [results, Tryd.results14, go_sem, r0, r1]) rfl ⟨rfl, ?_⟩
  exact ((HB4.out.setCell (p := ⟨w2.heap.size, 1, none⟩) (by show w.heap.size ≤ w2.heap.size; omega) _).setCell (p := ⟨w.heap.size, 0, none⟩) (by simp) _).setCell (p := ⟨w.heap.size, 1, none⟩) (by simp) _
set_option maxHeartbeats 2000000 in
set_option maxRecDepth 100000 in
theorem parse_yes (b s : Int) (h : Gd b s) (w : World) (hv : Vs w) :
    Calls Tryd.prog 7 #[.string (tt b s)] w fun e w' => e = .returned (.tuple #[.agg #[.int .i64 b, .int .i64 s], .int .i64 0]) ∧ Below w.heap.size w w' := by
  have HV : Hid (Vs w) := hv
  have HG : Hid (Gd b s) := h
  have c1 : ∀ w0, Vs w0 → Calls Tryd.prog 14 #[.string (tt b s)] w0 fun e w' => e = .returned (.agg #[.int .i64 b, .int .i64 s]) ∧ Below w0.heap.size w0 w' := fun w0 hv0 => by
    obtain ⟨h1, h2, h3, h4⟩ := h
    obtain ⟨b', rfl⟩ : ∃ b' : Nat, b = (b' : Int) := ⟨b.toNat, by omega⟩
    obtain ⟨s', rfl⟩ : ∃ s' : Nat, s = (s' : Int) := ⟨s.toNat, by omega⟩
    have g := guess_any (tt b' s') w0 (by rw [tt_size]; have := dec_len b' (by omega); have := dec_len s' (by omega); omega) hv0
    have e := guess_tt b' s' (by omega) (by omega)
    rw [e.1, e.2] at g
    exact g
  have c2 : ∀ w0, Vs w0 → Calls Tryd.prog 5 #[.agg #[.int .i64 b, .int .i64 s]] w0 fun e w' => e = .returned (.tuple #[.string (tt b s), .int .i64 0]) ∧ Below w0.heap.size w0 w' := fun w0 hv0 => text_yes b s h w0 hv0
  generalize tt b s = S at c1 c2 ⊢
  clear h hv
  go_enter Tryd.func7, Tryd.ntmps7
  go_wp2_with fail
  have HV1 : Hid (Vs (w.alloc (.cells #[.int .i64 0, .int .i64 0] 23))) := HV.out.later (below1 _ _)
  refine (c1 _ HV1.out).mono ?_
  rintro e w2 ⟨rfl, hb2⟩
  have HR2 : Hid (w2.heap[w.heap.size]? = some (.cells #[.int .i64 0, .int .i64 0] 23)) := blk_later (heap_alloc_new w _) hb2
  have HB2 : Hid (Below w.heap.size w w2) := Below.then (below1 _ _) hb2
  have HV2 : Hid (Vs w2) := HV1.out.later hb2
  have hs2 : w.heap.size < w2.heap.size := by have := hb2.size; simp at this; omega
  clear hb2
  go_wp2_with fail
  have HV3 : Hid (Vs (w2.alloc (.cells #[.int .i64 b, .int .i64 s] 23))) := HV2.out.later (below1 _ _)
  refine (c2 _ HV3.out).mono ?_
  rintro e w3 ⟨rfl, hb3⟩
  have hk3 : w3.heap[w2.heap.size]? = some (.cells #[.int .i64 b, .int .i64 s] 23) := blk_later (heap_alloc_new w2 _) hb3
  have hr3 : w3.heap[w.heap.size]? = some (.cells #[.int .i64 0, .int .i64 0] 23) := blk_later (blk_later HR2.out (below1 _ _)) hb3
  have HB3 : Hid (Below w.heap.size w w3) := Below.then (Below.then HB2.out (below1 _ _)) hb3
  obtain ⟨q0, q1, f0, f1⟩ := two_cells hk3
  obtain ⟨r0, r1, g0, g1⟩ := two_cells hr3
  have hne : w2.heap.size ≠ w.heap.size := by omega
  have hne2 : w.heap.size ≠ w2.heap.size := by omega
  clear hk3 hr3 hb3
  go_wp2_with fail
  refine bodyPost_ret (v := .tuple #[.agg #[.int .i64 b, .int .i64 s], .int .i64 0]) (by simp [results, Tryd.results7, go_sem, r0, r1]) rfl ⟨rfl, ?_⟩
  exact (HB3.out.setCell (p := ⟨w.heap.size, 0, none⟩) (by simp) _).setCell (p := ⟨w.heap.size, 1, none⟩) (by simp) _
set_option maxHeartbeats 2000000 in
set_option maxRecDepth 100000 in
theorem parse_no (S : ByteArray) (hs : S.size ≤ 140737488351232) (h : ∀ b s, Gd b s → tt b s ≠ S) (w : World) (hv : Vs w) :
    Calls Tryd.prog 7 #[.string S] w fun e w' => e = .returned (.tuple #[.agg #[.int .i64 0, .int .i64 0], .int .i64 25]) ∧ Below w.heap.size w w' := by
  have HV : Hid (Vs w) := hv
  have c1 := fun w0 hv0 => guess_any S w0 hs hv0
  generalize gx S.data.toList = b at c1
  generalize gy S.data.toList = s at c1
  by_cases hg : Gd b s
  · have c2 : ∀ w0, Vs w0 → Calls Tryd.prog 5 #[.agg #[.int .i64 b, .int .i64 s]] w0 fun e w' => e = .returned (.tuple #[.string (tt b s), .int .i64 0]) ∧ Below w0.heap.size w0 w' := fun w0 hv0 => text_yes b s hg w0 hv0
    have hne0 := h b s hg
    generalize tt b s = Z at c2 hne0
    have hz2 : (Z.toList == S.toList) = false := by
      rw [beq_eq_false_iff_ne]
      intro e
      apply hne0
      have e1 := Lib.toList_data Z
      have e2 := Lib.toList_data S
      rw [e1, e2] at e
      cases Z; cases S
      simpa using e
    have hz3 : ¬ Z.toList = S.toList := by simpa using hz2
    clear h hv hg
    go_enter Tryd.func7, Tryd.ntmps7
    go_wp2_with fail
    have HV1 : Hid (Vs (w.alloc (.cells #[.int .i64 0, .int .i64 0] 23))) := HV.out.later (below1 _ _)
    refine (c1 _ HV1.out).mono ?_
    rintro e w2 ⟨rfl, hb2⟩
    have HR2 : Hid (w2.heap[w.heap.size]? = some (.cells #[.int .i64 0, .int .i64 0] 23)) := blk_later (heap_alloc_new w _) hb2
    have HB2 : Hid (Below w.heap.size w w2) := Below.then (below1 _ _) hb2
    have HV2 : Hid (Vs w2) := HV1.out.later hb2
    have hs2 : w.heap.size < w2.heap.size := by have := hb2.size; simp at this; omega
    clear hb2
    go_wp2_with fail
    have HV3 : Hid (Vs (w2.alloc (.cells #[.int .i64 b, .int .i64 s] 23))) := HV2.out.later (below1 _ _)
    refine (c2 _ HV3.out).mono ?_
    rintro e w3 ⟨rfl, hb3⟩
    have hk3 : w3.heap[w2.heap.size]? = some (.cells #[.int .i64 b, .int .i64 s] 23) := blk_later (heap_alloc_new w2 _) hb3
    have hr3 : w3.heap[w.heap.size]? = some (.cells #[.int .i64 0, .int .i64 0] 23) := blk_later (blk_later HR2.out (below1 _ _)) hb3
    have HB3 : Hid (Below w.heap.size w w3) := Below.then (Below.then HB2.out (below1 _ _)) hb3
    obtain ⟨q0, q1, f0, f1⟩ := two_cells hk3
    obtain ⟨r0, r1, g0, g1⟩ := two_cells hr3
    have hne : w2.heap.size ≠ w.heap.size := by omega
    have hne2 : w.heap.size ≠ w2.heap.size := by omega
    clear hk3 hr3 hb3
    go_wp2_with fail
    refine bodyPost_ret (v := .tuple #[.agg #[.int .i64 0, .int .i64 0], .int .i64 25]) (by simp [results, Tryd.results7, go_sem, r0, r1]) rfl ⟨rfl, ?_⟩
    exact (HB3.out.setCell (p := ⟨w.heap.size, 0, none⟩) (by simp) _).setCell (p := ⟨w.heap.size, 1, none⟩) (by simp) _
  · have c2 : ∀ w0, Vs w0 → Calls Tryd.prog 5 #[.agg #[.int .i64 b, .int .i64 s]] w0 fun e w' => e = .returned (.tuple #[.string ⟨#[]⟩, .int .i64 3]) ∧ Below w0.heap.size w0 w' := fun w0 hv0 => text_no b s hg w0
    clear h hv hg
    go_enter Tryd.func7, Tryd.ntmps7
    go_wp2_with fail
    have HV1 : Hid (Vs (w.alloc (.cells #[.int .i64 0, .int .i64 0] 23))) := HV.out.later (below1 _ _)
    refine (c1 _ HV1.out).mono ?_
    rintro e w2 ⟨rfl, hb2⟩
    have HR2 : Hid (w2.heap[w.heap.size]? = some (.cells #[.int .i64 0, .int .i64 0] 23)) := blk_later (heap_alloc_new w _) hb2
    have HB2 : Hid (Below w.heap.size w w2) := Below.then (below1 _ _) hb2
    have HV2 : Hid (Vs w2) := HV1.out.later hb2
    have hs2 : w.heap.size < w2.heap.size := by have := hb2.size; simp at this; omega
    clear hb2
    go_wp2_with fail
    have HV3 : Hid (Vs (w2.alloc (.cells #[.int .i64 b, .int .i64 s] 23))) := HV2.out.later (below1 _ _)
    refine (c2 _ HV3.out).mono ?_
    rintro e w3 ⟨rfl, hb3⟩
    have hk3 : w3.heap[w2.heap.size]? = some (.cells #[.int .i64 b, .int .i64 s] 23) := blk_later (heap_alloc_new w2 _) hb3
    have hr3 : w3.heap[w.heap.size]? = some (.cells #[.int .i64 0, .int .i64 0] 23) := blk_later (blk_later HR2.out (below1 _ _)) hb3
    have HB3 : Hid (Below w.heap.size w w3) := Below.then (Below.then HB2.out (below1 _ _)) hb3
    obtain ⟨q0, q1, f0, f1⟩ := two_cells hk3
    obtain ⟨r0, r1, g0, g1⟩ := two_cells hr3
    have hne : w2.heap.size ≠ w.heap.size := by omega
    have hne2 : w.heap.size ≠ w2.heap.size := by omega
    clear hk3 hr3 hb3
    go_wp2_with fail
    refine bodyPost_ret (v := .tuple #[.agg #[.int .i64 0, .int .i64 0], .int .i64 25]) (by simp [results, Tryd.results7, go_sem, r0, r1]) rfl ⟨rfl, ?_⟩
    exact (HB3.out.setCell (p := ⟨w.heap.size, 0, none⟩) (by simp) _).setCell (p := ⟨w.heap.size, 1, none⟩) (by simp) _
end Go.Proofs.YtpofjkjcbflloabDoor
