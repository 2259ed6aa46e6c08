/- For every number and every payload: Pack answers as the document's; the list is new memory. No conditions. -/
import Derived.Test.YtoohoapbcdekgaaRows
import Derived.Test.YtoohoapbcdekgaaFrL
import Derived.Test.YtoohoapbcdekgaaFrI
import Derived.OpenShut
import Derived.SizedLaws
import Derived.ChangeMaps5
namespace Go.Proofs.Ytoohoapbcdekgaa.framePacks
open Go.ChangeShapes Go.WideShapes Go.ChangeAt Go.RowKit Go.Maps
set_option linter.unusedVariables false
set_option linter.unusedSimpArgs false

theorem cellsS_set (l : List ByteArray) (i : Nat) (s : ByteArray) : (cellsS l).set i (.string s) = cellsS (l.set i s) := by simp [cellsS, List.map_set]
set_option maxHeartbeats 2000000 in
set_option maxRecDepth 100000 in
theorem walk_no (a0 : Int) (s1 : ByteArray) (w : World) (E : Int) (h1 : ∀ W, Calls Try.prog 16 #[.int .i64 a0, .string s1] W fun e w' => e = .returned (.tuple #[.slice none 0 0, .int .i64 E]) ∧ Below W.heap.size W w') (h2 : ∀ W, Calls Try.prog 17 #[.int .i64 a0, .string s1] W fun e w' => e = .returned (.tuple #[.slice none 0 0, .int .i64 E]) ∧ Below W.heap.size W w') :
    Calls Try.prog 4 #[.int .i64 a0, .string s1] w fun e w' => e = .returned (.bool true) ∧ Below w.heap.size w w' := by
  obtain ⟨i0, hi, hz0, hz1, hz2⟩ := info_parts infoS
  have hsame : ∀ W, Calls Try.prog 18 #[.slice none 0 0, .slice none 0 0] W fun e w' => e = .returned (.bool true) ∧ Below W.heap.size W w' := fun W => same_any none none 0 0 [] W (by simp) (RdS.nil _ _) (RdS.nil _ _)
  go_enter Try.func4, Try.ntmps4
  go_wp2_with fail
  refine (lives_any _).mono ?_
  rintro e w1 ⟨rfl, hb1⟩
  go_wp2_with fail
  refine (h1 _).mono ?_
  rintro e w2 ⟨rfl, hb2⟩
  go_wp2_with fail
  refine (h1 _).mono ?_
  rintro e w3 ⟨rfl, hb3⟩
  go_wp2_with fail
  refine (h2 _).mono ?_
  rintro e w4 ⟨rfl, hb4⟩
  have HB4 : Hid (Below w.heap.size w w4) := Below.then (Below.then (Below.then hb1 hb2) hb3) hb4
  clear hb1 hb2 hb3 hb4 h1 h2
  go_wp2_with fail
  refine (hsame _).mono ?_
  rintro e w5 ⟨rfl, hb5⟩
  go_wp2_with fail
  refine (hsame _).mono ?_
  rintro e w6 ⟨rfl, hb6⟩
  have HB6 : Hid (Below w.heap.size w w6) := Below.then (Below.then HB4.out hb5) hb6
  clear hb5 hb6
  go_wp2_with fail
  refine wp_loop_rounds 1 ?_
  rw [rounds_succ]
  go_wp2_with (at_builtin; refine wpList_append_lies _ rfl _ _ _ rfl w6.heap.size 9 i0 _ 1 16 Try.underlying32 hi hz0 hz1 hz2 rfl (by omega) _ 0 [] rfl (World.ownsRow_nil _ _ _ _) ⟨w6.heap.size, 0, none⟩ 1 1 [.string ⟨#[109, 111, 114, 101]⟩] rfl rfl (cell_one_at _ _ _ _ rfl) (by simp [Value.oneCell']) (by omega) (by unfold maxLen; omega) (by omega) (by simp) (w6.heap.size + 1) (by simp) ?_; intro g7 cap7 w7 hown7 hgrow7 hat7 hlt7; have HG7 : Hid _ := hgrow7; clear hown7 hgrow7 hat7 hlt7)
  refine (hsame _).mono ?_
  rintro e w8 ⟨rfl, hb8⟩
  have HB8 : Hid (Below w.heap.size w w8) := Below.then ((Below.more HB6.out _).grown HG7.out (by have := HB6.out.size; simp; omega) (fun j hj => by cases hj)) hb8
  clear hb8
  go_wp2_with fail
  go_ret
  exact ⟨rfl, HB8.out⟩
set_option maxHeartbeats 4000000 in
set_option maxRecDepth 100000 in
theorem walk_yes (a0 : Int) (s1 : ByteArray) (w : World) (hq : gs a0 = true) (h : s1.size ≤ 5865) :
    Calls Try.prog 4 #[.int .i64 a0, .string s1] w fun e w' => e = .returned (.bool true) ∧ Below w.heap.size w w' := by
  obtain ⟨i0, hi, hz0, hz1, hz2⟩ := info_parts infoS
  have h1 := fun W => pack_yes a0 s1 W hq h
  have h2 := fun W => rPack_yes a0 s1 W hq h
  obtain ⟨e1, n1, n2, -, -⟩ := np_spec s1.size h
  have hlb : (blks a0 s1).length = np s1.size := blks_length a0 s1
  obtain ⟨n, hn⟩ : ∃ n, np s1.size = n := ⟨_, rfl⟩
  obtain ⟨B, hB⟩ : ∃ B, blks a0 s1 = B := ⟨_, rfl⟩
  simp only [hB] at h1 h2
  rw [hB, hn] at hlb
  rw [hn] at n1 n2
  have HLB : Hid (B.length = n) := hlb
  have hsame : ∀ (a a' : Option Addr) (c c' : Nat) (W : World), RdS W a B → RdS W a' B → Calls Try.prog 18 #[.slice a n c, .slice a' n c'] W fun e w' => e = .returned (.bool true) ∧ Below W.heap.size W w' := fun a a' c c' W r r' => by
    have := same_any a a' c c' B W (by rw [hlb]; omega) r r'
    rw [hlb] at this
    exact this
  have HSAME : Hid (∀ (a a' : Option Addr) (c c' : Nat) (W : World), RdS W a B → RdS W a' B → Calls Try.prog 18 #[.slice a n c, .slice a' n c'] W fun e w' => e = .returned (.bool true) ∧ Below W.heap.size W w') := hsame
  clear e1 hn hB hlb h hq hsame
  go_enter Try.func4, Try.ntmps4
  go_wp2_with fail
  refine (lives_any _).mono ?_
  rintro e w1 ⟨rfl, hb1⟩
  go_wp2_with fail
  refine (h1 _).mono ?_
  rintro e w2 ⟨v2, rfl, hrow2, hb2⟩
  unfold RwS at hrow2
  rw [HLB.out] at hrow2
  obtain ⟨r2, cap2, rfl⟩ : ∃ r cap, v2 = .slice (some ⟨r, 0, none⟩) n cap := by
    rcases hrow2.2 with ⟨_, h0⟩ | ⟨r, cap, cur, hv, _⟩
    · omega
    · exact ⟨r, cap, hv⟩
  have HR2 : Hid (w2.ownsRow w1.heap.size 9 1 (.slice (some ⟨r2, 0, none⟩) n cap2) n (cellsS B)) := hrow2
  have l2 := hrow2.lt r2 rfl
  have HB2 : Hid (Below w.heap.size w w2) := Below.then hb1 hb2
  have HB1 : Hid (Below w.heap.size w w1) := hb1
  clear hrow2 hb1 hb2
  go_wp2_with fail
  refine (h1 _).mono ?_
  rintro e w3 ⟨v3, rfl, hrow3, hb3⟩
  have hrow3' : w3.ownsRow w2.heap.size 9 1 v3 B.length (cellsS B) := hrow3
  rw [HLB.out] at hrow3'
  obtain ⟨a3, cap3, rfl⟩ := row_spell hrow3'
  have HRD3 : Hid (RdS w3 a3 B) := RwS.rd hrow3
  have HF3 : Hid (∀ b o, a3 = some ⟨b, o, none⟩ → w2.heap.size ≤ b ∧ b < w3.heap.size) := row_far hrow3'
  have HB3 : Hid (Below w2.heap.size w2 w3) := hb3
  clear hrow3 hrow3' hb3
  go_wp2_with fail
  refine (h2 _).mono ?_
  rintro e w4 ⟨v4, rfl, hrow4, hb4⟩
  have hrow4' : w4.ownsRow w3.heap.size 9 1 v4 B.length (cellsS B) := hrow4
  rw [HLB.out] at hrow4'
  obtain ⟨a4, cap4, rfl⟩ := row_spell hrow4'
  have HRD4 : Hid (RdS w4 a4 B) := RwS.rd hrow4
  have HF4 : Hid (∀ b o, a4 = some ⟨b, o, none⟩ → w3.heap.size ≤ b ∧ b < w4.heap.size) := row_far hrow4'
  have HB4 : Hid (Below w3.heap.size w3 w4) := hb4
  clear hrow4 hrow4' hb4 h1 h2
  go_wp2_with fail
  have hb24 := Below.then HB3.out HB4.out
  refine (HSAME.out _ _ _ _ _ (RwS.rd (n := n) (by unfold RwS; rw [HLB.out]; exact row_later HR2.out hb24)) HRD4.out).mono ?_
  rintro e w5 ⟨rfl, hb5⟩
  have HB5 : Hid (Below w4.heap.size w4 w5) := hb5
  clear hb5
  go_wp2_with fail
  refine (HSAME.out _ _ _ _ _ (HRD3.out.later (Below.then HB4.out HB5.out)) (HRD4.out.later HB5.out)).mono ?_
  rintro e w6 ⟨rfl, hb6⟩
  have HB46 : Hid (Below w4.heap.size w4 w6) := Below.then HB5.out hb6
  have HR6 : Hid (w6.ownsRow w1.heap.size 9 1 (.slice (some ⟨r2, 0, none⟩) n cap2) n (cellsS B)) := row_later HR2.out (Below.then hb24 HB46.out)
  have HD3 : Hid (RdS w6 a3 B) := HRD3.out.later (Below.then HB4.out HB46.out)
  have HD4 : Hid (RdS w6 a4 B) := HRD4.out.later HB46.out
  have HB6 : Hid (Below w.heap.size w w6) := Below.then (Below.then HB2.out hb24) HB46.out
  have hs3 := HB3.out.size
  have hs2 := HB1.out.size
  have hs6 := HB6.out.size
  have hs26 : w2.heap.size ≤ w6.heap.size := (Below.then hb24 HB46.out).size
  obtain ⟨l21, l22⟩ := l2
  clear hb6 hb24
  go_wp2_with fail
  go_loopw [54] (fun i wr => ∃ k : Nat, k ≤ n ∧ i = .int .i64 (k : Int) ∧ Kept (fun j => j = r2) w6 wr ∧ ∃ L : List ByteArray, L.length = n ∧ wr.ownsRow w1.heap.size 9 1 (.slice (some ⟨r2, 0, none⟩) n cap2) n (cellsS L)) (fun i _ => n - (intOf i).toNat)
  case atStart => exact ⟨0, by omega, rfl, Kept.refl _ _, B, HLB.out, HR6.out⟩
  case round =>
    obtain ⟨k, hk, rfl, hkp, L, hL, hrow⟩ := hrel
    have HKP : Hid (Kept (fun j => j = r2) w6 wr) := hkp
    have HROW : Hid (wr.ownsRow w1.heap.size 9 1 (.slice (some ⟨r2, 0, none⟩) n cap2) n (cellsS L)) := hrow
    have HL : Hid (L.length = n) := hL
    clear hkp hL
    by_cases hkn : k < n
    · have j1 : (0 : Int) ≤ (k : Int) := by omega
      have j2 : (k : Int) < (n : Int) := by omega
      have c0 : wr.cell? ⟨r2, k, none⟩ = some (.string (L.getD k ⟨#[]⟩)) := by
        rw [hrow.cellAt k (by omega)]; exact cellsS_get L k (by rw [HL.out]; exact hkn)
      have fz := hrow.frozenAt k
      have HST : Hid _ := hrow.stored k (.string ⟨#[109, 97, 114, 107]⟩)
      obtain ⟨t, ht⟩ : ∃ t, L.getD k ⟨#[]⟩ = t := ⟨_, rfl⟩
      rw [ht] at c0
      clear hrow ht
      go_wp2_with fail
      go_roundw
      case rel =>
        refine ⟨k + 1, by omega, by go_num, HKP.out.setCell (p := ⟨r2, k, none⟩) (fun _ => rfl) _, L.set k ⟨#[109, 97, 114, 107]⟩, by rw [List.length_set]; exact HL.out, ?_⟩
        rw [← cellsS_set]; exact HST.out.1
      case measure => simp [intOf]; omega
    · have i2 : decide ((k : Int) < (n : Int)) = false := by simp; omega
      have hsr : w6.heap.size ≤ wr.heap.size := HKP.out.size
      clear hrow
      go_wp2_with (at_builtin; refine wpList_append_lies _ rfl _ _ _ rfl w1.heap.size 9 i0 _ 1 16 Try.underlying32 hi hz0 hz1 hz2 rfl (by omega) _ n _ rfl (HROW.out.alloc _) ⟨wr.heap.size, 0, none⟩ 1 1 [.string ⟨#[109, 111, 114, 101]⟩] rfl rfl (cell_one_at _ _ _ _ rfl) (by simp [Value.oneCell']) (by omega) (by unfold maxLen; omega) (by omega) (by simp; omega) (wr.heap.size + 1) (by simp) ?_; intro g7 cap7 w7 hown7 hgrow7 hat7 hlt7; have HG7 : Hid _ := hgrow7; clear hown7 hgrow7 hat7 hlt7)
      have HK7 : Hid (Kept (fun j => j = r2) w6 w7) := (HKP.out.alloc _).grown HG7.out (fun j hj _ => by cases hj; rfl)
      refine (HSAME.out _ _ _ _ _ (HD3.out.kept HK7.out (fun b o e hbr => by have := (HF3.out b o e).1; have hbr' : b = r2 := hbr; omega)) (HD4.out.kept HK7.out (fun b o e hbr => by have := (HF4.out b o e).1; have hbr' : b = r2 := hbr; omega))).mono ?_
      rintro e w8 ⟨rfl, hb8⟩
      have HB8 : Hid (Below w.heap.size w w8) := Below.then (HB6.out.trans (HK7.out.below (by omega) (fun j hj => by have hj' : j = r2 := hj; omega))) hb8
      clear hb8
      go_wp2_with fail
      go_ret
      exact ⟨ret_bool (by simp), HB8.out⟩
theorem walk (a0 : Int) (s1 : ByteArray) (w0 : (Lit.int .i64 a0).wf = true) (hl1 : s1.size ≤ 140737488351232) (w : World) :
    Calls Try.prog 4 #[.int .i64 a0, .string s1] w fun e w' => e = .returned (.bool true) ∧ Below w.heap.size w w' := by
  cases hq : gs a0 with
  | false => exact walk_no a0 s1 w 7 (fun W => pack_seq a0 s1 W hq) (fun W => rPack_no a0 s1 W 7 (fun W' => rPieces_seq a0 s1 W' hq))
  | true =>
    by_cases h : s1.size ≤ 5865
    · exact walk_yes a0 s1 w hq h
    · exact walk_no a0 s1 w 9 (fun W => pack_long a0 s1 W hq h (by omega)) (fun W => rPack_no a0 s1 W 9 (fun W' => rPieces_long a0 s1 W' hq h))
theorem own : ownKnob Try.prog.godebug = none := by kernel_rfl
theorem laidOut : laidOutB Try.prog = true := by kernel_rfl
theorem text_reach {s : ByteArray} (h : s.data.toList.length ≤ reachBytes) : s.size ≤ 140737488351232 := by
  have e2 : s.data.toList.length = s.data.size := Array.length_toList
  have e1 : s.size = s.data.size := rfl
  unfold reachBytes at h
  omega
set_option maxRecDepth 100000 in
theorem lifted (os : Os) (started : os.Started) (H : Type) (enc : TypeId × Value → H) :
    ReturnsInHanded {} Try.checked os 4 .any (Rows.framePacksSpec.pre6 enc Try.prog Try.f4 Rows.framePacksRow.domain false) (Rows.framePacksSpec.post enc Try.prog Try.f4 false true false false) := by
  refine returnsInHanded_of_change_sized (C := Try.checked) own started (by kernel_rfl) Try.func4
    (ChangeSpec.witness6 (enc := enc) (C := Try.checked) false ⟨#[], #[.int .i64 0, .string ⟨#[]⟩], []⟩ 8 (by kernel_rfl) (by kernel_rfl) (by kernel_rfl) (by kernel_rfl)) ?_
  intro W base args ds gs before hval0 hW hcnd hsz0 _
  have hsz : (DataW.weightsEach Try.prog (Try.f4.params.toList ++ Rows.framePacksSpec.plain.varTypes Try.prog) (ds ++ gs)).all (· ≤ reachBytes) = true := hsz0
  clear hsz0
  have hval : ∀ (j : Nat) t v, Try.f4.params[j]? = some t → args[j]? = some v → Value.okWide Try.prog W .any base t v := hval0
  have hW' := hW
  obtain ⟨p, q, hA0, hV, rfl, hfz, hnd⟩ := hW
  have hA : DataW.TrodAll enc Try.prog W 0 (fun _ => true) true Try.f4.params.toList args.toList ds p := hA0
  rw [Try.params4] at hA hval hsz
  obtain ⟨v0, vs0, d0, ds0, p0, q0, hargs, rfl, rfl, h0, r0⟩ := trodAll_cons hA
  obtain ⟨v1, vs1, d1, ds1, p1, q1, rfl, rfl, rfl, h1, r1⟩ := trodAll_cons r0
  obtain ⟨rfl, rfl, rfl⟩ := trodAll_nil r1
  obtain rfl : args = #[v0, v1] := by cases args; simp_all
  obtain ⟨rfl, rfl⟩ := trodVars_none hV
  obtain ⟨a0, rfl, rfl, rfl, w0⟩ := open_int Try.underlying3 (hval 0 3 v0 rfl rfl) h0
  obtain ⟨s1, rfl, rfl, rfl, hs1⟩ := Go.ChangeMaps.open_string Try.underlying9 (hval 1 9 v1 rfl rfl) h1
  have hl1 : s1.size ≤ 140737488351232 := text_reach (sized_string hsz (j := 1) (t := 9) rfl rfl)
  clear hA0 hval0
  refine (walk a0 s1 w0 hl1 W).mono fun e W' ⟨he, bel⟩ => ?_
  subst he
  exact ⟨_, rfl, _, _, _, [], _, [], hW', trodAll_mk1 (shut_bool Try.underlying4 _), (trodAll_cons_mk (shut_int Try.underlying3 w0) (trodAll_cons_mk (Go.ChangeMaps.shut_string Try.underlying9 hs1) trodAll_mk0)), rfl, bel.frame _, fun h => by cases h⟩
theorem over : Rows.framePacksRow.holds Try.pinned (OpenSpec.ofChange Rows.framePacksSpec) :=
  OpenClaim.holds_of_wide 4 Try.f4 rfl rfl rfl rfl rfl rfl rfl ⟨rfl, rfl, rfl, rfl, rfl⟩ rfl rfl rfl rfl rfl (by kernel_rfl) Try.func4 (by kernel_rfl)
    (of_decide_eq_true (by kernel_rfl)) (by unfold Func.isWrapper; first | (rw [if_pos (by decide +kernel)]; kernel_rfl) | (rw [if_neg (by decide +kernel)]; exact ⟨rfl, rfl⟩))
    (fun os started H enc _ => lifted os started H enc)
end Go.Proofs.Ytoohoapbcdekgaa.framePacks
namespace Go.Proofs.Ytoohoapbcdekgaa
theorem framePacks_holds : Rows.FramePacksSaid := framePacks.over
#print axioms framePacks_holds
end Go.Proofs.Ytoohoapbcdekgaa
