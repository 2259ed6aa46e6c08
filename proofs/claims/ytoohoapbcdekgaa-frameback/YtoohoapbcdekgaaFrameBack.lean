/- For every number and every payload: the pieces of the program's blocks are whole, and give number and payload again; what can't be framed is refused. No conditions. -/
import Derived.Test.YtoohoapbcdekgaaRows
import Derived.Test.YtoohoapbcdekgaaFrP
import Derived.Test.YtoohoapbcdekgaaFrJ
import Derived.OpenShut
import Derived.SizedLaws
import Derived.ChangeMaps5
namespace Go.Proofs.Ytoohoapbcdekgaa.frameBack
open Go.ChangeShapes Go.WideShapes Go.ChangeAt Go.RowKit Go.Maps
set_option linter.unusedVariables false
set_option linter.unusedSimpArgs false

set_option maxHeartbeats 2000000 in
set_option maxRecDepth 100000 in
theorem walk (a0 : Int) (s1 : ByteArray) (w0 : (Lit.int .i64 a0).wf = true) (hl1 : s1.size ≤ 140737488351232) (w : World) :
    Calls Try.prog 6 #[.int .i64 a0, .string s1] w fun e w' => e = .returned (.bool true) ∧ Below w.heap.size w w' := by
  clear w0
  obtain ⟨z, hz⟩ : ∃ z, s1.size = z := ⟨_, rfl⟩
  have HZ : Hid (s1.size = z) := hz
  by_cases h1 : a0 < 1
  · have hp := fun W => pack_seq a0 s1 W (by simp [gs]; omega)
    clear hz
    go_enter Try.func6, Try.ntmps6
    go_wp2_with fail
    refine (lives_any _).mono ?_
    rintro e w1 ⟨rfl, hb1⟩
    go_wp2_with fail
    refine (hp _).mono ?_
    rintro e w2 ⟨rfl, hb2⟩
    go_wp2_with fail
    go_ret
    exact ⟨rfl, Below.then hb1 hb2⟩
  · by_cases h2 : 65535 < a0
    · have hp := fun W => pack_seq a0 s1 W (by simp [gs]; omega)
      clear hz
      go_enter Try.func6, Try.ntmps6
      go_wp2_with fail
      refine (lives_any _).mono ?_
      rintro e w1 ⟨rfl, hb1⟩
      go_wp2_with fail
      refine (hp _).mono ?_
      rintro e w2 ⟨rfl, hb2⟩
      go_wp2_with fail
      go_ret
      exact ⟨rfl, Below.then hb1 hb2⟩
    · have hg : gs a0 = true := by unfold gs; rw [Bool.and_eq_true]; exact ⟨decide_eq_true (by omega), decide_eq_true (by omega)⟩
      by_cases h3 : 5865 < (z : Int)
      · have hp := fun W => pack_long a0 s1 W hg (by omega) (by omega)
        go_enter Try.func6, Try.ntmps6
        go_wp2_with fail
        refine (lives_any _).mono ?_
        rintro e w1 ⟨rfl, hb1⟩
        go_wp2_with fail
        refine (hp _).mono ?_
        rintro e w2 ⟨rfl, hb2⟩
        go_wp2_with fail
        go_ret
        exact ⟨rfl, Below.then hb1 hb2⟩
      · have h5 : s1.size ≤ 5865 := by omega
        have hp := fun W => pieces_yes a0 s1 W hg h5
        have hq := fun W => parts_any (z : Int) (by omega) (by omega) W
        obtain ⟨e1, n1, n2, -, -⟩ := np_spec s1.size h5
        rw [hz] at e1
        simp only [e1] at hq
        have hwh := wh_pcs a0 s1 hg h5
        have hct := ct_pcs a0 s1 h5
        have hlp : (pcs a0 s1).length = np s1.size := pcs_length a0 s1
        have hq0 : ((pcs a0 s1).getD 0 pc0).q = a0 := by rw [pcs_get a0 s1 0 (by omega)]
        rw [hz] at hlp n1 n2
        obtain ⟨n, hn⟩ : ∃ n, np z = n := ⟨_, rfl⟩
        obtain ⟨P, hP⟩ : ∃ P, pcs a0 s1 = P := ⟨_, rfl⟩
        simp only [hP] at hp
        simp only [hn] at hq
        rw [hP] at hwh hct hlp hq0
        rw [hn] at hlp n1 n2
        have HWH : Hid (Wh P) := hwh
        have HCT : Hid (ct P = s1.data.toList) := hct
        have HLP : Hid (P.length = n) := hlp
        have HQ0 : Hid ((P.getD 0 pc0).q = a0) := hq0
        have hP3 : decide (5865 < (z : Int)) = false := by simp; omega
        clear hn hP hwh hct hlp hq0 e1 hg h3 h5
        go_enter Try.func6, Try.ntmps6
        go_wp2_with fail
        refine (lives_any _).mono ?_
        rintro e w1 ⟨rfl, hb1⟩
        go_wp2_with fail
        refine (hp _).mono ?_
        rintro e w2 ⟨v, rfl, hrow, hb2⟩
        unfold RwP at hrow
        obtain ⟨a, cap, rfl⟩ := row_spell hrow
        have HRD : Hid (RdP w2 a P) := RwP.rd hrow
        rw [HLP.out]
        have HB2 : Hid (Below w.heap.size w w2) := Below.then hb1 hb2
        clear hp hrow hb1 hb2
        go_wp2_with fail
        refine (hq _).mono ?_
        rintro e w3 ⟨rfl, rfl⟩
        clear hq
        go_wp2_with fail
        go_loopw [58] (fun i wr => ∃ k : Nat, k ≤ n ∧ i = .int .i64 (k : Int) ∧ Below w3.heap.size w3 wr) (fun i _ => n - (intOf i).toNat)
        case atStart => exact ⟨0, by omega, rfl, Below.refl _ _⟩
        case round =>
          obtain ⟨k, hk, rfl, hb⟩ := hrel
          have HB : Hid (Below w3.heap.size w3 wr) := hb
          by_cases hkn : k < n
          · obtain ⟨b, o, ea, c0, c1, c2, c3⟩ := (HRD.out.later hb) k (by rw [HLP.out]; exact hkn)
            subst ea
            obtain ⟨-, x1, x2, x3⟩ := HWH.out.each k (by rw [HLP.out]; exact hkn)
            rw [HQ0.out] at x1
            rw [HLP.out] at x3
            rw [x1] at c0
            rw [x2] at c1
            rw [x3] at c2
            obtain ⟨d, hd⟩ : ∃ d, (P.getD k pc0).d = d := ⟨_, rfl⟩
            rw [hd] at c3
            have j1 : (0 : Int) ≤ (k : Int) := by omega
            have j2 : (k : Int) < (n : Int) := by omega
            clear hb hd x1 x2 x3
            go_wp2_with fail
            go_roundw
            case rel => exact ⟨k + 1, by omega, by go_num, Below.more HB.out _⟩
            case measure => simp [intOf]; omega
          · have i2 : decide ((k : Int) < (n : Int)) = false := by simp; omega
            have hw := whole_any a cap P (by rw [HLP.out]; omega) wr (HRD.out.later hb)
            rw [HLP.out] at hw
            clear hb
            go_wp2_with fail
            refine hw.mono ?_
            rintro e w4 ⟨hwp, hb4⟩
            have HB4 : Hid (Below w.heap.size w w4) := Below.then (Below.then HB2.out HB.out) hb4
            rcases hwp with ⟨-, rfl⟩ | ⟨hno, -⟩
            · unfold wA
              rw [HQ0.out, HCT.out]
              have es : (⟨s1.data.toList.toArray⟩ : ByteArray) = s1 := by apply ByteArray.ext; simp
              rw [es]
              clear hb4 hw es
              go_wp2
              go_ret
              exact ⟨ret_bool (by simp), HB4.out⟩
            · exact absurd HWH.out hno
theorem own : ownKnob Try.prog.godebug = none := by kernel_rfl
theorem laidOut : laidOutB Try.prog = true := by kernel_rfl
theorem text_reach {s : ByteArray} (h : s.data.toList.length ≤ reachBytes) : s.size ≤ 140737488351232 := by
  have e2 : s.data.toList.length = s.data.size := Array.length_toList
  have e1 : s.size = s.data.size := rfl
  unfold reachBytes at h
  omega
set_option maxRecDepth 100000 in
theorem lifted (os : Os) (started : os.Started) (H : Type) (enc : TypeId × Value → H) :
    ReturnsInHanded {} Try.checked os 6 .any (Rows.frameBackSpec.pre6 enc Try.prog Try.f6 Rows.frameBackRow.domain false) (Rows.frameBackSpec.post enc Try.prog Try.f6 false true false false) := by
  refine returnsInHanded_of_change_sized (C := Try.checked) own started (by kernel_rfl) Try.func6
    (ChangeSpec.witness6 (enc := enc) (C := Try.checked) false ⟨#[], #[.int .i64 0, .string ⟨#[]⟩], []⟩ 8 (by kernel_rfl) (by kernel_rfl) (by kernel_rfl) (by kernel_rfl)) ?_
  intro W base args ds gs before hval0 hW hcnd hsz0 _
  have hsz : (DataW.weightsEach Try.prog (Try.f6.params.toList ++ Rows.frameBackSpec.plain.varTypes Try.prog) (ds ++ gs)).all (· ≤ reachBytes) = true := hsz0
  clear hsz0
  have hval : ∀ (j : Nat) t v, Try.f6.params[j]? = some t → args[j]? = some v → Value.okWide Try.prog W .any base t v := hval0
  have hW' := hW
  obtain ⟨p, q, hA0, hV, rfl, hfz, hnd⟩ := hW
  have hA : DataW.TrodAll enc Try.prog W 0 (fun _ => true) true Try.f6.params.toList args.toList ds p := hA0
  rw [Try.params6] at hA hval hsz
  obtain ⟨v0, vs0, d0, ds0, p0, q0, hargs, rfl, rfl, h0, r0⟩ := trodAll_cons hA
  obtain ⟨v1, vs1, d1, ds1, p1, q1, rfl, rfl, rfl, h1, r1⟩ := trodAll_cons r0
  obtain ⟨rfl, rfl, rfl⟩ := trodAll_nil r1
  obtain rfl : args = #[v0, v1] := by cases args; simp_all
  obtain ⟨rfl, rfl⟩ := trodVars_none hV
  obtain ⟨a0, rfl, rfl, rfl, w0⟩ := open_int Try.underlying3 (hval 0 3 v0 rfl rfl) h0
  obtain ⟨s1, rfl, rfl, rfl, hs1⟩ := Go.ChangeMaps.open_string Try.underlying9 (hval 1 9 v1 rfl rfl) h1
  have hl1 : s1.size ≤ 140737488351232 := text_reach (sized_string hsz (j := 1) (t := 9) rfl rfl)
  clear hA0 hval0
  refine (walk a0 s1 w0 hl1 W).mono fun e W' ⟨he, bel⟩ => ?_
  subst he
  exact ⟨_, rfl, _, _, _, [], _, [], hW', trodAll_mk1 (shut_bool Try.underlying4 _), (trodAll_cons_mk (shut_int Try.underlying3 w0) (trodAll_cons_mk (Go.ChangeMaps.shut_string Try.underlying9 hs1) trodAll_mk0)), rfl, bel.frame _, fun h => by cases h⟩
theorem over : Rows.frameBackRow.holds Try.pinned (OpenSpec.ofChange Rows.frameBackSpec) :=
  OpenClaim.holds_of_wide 6 Try.f6 rfl rfl rfl rfl rfl rfl rfl ⟨rfl, rfl, rfl, rfl, rfl⟩ rfl rfl rfl rfl rfl (by kernel_rfl) Try.func6 (by kernel_rfl)
    (of_decide_eq_true (by kernel_rfl)) (by unfold Func.isWrapper; first | (rw [if_pos (by decide +kernel)]; kernel_rfl) | (rw [if_neg (by decide +kernel)]; exact ⟨rfl, rfl⟩))
    (fun os started H enc _ => lifted os started H enc)
end Go.Proofs.Ytoohoapbcdekgaa.frameBack
namespace Go.Proofs.Ytoohoapbcdekgaa
theorem frameBack_holds : Rows.FrameBackSaid := frameBack.over
#print axioms frameBack_holds
end Go.Proofs.Ytoohoapbcdekgaa
