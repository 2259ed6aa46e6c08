/- WiSg, WiSh, WiSi, joined. -/
import Derived.Test.YtdkfifnhmfbagaaGreatWiJ6
import Derived.Test.YtdkfifnhmfbagaaGreatWiSf
/- Contract of the document's answer: Decode. -/
namespace Go.Proofs.YtdkfifnhmfbagaaGreat.Wi
open Go.RowKit Go.Maps
open Bt (Kept Rm tb bys bv tx)
set_option linter.unusedVariables false
set_option linter.unusedSimpArgs false

theorem rMsg_any (B sc g : Nat) (T : List Bool) (v : Value) (w : World) (h : SC B w sc g 0 T v) (hT : T.length < 4611686018427387904) :
    Calls Tryz.prog 44 #[.pointer (some ⟨sc, 0, none⟩)] w fun e w' => ∃ ct, e = .returned (.agg ct.toArray) ∧ MO w.heap.size w' (tM T) ct ∧ Kept (fun k => k = g) w w' := by
  have hl := tn_lt 2 T 0
  have : (tn 2 T 0).1 = 0 ∨ (tn 2 T 0).1 = 1 ∨ (tn 2 T 0).1 = 2 ∨ (tn 2 T 0).1 = 3 := by omega
  rcases this with hk | hk | hk | hk
  · exact rMsg_1 B sc g T v w h hT hk
  · exact rMsg_2 B sc g T v w h hT hk
  · exact rMsg_3 B sc g T v w h hT hk
  · exact rMsg_4 B sc g T v w h hT hk
end Go.Proofs.YtdkfifnhmfbagaaGreat.Wi
/- Contract of the document's answer: Decode. -/
namespace Go.Proofs.YtdkfifnhmfbagaaGreat.Wi
open Go.RowKit Go.Maps
open Bt (Kept Rm tb bys bv tx)
set_option linter.unusedVariables false
set_option linter.unusedSimpArgs false

theorem str_no {X Y : ByteArray} (h : X ≠ Y) : (X.toList == Y.toList) = false := by
  rw [beq_eq_false_iff_ne, ByteArray.toList_eq, ByteArray.toList_eq]
  intro e
  exact h (ByteArray.ext (Array.ext' e))
theorem dc_doc (s : ByteArray) : (gM (tM (tb (bys s))) = true ∧ enS (tM (tb (bys s))) = s ∧ dcM (tb (bys s)) = tM (tb (bys s)) ∧ dcE (tb (bys s)) = 0) ∨ (¬ (gM (tM (tb (bys s))) = true ∧ enS (tM (tb (bys s))) = s) ∧ dcM (tb (bys s)) = zM ∧ dcE (tb (bys s)) = 13) := by
  have h := okD_doc s
  cases ho : okD (tb (bys s)) with
  | true =>
    rw [ho] at h
    have h := h.symm
    simp only [Bool.and_eq_true, decide_eq_true_eq] at h
    exact .inl ⟨h.1, h.2, by unfold dcM; rw [ho]; rfl, by unfold dcE; rw [ho]; rfl⟩
  | false =>
    rw [ho] at h
    refine .inr ⟨fun hh => ?_, by unfold dcM; rw [ho]; rfl, by unfold dcE; rw [ho]; rfl⟩
    rw [hh.1, hh.2] at h
    simp at h
theorem kept_beyond {g : Nat} {w w1 w2 : World} (hb : Below w.heap.size w w1) (hk : Kept (fun k => k = g) w1 w2) (hg : w.heap.size ≤ g) : Below w.heap.size w w2 := hb.trans (hk.below hb.size (fun k e => by omega))
end Go.Proofs.YtdkfifnhmfbagaaGreat.Wi
/- Contract of the document's answer: Decode. -/
namespace Go.Proofs.YtdkfifnhmfbagaaGreat.Wi
open Go.RowKit Go.Maps
open Bt (Kept Rm tb bys bv tx)
set_option linter.unusedVariables false
set_option linter.unusedSimpArgs false

theorem resCS {T : TypeId} {fn : Func} {p q : Tmp} (hf : fn.results = #[.cell p T, .tmp q]) (tmps : Array Value) (W : World) (B : Nat) (cs : Array Value) (x : Value) (hp : tmps[p]? = some (.pointer (some ⟨B, 0, none⟩))) (hq : tmps.getD q undef = x) (h : (loadVar T ⟨B, 0, none⟩).run Tryz.prog W = .ok (.agg cs) W) :
    (results fn tmps).run Tryz.prog W = .ok (.tuple #[.agg cs, x]) W := by
  subst hq
  simp [results, hf, hp, asAddr, h]
theorem goodP {w : World} {m : Msg} {ct : List Value} (h : MV w m ct) : Calls Tryz.prog 6 #[.agg ct.toArray] w fun e w' => e = .returned (.bool (gM m)) ∧ Below w.heap.size w w' := by
  obtain ⟨aL, aJ, aI, cL, cJ, cI, rfl, hr⟩ := h
  exact good_any m aL aJ aI cL cJ cI w hr
set_option maxRecDepth 100000 in
set_option maxHeartbeats 2000000 in
theorem rDec_mo (s : ByteArray) (w : World) (hs : s.size ≤ 16777216) : Calls Tryz.prog 11 #[.string s] w fun e w' => ∃ ct, e = .returned (.tuple #[.agg ct.toArray, .int .i64 (dcE (tb (bys s)))]) ∧ MO w.heap.size w' (dcM (tb (bys s))) ct ∧ Below w.heap.size w w' := by
  have hD := heap_alloc_last w (.cells #[.int .i64 0, .int .i64 0, .slice none 0 0, .slice none 0 0, .slice none 0 0, .int .i64 0, .int .i64 0, .int .i64 0, .int .i64 0, .int .i64 0, .int .i64 0, .int .i64 0, .int .i64 0, .int .i64 0, .int .i64 0, .int .i64 0, .int .i64 0, .int .i64 0, .int .i64 0, .int .i64 0, .int .i64 0, .int .i64 0, .int .i64 0, .int .i64 0, .int .i64 0, .string ⟨#[]⟩] 38)
  have hb1 := below_alloc w (.cells #[.int .i64 0, .int .i64 0, .slice none 0 0, .slice none 0 0, .slice none 0 0, .int .i64 0, .int .i64 0, .int .i64 0, .int .i64 0, .int .i64 0, .int .i64 0, .int .i64 0, .int .i64 0, .int .i64 0, .int .i64 0, .int .i64 0, .int .i64 0, .int .i64 0, .int .i64 0, .int .i64 0, .int .i64 0, .int .i64 0, .int .i64 0, .int .i64 0, .int .i64 0, .string ⟨#[]⟩] 38)
  have hcs := dc_doc s
  have HTL : Hid ((tb (bys s)).length < 4611686018427387904) := by unfold Hid; rw [Bt.tb_length, Bt.bys_length]; omega
  go_enter Tryz.func11, Tryz.ntmps11
  go_upto_region 1 with (fail)
  obtain ⟨zc, hzc⟩ : ∃ z : Array Value, #[.int .i64 0, .int .i64 0, .slice none 0 0, .slice none 0 0, .slice none 0 0, .int .i64 0, .int .i64 0, .int .i64 0, .int .i64 0, .int .i64 0, .int .i64 0, .int .i64 0, .int .i64 0, .int .i64 0, .int .i64 0, .int .i64 0, .int .i64 0, .int .i64 0, .int .i64 0, .int .i64 0, .int .i64 0, .int .i64 0, .int .i64 0, .int .i64 0, .int .i64 0, .string ⟨#[]⟩] = z := ⟨_, rfl⟩
  have HZC : Hid (zc.size = 26) := by unfold Hid; rw [← hzc]; rfl
  generalize w.alloc (.cells #[.int .i64 0, .int .i64 0, .slice none 0 0, .slice none 0 0, .slice none 0 0, .int .i64 0, .int .i64 0, .int .i64 0, .int .i64 0, .int .i64 0, .int .i64 0, .int .i64 0, .int .i64 0, .int .i64 0, .int .i64 0, .int .i64 0, .int .i64 0, .int .i64 0, .int .i64 0, .int .i64 0, .int .i64 0, .int .i64 0, .int .i64 0, .int .i64 0, .int .i64 0, .string ⟨#[]⟩] 38) = w1 at *
  rw [hzc] at hD
  clear hzc
  obtain ⟨D, hDe⟩ : ∃ D, w.heap.size = D := ⟨_, rfl⟩
  have HD : Hid (w.heap.size = D) := hDe
  rw [hDe] at hD ⊢
  clear hDe
  have HB1 : Hid (Below w.heap.size w w1) := hb1
  have HD1 : Hid (w1.heap[D]? = some (.cells zc 38 (0, 0))) := hD
  clear hb1 hD
  go_wp2_with fail
  refine (Bt.rRead_any s w1 hs).mono ?_
  rintro e w2 ⟨g, v, rfl, hr, hg, hb2⟩
  have HR2 : Hid (Rm w1.heap.size w2 g 0 (tb (bys s)) v) := hr
  have HG : Hid (w1.heap.size ≤ g) := hg
  have HB2 : Hid (Below w.heap.size w w2) := Below.join HB1.out hb2
  have HD2 : Hid (w2.heap[D]? = some (.cells zc 38 (0, 0))) := row_later HD1.out hb2
  have HDl : Hid (D < w1.heap.size) := row_lt HD1.out
  clear hr hg hb2 HD1
  have hb3 := below_alloc w2 (.cells #[.pointer (some ⟨g, 0, none⟩)] 86)
  have hsc : SC w1.heap.size (w2.alloc (.cells #[.pointer (some ⟨g, 0, none⟩)] 86)) w2.heap.size g 0 (tb (bys s)) v := ⟨HR2.out.kept (Kept.ofBelow (F := fun _ => False) hb3) (fun h => h) (fun _ _ h => h), heap_alloc_last w2 _⟩
  have hp := rMsg_any w1.heap.size w2.heap.size g (tb (bys s)) v _ hsc HTL.out
  have HB3 : Hid (Below w.heap.size w (w2.alloc (.cells #[.pointer (some ⟨g, 0, none⟩)] 86))) := Below.join HB2.out hb3
  have HD3 : Hid ((w2.alloc (.cells #[.pointer (some ⟨g, 0, none⟩)] 86)).heap[D]? = some (.cells zc 38 (0, 0))) := row_later HD2.out hb3
  have HN3 : Hid (D < (w2.alloc (.cells #[.pointer (some ⟨g, 0, none⟩)] 86)).heap.size ∧ w.heap.size ≤ (w2.alloc (.cells #[.pointer (some ⟨g, 0, none⟩)] 86)).heap.size) := ⟨row_lt HD3.out, HB3.out.size⟩
  clear hsc hb3 HB2 HD2 HR2
  go_wp2_with fail
  refine hp.mono ?_
  rintro e w4 ⟨ct, rfl, hv, hk⟩
  have HB4 : Hid (Below w.heap.size w w4) := kept_beyond HB3.out hk (by have := HG.out; have := HB1.out.size; omega)
  have HD4 : Hid (w4.heap[D]? = some (.cells zc 38 (0, 0))) := row_kept HD3.out hk (by have := HG.out; have := HDl.out; omega)
  obtain ⟨n3, hn3⟩ : ∃ n, (w2.alloc (.cells #[.pointer (some ⟨g, 0, none⟩)] 86)).heap.size = n := ⟨_, rfl⟩
  rw [hn3] at hv HN3
  have HO4 : Hid (MO n3 w4 (tM (tb (bys s))) ct) := hv
  have HV4 : Hid (MV w4 (tM (tb (bys s))) ct) := hv.mv
  clear hp hv hk HB3 HD3 hn3
  obtain ⟨dm, hdm⟩ : ∃ x, dcM (tb (bys s)) = x := ⟨_, rfl⟩
  obtain ⟨de, hde⟩ : ∃ x, dcE (tb (bys s)) = x := ⟨_, rfl⟩
  have HDM : Hid (dcM (tb (bys s)) = dm ∧ dcE (tb (bys s)) = de) := ⟨hdm, hde⟩
  rw [hdm, hde] at hcs
  clear hdm hde
  generalize tM (tb (bys s)) = m at *
  go_upto_region 3 with (refine stN szMg rfl ct HV4.out.len HV4.out.one rfl _ _ rfl rfl rfl ?_)
  have HX : Hid (MB (w4.alloc (.cells ct.toArray 38)) w4.heap.size ct) := MB.new w4 ct
  have HB5 : Hid (Below w.heap.size w (w4.alloc (.cells ct.toArray 38))) := Below.plus HB4.out _
  have HV5 : Hid (MV (w4.alloc (.cells ct.toArray 38)) m ct) := HV4.out.later (below_alloc _ _)
  have HD5 : Hid ((w4.alloc (.cells ct.toArray 38)).heap[D]? = some (.cells zc 38 (0, 0))) := row_later HD4.out (below_alloc _ _)
  have HXD : Hid (w4.heap.size ≠ D) := by have := row_lt HD4.out; unfold Hid; omega
  have HO5 : Hid (MO n3 (w4.alloc (.cells ct.toArray 38)) m ct) := HO4.out.later (below_alloc _ _)
  clear HB4 HV4 HD4 HO4
  generalize w4.alloc (.cells ct.toArray 38) = w5 at *
  generalize w4.heap.size = X at *
  have HSz : Hid _ := szMv HV5.out
  have HR5 : Hid (w5.rangeAt X 0 ct) := HX.out.all
  have hp := HV5.out.rEnc
  go_wp2_with (refine ldM HR5.out Tryz.underlying38 rfl HSz.out _ rfl rfl rfl ?_)
  refine hp.mono ?_
  rintro e w6 ⟨rfl, hb6⟩
  have HB6 : Hid (Below w.heap.size w w6) := Below.join HB5.out hb6
  have HD6 : Hid (w6.heap[D]? = some (.cells zc 38 (0, 0))) := row_later HD5.out hb6
  have HR6 : Hid (w6.rangeAt X 0 ct) := (HX.out.later hb6).all
  have HV6 : Hid (MV w6 m ct) := HV5.out.later hb6
  have HO6 : Hid (MO n3 w6 m ct) := HO5.out.later hb6
  clear hp hb6 HB5 HD5 HR5 HV5 HX HO5
  rcases hcs with ⟨hg, hs1, rfl, rfl⟩ | ⟨hno, rfl, rfl⟩
  · have ee : enE dm = 0 := by unfold enE; rw [hg]; rfl
    rw [hs1, ee]
    clear hg hs1 ee
    have hse : (s.toList == s.toList) = true := by simp
    go_wp2_with (first | (refine ldM HR6.out Tryz.underlying38 rfl HSz.out _ rfl rfl rfl ?_) | (refine stW szMg HD6.out HZC.out ct HV6.out.len HV6.out.one rfl _ _ rfl rfl rfl ?_))
    have hD7 := setRow_heap w6 D _ ct.toArray _ _ HD6.out
    refine bodyPost_ret (resCS (T := 38) (p := 2) (q := 3) rfl _ _ D ct.toArray (.int .i64 0) rfl rfl (run_loadVar_row _ D _ 38 _ _ _ hD7 Tryz.underlying38 rfl (by rw [szMg]; simp [HV6.out.len]))) rfl ?_
    have hO7 : MO n3 (w6.setRow D ct.toArray) dm ct := HO6.out.block fun k h1 h2 => setRow_other (show k ≠ D by have := HN3.out; omega) _
    rw [HDM.out.1, HDM.out.2]
    refine ⟨ct, rfl, hO7.wide HN3.out.2, ?_⟩
    exact ⟨HB6.out.os, HB6.out.tape, HB6.out.output, by simpa using HB6.out.size, fun k hk => (setRow_other (by have := HD.out; omega) _).trans (HB6.out.block k hk)⟩
  · cases hg : gM m with
    | false =>
      have ee : enE m = 13 := by unfold enE; rw [hg]; rfl
      rw [ee]
      clear hno ee hg
      go_wp2_with (refine stW szMg HD6.out HZC.out (mgl zM (.slice none 0 0) (.slice none 0 0) (.slice none 0 0)) rfl rfl rfl _ _ rfl rfl rfl ?_)
      have hD7 := setRow_heap w6 D _ (mgl zM (.slice none 0 0) (.slice none 0 0) (.slice none 0 0)).toArray _ _ HD6.out
      refine bodyPost_ret (resCS (T := 38) (p := 2) (q := 3) rfl _ _ D _ (.int .i64 13) rfl rfl (run_loadVar_row _ D _ 38 _ _ _ hD7 Tryz.underlying38 rfl szMg)) rfl ?_
      rw [HDM.out.1, HDM.out.2]
      refine ⟨_, rfl, MO.nil _ _ 0 zQ zP zD (show 0 < 4611686018427387904 by decide), ?_⟩
      exact ⟨HB6.out.os, HB6.out.tape, HB6.out.output, by simpa using HB6.out.size, fun k hk => (setRow_other (by have := HD.out; omega) _).trans (HB6.out.block k hk)⟩
    | true =>
      have ee : enE m = 0 := by unfold enE; rw [hg]; rfl
      have hse := str_no (fun e => hno ⟨hg, e⟩)
      rw [ee]
      clear hno ee hg
      generalize enS m = s2 at *
      go_wp2_with (refine stW szMg HD6.out HZC.out (mgl zM (.slice none 0 0) (.slice none 0 0) (.slice none 0 0)) rfl rfl rfl _ _ rfl rfl rfl ?_)
      have hD7 := setRow_heap w6 D _ (mgl zM (.slice none 0 0) (.slice none 0 0) (.slice none 0 0)).toArray _ _ HD6.out
      refine bodyPost_ret (resCS (T := 38) (p := 2) (q := 3) rfl _ _ D _ (.int .i64 13) rfl rfl (run_loadVar_row _ D _ 38 _ _ _ hD7 Tryz.underlying38 rfl szMg)) rfl ?_
      rw [HDM.out.1, HDM.out.2]
      refine ⟨_, rfl, MO.nil _ _ 0 zQ zP zD (show 0 < 4611686018427387904 by decide), ?_⟩
      exact ⟨HB6.out.os, HB6.out.tape, HB6.out.output, by simpa using HB6.out.size, fun k hk => (setRow_other (by have := HD.out; omega) _).trans (HB6.out.block k hk)⟩
end Go.Proofs.YtdkfifnhmfbagaaGreat.Wi
