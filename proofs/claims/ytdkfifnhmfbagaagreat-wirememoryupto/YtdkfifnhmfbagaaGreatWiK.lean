/- A message as an opaque row of cells; what is called with one; lives. -/
import Derived.Test.YtdkfifnhmfbagaaGreatWiV
import Derived.Test.YtdkfifnhmfbagaaGreatWiQ
namespace Go.Proofs.YtdkfifnhmfbagaaGreat.Wi
open Go.RowKit Go.Maps
open Bt (tx pk tb bys)
set_option linter.unusedVariables false
set_option linter.unusedSimpArgs false

def MV (w : World) (m : Msg) (ct : List Value) : Prop := ∃ aL aJ aI cL cJ cI, ct = mgv m aL aJ aI cL cJ cI ∧ MR w m aL aJ aI
section
variable {w w' : World} {m m' : Msg} {ct dt : List Value}
theorem MV.later (h : MV w m ct) (hb : Below w.heap.size w w') : MV w' m ct := by
  obtain ⟨aL, aJ, aI, cL, cJ, cI, e, hr⟩ := h
  exact ⟨aL, aJ, aI, cL, cJ, cI, e, hr.later hb⟩
theorem MV.len (h : MV w m ct) : ct.length = 26 := by
  obtain ⟨aL, aJ, aI, cL, cJ, cI, rfl, hr⟩ := h
  rfl
theorem MV.one (h : MV w m ct) : ct.all (·.oneCell') = true := by
  obtain ⟨aL, aJ, aI, cL, cJ, cI, rfl, hr⟩ := h
  rfl
theorem MV.enc (h : MV w m ct) : Calls Tryz.prog 8 #[.agg ct.toArray] w fun e w' => e = .returned (.tuple #[.string (enS m), .int .i64 (enE m)]) ∧ Below w.heap.size w w' := by
  obtain ⟨aL, aJ, aI, cL, cJ, cI, rfl, hr⟩ := h
  exact encode_any m aL aJ aI cL cJ cI w hr
end
/- A message in a block, opaque. -/
def MB (w : World) (B : Nat) (ct : List Value) : Prop := w.heap[B]? = some (.cells ct.toArray 38 (0, 0))
theorem MB.later {w w' : World} {B : Nat} {ct : List Value} (h : MB w B ct) (hb : Below w.heap.size w w') : MB w' B ct := row_later h hb
theorem MB.all {w : World} {B : Nat} {ct : List Value} (h : MB w B ct) : w.rangeAt B 0 ct := ra_of h 0 ct (by simp)
theorem MB.new (w : World) (ct : List Value) : MB (w.alloc (.cells ct.toArray 38)) w.heap.size ct := heap_alloc_last w _
theorem szMv {w : World} {m : Msg} {ct : List Value} (h : MV w m ct) : (Tryz.prog.info? 38).map (·.size) = some ct.length := by rw [h.len]; exact szMg
theorem mv_len {m : Msg} (h : gM m = true) : m.rk.2.1.length < 4611686018427387904 ∧ m.rk.2.2.1.length < 4611686018427387904 ∧ m.rk.2.2.2.length < 4611686018427387904 ∧ m.sd.2.2.size < 4611686018427387904 := by
  rcases gM_cases h with ⟨a, e⟩ | ⟨a, e⟩ | ⟨a, e⟩ | ⟨a, e⟩
  · simp only [gR, Bool.and_eq_true, decide_eq_true_eq] at a
    rw [e]
    refine ⟨by show m.rk.2.1.length < _; omega, by show m.rk.2.2.1.length < _; omega, by show m.rk.2.2.2.length < _; omega, (show 0 < 4611686018427387904 by decide)⟩
  · rw [e]
    exact ⟨(show 0 < 4611686018427387904 by decide), (show 0 < 4611686018427387904 by decide), (show 0 < 4611686018427387904 by decide), (show 0 < 4611686018427387904 by decide)⟩
  · rw [e]
    exact ⟨(show 0 < 4611686018427387904 by decide), (show 0 < 4611686018427387904 by decide), (show 0 < 4611686018427387904 by decide), (show 0 < 4611686018427387904 by decide)⟩
  · simp only [gD, Bool.and_eq_true, decide_eq_true_eq] at a
    rw [e]
    exact ⟨(show 0 < 4611686018427387904 by decide), (show 0 < 4611686018427387904 by decide), (show 0 < 4611686018427387904 by decide), by show m.sd.2.2.size < _; omega⟩
theorem dc_len (s : ByteArray) : (dcM (tb (bys s))).rk.2.1.length < 4611686018427387904 ∧ (dcM (tb (bys s))).rk.2.2.1.length < 4611686018427387904 ∧ (dcM (tb (bys s))).rk.2.2.2.length < 4611686018427387904 ∧ (dcM (tb (bys s))).sd.2.2.size < 4611686018427387904 := by
  unfold dcM
  cases ho : okD (tb (bys s)) with
  | true => exact mv_len (okD_text ho).1
  | false => exact ⟨(show 0 < 4611686018427387904 by decide), (show 0 < 4611686018427387904 by decide), (show 0 < 4611686018427387904 by decide), (show 0 < 4611686018427387904 by decide)⟩
theorem dec_mv (s : ByteArray) (w : World) (hs : s.size < 1125899906842624) : Calls Tryz.prog 10 #[.string s] w fun e w' => ∃ ct, e = .returned (.tuple #[.agg ct.toArray, .int .i64 (dcE (tb (bys s)))]) ∧ MV w' (dcM (tb (bys s))) ct ∧ Below w.heap.size w w' := by
  refine (decode_any s w hs).mono ?_
  rintro e w' ⟨aL, cL, aJ, cJ, aI, cI, rfl, oL, oJ, oI, _, hb⟩
  obtain ⟨n1, n2, n3, n4⟩ := dc_len s
  exact ⟨_, rfl, ⟨aL, aJ, aI, cL, cJ, cI, rfl, ⟨rd_owns (f := stl) (fun _ => rfl) oL, rd_owns (f := stl) (fun _ => rfl) oJ, rd_owns (f := itl) (fun _ => rfl) oI, n1, n2, n3, n4⟩⟩, hb⟩
/- Examples 1 and 2. -/
def x1 : Msg := ⟨2, zR, (1, 3), zP, zD⟩
def x2 : Msg := ⟨4, zR, zQ, zP, (2, (1, 2), tx [65])⟩
theorem x1_mv (w : World) : MV w x1 (mgl x1 (.slice none 0 0) (.slice none 0 0) (.slice none 0 0)) := ⟨none, none, none, 0, 0, 0, rfl, ⟨RdV.nil _ _ _ _, RdV.nil _ _ _ _, RdV.nil _ _ _ _, by decide, by decide, by decide, by decide⟩⟩
theorem x1_g : gM x1 = true := by decide +kernel
theorem x2_g : gM x2 = true := by decide +kernel
theorem x1_S : enS x1 = ⟨#[64, 64, 192]⟩ := by
  unfold enS
  rw [x1_g, if_pos rfl, show pk (eM x1) = [64, 64, 192] by decide +kernel]
  rfl
theorem x2_S : enS x2 = ⟨#[192, 128, 0, 64, 128, 160, 128]⟩ := by
  unfold enS
  rw [x2_g, if_pos rfl, show pk (eM x2) = [192, 128, 0, 64, 128, 160, 128] by decide +kernel]
  rfl
theorem x1_E : enE x1 = 0 := by unfold enE; rw [x1_g]; rfl
theorem x2_D : dcM (tb (bys ⟨#[192, 128, 0, 64, 128, 160, 128]⟩)) = x2 ∧ dcE (tb (bys ⟨#[192, 128, 0, 64, 128, 160, 128]⟩)) = 0 := by
  obtain ⟨h1, h2⟩ := en_back x2_g
  rw [x2_S] at h1 h2
  unfold dcM dcE
  rw [h1, h2]
  exact ⟨rfl, rfl⟩
set_option maxRecDepth 100000 in
set_option maxHeartbeats 2000000 in
theorem lives_any (w : World) : Calls Tryz.prog 5 #[] w fun e w' => e = .returned (.bool true) ∧ Below w.heap.size w w' := by
  have h1 := (x1_mv w).enc
  rw [x1_S, x1_E] at h1
  go_enter Tryz.func5, Tryz.ntmps5
  go_wp2_with fail
  refine Calls.mono (by exact h1) ?_
  rintro e w2 ⟨rfl, hb2⟩
  have HB2 : Hid (Below w.heap.size w w2) := hb2
  clear h1 hb2
  have h2 := dec_mv ⟨#[192, 128, 0, 64, 128, 160, 128]⟩ w2 (by decide)
  rw [x2_D.1, x2_D.2] at h2
  go_wp2_with fail
  refine h2.mono ?_
  rintro e w3 ⟨ct, rfl, hv, hb3⟩
  have HB3 : Hid (Below w.heap.size w w3) := Below.join HB2.out hb3
  have HV : Hid (MV w3 x2 ct) := hv
  clear h2 hb3 HB2 hv
  have HZ : Hid ((w3.alloc (.cells #[.int .i64 0, .int .i64 0, .slice none 0 0, .slice none 0 0, .slice none 0 0, .int .i64 0, .int .i64 0, .int .i64 0, .int .i64 0, .int .i64 0, .int .i64 0, .int .i64 0, .int .i64 0, .int .i64 0, .int .i64 0, .int .i64 0, .int .i64 0, .int .i64 0, .int .i64 0, .int .i64 0, .int .i64 0, .int .i64 0, .int .i64 0, .int .i64 0, .int .i64 0, .string ⟨#[]⟩] 38)).heap[w3.heap.size]? = some (.cells #[.int .i64 0, .int .i64 0, .slice none 0 0, .slice none 0 0, .slice none 0 0, .int .i64 0, .int .i64 0, .int .i64 0, .int .i64 0, .int .i64 0, .int .i64 0, .int .i64 0, .int .i64 0, .int .i64 0, .int .i64 0, .int .i64 0, .int .i64 0, .int .i64 0, .int .i64 0, .int .i64 0, .int .i64 0, .int .i64 0, .int .i64 0, .int .i64 0, .int .i64 0, .string ⟨#[]⟩] 38 (0, 0))) := heap_alloc_last w3 _
  go_upto_region 3 with (refine stW szMg HZ.out rfl ct HV.out.len HV.out.one rfl _ _ rfl rfl rfl ?_)
  rw [World.setRow_alloc_new]
  clear HZ
  have hM := MB.new w3 ct
  have HB4 : Hid (Below w.heap.size w (w3.alloc (.cells ct.toArray 38))) := Below.plus HB3.out _
  generalize w3.alloc (.cells ct.toArray 38) = w4 at *
  generalize w3.heap.size = E at *
  obtain ⟨aL, aJ, aI, cL, cJ, cI, rfl, hr⟩ := HV.out
  have hA : MgAt w4 E x2 _ _ _ := hM
  have ck := hA.kind
  have HD : Hid (w4.rangeAt E 22 (sdl x2.sd)) := hA.sd
  rw [show x2.kd = 4 from rfl] at ck
  have eq := run_eqSd (w := w4) 9997 x2.sd x2.sd
  rw [decide_eq_true rfl] at eq
  clear hA hM HV hr
  go_wp2_with (first | (refine ldM HD.out Tryz.underlying36 rfl szSd _ rfl rfl rfl ?_) | (refine eqX eq Tryz.eqGuardType36 _ _ rfl rfl rfl rfl ?_))
  go_ret
  exact ⟨rfl, HB4.out⟩
end Go.Proofs.YtdkfifnhmfbagaaGreat.Wi
