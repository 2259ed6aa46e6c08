/- Contract of the document's answer: Encode. -/
import Derived.Test.YtdkfifnhmfbagaaGreatWiJ4
import Derived.Test.YtdkfifnhmfbagaaGreatWiPf
namespace Go.Proofs.YtdkfifnhmfbagaaGreat.Wi
open Go.RowKit Go.Maps
set_option linter.unusedVariables false
set_option linter.unusedSimpArgs false

set_option maxRecDepth 100000 in
set_option maxHeartbeats 2000000 in
theorem rEnc_no {w : World} {m : Msg} {ct : List Value} (h : MV w m ct) (hg : gM m = false) : Calls Tryz.prog 9 #[.agg ct.toArray] w fun e w' => e = .returned (.tuple #[.string (enS m), .int .i64 (enE m)]) ∧ Below w.heap.size w w' := by
  have HE : Hid (enS m = ⟨#[]⟩ ∧ enE m = 13) := by unfold Hid enS enE; rw [hg]; exact ⟨rfl, rfl⟩
  rw [HE.out.1, HE.out.2]
  have hb1 := below_alloc w (.cells ct.toArray 38)
  have h2 := goodV (h.later hb1)
  rw [hg] at h2
  have HS : Hid _ := szMv h
  have HRA : Hid ((w.alloc (.cells ct.toArray 38)).rangeAt w.heap.size 0 ct) := MB.all (MB.new w ct)
  have HB1 : Hid (Below w.heap.size w (w.alloc (.cells ct.toArray 38))) := hb1
  clear h hg hb1 HE
  go_enter Tryz.func9, Tryz.ntmps9
  go_wp2_with (refine ldM HRA.out Tryz.underlying38 rfl HS.out _ rfl rfl rfl ?_)
  refine h2.mono ?_
  rintro e w2 ⟨rfl, hb2⟩
  have HB2 : Hid (Below w.heap.size w w2) := Below.join HB1.out hb2
  clear h2 hb2
  go_wp2_with fail
  go_ret2
  exact ⟨rfl, HB2.out⟩
theorem MV.rEnc {w : World} {m : Msg} {ct : List Value} (h : MV w m ct) : Calls Tryz.prog 9 #[.agg ct.toArray] w fun e w' => e = .returned (.tuple #[.string (enS m), .int .i64 (enE m)]) ∧ Below w.heap.size w w' := by
  cases hg : gM m with
  | false => exact rEnc_no h hg
  | true =>
    have he : enE m = 0 := by unfold enE; rw [hg]; rfl
    rw [he]
    obtain ⟨aL, aJ, aI, cL, cJ, cI, rfl, hr⟩ := h
    rcases gM_cases hg with ⟨a, e⟩ | ⟨a, e⟩ | ⟨a, e⟩ | ⟨a, e⟩
    · exact rEnc_1 m aL aJ aI cL cJ cI w hr hg (by rw [e]; rfl)
    · exact rEnc_2 m aL aJ aI cL cJ cI w hr hg (by rw [e]; rfl)
    · exact rEnc_3 m aL aJ aI cL cJ cI w hr hg (by rw [e]; rfl)
    · exact rEnc_4 m aL aJ aI cL cJ cI w hr hg (by rw [e]; rfl)
end Go.Proofs.YtdkfifnhmfbagaaGreat.Wi
