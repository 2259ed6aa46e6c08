/- For every sum: its four bytes are read back as the sum, it has four bytes and eight digits, and the next sum has other digits. No conditions. -/
import Derived.Test.YtphdmlmacdklaaaRows
import Derived.Test.YtphdmlmacdklaaaSumC
import Derived.OpenShut
namespace Go.Proofs.Ytphdmlmacdklaaa.sumBack
open Go.ChangeShapes Go.WideShapes Go.ChangeAt Go.RowKit
set_option linter.unusedVariables false

theorem ub_b4 (n : Nat) (h : n < 4294967296) : ub (tx (b4 n)).data.toList = n := by
  have h1 : n / 16777216 % 256 = n / 16777216 := by omega
  simp [tx, b4, ub, UInt8.toNat_ofNat', h1]
  omega
theorem un_b4 (n : Nat) (h : n < 4294967296) : un (tx (b4 n)) = n ∧ ue (tx (b4 n)) = 0 := by
  have e : (tx (b4 n)).size = 4 := by rw [tx_size]; rfl
  unfold un ue
  rw [if_pos e, if_pos e]
  exact ⟨ub_b4 n h, rfl⟩
theorem tx_inj {l m : List Nat} (hl : ∀ x ∈ l, x < 256) (hm : ∀ x ∈ m, x < 256) (h : tx l = tx m) : l = m := by
  have e : l.map UInt8.ofNat = m.map UInt8.ofNat := by
    have := congrArg (fun s : ByteArray => s.data.toList) h
    simpa [tx] using this
  clear h
  induction l generalizing m with
  | nil => cases m with
    | nil => rfl
    | cons y m => simp at e
  | cons x l ih => cases m with
    | nil => simp at e
    | cons y m =>
      simp only [List.map_cons, List.cons.injEq] at e
      have hx := hl x (by simp)
      have hy := hm y (by simp)
      have e1 : x = y := by
        have := congrArg UInt8.toNat e.1
        simp [UInt8.toNat_ofNat'] at this
        omega
      rw [e1, ih (fun z hz => hl z (by simp [hz])) (fun z hz => hm z (by simp [hz])) e.2]
theorem hx_ne (n m : Nat) (hn : n < 4294967296) (hm : m < 4294967296) (h : n ≠ m) : tx (hx n) ≠ tx (hx m) := by
  intro e
  have e2 := tx_inj (hx_lt n hn) (hx_lt m hm) e
  simp only [hx, List.cons.injEq] at e2
  obtain ⟨h7, h6, h5, h4, h3, h2, h1, h0, _⟩ := e2
  have g7 := dg_inj (by omega) (by omega) h7
  have g6 := dg_inj (by omega) (by omega) h6
  have g5 := dg_inj (by omega) (by omega) h5
  have g4 := dg_inj (by omega) (by omega) h4
  have g3 := dg_inj (by omega) (by omega) h3
  have g2 := dg_inj (by omega) (by omega) h2
  have g1 := dg_inj (by omega) (by omega) h1
  have g0 := dg_inj (by omega) (by omega) h0
  omega
set_option maxHeartbeats 1000000 in
theorem walk (a0 : Int) (w0 : (Lit.int .u32 a0).wf = true) (w : World) :
    Calls Try.prog 7 #[.int .u32 a0] w fun e w' => e = .returned (.bool true) ∧ Below w.heap.size w w' := by
  have hx := bounds_u32 w0
  clear w0
  obtain ⟨n, rfl⟩ : ∃ n : Nat, a0 = (n : Int) := ⟨a0.toNat, by omega⟩
  have hn : n < 4294967296 := by omega
  obtain ⟨m, hm⟩ : ∃ m : Nat, (n + 1) % 4294967296 = m := ⟨_, rfl⟩
  have hm2 : IntKind.u32.wrap ((n : Int) + 1) = (m : Int) := by rw [IntKind.wrap_u32']; omega
  have hm32 : m < 4294967296 := by omega
  have hne : tx (Go.Proofs.Ytphdmlmacdklaaa.hx m) ≠ tx (Go.Proofs.Ytphdmlmacdklaaa.hx n) := hx_ne m n hm32 hn (by omega)
  have HNE : Hid (tx (Go.Proofs.Ytphdmlmacdklaaa.hx m) ≠ tx (Go.Proofs.Ytphdmlmacdklaaa.hx n)) := hne
  have hu := un_b4 n hn
  obtain ⟨S, hS⟩ : ∃ S, tx (b4 n) = S := ⟨_, rfl⟩
  have hSs : S.size = 4 := by rw [← hS, tx_size]; rfl
  have bS := bytes_any n w hn
  clear hx hm
  go_enter Try.func7, Try.ntmps7
  go_wp2_with fail
  refine (lives_any _).mono ?_
  rintro e w1 ⟨rfl, hb1⟩
  go_wp2_with fail
  refine (bytes_any n _ hn).mono ?_
  rintro e w2 ⟨rfl, hb2⟩
  rw [hS] at hu ⊢
  have HU : Hid (un S = n ∧ ue S = 0) := hu
  have HB2 : Hid (Below w.heap.size w w2) := hb1.trans (hb2.mono hb1.size)
  clear hb1 hb2 hu hS bS hne
  go_wp2_with fail
  refine (unb_any S _ (by rw [hSs]; decide)).mono ?_
  rintro e w3 ⟨rfl, rfl⟩
  rw [HU.out.1, HU.out.2]
  go_wp2_with fail
  refine (hex_any n _ hn).mono ?_
  rintro e w4 ⟨rfl, hb4⟩
  have HB4 : Hid (Below w.heap.size w w4) := HB2.out.trans (hb4.mono HB2.out.size)
  have hX := tx_size (Go.Proofs.Ytphdmlmacdklaaa.hx n)
  obtain ⟨X, hX2⟩ : ∃ X, tx (Go.Proofs.Ytphdmlmacdklaaa.hx n) = X := ⟨_, rfl⟩
  have hXs : X.size = 8 := by rw [← hX2, hX]; rfl
  have HNE2 : Hid (tx (Go.Proofs.Ytphdmlmacdklaaa.hx m) ≠ X) := by rw [← hX2]; exact HNE.out
  rw [hX2]
  clear hb4 HB2 hX hX2 HNE
  have s4 : (S.size : Int) = 4 := by omega
  have s8 : (X.size : Int) = 8 := by omega
  go_wp2_with fail
  refine (hex_any m _ hm32).mono ?_
  rintro e w5 ⟨rfl, hb5⟩
  have HB5 : Hid (Below w.heap.size w w5) := HB4.out.trans (hb5.mono HB4.out.size)
  clear hb5 HB4
  obtain ⟨Y, hY⟩ : ∃ Y, tx (Go.Proofs.Ytphdmlmacdklaaa.hx m) = Y := ⟨_, rfl⟩
  have hYX := HNE2.out
  rw [hY] at hYX ⊢
  clear hY HNE2
  go_wp2_with fail
  go_ret
  exact ⟨ret_bool (by rw [str_ne hYX]; rfl), HB5.out⟩
theorem own : ownKnob Try.prog.godebug = none := by kernel_rfl
theorem laidOut : laidOutB Try.prog = true := by kernel_rfl
set_option maxRecDepth 100000 in
theorem lifted (os : Os) (started : os.Started) (H : Type) (enc : TypeId × Value → H) :
    ReturnsInHanded {} Try.checked os 7 .any (Rows.sumBackSpec.pre6 enc Try.prog Try.f7 Rows.sumBackRow.domain false) (Rows.sumBackSpec.post enc Try.prog Try.f7 false true false false) := by
  refine returnsInHanded_of_change (C := Try.checked) own started (by kernel_rfl) Try.func7
    (ChangeSpec.witness6 (enc := enc) (C := Try.checked) false ⟨#[], #[.int .u32 0], []⟩ 8 (by kernel_rfl) (by kernel_rfl) (by kernel_rfl) (by kernel_rfl)) ?_
  intro W base args ds gs before hval0 hW hcnd _
  have hval : ∀ (j : Nat) t v, Try.f7.params[j]? = some t → args[j]? = some v → Value.okWide Try.prog W .any base t v := hval0
  have hW' := hW
  obtain ⟨p, q, hA0, hV, rfl, hfz, hnd⟩ := hW
  have hA : DataW.TrodAll enc Try.prog W 0 (fun _ => true) true Try.f7.params.toList args.toList ds p := hA0
  rw [Try.params7] at hA hval
  obtain ⟨v0, vs0, d0, ds0, p0, q0, hargs, rfl, rfl, h0, r0⟩ := trodAll_cons hA
  obtain ⟨rfl, rfl, rfl⟩ := trodAll_nil r0
  obtain rfl : args = #[v0] := by cases args; simp_all
  obtain ⟨rfl, rfl⟩ := trodVars_none hV
  obtain ⟨a0, rfl, rfl, rfl, w0⟩ := open_int Try.underlying22 (hval 0 22 v0 rfl rfl) h0
  clear hA0 hval0
  refine (walk a0 w0 W).mono fun e W' ⟨he, bel⟩ => ?_
  subst he
  exact ⟨_, rfl, _, _, _, [], _, [], hW', trodAll_mk1 (shut_bool Try.underlying4 _), (trodAll_cons_mk (shut_int Try.underlying22 w0) trodAll_mk0), rfl, bel.frame _, fun h => by cases h⟩
theorem over : Rows.sumBackRow.holds Try.pinned (OpenSpec.ofChange Rows.sumBackSpec) :=
  OpenClaim.holds_of_wide 7 Try.f7 rfl rfl rfl rfl rfl rfl rfl ⟨rfl, rfl, rfl, rfl, rfl⟩ rfl rfl rfl rfl rfl (by kernel_rfl) Try.func7 (by kernel_rfl)
    (of_decide_eq_true (by kernel_rfl)) (by unfold Func.isWrapper; first | (rw [if_pos (by decide +kernel)]; kernel_rfl) | (rw [if_neg (by decide +kernel)]; exact ⟨rfl, rfl⟩))
    (fun os started H enc _ => lifted os started H enc)
end Go.Proofs.Ytphdmlmacdklaaa.sumBack
namespace Go.Proofs.Ytphdmlmacdklaaa
theorem sumBack_holds : Rows.SumBackSaid := sumBack.over
#print axioms sumBack_holds
end Go.Proofs.Ytphdmlmacdklaaa
