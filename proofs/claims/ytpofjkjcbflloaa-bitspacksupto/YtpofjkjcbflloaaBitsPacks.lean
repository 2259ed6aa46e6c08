/- For every list of fields, text and list of widths, together of bulk at most 1048576: Pack and Unpack of package bits answer what the document's own reckoning answers. Condition: that bulk. -/
import Derived.Test.YtpofjkjcbflloaaRows
import Derived.Test.YtpofjkjcbflloaaBitLives
import Derived.Test.YtpofjkjcbflloaaBitRefE
import Derived.Test.YtpofjkjcbflloaaOpenSl
namespace Go.Proofs.Ytpofjkjcbflloaa.bitsPacks
open Go.ChangeShapes Go.WideShapes Go.ChangeAt Go.RowKit
set_option linter.unusedVariables false

set_option maxHeartbeats 2000000 in
set_option maxRecDepth 100000 in
theorem walk (a : Option Addr) (c : Nat) (fs : List (Nat × Int)) (s : ByteArray) (a' : Option Addr) (c' : Nat) (ws : List Int) (w : World) (h1 : RdF w a fs) (h2 : fs.length ≤ 1048576) (h3 : s.size ≤ 1048576) (h4 : RdI w a' ws) (h5 : ws.length ≤ 1048576) (h6 : a' = none → c' = 0) :
    Calls Try.prog 3 #[.slice a fs.length c, .string s, .slice a' ws.length c'] w fun e w' => e = .returned (.bool true) ∧ Below w.heap.size w w' := by
  have H1 : Hid (RdF w a fs) := h1
  have H4 : Hid (RdI w a' ws) := h4
  obtain ⟨n, hn⟩ : ∃ n, fs.length = n := ⟨_, rfl⟩
  obtain ⟨m, hm⟩ : ∃ m, ws.length = m := ⟨_, rfl⟩
  obtain ⟨T, hT⟩ : ∃ T, tb (bys s) = T := ⟨_, rfl⟩
  have HN : Hid (fs.length = n) := hn
  have HM : Hid (ws.length = m) := hm
  have HT : Hid (tb (bys s) = T) := hT
  rw [hn] at h2 ⊢
  rw [hm] at h5 ⊢
  clear h1 h4 h6 hn hm hT
  go_enter Try.func3, Try.ntmps3
  go_wp2_with fail
  refine (lives_any _).mono ?_
  rintro e w1 ⟨rfl, hb⟩
  have HB1 : Hid (Below w.heap.size w w1) := hb
  clear hb
  go_wp2_with fail
  refine (pack_any a c n fs HN.out w1 (by omega) (H1.out.later HB1.out)).mono ?_
  rintro e w2 ⟨rfl, hb⟩
  have HB2 : Hid (Below w.heap.size w w2) := Below.then HB1.out hb
  clear hb
  go_wp2_with fail
  refine (rPack_any a c n fs HN.out w2 (by omega) (H1.out.later HB2.out)).mono ?_
  rintro e w3 ⟨rfl, hb⟩
  have HB3 : Hid (Below w.heap.size w w3) := Below.then HB2.out hb
  clear hb
  go_wp2_with fail
  refine (unpack_any a' c' m ws T s HM.out HT.out w3 (by omega) (by omega) (H4.out.later HB3.out)).mono ?_
  rintro e w4 ⟨v, rfl, hrow, hb⟩
  obtain ⟨b, cp, rfl, hrd⟩ := rdu_of_row hrow
  have HB4 : Hid (Below w.heap.size w w4) := Below.then HB3.out hb
  have HR4 : Hid (RdU w4 b (unL T ws)) := hrd
  clear hb hrow hrd
  go_wp2_with fail
  refine (rUnpack_any a' c' m ws T s HM.out HT.out w4 (by omega) (by omega) (H4.out.later HB4.out)).mono ?_
  rintro e w5 ⟨v, rfl, hrow, hb⟩
  obtain ⟨b', cp', rfl, hrd⟩ := rdu_of_row hrow
  have HB5 : Hid (Below w.heap.size w w5) := Below.then HB4.out hb
  have HR5 : Hid (RdU w5 b' (unL T ws)) := hrd
  have HR4' : Hid (RdU w5 b (unL T ws)) := HR4.out.later hb
  have hlen : Hid ((unL T ws).length < 4611686018427387904) := by
    have h := un_len T ws
    rw [HM.out] at h
    unfold Hid; omega
  clear hb hrow hrd
  go_wp2_with fail
  refine (same_any b b' cp cp' _ _ rfl w5 hlen.out HR4'.out HR5.out).mono ?_
  rintro e w6 ⟨rfl, hb⟩
  have HB6 : Hid (Below w.heap.size w w6) := Below.then HB5.out hb
  clear hb
  go_wp2_with fail
  go_ret
  exact ⟨ret_bool (by simp), HB6.out⟩
theorem own : ownKnob Try.prog.godebug = none := by kernel_rfl
theorem laidOut : laidOutB Try.prog = true := by kernel_rfl
theorem contract (H : Type) (enc : TypeId × Value → H) (W : World) (base : Nat) (args : Array Value) (ds gs : List (DataW H)) (before : List MemPlace)
    (hval : ∀ (j : Nat) t v, Try.f3.params[j]? = some t → args[j]? = some v → Value.okWide Try.prog W .any base t v)
    (hW : DataW.Whole enc Try.prog Try.f3.params.toList Rows.bitsPacksSpec.vars false W args.toList ds gs before) (hk : Rows.uptoSmall H (ds ++ gs) = true) :
    Calls Try.prog 3 args W fun e W' => ∃ v, e = .returned v ∧ Rows.bitsPacksSpec.post enc Try.prog Try.f3 false true false false W args v W' := by
  have hW' := hW
  obtain ⟨p, q, hA0, hV, rfl, hfz, hnd⟩ := hW
  have hA : DataW.TrodAll enc Try.prog W 0 (fun _ => true) true Try.f3.params.toList args.toList ds p := hA0
  rw [Try.params3] at hA hval
  obtain ⟨v0, vs0, d0, ds0, p0, q0, hargs, rfl, rfl, h0, r0⟩ := trodAll_cons hA
  obtain ⟨v1, vs1, d1, ds1, p1, q1, rfl, rfl, rfl, h1, r1⟩ := trodAll_cons r0
  obtain ⟨v2, vs2, d2, ds2, p2, q2, rfl, rfl, rfl, h2, r2⟩ := trodAll_cons r1
  obtain ⟨rfl, rfl, rfl⟩ := trodAll_nil r2
  obtain rfl : args = #[v0, v1, v2] := by cases args; simp_all
  obtain ⟨rfl, rfl⟩ := trodVars_none hV
  have hk2 : Rows.uptoSmall H [d0, d1, d2] = true := by simpa using hk
  have hb : Rows.uptoBulkAll [d0, d1, d2] ≤ 1048576 := of_decide_eq_true hk2
  simp only [Rows.uptoBulkAll] at hb
  have k0 := h0
  have lt0 : ∀ x ∈ p0, x.block < W.heap.size := by obtain ⟨m, hm⟩ := k0; exact DataW.trod_lt m _ _ _ hm
  obtain ⟨a0, c0, l0, rfl, rd0, hl0⟩ := fields_of (by omega) (okWide_slice Try.underlying22 (hval 0 22 v0 rfl rfl)) h0
  have k1 := h1
  have lt1 : ∀ x ∈ p1, x.block < W.heap.size := by obtain ⟨m, hm⟩ := k1; exact DataW.trod_lt m _ _ _ hm
  obtain ⟨s1, rfl, rfl, rfl, hs1⟩ := Go.ChangeMaps.open_string Try.underlying9 (hval 1 9 v1 rfl rfl) h1
  have hl1 := bulk_text (H := H) (s := s1) (by omega)
  have k2 := h2
  have lt2 : ∀ x ∈ p2, x.block < W.heap.size := by obtain ⟨m, hm⟩ := k2; exact DataW.trod_lt m _ _ _ hm
  obtain ⟨a2, c2, l2, rfl, rd2, hl2, hc2⟩ := ints_of (by omega) (okWide_slice Try.underlying23 (hval 2 23 v2 rfl rfl)) h2
  clear hA0
  refine (walk a0 c0 l0 s1 a2 c2 l2 W rd0 hl0 hl1 rd2 hl2 hc2).mono fun e W' ⟨he, bel⟩ => ?_
  subst he
  exact ⟨_, rfl, _, _, _, [], _, [], hW', trodAll_mk1 (shut_bool Try.underlying4 _), (trodAll_cons_mk (Below.trod laidOut (by kernel_rfl) (of_decide_eq_true (by kernel_rfl)) k0 bel lt0) (trodAll_cons_mk (Below.trod laidOut (by kernel_rfl) (of_decide_eq_true (by kernel_rfl)) k1 bel lt1) (trodAll_cons_mk (Below.trod laidOut (by kernel_rfl) (of_decide_eq_true (by kernel_rfl)) k2 bel lt2) trodAll_mk0))), rfl, bel.frame _, fun h => by cases h⟩
set_option maxRecDepth 100000 in
theorem lifted (os : Os) (started : os.Started) (H : Type) (enc : TypeId × Value → H) (F : Stop.Interp) :
    ReturnsInHanded {} Try.checked os 3 .any ((Rows.OpenSpec.upto Rows.bitsPacksSpec).pre6 enc Try.prog Try.f3 Rows.bitsPacksUptoRow.domain false) (((Rows.OpenSpec.upto Rows.bitsPacksSpec).at F).post enc Try.prog Try.f3 false true false false) := by
  refine returnsInHanded_of_cond (C := Try.checked) (s := Rows.OpenSpec.upto Rows.bitsPacksSpec) (k := Rows.uptoSmall) rfl own started (by kernel_rfl) Try.func3
    (OpenSpec.witness (enc := enc) (C := Try.checked) (s := Rows.OpenSpec.upto Rows.bitsPacksSpec) (k := Rows.uptoSmall) rfl false ⟨#[], #[.slice none 0 0, .string ⟨#[]⟩, .slice none 0 0], []⟩ 8 (by kernel_rfl) (by kernel_rfl) (by kernel_rfl)
      (x := ([.nil, .lit (.string []), .nil], [], [])) (by kernel_rfl) rfl (by kernel_rfl)) ?_
  intro W base args ds gs before hval hW _ hk _
  exact contract H enc W base args ds gs before hval hW hk
theorem over : Rows.bitsPacksUptoRow.holds Try.pinned (Rows.OpenSpec.upto Rows.bitsPacksSpec) :=
  OpenClaim.holds_of_cond 3 Try.f3 rfl rfl rfl rfl rfl rfl rfl ⟨rfl, rfl, rfl, rfl, rfl⟩ rfl rfl rfl rfl rfl (by kernel_rfl) Try.func3 (by kernel_rfl)
    (of_decide_eq_true (by kernel_rfl)) (by unfold Func.isWrapper; first | (rw [if_pos (by decide +kernel)]; kernel_rfl) | (rw [if_neg (by decide +kernel)]; exact ⟨rfl, rfl⟩))
    (fun os started H enc _ F => lifted os started H enc F)
end Go.Proofs.Ytpofjkjcbflloaa.bitsPacks
namespace Go.Proofs.Ytpofjkjcbflloaa
theorem bitsPacks_holds : Rows.BitsPacksUptoSaid := bitsPacks.over
#print axioms bitsPacks_holds
end Go.Proofs.Ytpofjkjcbflloaa
