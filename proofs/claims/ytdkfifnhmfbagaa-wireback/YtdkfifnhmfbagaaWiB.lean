/- Contracts: all, at seats, items and boxes. -/
import Derived.Test.YtdkfifnhmfbagaaWiA
namespace Go.Proofs.Ytdkfifnhmfbagaa.Wi
open Go.RowKit Go.Maps
set_option linter.unusedVariables false
set_option linter.unusedSimpArgs false

theorem all_nx {α : Type} {p : α → Bool} {l : List α} {k : Nat} (h : k < l.length) (h1 : ∀ x ∈ l.take k, p x = true) (h2 : p l[k] = true) : ∀ x ∈ l.take (k + 1), p x = true := fun x hx => by
  rw [List.take_succ_eq_append_getElem h] at hx
  rcases List.mem_append.1 hx with hx | hx
  · exact h1 x hx
  · simp only [List.mem_cons, List.not_mem_nil, or_false] at hx
    rw [hx]
    exact h2
theorem all_no {α : Type} {p : α → Bool} {l : List α} {k : Nat} (h : k < l.length) (h2 : p l[k] = false) : l.all p = false := by
  rw [Bool.eq_false_iff]
  intro ha
  rw [List.all_eq_true] at ha
  rw [ha l[k] (List.getElem_mem h)] at h2
  cases h2
theorem all_yes {α : Type} {p : α → Bool} {l : List α} (h : ∀ x ∈ l.take l.length, p x = true) : l.all p = true := by
  rw [List.take_length] at h
  exact List.all_eq_true.2 h
set_option maxRecDepth 100000 in
theorem allS_any (a : Option Addr) (c mx : Nat) (l : List (Int × Int)) (w : World) (rd : RdV stl 2 w a l) (hl : l.length < 4611686018427387904) (hmx : mx ≤ 4096) :
    Calls Try.prog 58 #[.slice a l.length c, .int .i64 (mx : Int), .func (.func 59) #[] #[] ] w fun e w' => e = .returned (.bool (decide (l.length ≤ mx) && l.all gS)) ∧ Below w.heap.size w w' := by
  obtain ⟨n, hn⟩ : ∃ n, l.length = n := ⟨_, rfl⟩
  have HN : Hid (l.length = n) := hn
  rw [hn] at hl
  rw [hn]
  clear hn
  by_cases hm : n ≤ mx
  · have HE : Hid ((decide (n ≤ mx) && l.all gS) = l.all gS) := by unfold Hid; rw [decide_eq_true hm, Bool.true_and]
    rw [HE.out]
    have d1 : decide ((mx : Int) < (n : Int)) = false := by simp; omega
    have d2 : ¬ (mx : Int) < (n : Int) := by omega
    clear HE
    go_enter Try.func58, Try.ntmps58
    go_wp2_with fail
    go_loopw [15] (fun i wx => ∃ k : Nat, k ≤ n ∧ i = .int .i64 (k : Int) ∧ (∀ x ∈ l.take k, gS x = true) ∧ Below w.heap.size w wx) (fun i _ => n - (intOf i).toNat)
    case atStart => exact ⟨0, by omega, rfl, by simp, Below.refl _ _⟩
    case round =>
      obtain ⟨k, hk, rfl, hA, hb⟩ := hrel
      have HA : Hid (∀ x ∈ l.take k, gS x = true) := hA
      have HB : Hid (Below w.heap.size w wr) := hb
      clear hA hb
      by_cases hkn : k < n
      · have hkl : k < l.length := by rw [HN.out]; exact hkn
        obtain ⟨b, o, rfl, hr⟩ := rd k hkl
        have hr := ra_later hr HB.out
        unfold stl at hr
        have i1 : (0 : Int) ≤ (k : Int) := by omega
        have i2 : (k : Int) < (n : Int) := by omega
        have hC := goodSeat_any l[k]
        cases hg : gS l[k] with
        | false =>
          rw [hg] at hC
          have HE : Hid (l.all gS = false) := all_no hkl hg
          generalize l[k] = p at *
          clear hg
          go_wp2_with (refine ldM hr Try.underlying78 rfl szSeat _ rfl rfl rfl ?_)
          refine (hC _).mono ?_
          rintro r w2 ⟨rfl, hb2⟩
          have HB2 : Hid (Below w.heap.size w w2) := Below.join (Below.plus HB.out _) hb2
          clear hb2 hC
          go_wp2_with fail
          go_ret
          exact ⟨ret_bool HE.out.symm, HB2.out⟩
        | true =>
          rw [hg] at hC
          have HA2 : Hid (∀ x ∈ l.take (k + 1), gS x = true) := all_nx hkl HA.out hg
          generalize l[k] = p at *
          clear hg
          go_wp2_with (refine ldM hr Try.underlying78 rfl szSeat _ rfl rfl rfl ?_)
          refine (hC _).mono ?_
          rintro r w2 ⟨rfl, hb2⟩
          have HB2 : Hid (Below w.heap.size w w2) := Below.join (Below.plus HB.out _) hb2
          clear hb2 hC
          go_wp2_with fail
          go_roundw
          case rel => exact ⟨k + 1, by omega, by go_num, HA2.out, HB2.out⟩
          case measure => simp [intOf]; omega
      · have hkn' : decide ((k : Int) < (n : Int)) = false := by simp; omega
        have HE : Hid (l.all gS = true) := all_yes (by rw [HN.out]; have : k = n := by omega
                                                       rw [← this]; exact HA.out)
        go_wp2_with fail
        go_ret
        exact ⟨ret_bool HE.out.symm, HB.out⟩
  · have HE : Hid ((decide (n ≤ mx) && l.all gS) = false) := by unfold Hid; rw [decide_eq_false hm]; rfl
    rw [HE.out]
    have d1 : (mx : Int) < (n : Int) := by omega
    clear HE
    go_enter Try.func58, Try.ntmps58
    go_wp2_with fail
    go_ret
    exact ⟨rfl, Below.refl _ _⟩
set_option maxRecDepth 100000 in
theorem allI_any (a : Option Addr) (c mx : Nat) (l : List ((Int × Int) × ((Int × Int) × (Int × Int)))) (w : World) (rd : RdV itl 6 w a l) (hl : l.length < 4611686018427387904) (hmx : mx ≤ 4096) :
    Calls Try.prog 60 #[.slice a l.length c, .int .i64 (mx : Int), .func (.func 61) #[] #[] ] w fun e w' => e = .returned (.bool (decide (l.length ≤ mx) && l.all gI)) ∧ Below w.heap.size w w' := by
  obtain ⟨n, hn⟩ : ∃ n, l.length = n := ⟨_, rfl⟩
  have HN : Hid (l.length = n) := hn
  rw [hn] at hl
  rw [hn]
  clear hn
  by_cases hm : n ≤ mx
  · have HE : Hid ((decide (n ≤ mx) && l.all gI) = l.all gI) := by unfold Hid; rw [decide_eq_true hm, Bool.true_and]
    rw [HE.out]
    have d1 : decide ((mx : Int) < (n : Int)) = false := by simp; omega
    have d2 : ¬ (mx : Int) < (n : Int) := by omega
    clear HE
    go_enter Try.func60, Try.ntmps60
    go_wp2_with fail
    go_loopw [15] (fun i wx => ∃ k : Nat, k ≤ n ∧ i = .int .i64 (k : Int) ∧ (∀ x ∈ l.take k, gI x = true) ∧ Below w.heap.size w wx) (fun i _ => n - (intOf i).toNat)
    case atStart => exact ⟨0, by omega, rfl, by simp, Below.refl _ _⟩
    case round =>
      obtain ⟨k, hk, rfl, hA, hb⟩ := hrel
      have HA : Hid (∀ x ∈ l.take k, gI x = true) := hA
      have HB : Hid (Below w.heap.size w wr) := hb
      clear hA hb
      by_cases hkn : k < n
      · have hkl : k < l.length := by rw [HN.out]; exact hkn
        obtain ⟨b, o, rfl, hr⟩ := rd k hkl
        have hr := ra_later hr HB.out
        unfold itl at hr
        have i1 : (0 : Int) ≤ (k : Int) := by omega
        have i2 : (k : Int) < (n : Int) := by omega
        have hC := goodItem_any l[k]
        cases hg : gI l[k] with
        | false =>
          rw [hg] at hC
          have HE : Hid (l.all gI = false) := all_no hkl hg
          generalize l[k] = p at *
          clear hg
          go_wp2_with (refine ldM hr Try.underlying82 rfl szItem _ rfl rfl rfl ?_)
          refine (hC _).mono ?_
          rintro r w2 ⟨rfl, hb2⟩
          have HB2 : Hid (Below w.heap.size w w2) := Below.join (Below.plus HB.out _) hb2
          clear hb2 hC
          go_wp2_with fail
          go_ret
          exact ⟨ret_bool HE.out.symm, HB2.out⟩
        | true =>
          rw [hg] at hC
          have HA2 : Hid (∀ x ∈ l.take (k + 1), gI x = true) := all_nx hkl HA.out hg
          generalize l[k] = p at *
          clear hg
          go_wp2_with (refine ldM hr Try.underlying82 rfl szItem _ rfl rfl rfl ?_)
          refine (hC _).mono ?_
          rintro r w2 ⟨rfl, hb2⟩
          have HB2 : Hid (Below w.heap.size w w2) := Below.join (Below.plus HB.out _) hb2
          clear hb2 hC
          go_wp2_with fail
          go_roundw
          case rel => exact ⟨k + 1, by omega, by go_num, HA2.out, HB2.out⟩
          case measure => simp [intOf]; omega
      · have hkn' : decide ((k : Int) < (n : Int)) = false := by simp; omega
        have HE : Hid (l.all gI = true) := all_yes (by rw [HN.out]; have : k = n := by omega
                                                       rw [← this]; exact HA.out)
        go_wp2_with fail
        go_ret
        exact ⟨ret_bool HE.out.symm, HB.out⟩
  · have HE : Hid ((decide (n ≤ mx) && l.all gI) = false) := by unfold Hid; rw [decide_eq_false hm]; rfl
    rw [HE.out]
    have d1 : (mx : Int) < (n : Int) := by omega
    clear HE
    go_enter Try.func60, Try.ntmps60
    go_wp2_with fail
    go_ret
    exact ⟨rfl, Below.refl _ _⟩
set_option maxRecDepth 100000 in
theorem allB_any (a : Option Addr) (c mx : Nat) (l : List ((Int × Int) × (Int × Int))) (w : World) (rd : RdV bxl 4 w a l) (hl : l.length < 4611686018427387904) (hmx : mx ≤ 4096) :
    Calls Try.prog 63 #[.slice a l.length c, .int .i64 (mx : Int), .func (.func 64) #[] #[] ] w fun e w' => e = .returned (.bool (decide (l.length ≤ mx) && l.all gB)) ∧ Below w.heap.size w w' := by
  obtain ⟨n, hn⟩ : ∃ n, l.length = n := ⟨_, rfl⟩
  have HN : Hid (l.length = n) := hn
  rw [hn] at hl
  rw [hn]
  clear hn
  by_cases hm : n ≤ mx
  · have HE : Hid ((decide (n ≤ mx) && l.all gB) = l.all gB) := by unfold Hid; rw [decide_eq_true hm, Bool.true_and]
    rw [HE.out]
    have d1 : decide ((mx : Int) < (n : Int)) = false := by simp; omega
    have d2 : ¬ (mx : Int) < (n : Int) := by omega
    clear HE
    go_enter Try.func63, Try.ntmps63
    go_wp2_with fail
    go_loopw [15] (fun i wx => ∃ k : Nat, k ≤ n ∧ i = .int .i64 (k : Int) ∧ (∀ x ∈ l.take k, gB x = true) ∧ Below w.heap.size w wx) (fun i _ => n - (intOf i).toNat)
    case atStart => exact ⟨0, by omega, rfl, by simp, Below.refl _ _⟩
    case round =>
      obtain ⟨k, hk, rfl, hA, hb⟩ := hrel
      have HA : Hid (∀ x ∈ l.take k, gB x = true) := hA
      have HB : Hid (Below w.heap.size w wr) := hb
      clear hA hb
      by_cases hkn : k < n
      · have hkl : k < l.length := by rw [HN.out]; exact hkn
        obtain ⟨b, o, rfl, hr⟩ := rd k hkl
        have hr := ra_later hr HB.out
        unfold bxl at hr
        have i1 : (0 : Int) ≤ (k : Int) := by omega
        have i2 : (k : Int) < (n : Int) := by omega
        have hC := goodBox_any l[k]
        cases hg : gB l[k] with
        | false =>
          rw [hg] at hC
          have HE : Hid (l.all gB = false) := all_no hkl hg
          generalize l[k] = p at *
          clear hg
          go_wp2_with (refine ldM hr Try.underlying31 rfl szBox _ rfl rfl rfl ?_)
          refine (hC _).mono ?_
          rintro r w2 ⟨rfl, hb2⟩
          have HB2 : Hid (Below w.heap.size w w2) := Below.join (Below.plus HB.out _) hb2
          clear hb2 hC
          go_wp2_with fail
          go_ret
          exact ⟨ret_bool HE.out.symm, HB2.out⟩
        | true =>
          rw [hg] at hC
          have HA2 : Hid (∀ x ∈ l.take (k + 1), gB x = true) := all_nx hkl HA.out hg
          generalize l[k] = p at *
          clear hg
          go_wp2_with (refine ldM hr Try.underlying31 rfl szBox _ rfl rfl rfl ?_)
          refine (hC _).mono ?_
          rintro r w2 ⟨rfl, hb2⟩
          have HB2 : Hid (Below w.heap.size w w2) := Below.join (Below.plus HB.out _) hb2
          clear hb2 hC
          go_wp2_with fail
          go_roundw
          case rel => exact ⟨k + 1, by omega, by go_num, HA2.out, HB2.out⟩
          case measure => simp [intOf]; omega
      · have hkn' : decide ((k : Int) < (n : Int)) = false := by simp; omega
        have HE : Hid (l.all gB = true) := all_yes (by rw [HN.out]; have : k = n := by omega
                                                       rw [← this]; exact HA.out)
        go_wp2_with fail
        go_ret
        exact ⟨ret_bool HE.out.symm, HB.out⟩
  · have HE : Hid ((decide (n ≤ mx) && l.all gB) = false) := by unfold Hid; rw [decide_eq_false hm]; rfl
    rw [HE.out]
    have d1 : (mx : Int) < (n : Int) := by omega
    clear HE
    go_enter Try.func63, Try.ntmps63
    go_wp2_with fail
    go_ret
    exact ⟨rfl, Below.refl _ _⟩
end Go.Proofs.Ytdkfifnhmfbagaa.Wi
