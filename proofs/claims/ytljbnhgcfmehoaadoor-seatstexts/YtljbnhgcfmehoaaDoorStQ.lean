/- Contracts: the library's public ParseUint in base 16; Parse, the program's and the document's. -/
import Derived.Test.YtljbnhgcfmehoaaDoorStP
import Derived.Test.YtljbnhgcfmehoaaDoorStM
import Derived.BigQuiet
namespace Go.Proofs.YtljbnhgcfmehoaaDoor
open Go.RowKit Go.Maps Go.Shelf
set_option linter.unusedVariables false
set_option linter.unusedSimpArgs false

theorem str_ne {X Y : ByteArray} (h : X ≠ Y) : (X.toList == Y.toList) = false := by
  rw [beq_eq_false_iff_ne, ByteArray.toList_eq, ByteArray.toList_eq]
  intro e
  exact h (ByteArray.ext (Array.ext' e))
/- What the library's variables hold. -/
structure Vr (w : World) : Prop where
  tb : Tb w
  es : ∃ tp p, w.cell? ⟨2, 0, none⟩ = some (.iface tp p)
  er : ∃ tp p, w.cell? ⟨3, 0, none⟩ = some (.iface tp p)
theorem Vr.later {w w' : World} (h : Vr w) (hb : Below w.heap.size w w') : Vr w' := by
  obtain ⟨t1, p1, h1⟩ := h.es
  obtain ⟨t2, p2, h2⟩ := h.er
  exact ⟨h.tb.later hb, ⟨t1, p1, cell_later hb h1⟩, ⟨t2, p2, cell_later hb h2⟩⟩
theorem te_any (fn t : ByteArray) (k : Int) (hk : k = 1 ∨ k = 2) (hmax : t.size ≤ 140737488351232) (w : World) (hv : Vr w) :
    Calls Tryd.prog 53 #[.string fn, .string t, .int .i64 16, .int .i64 64, .iface 83 (.int .i64 k)] w fun e w' => (∃ p, e = .returned (.iface 86 p)) ∧ Below w.heap.size w w' := by
  obtain ⟨t1, p1, h1⟩ := hv.es
  obtain ⟨t2, p2, h2⟩ := hv.er
  rcases hk with rfl | rfl
  · exact (Any.strconv_toError_range Tryd.laysC245 fn t 16 64 _ w (by omega) h2 (.inr ⟨_, _, rfl⟩)).mono fun e w' ⟨N, he, _, _, hb⟩ => ⟨⟨_, he⟩, hb⟩
  · exact (Any.strconv_toError_syntax Tryd.laysC245 fn t 16 64 _ w (by omega) h1 (.inr ⟨_, _, rfl⟩)).mono fun e w' ⟨N, he, _, _, hb⟩ => ⟨⟨_, he⟩, hb⟩
def PuP (t : ByteArray) (e : Ending) : Prop :=
  (∃ x : Nat, x < 18446744073709551616 ∧ e = .returned (.tuple #[.int .u64 (x : Int), .nilIface]) ∧ ∀ u, u < 18446744073709551616 → t = hx u → x = u) ∨
  (∃ (x : Int) (T : TypeId) (p : Value), e = .returned (.tuple #[.int .u64 x, .iface T p]) ∧ ∀ u, u < 18446744073709551616 → t ≠ hx u)
set_option maxHeartbeats 1000000 in
set_option maxRecDepth 100000 in
theorem spu_any (t : ByteArray) (hmax : t.size ≤ 140737488351232) (w : World) (hv : Vr w) :
    Calls Tryd.prog 42 #[.string t, .int .i64 16, .int .i64 64] w fun e w' => PuP t e ∧ Below w.heap.size w w' := by
  go_enter Tryd.func42, Tryd.ntmps42
  go_wp2_with fail
  refine (ipu_any t hmax w).mono ?_
  rintro e w1 ⟨(⟨x, hx64, rfl, hu⟩ | ⟨x, k, hk, rfl, hno⟩), hb⟩
  · have HU : Hid (∀ u, u < 18446744073709551616 → t = hx u → x = u) := hu
    clear hu
    go_wp2_with fail
    go_ret2
    exact ⟨.inl ⟨x, hx64, rfl, HU.out⟩, hb⟩
  · have HNO : Hid (∀ u, u < 18446744073709551616 → t ≠ hx u) := hno
    have hte := te_any ⟨#[80, 97, 114, 115, 101, 85, 105, 110, 116]⟩ t k hk hmax w1 (hv.later hb)
    clear hno hk
    go_wp2_with fail
    refine hte.mono ?_
    rintro e w2 ⟨⟨p, rfl⟩, hb2⟩
    clear hte
    go_wp2_with fail
    go_ret2
    exact ⟨.inr ⟨_, _, _, rfl, HNO.out⟩, hb.trans (hb2.mono hb.size)⟩
/- Parse's answer. -/
def PsP (t : ByteArray) (e : Ending) : Prop :=
  (∃ u : Nat, u < 18446744073709551616 ∧ t = hx u ∧ e = .returned (.tuple #[.int .u64 (u : Int), .int .i64 0])) ∨
  ((∀ u, u < 18446744073709551616 → t ≠ hx u) ∧ e = .returned (.tuple #[.int .u64 0, .int .i64 25]))
set_option maxHeartbeats 1000000 in
set_option maxRecDepth 100000 in
theorem parse_any (t : ByteArray) (hmax : t.size ≤ 140737488351232) (w : World) (hv : Vr w) :
    Calls Tryd.prog 30 #[.string t] w fun e w' => PsP t e ∧ Below w.heap.size w w' := by
  go_enter Tryd.func30, Tryd.ntmps30
  go_wp2_with fail
  refine (spu_any t hmax w hv).mono ?_
  rintro e w1 ⟨(⟨x, hx64, rfl, hu⟩ | ⟨x, T, p, rfl, hno⟩), hb⟩
  · have hh := hex_any x hx64 w1 (hv.later hb).tb
    have HU : Hid (∀ u, u < 18446744073709551616 → t = hx u → x = u) := hu
    clear hu
    go_wp2_with fail
    refine hh.mono ?_
    rintro e w2 ⟨rfl, hb2⟩
    clear hh
    have hx2 := hb.trans (hb2.mono hb.size)
    by_cases he : t = hx x
    · rw [← he]
      go_wp2_with fail
      go_ret2
      exact ⟨.inl ⟨x, hx64, he, rfl⟩, hx2⟩
    · have HNO : Hid (∀ u, u < 18446744073709551616 → t ≠ hx u) := fun u h1 h2 => he (by rw [HU.out u h1 h2]; exact h2)
      have hne : ¬ (hx x = t) := fun h => he h.symm
      have hbq := str_ne hne
      generalize hx x = X at *
      clear he hne
      go_wp2_with fail
      go_ret2
      exact ⟨.inr ⟨HNO.out, rfl⟩, hx2⟩
  · have HNO : Hid (∀ u, u < 18446744073709551616 → t ≠ hx u) := hno
    clear hno
    go_wp2_with fail
    go_ret2
    exact ⟨.inr ⟨HNO.out, rfl⟩, hb⟩
/- The document's Parse. -/
theorem dgs16 : ∀ (d : Nat) (h : d < 16), (({ data := #[48, 49, 50, 51, 52, 53, 54, 55, 56, 57, 97, 98, 99, 100, 101, 102] } : ByteArray)[d]'h).toNat = dg d := by
  have : ∀ d : Fin 16, (({ data := #[48, 49, 50, 51, 52, 53, 54, 55, 56, 57, 97, 98, 99, 100, 101, 102] } : ByteArray)[d.1]'d.2).toNat = dg d.1 := by decide
  exact fun d h => this ⟨d, h⟩
/- One byte, k digits looked at. -/
def Dug (C acc k acc' : Nat) : Prop := (acc' = acc ∧ ∀ j, j < k → C ≠ dg j) ∨ (∃ j, j < k ∧ j < 16 ∧ C = dg j ∧ acc' = acc * 16 + j)
theorem Dug.lt {C acc k acc' i : Nat} (h : Dug C acc k acc') (ha : acc < 16 ^ i) (hi : i < 16) : acc' < 16 ^ (i + 1) := by
  rw [Nat.pow_succ]
  rcases h with ⟨rfl, _⟩ | ⟨j, _, hj, _, rfl⟩
  · omega
  · omega
set_option maxHeartbeats 2000000 in
set_option maxRecDepth 100000 in
theorem rParse_any (t : ByteArray) (hmax : t.size ≤ 140737488351232) (w : World) :
    Calls Tryd.prog 31 #[.string t] w fun e w' => PsP t e ∧ Below w.heap.size w w' := by
  have hlen : t.data.toList.length = t.size := by show t.data.toList.length = t.data.size; exact Array.length_toList
  have hget : ∀ i (h : i < t.size), t.data.toList[i]? = some t[i] := fun i h => by rw [List.getElem?_eq_getElem (by omega)]; rfl
  obtain ⟨n, hn⟩ : ∃ n, t.size = n := ⟨_, rfl⟩
  have HGET : Hid (∀ i (h : i < t.size), t.data.toList[i]? = some t[i]) := hget
  clear hget hlen
  go_enter Tryd.func31, Tryd.ntmps31
  go_wp2_with fail
  go_loopw [4, 5] (fun x vi wx => ∃ (i acc : Nat) (a : Int), i ≤ n ∧ i ≤ 16 ∧ x = .int .u64 a ∧ vi = .int .i64 (i : Int) ∧ Hid (a = (acc : Int) ∧ acc < 16 ^ i ∧ Seen t i acc) ∧ Below w.heap.size w wx) (fun _ vi _ => 16 - (intOf vi).toNat)
  case atStart => exact ⟨0, 0, 0, by omega, by omega, rfl, rfl, ⟨rfl, by simp, Seen.start t⟩, Below.refl _ _⟩
  case round =>
    obtain ⟨i, acc, a, hi, hi16, rfl, rfl, hh, hbw⟩ := hrel
    by_cases hgo : i < n ∧ i < 16
    · obtain ⟨g1, g2⟩ := hgo
      have i1 : (i : Int) < (n : Int) := by omega
      have i2 : (i : Int) < 16 := by omega
      obtain ⟨ha, hacc, hseen⟩ := hh.out
      have hb := HGET.out i (by omega)
      obtain ⟨C, hC⟩ : ∃ C, (t[i]'(by omega)).toNat = C := ⟨_, rfl⟩
      have HST : Hid (∀ acc', Dug C acc 16 acc' → Seen t (i + 1) acc') := fun acc' hd u hu e => by
        rcases hd with ⟨rfl, hno⟩ | ⟨j, _, hj, hCj, rfl⟩
        · exact absurd e (no_digit (by omega) hb (fun e2 he2 h => hno e2 he2 (by rw [← hC, h])) u hu)
        · exact hseen.step hb (fun e2 he2 h => dg_inj hj he2 (by rw [← hCj, ← hC, h])) u hu e
      have HA : Hid (a = (acc : Int) ∧ acc < 16 ^ i) := ⟨ha, hacc⟩
      have hp16 : (16 : Nat) ^ (i + 1) ≤ 16 ^ 16 := Nat.pow_le_pow_right (by omega) (by omega)
      have HP16 : Hid ((16 : Nat) ^ (i + 1) ≤ 18446744073709551616) := hp16
      have HBW : Hid (Below w.heap.size w wr) := hbw
      clear hb hseen hh ha hacc hp16 hbw
      go_wp2_with fail
      go_loopw [4, 6] (fun x vk wx => ∃ (k acc' : Nat) (a' : Int), k ≤ 16 ∧ x = .int .u64 a' ∧ vk = .int .i64 (k : Int) ∧ Hid (a' = (acc' : Int) ∧ Dug C acc k acc') ∧ Below w.heap.size w wx) (fun _ vk _ => 16 - (intOf vk).toNat)
      case atStart => exact ⟨0, acc, a, by omega, rfl, rfl, ⟨HA.out.1, .inl ⟨rfl, by omega⟩⟩, HBW.out⟩
      case round =>
        obtain ⟨k, acc', a', hk, rfl, rfl, hd, hbw⟩ := hrel
        obtain ⟨ha', hdug⟩ := hd.out
        have hlt := hdug.lt HA.out.2 g2
        have hlt64 : acc' < 18446744073709551616 := Nat.lt_of_lt_of_le hlt HP16.out
        have a0 : 0 ≤ a' := by omega
        have a1 : a' < 18446744073709551616 := by omega
        clear hd
        by_cases hk16 : k < 16
        · have k16 : (k : Int) < 16 := by omega
          have hdk := dgs16 k hk16
          by_cases hm : dg k = C
          · have hcmp : (((dg k : Nat) : Int) == (C : Int)) = true := by simp [hm]
            have he : acc' = acc := by
              rcases hdug with ⟨e, _⟩ | ⟨j, h1, h2, h3, _⟩
              · exact e
              · exact absurd (dg_inj hk16 h2 (by rw [hm, h3])) (by omega)
            have hsm : acc * 16 + k < 18446744073709551616 := by
              have h1 := HA.out.2
              have h2 := HP16.out
              rw [Nat.pow_succ] at h2
              omega
            have hw1 : IntKind.u64.wrap (16 * a') = 16 * a' := by rw [IntKind.wrap_u64]; omega
            have hw2 : IntKind.u64.wrap (16 * a' + (k : Int)) = 16 * a' + (k : Int) := by rw [IntKind.wrap_u64]; omega
            have HN : Hid (16 * a' + (k : Int) = ((acc * 16 + k : Nat) : Int) ∧ Dug C acc (k + 1) (acc * 16 + k)) := ⟨by omega, .inr ⟨k, by omega, hk16, hm.symm, rfl⟩⟩
            clear hdug hlt hlt64 he hsm ha' hm
            go_wp2_with fail
            go_quiet (fail)
            have hbq := below_drewN hbw nq
            generalize wr.drewN nq = wq at *
            go_wp2_with fail
            go_roundw
            case rel => exact ⟨k + 1, acc * 16 + k, 16 * a' + (k : Int), by omega, by first | rfl | (congr 1; omega), by go_num, HN, hbq⟩
            case measure => simp [intOf]; omega
          · have hcmp : (((dg k : Nat) : Int) == (C : Int)) = false := by simp; omega
            have HN : Hid (a' = (acc' : Int) ∧ Dug C acc (k + 1) acc') := ⟨ha', by
              rcases hdug with ⟨e, h0⟩ | ⟨j, h1, h2, h3, h4⟩
              · exact .inl ⟨e, fun j hj => by
                  by_cases hjk : j = k
                  · subst hjk; exact fun h => hm h.symm
                  · exact h0 j (by omega)⟩
              · exact .inr ⟨j, by omega, h2, h3, h4⟩⟩
            clear hdug hlt hlt64 ha' hm
            go_wp2_with fail
            go_quiet (fail)
            have hbq := below_drewN hbw nq
            generalize wr.drewN nq = wq at *
            go_wp2_with fail
            go_roundw
            case rel => exact ⟨k + 1, acc', a', by omega, rfl, by go_num, HN, hbq⟩
            case measure => simp [intOf]; omega
        · obtain rfl : k = 16 := by omega
          have HN : Hid (a' = (acc' : Int) ∧ acc' < 16 ^ (i + 1) ∧ Seen t (i + 1) acc') := ⟨ha', hlt, HST.out acc' hdug⟩
          clear hdug hlt hlt64 ha' hC
          go_wp2_with fail
          go_roundw
          case rel => exact ⟨i + 1, acc', a', by omega, by omega, rfl, by go_num, HN, hbw⟩
          case measure => simp [intOf]; omega
    · obtain ⟨ha, hacc, hseen⟩ := hh.out
      have hacc64 : acc < 18446744073709551616 := Nat.lt_of_lt_of_le hacc (by
        have : (16 : Nat) ^ i ≤ 16 ^ 16 := Nat.pow_le_pow_right (by omega) hi16
        exact this)
      have HU : Hid (∀ u, u < 18446744073709551616 → t = hx u → acc = u) := fun u hu e => by
        have hs := hx_size u
        rw [← e] at hs
        have h16 : i = 16 := by omega
        have h1 := hseen u hu e
        rw [h16] at h1
        simpa using h1
      have hrh := rHex_any acc hacc64
      have HNS : Hid (i ≤ 16) := hi16
      have hA2 : a = (acc : Int) := ha
      subst hA2
      clear hh hacc hseen HGET
      have hcond : i = n ∨ (i < n ∧ i = 16) := by omega
      rcases hcond with rfl | ⟨h1, rfl⟩
      · have j1 : decide ((i : Int) < (i : Int)) = false := by simp
        go_wp2_with fail
        refine (hrh _).mono ?_
        rintro e w2 ⟨rfl, rfl⟩
        clear hrh
        by_cases he : t = hx acc
        · rw [← he]
          go_wp2_with fail
          go_ret2
          exact ⟨.inl ⟨acc, hacc64, he, rfl⟩, hbw⟩
        · have HNO : Hid (∀ u, u < 18446744073709551616 → t ≠ hx u) := fun u h1 h2 => he (by rw [HU.out u h1 h2]; exact h2)
          have hbq := str_ne (fun h => he h.symm : hx acc ≠ t)
          generalize hx acc = X at *
          clear he
          go_wp2_with fail
          go_ret2
          exact ⟨.inr ⟨HNO.out, rfl⟩, hbw⟩
      · have j1 : (16 : Int) < (n : Int) := by omega
        go_wp2_with fail
        refine (hrh _).mono ?_
        rintro e w2 ⟨rfl, rfl⟩
        clear hrh
        by_cases he : t = hx acc
        · rw [← he]
          go_wp2_with fail
          go_ret2
          exact ⟨.inl ⟨acc, hacc64, he, rfl⟩, hbw⟩
        · have HNO : Hid (∀ u, u < 18446744073709551616 → t ≠ hx u) := fun u h1 h2 => he (by rw [HU.out u h1 h2]; exact h2)
          have hbq := str_ne (fun h => he h.symm : hx acc ≠ t)
          generalize hx acc = X at *
          clear he
          go_wp2_with fail
          go_ret2
          exact ⟨.inr ⟨HNO.out, rfl⟩, hbw⟩
end Go.Proofs.YtljbnhgcfmehoaaDoor
