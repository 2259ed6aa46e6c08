/- Contracts: the document's Replaced, its Next of trees. -/
import Derived.Test.YtpimbpfefhkojabGreatDoorPlD
import Derived.Test.YtpimbpfefhkojabGreatDoorTrJ
import Derived.Test.YtpimbpfefhkojabGreatDoorRsJ5
import Derived.Test.YtpimbpfefhkojabGreatDoorShK
namespace Go.Proofs.YtpimbpfefhkojabGreatDoor
open Go.RowKit Go.Maps Go.Great
open Rt (Ky zK kcs KsAt trE trK cu)
open Rs (En zE rcs RoAt tkn RdI RdS ps ft fnd FitOk evs evl mvE mvR mvL mvJ)
open Sh (belB lef)
set_option linter.unusedVariables false
set_option linter.unusedSimpArgs false

theorem mkW_yes {p : Nat → Bool} {k : Nat} (h : p k = true) : mkW p (k + 1) = mkW p k + 2 ^ k := by rw [mkW, h, if_pos rfl]
theorem mkW_no {p : Nat → Bool} {k : Nat} (h : p k = false) : mkW p (k + 1) = mkW p k := by rw [mkW, h]; rfl
theorem rpl_yes {l : List (Int × Int)} {v i : Nat} (hi : i < l.length) (h : belB (v : Int) (lef (l.getD i (0, 0)).2) = true) : rpl l v = true := by
  unfold rpl
  rw [List.any_eq_true]
  refine ⟨l.getD i (0, 0), ?_, h⟩
  rw [List.getD_eq_getElem?_getD, List.getElem?_eq_getElem hi]
  exact List.getElem_mem _
theorem rpl_no {l : List (Int × Int)} {v : Nat} (h : ∀ i, i < l.length → belB (v : Int) (lef (l.getD i (0, 0)).2) = false) : rpl l v = false := by
  rw [Bool.eq_false_iff]
  intro hc
  unfold rpl at hc
  rw [List.any_eq_true] at hc
  obtain ⟨p, hp, h2⟩ := hc
  obtain ⟨i, hi, e⟩ := List.mem_iff_getElem.1 hp
  have := h i hi
  rw [List.getD_eq_getElem?_getD, List.getElem?_eq_getElem hi, Option.getD_some, e, h2] at this
  cases this
theorem pow21 : ∀ k : Fin 22, (2 : Nat) ^ k.val ≤ 2097152 := by decide +kernel
set_option maxRecDepth 100000 in
set_option maxHeartbeats 1000000 in
theorem rRep_any (a : Option Addr) (c : Nat) (l : List (Int × Int)) (w : World) (hl : l.length < 1152921504606846976) (hr : RdS w a l) :
    Calls Tryz.prog 39 #[.slice a l.length c] w fun e w' => e = .returned (.int .u32 ((rp l : Nat) : Int)) ∧ Below w.heap.size w w' := by
  go_enter Tryz.func39, Tryz.ntmps39
  go_wp2_with fail
  go_loopw [3, 4, 5] (fun m u i wx => ∃ k : Nat, k ≤ 21 ∧ i = .int .i64 (k : Int) ∧ m = .int .u32 ((mkW (rpl l) k : Nat) : Int) ∧ u = .int .u32 ((2 ^ k : Nat) : Int) ∧ Below w.heap.size w wx) (fun _ _ i _ => 21 - (intOf i).toNat)
  case atStart => exact ⟨0, by omega, rfl, rfl, rfl, Below.refl _ _⟩
  case round =>
    obtain ⟨k, hk, rfl, rfl, rfl, hb⟩ := hrel
    have HB : Hid (Below w.heap.size w wr) := hb
    clear hb
    by_cases hk8 : k < 21
    · have k0 : (0 : Int) ≤ (k : Int) := by omega
      have k1 : (k : Int) < 21 := by omega
      have hp1 := pow21 ⟨k, by omega⟩
      have hm1 := mkW_lt (rpl l) k
      have HY : Hid (rpl l k = true → mkW (rpl l) (k + 1) = mkW (rpl l) k + 2 ^ k) := mkW_yes
      have HN : Hid (rpl l k = false → mkW (rpl l) (k + 1) = mkW (rpl l) k) := mkW_no
      have HP2 : Hid ((2 : Nat) ^ (k + 1) = 2 ^ k * 2) := Nat.pow_succ _ _
      dsimp only at hp1
      obtain ⟨M, hM⟩ : ∃ M, mkW (rpl l) k = M := ⟨_, rfl⟩
      obtain ⟨U, hU⟩ : ∃ U, (2 : Nat) ^ k = U := ⟨_, rfl⟩
      rw [hM] at hm1 HY HN
      rw [hU] at hp1 hm1 HY HP2
      rw [hM, hU]
      have hw1 : IntKind.u32.wrap ((M : Int) + (U : Int)) = ((M + U : Nat) : Int) := by rw [IntKind.wrap_u32]; push_cast; omega
      have hw2 : IntKind.u32.wrap ((U : Int) * 2) = ((U * 2 : Nat) : Int) := by rw [IntKind.wrap_u32]; push_cast; omega
      clear hM hU hm1 hp1
      go_wp2_with fail
      go_loopw [3, 14] (fun m i wx => ∃ n : Nat, n ≤ l.length ∧ i = .int .i64 (n : Int) ∧ m = .int .u32 (M : Int) ∧ (∀ j, j < n → belB (k : Int) (lef (l.getD j (0, 0)).2) = false) ∧ Below w.heap.size w wx) (fun _ i _ => l.length - (intOf i).toNat)
      case atStart => exact ⟨0, by omega, rfl, rfl, fun j hj => by omega, HB.out⟩
      case round =>
        obtain ⟨n, hn, rfl, rfl, hno, hb⟩ := hrel
        have HB2 : Hid (Below w.heap.size w wr) := hb
        have HNO : Hid (∀ j, j < n → belB (k : Int) (lef (l.getD j (0, 0)).2) = false) := hno
        clear hb hno HB
        by_cases hnN : n < l.length
        · have i1 : (0 : Int) ≤ (n : Int) := by omega
          have i2 : (n : Int) < (l.length : Int) := by omega
          obtain ⟨b, hal, hc0, hc1⟩ := (hr.later HB2.out) n hnN
          obtain ⟨p, hp⟩ : ∃ p, l.getD n (0, 0) = p := ⟨_, rfl⟩
          have HP : Hid (l.getD n (0, 0) = p) := hp
          rw [hp] at hc0 hc1
          clear hp
          obtain ⟨px, py⟩ := p
          dsimp only at hc0 hc1
          subst hal
          have hlf := Sh.rLeaf_any py
          have hbl := Sh.rBelow_any (k : Int) (lef py)
          have HB3 : Hid (Below w.heap.size w (wr.alloc (.cells #[.int .i64 px, .int .i64 py] 107))) := HB2.out.alloc HB2.out.size _
          have HBE : Hid (belB (k : Int) (lef (l.getD n (0, 0)).2) = belB (k : Int) (lef py)) := by unfold Hid; rw [HP.out]
          obtain ⟨z, hz⟩ : ∃ z, lef py = z := ⟨_, rfl⟩
          rw [hz] at hlf hbl HBE
          clear hz
          cases hbb : belB (k : Int) z with
          | true =>
            rw [hbb] at hbl HBE
            have HR : Hid (rpl l k = true) := rpl_yes hnN HBE.out
            go_wp2_with (first | (go_at_call 47; refine (hlf _).mono ?_; rintro r' w' ⟨rfl, rfl⟩) | (go_at_call 46; refine (hbl _).mono ?_; rintro r' w3 ⟨rfl, hb3⟩))
            go_roundw
            case rel => exact ⟨k + 1, by omega, by go_num, by rw [HY.out HR.out]; push_cast; rfl, by rw [HP2.out]; push_cast; rfl, by subst hb3; exact HB3.out⟩
            case measure => simp [intOf]; omega
          | false =>
            rw [hbb] at hbl HBE
            go_wp2_with (first | (go_at_call 47; refine (hlf _).mono ?_; rintro r' w' ⟨rfl, rfl⟩) | (go_at_call 46; refine (hbl _).mono ?_; rintro r' w3 ⟨rfl, hb3⟩))
            go_roundw
            case rel =>
              refine ⟨n + 1, by omega, by go_num, rfl, fun j hj => ?_, by subst hb3; exact HB3.out⟩
              rcases Nat.lt_or_ge j n with h | h
              · exact HNO.out j h
              · obtain rfl : j = n := by omega
                exact HBE.out
            case measure => simp [intOf]; omega
        · obtain rfl : n = l.length := by omega
          have hdk : decide ((l.length : Int) < (l.length : Int)) = false := by simp
          have HR : Hid (rpl l k = false) := rpl_no HNO.out
          go_wp2_with fail
          go_roundw
          case rel => exact ⟨k + 1, by omega, by go_num, by rw [HN.out HR.out], by rw [HP2.out]; push_cast; rfl, HB2.out⟩
          case measure => simp [intOf]; omega
    · obtain rfl : k = 21 := by omega
      rw [show ((21 : Nat) : Int) = 21 from rfl]
      go_wp2_with fail
      go_ret
      exact ⟨rfl, HB.out⟩
end Go.Proofs.YtpimbpfefhkojabGreatDoor
