/- For every tree: of one that isn't right the root isn't held; else each inner node is held just if one of its children is, each leaf just if it has a key: TreeHeld, with no condition. -/
import Derived.Test.YtpkfpckljpffgaaRows
import Derived.Test.YtpkfpckljpffgaaOpenTr
import Derived.Test.YtpkfpckljpffgaaTrL
import Derived.Test.YtpkfpckljpffgaaTrH
import Derived.Test.YtpkfpckljpffgaaTrR
namespace Go.Proofs.Ytpkfpckljpffgaa.treeHeld
open Go.ChangeShapes Go.WideShapes Go.ChangeAt Go.RowKit
open Rt (Ky zK KyAt)
open Rs (En tkn)
set_option linter.unusedVariables false
set_option linter.unusedSimpArgs false

structure ST (w W : World) (B : Nat) (t : Tr) : Prop where
  tr : TrAt W B t
  bel : Below w.heap.size w W
theorem ST.later {w W W' : World} {B : Nat} {t : Tr} (h : ST w W B t) (hb : Below W.heap.size W W') : ST w W' B t := ⟨h.tr.later hb, h.bel.trans (hb.mono h.bel.size)⟩
/- Is one of the first m children held? -/
def ch (r : Nat → En) (v : Nat) : Nat → Bool
  | 0 => false
  | m + 1 => ch r v m || hld r (4 * (v : Int) + 1 + (m : Int))
theorem ch_all (r : Nat → En) {v : Nat} (hv : v < 21) : ch r v 4 = hld r (v : Int) := by
  rw [hld_inner r hv]
  show ((((false || hld r (4 * (v : Int) + 1 + ((0 : Nat) : Int))) || hld r (4 * (v : Int) + 1 + ((1 : Nat) : Int))) || hld r (4 * (v : Int) + 1 + ((2 : Nat) : Int))) || hld r (4 * (v : Int) + 1 + ((3 : Nat) : Int))) = _
  rw [Bool.false_or, show 4 * (v : Int) + 1 + ((0 : Nat) : Int) = 4 * (v : Int) + 1 by omega, show 4 * (v : Int) + 1 + ((1 : Nat) : Int) = 4 * (v : Int) + 2 by omega, show 4 * (v : Int) + 1 + ((2 : Nat) : Int) = 4 * (v : Int) + 3 by omega, show 4 * (v : Int) + 1 + ((3 : Nat) : Int) = 4 * (v : Int) + 4 by omega]
set_option maxRecDepth 100000 in
set_option maxHeartbeats 4000000 in
theorem walk (t : Tr) (w : World) : Calls Try.prog 7 #[.agg (tcs t)] w fun e w' => e = .returned (.bool true) ∧ Below w.heap.size w w' := by
  have hS : ST w (w.alloc (.cells (tcs t) 31)) w.heap.size t := ⟨TrAt.new w t, alloc_tr w t⟩
  have h1 := rCheck_any t
  have h2 := fun v => keyOf_any t v
  have h3 := fun v => held_any t v
  obtain ⟨ct, hct⟩ : ∃ c, tcs t = c := ⟨_, rfl⟩
  simp only [hct] at h1 h2 h3
  have HT : Hid (tcs t = ct) := hct
  clear hct
  go_enter Try.func7, Try.ntmps7
  go_upto_region 1 with (fail)
  generalize w.alloc (.cells (tcs t) 31) = wa at *
  rw [HT.out]
  obtain ⟨B, hBB⟩ : ∃ B, w.heap.size = B := ⟨_, rfl⟩
  rw [hBB] at hS ⊢
  clear hBB
  go_wp2_with fail
  refine (lives_any _).mono ?_
  rintro r wb ⟨rfl, hbb⟩
  have hSb := hS.later hbb
  have hTb := hSb.tr
  clear hS hbb
  go_wp2_with (refine rdT hTb HT.out _ rfl rfl rfl ?_)
  refine (h1 _).mono ?_
  rintro r wc ⟨rfl, hbc⟩
  have hSc := hSb.later hbc
  have hTc := hSc.tr
  clear hSb hTb hbc h1
  cases hck : tck t with
  | false =>
    rw [tckE_ff hck]
    have h4 := h3 0
    rw [show hdB t 0 = false by unfold hdB; rw [hck]; rfl] at h4
    go_wp2_with (refine rdT hTc HT.out _ rfl rfl rfl ?_)
    refine (h4 _).mono ?_
    rintro r wd ⟨rfl, hbd⟩
    go_wp2_with fail
    go_ret
    exact ⟨rfl, (hSc.later hbd).bel⟩
  | true =>
    rw [tckE_tt hck]
    have HS : Hid (ST w wc B t) := hSc
    have HH : Hid (∀ v, hdB t v = hld t.ro v) := fun v => by unfold hdB; rw [hck, Bool.true_and]
    clear hSc hTc
    go_wp2_with fail
    go_loopw [3] (fun i wx => ∃ k : Nat, k ≤ 85 ∧ i = .int .i64 (k : Int) ∧ ST w wx B t) (fun i _ => 85 - (intOf i).toNat)
    case atStart => exact ⟨0, by omega, rfl, HS.out⟩
    case round =>
      obtain ⟨k, hk, rfl, hSk⟩ := hrel
      clear HS
      by_cases hk8 : k < 85
      · have k8 : (k : Int) < 85 := by omega
        have hTk := hSk.tr
        have h4 := h2 (k : Int)
        have h5 := h3 (k : Int)
        rw [HH.out] at h5
        by_cases hi : k < 21
        · have k21 : (k : Int) < 21 := by omega
          rw [KeyA.is rfl (koE_inner hck (by omega) k21)] at h4
          obtain ⟨e, he⟩ : ∃ e, koK t (k : Int) = e := ⟨_, rfl⟩
          rw [he] at h4
          clear he
          rw [← ch_all t.ro hi] at h5
          go_wp2_with (refine rdT hTk HT.out _ rfl rfl rfl ?_)
          refine (h4 _).mono ?_
          rintro r wd ⟨rfl, hbd⟩
          have hSe := (hSk.later hbd).later (Rt.alloc_ky wd e)
          clear h4 hTk hSk hbd
          go_upto_region 9 with (fail)
          generalize wd.alloc (.cells #[.int .i64 e.bas, .int .i64 e.stp] 23) = we at *
          generalize wd.heap.size = A at *
          have HSe : Hid (ST w we B t) := hSe
          clear hSe
          go_wp2_with fail
          go_loopw [6, 7] (fun hv i wx => ∃ m : Nat, m ≤ 4 ∧ i = .int .i64 (m : Int) ∧ hv = .bool (ch t.ro k m) ∧ ST w wx B t) (fun _ i _ => 4 - (intOf i).toNat)
          case atStart => exact ⟨0, by omega, rfl, rfl, HSe.out⟩
          case round =>
            obtain ⟨m, hm, rfl, rfl, hSm⟩ := hrel
            clear HSe
            by_cases hm8 : m < 4
            · have m8 : (m : Int) < 4 := by omega
              have h6 := h3 (4 * (k : Int) + 1 + (m : Int))
              rw [HH.out] at h6
              have h7 := Sh.rChild_yes (k : Int) (m : Int) (by omega) (by omega) (by omega) (by omega)
              obtain ⟨x, hx⟩ : ∃ x, 4 * (k : Int) + 1 + (m : Int) = x := ⟨_, rfl⟩
              have HST : Hid (ch t.ro k (m + 1) = (ch t.ro k m || hld t.ro x)) := by rw [← hx]; exact rfl
              rw [hx] at h6 h7
              clear hx
              obtain ⟨y, hy⟩ : ∃ y, hld t.ro x = y := ⟨_, rfl⟩
              rw [hy] at h6 HST
              clear hy
              go_upto_region 15 with (fail)
              have hS0 : ST w wr.drew B t := hSm.later (drew_below _)
              clear hSm
              cases hc : ch t.ro k m with
              | true =>
                refine wp_region_held_drew (S := fun W => ST w W B t) (by kernel_rfl) hS0 (fun hHeld => ?_)
                refine wpAnyH_take (i := 0) (oi := { dst := some 34, op := Op.move (Operand.tmp 6), type := _, pos := _, after := _, guard := none }) (v := .bool true) rfl (by kernel_rfl) (by kernel_rfl) (by kernel_rfl) (fun _ _ _ h => h) (Or.inl ⟨by rfl, fun w hSw => by (try dsimp only at hSw); go_simp⟩) (by assumption) ?_
                simp only [Act.put, List.setIfInBounds_toArray, List.set_cons_zero, List.set_cons_succ]
                refine wpAnyH_take (i := 1) (oi := { dst := some 35, op := Op.move (Operand.tmp 34), type := _, pos := _, after := _, guard := none }) (v := .bool true) rfl (by kernel_rfl) (by kernel_rfl) (by kernel_rfl) (fun _ _ _ h => h) (Or.inl ⟨by rfl, fun w hSw => by (try dsimp only at hSw); go_simp⟩) (by assumption) ?_
                simp only [Act.put, List.setIfInBounds_toArray, List.set_cons_zero, List.set_cons_succ]
                refine wpAnyH_take (i := 2) (oi := { dst := some 36, op := Op.load 31 (Operand.tmp 1), type := _, pos := _, after := _, guard := some (1, false) }) (v := undef) rfl (by kernel_rfl) (by kernel_rfl) (by kernel_rfl) (fun _ _ _ h => h) (Or.inr ⟨by rfl, rfl⟩) (by assumption) ?_
                simp only [Act.put, List.setIfInBounds_toArray, List.set_cons_zero, List.set_cons_succ]
                refine wpAnyH_take (i := 3) (oi := { dst := some 37, op := Op.move (Operand.tmp 3), type := _, pos := _, after := _, guard := some (1, false) }) (v := undef) rfl (by kernel_rfl) (by kernel_rfl) (by kernel_rfl) (fun _ _ _ h => h) (Or.inr ⟨by rfl, rfl⟩) (by assumption) ?_
                simp only [Act.put, List.setIfInBounds_toArray, List.set_cons_zero, List.set_cons_succ]
                refine wpAnyH_take (i := 4) (oi := { dst := some 38, op := Op.move (Operand.tmp 7), type := _, pos := _, after := _, guard := some (1, false) }) (v := undef) rfl (by kernel_rfl) (by kernel_rfl) (by kernel_rfl) (fun _ _ _ h => h) (Or.inr ⟨by rfl, rfl⟩) (by assumption) ?_
                simp only [Act.put, List.setIfInBounds_toArray, List.set_cons_zero, List.set_cons_succ]
                refine wpAnyH_take (i := 5) (oi := { dst := some 39, op := Op.call { callee := Callee.value (Operand.func 25), args := #[(Operand.tmp 37), (Operand.tmp 38)], argTypes := #[3, 3] }, type := _, pos := _, after := _, guard := some (1, false) }) (v := undef) rfl (by kernel_rfl) (by kernel_rfl) (by kernel_rfl) (fun _ _ _ h => h) (Or.inr ⟨by rfl, rfl⟩) (by assumption) ?_
                simp only [Act.put, List.setIfInBounds_toArray, List.set_cons_zero, List.set_cons_succ]
                refine wpAnyH_take (i := 6) (oi := { dst := some 40, op := Op.call { callee := Callee.value (Operand.func 17), args := #[(Operand.tmp 36), (Operand.tmp 39)], argTypes := #[31, 3] }, type := _, pos := _, after := _, guard := some (1, false) }) (v := undef) rfl (by kernel_rfl) (by kernel_rfl) (by kernel_rfl) (fun _ _ _ h => h) (Or.inr ⟨by rfl, rfl⟩) (by assumption) ?_
                simp only [Act.put, List.setIfInBounds_toArray, List.set_cons_zero, List.set_cons_succ]
                refine wpAnyH_take (i := 7) (oi := { dst := some 41, op := Op.pick (Operand.tmp 35) (Operand.const (Value.bool true)) (Operand.tmp 40), type := _, pos := _, after := _, guard := none }) (v := .bool true) rfl (by kernel_rfl) (by kernel_rfl) (by kernel_rfl) (fun _ _ _ h => h) (Or.inl ⟨by rfl, fun w hSw => by (try dsimp only at hSw); go_simp⟩) (by assumption) ?_
                simp only [Act.put, List.setIfInBounds_toArray, List.set_cons_zero, List.set_cons_succ]
                refine wpAnyH_take (i := 8) (oi := { dst := some 6, op := Op.assign (Operand.tmp 41), type := _, pos := _, after := _, guard := none }) (v := .bool true) rfl (by kernel_rfl) (by kernel_rfl) (by kernel_rfl) (fun _ _ _ h => h) (Or.inl ⟨by rfl, fun w hSw => by (try dsimp only at hSw); go_simp⟩) (by assumption) ?_
                simp only [Act.put, List.setIfInBounds_toArray, List.set_cons_zero, List.set_cons_succ]
                refine wpAnyH_done (by kernel_rfl) ?_ _
                go_wp2_with fail
                go_roundw
                case rel => exact ⟨m + 1, by omega, by go_num, by rw [HST.out, hc]; rfl, hHeld⟩
                case measure => simp [intOf]; omega
              | false =>
                refine wp_region_held_drew (S := fun W => ST w W B t) (by kernel_rfl) hS0 (fun hHeld => ?_)
                refine wpAnyH_take (i := 0) (oi := { dst := some 34, op := Op.move (Operand.tmp 6), type := _, pos := _, after := _, guard := none }) (v := .bool false) rfl (by kernel_rfl) (by kernel_rfl) (by kernel_rfl) (fun _ _ _ h => h) (Or.inl ⟨by rfl, fun w hSw => by (try dsimp only at hSw); go_simp⟩) (by assumption) ?_
                simp only [Act.put, List.setIfInBounds_toArray, List.set_cons_zero, List.set_cons_succ]
                refine wpAnyH_take (i := 1) (oi := { dst := some 35, op := Op.move (Operand.tmp 34), type := _, pos := _, after := _, guard := none }) (v := .bool false) rfl (by kernel_rfl) (by kernel_rfl) (by kernel_rfl) (fun _ _ _ h => h) (Or.inl ⟨by rfl, fun w hSw => by (try dsimp only at hSw); go_simp⟩) (by assumption) ?_
                simp only [Act.put, List.setIfInBounds_toArray, List.set_cons_zero, List.set_cons_succ]
                refine wpAnyH_take (i := 2) (oi := { dst := some 36, op := Op.load 31 (Operand.tmp 1), type := _, pos := _, after := _, guard := some (1, false) }) (v := .agg ct) rfl (by kernel_rfl) (by kernel_rfl) (by kernel_rfl) (fun _ _ _ h => h) (Or.inl ⟨by rfl, fun w hSw => ld_exec (HT.out ▸ hSw.tr.whole) rfl rfl⟩) (by assumption) ?_
                simp only [Act.put, List.setIfInBounds_toArray, List.set_cons_zero, List.set_cons_succ]
                refine wpAnyH_take (i := 3) (oi := { dst := some 37, op := Op.move (Operand.tmp 3), type := _, pos := _, after := _, guard := some (1, false) }) (v := .int .i64 (k : Int)) rfl (by kernel_rfl) (by kernel_rfl) (by kernel_rfl) (fun _ _ _ h => h) (Or.inl ⟨by rfl, fun w hSw => by (try dsimp only at hSw); go_simp⟩) (by assumption) ?_
                simp only [Act.put, List.setIfInBounds_toArray, List.set_cons_zero, List.set_cons_succ]
                refine wpAnyH_take (i := 4) (oi := { dst := some 38, op := Op.move (Operand.tmp 7), type := _, pos := _, after := _, guard := some (1, false) }) (v := .int .i64 (m : Int)) rfl (by kernel_rfl) (by kernel_rfl) (by kernel_rfl) (fun _ _ _ h => h) (Or.inl ⟨by rfl, fun w hSw => by (try dsimp only at hSw); go_simp⟩) (by assumption) ?_
                simp only [Act.put, List.setIfInBounds_toArray, List.set_cons_zero, List.set_cons_succ]
                refine wpAnyH_ready (rs := [5]) (by kernel_rfl) (by simp) ?_
                refine AllReadyH.cons rfl (fun K hK => ?_) AllReadyH.nil
                go_simp
                refine (h7 _).mono ?_
                rintro r w5 ⟨rfl, rfl⟩
                go_wp2_with fail
                refine hK.out _ _ hHeld (fun hHeld2 => ?_)
                clear hHeld
                clear hK K
                try simp only [Act.put, List.setIfInBounds_toArray, List.set_cons_zero, List.set_cons_succ]
                refine wpAnyH_ready (rs := [6]) (by kernel_rfl) (by simp) ?_
                refine AllReadyH.cons rfl (fun K hK => ?_) AllReadyH.nil
                go_simp
                refine (h6 _).mono ?_
                rintro r w6 ⟨rfl, hb6⟩
                go_wp2_with fail
                refine hK.out _ _ (hHeld2.later hb6) (fun hHeld3 => ?_)
                clear hHeld2 hb6
                clear hK K
                try simp only [Act.put, List.setIfInBounds_toArray, List.set_cons_zero, List.set_cons_succ]
                refine wpAnyH_take (i := 7) (oi := { dst := some 41, op := Op.pick (Operand.tmp 35) (Operand.const (Value.bool true)) (Operand.tmp 40), type := _, pos := _, after := _, guard := none }) (v := .bool y) rfl (by kernel_rfl) (by kernel_rfl) (by kernel_rfl) (fun _ _ _ h => h) (Or.inl ⟨by rfl, fun w hSw => by (try dsimp only at hSw); go_simp⟩) (by assumption) ?_
                simp only [Act.put, List.setIfInBounds_toArray, List.set_cons_zero, List.set_cons_succ]
                refine wpAnyH_take (i := 8) (oi := { dst := some 6, op := Op.assign (Operand.tmp 41), type := _, pos := _, after := _, guard := none }) (v := .bool y) rfl (by kernel_rfl) (by kernel_rfl) (by kernel_rfl) (fun _ _ _ h => h) (Or.inl ⟨by rfl, fun w hSw => by (try dsimp only at hSw); go_simp⟩) (by assumption) ?_
                simp only [Act.put, List.setIfInBounds_toArray, List.set_cons_zero, List.set_cons_succ]
                refine wpAnyH_done (by kernel_rfl) ?_ _
                go_wp2_with fail
                go_roundw
                case rel => exact ⟨m + 1, by omega, by go_num, by rw [HST.out, hc]; rfl, hHeld3⟩
                case measure => simp [intOf]; omega
            · obtain rfl : m = 4 := by omega
              have hTm := hSm.tr
              obtain ⟨y, hy⟩ : ∃ y, ch t.ro k 4 = y := ⟨_, rfl⟩
              rw [hy] at h5 ⊢
              clear hy
              go_wp2_with (refine rdT hTm HT.out _ rfl rfl rfl ?_)
              refine (h5 _).mono ?_
              rintro r wf ⟨rfl, hbf⟩
              have HSf : Hid (ST w wf B t) := hSm.later hbf
              clear h5 hTm hSm hbf
              go_wp2_with fail
              go_roundw
              case rel => exact ⟨k + 1, by omega, by go_num, HSf.out⟩
              case measure => simp [intOf]; omega
        · obtain ⟨s, hks, hs8⟩ : ∃ s : Nat, (k : Int) = 21 + (s : Int) ∧ s < 64 := ⟨k - 21, by omega, by omega⟩
          have k21 : decide ((k : Int) < 21) = false := decide_eq_false (by omega)
          have hL : koE t (k : Int) = if tkn (t.ro s) then 0 else 16 := by
            rw [hks, koE_leaf hck hs8]
            cases ht : tkn (t.ro s) with
            | true => exact (tck_right hck).leaf hs8 ht
            | false => exact leaf_free ht
          have hY : hld t.ro (k : Int) = tkn (t.ro s) := by rw [hks]; exact hld_leaf _ hs8
          rw [hY] at h5
          unfold KeyA at h4
          rw [hL] at h4
          obtain ⟨e, he⟩ : ∃ e, koK t (k : Int) = e := ⟨_, rfl⟩
          rw [he] at h4
          clear he hL hY hks hi
          cases ht : tkn (t.ro s) with
          | true =>
            rw [ht, if_pos rfl] at h4
            rw [ht] at h5
            go_wp2_with (refine rdT hTk HT.out _ rfl rfl rfl ?_)
            refine (h4 _).mono ?_
            rintro r wd ⟨rfl, hbd⟩
            have hSe := (hSk.later hbd).later (Rt.alloc_ky wd e)
            clear h4 hTk hSk hbd
            go_upto_region 9 with (fail)
            generalize wd.alloc (.cells #[.int .i64 e.bas, .int .i64 e.stp] 23) = we at *
            generalize wd.heap.size = A at *
            have hTe := hSe.tr
            go_wp2_with (refine rdT hTe HT.out _ rfl rfl rfl ?_)
            refine (h5 _).mono ?_
            rintro r wf ⟨rfl, hbf⟩
            have HSf : Hid (ST w wf B t) := hSe.later hbf
            clear h5 hTe hSe hbf
            go_wp2_with fail
            go_roundw
            case rel => exact ⟨k + 1, by omega, by go_num, HSf.out⟩
            case measure => simp [intOf]; omega
          | false =>
            rw [ht, if_neg (by simp)] at h4
            rw [ht] at h5
            go_wp2_with (refine rdT hTk HT.out _ rfl rfl rfl ?_)
            refine (h4 _).mono ?_
            rintro r wd ⟨rfl, hbd⟩
            have hSe := (hSk.later hbd).later (Rt.alloc_ky wd e)
            clear h4 hTk hSk hbd
            go_upto_region 9 with (fail)
            generalize wd.alloc (.cells #[.int .i64 e.bas, .int .i64 e.stp] 23) = we at *
            generalize wd.heap.size = A at *
            have hTe := hSe.tr
            go_wp2_with (refine rdT hTe HT.out _ rfl rfl rfl ?_)
            refine (h5 _).mono ?_
            rintro r wf ⟨rfl, hbf⟩
            have HSf : Hid (ST w wf B t) := hSe.later hbf
            clear h5 hTe hSe hbf
            go_wp2_with fail
            go_roundw
            case rel => exact ⟨k + 1, by omega, by go_num, HSf.out⟩
            case measure => simp [intOf]; omega
      · obtain rfl : k = 85 := by omega
        go_wp2_with fail
        go_ret
        exact ⟨rfl, hSk.bel⟩
theorem own : ownKnob Try.prog.godebug = none := by kernel_rfl
theorem laidOut : laidOutB Try.prog = true := by kernel_rfl
set_option maxRecDepth 100000 in
theorem lifted (os : Os) (started : os.Started) (H : Type) (enc : TypeId × Value → H) :
    ReturnsInHanded {} Try.checked os 7 .any (Rows.treeHeldSpec.pre6 enc Try.prog Try.f7 Rows.treeHeldRow.domain false) (Rows.treeHeldSpec.post enc Try.prog Try.f7 false true false false) := by
  refine returnsInHanded_of_change (C := Try.checked) own started (by kernel_rfl) Try.func7
    (ChangeSpec.witness6 (enc := enc) (C := Try.checked) false ⟨#[], #[.agg (List.replicate 236 (Value.int .i64 0)).toArray], []⟩ 8 (by kernel_rfl) (by kernel_rfl) (by kernel_rfl) (by kernel_rfl)) ?_
  intro W base args ds gs before hval0 hW hcnd _
  have hval : ∀ (j : Nat) t v, Try.f7.params[j]? = some t → args[j]? = some v → Value.okWide Try.prog W .any base t v := hval0
  have hW' := hW
  obtain ⟨p, q, hA0, hV, rfl, hfz, hnd⟩ := hW
  have hA : DataW.TrodAll enc Try.prog W 0 (fun _ => true) true Try.f7.params.toList args.toList ds p := hA0
  rw [Try.params7] at hA hval
  obtain ⟨v0, vs0, d0, ds0, p0, q0, hargs, rfl, rfl, h0, r0⟩ := trodAll_cons hA
  obtain ⟨rfl, rfl, rfl⟩ := trodAll_nil r0
  obtain rfl : args = #[v0] := by cases args; simp_all
  obtain ⟨rfl, rfl⟩ := trodVars_none hV
  have k0 := h0
  have lt0 : ∀ x ∈ p0, x.block < W.heap.size := by obtain ⟨m, hm⟩ := k0; exact DataW.trod_lt m _ _ _ hm
  obtain ⟨f0, rfl⟩ := open_tr (hval 0 31 v0 rfl rfl) h0
  clear hA0 hval0
  refine (walk f0 W).mono fun e W' ⟨he, bel⟩ => ?_
  subst he
  exact ⟨_, rfl, _, _, _, [], _, [], hW', trodAll_mk1 (shut_bool Try.underlying4 _), (trodAll_cons_mk (Below.trod laidOut (by kernel_rfl) (of_decide_eq_true (by kernel_rfl)) k0 bel lt0) trodAll_mk0), rfl, bel.frame _, fun h => by cases h⟩
theorem over : Rows.treeHeldRow.holds Try.pinned (OpenSpec.ofChange Rows.treeHeldSpec) :=
  OpenClaim.holds_of_wide 7 Try.f7 rfl rfl rfl rfl rfl rfl rfl ⟨rfl, rfl, rfl, rfl, rfl⟩ rfl rfl rfl rfl rfl (by kernel_rfl) Try.func7 (by kernel_rfl)
    (of_decide_eq_true (by kernel_rfl)) (by unfold Func.isWrapper; first | (rw [if_pos (by decide +kernel)]; kernel_rfl) | (rw [if_neg (by decide +kernel)]; exact ⟨rfl, rfl⟩))
    (fun os started H enc _ => lifted os started H enc)
end Go.Proofs.Ytpkfpckljpffgaa.treeHeld
namespace Go.Proofs.Ytpkfpckljpffgaa
theorem treeHeld_holds : Rows.TreeHeldSaid := treeHeld.over
#print axioms treeHeld_holds
end Go.Proofs.Ytpkfpckljpffgaa
