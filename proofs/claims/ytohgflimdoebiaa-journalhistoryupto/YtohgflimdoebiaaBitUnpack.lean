/- Contract: Unpack. -/
import Derived.Test.YtohgflimdoebiaaBitSpec
namespace Go.Proofs.Ytohgflimdoebiaa.Bt
open Go.RowKit Go.Maps
set_option linter.unusedVariables false

theorem Kept.toBelow {F : Nat → Prop} {w0 w w' : World} (h : Below w0.heap.size w0 w) (hk : Kept F w w') (hF : ∀ k, F k → w0.heap.size ≤ k) : Below w0.heap.size w0 w' := h.trans (hk.below h.size hF)
theorem tk_lt {T : List Bool} {ws : List Int} {c : Nat} {vs : List Nat} (h : tk T ws = some (c, vs)) : c ≤ T.length ∧ vs.length = ws.length := by
  have := tk_le T ws 0 [] c vs (Nat.zero_le _) h
  simpa using this
set_option maxHeartbeats 2000000 in
set_option maxRecDepth 100000 in
theorem unpack_some (b o cp n : Nat) (ws : List Int) (T : List Bool) (s : ByteArray) (hn : ws.length = n) (hT : tb (bys s) = T) (w : World) (hl : n ≤ 16777216) (hs : s.size < 1099511627776)
    (h1 : ∀ i, i < n → w.cell? ⟨b, o + i, none⟩ = some (.int .i64 (ws.getD i 0))) :
    Calls Try.prog 95 #[.string s, .slice (some ⟨b, o, none⟩) n cp] w fun e w' => ∃ v, e = .returned (.tuple #[v, .int .i64 (unE T ws)]) ∧ w'.ownsRow (w.heap.size + 1) 112 1 v (unL T ws).length (u64s (unL T ws)) ∧ Below w.heap.size w w' := by
  obtain ⟨i0, hi, hz0, hz1, hz2⟩ := info_parts info64
  have HN : Hid (ws.length = n) := hn
  have HT : Hid (tb (bys s) = T) := hT
  have HTL : Hid (T.length = 8 * s.size) := by unfold Hid; rw [← hT, tb_length, bys_length]
  clear hn hT
  go_enter Try.func95, Try.ntmps95
  go_wp2_with fail
  refine (read_any s w).mono ?_
  rintro e w1 ⟨rfl, rfl⟩
  go_wp2_with fail
  go_loopw [7, 16] (fun v i wr => ∃ k : Nat, k ≤ n ∧ i = .int .i64 (k : Int) ∧ Below w.heap.size w wr ∧ w.heap.size + 1 ≤ wr.heap.size ∧ ∃ c vs, tk T (ws.take k) = some (c, vs) ∧ Rr wr w.heap.size c s ∧ wr.ownsRow (w.heap.size + 1) 112 1 v vs.length (u64s vs)) (fun _ i _ => n - (intOf i).toNat)
  case atStart => exact ⟨0, by omega, rfl, below1 _ _, by simp, 0, [], rfl, Rr.new w s, World.ownsRow_nil _ _ _ _⟩
  case round =>
    obtain ⟨k, hk, rfl, hb, hsz, c, vs, htk, hr, hrow⟩ := hrel
    have HB : Hid (Below w.heap.size w wr) := hb
    have HR : Hid (Rr wr w.heap.size c s) := hr
    have HROW : Hid (wr.ownsRow (w.heap.size + 1) 112 1 u7 vs.length (u64s vs)) := hrow
    have HVL : Hid (vs.length = k) := by
      unfold Hid
      have := (tk_lt htk).2
      rw [List.length_take, HN.out] at this
      omega
    have HTK : Hid (tk T (ws.take k) = some (c, vs)) := htk
    clear hr hrow htk
    by_cases hkn : k < n
    · have c0 := cell_later hb (h1 k hkn)
      have i1 : (0 : Int) ≤ (k : Int) := by omega
      have i2 : (k : Int) < (n : Int) := by omega
      have HS : Hid (tk T (ws.take (k + 1)) = tks T (tk T (ws.take k)) (ws.getD k 0)) := tk_take T ws k (by rw [HN.out]; exact hkn)
      obtain ⟨d, ed⟩ : ∃ d, ws.getD k 0 = d := ⟨_, rfl⟩
      rw [ed] at c0 HS
      clear h1 ed hb
      by_cases hd : Gw d ∧ d ≤ ((8 * s.size - c : Nat) : Int)
      · obtain ⟨⟨d1, d2⟩, d3⟩ := hd
        obtain ⟨q, rfl⟩ : ∃ q : Nat, d = (q : Int) := ⟨d.toNat, by omega⟩
        have HP := take_yes w.heap.size c q s wr HR.out hs (by omega) (by omega) (by have := HR.out.le; omega)
        rw [HT.out] at HP
        obtain ⟨y, hy⟩ : ∃ y, bv ((T.drop c).take q) = y := ⟨_, rfl⟩
        rw [hy] at HP
        have HS2 : Hid (tk T (ws.take (k + 1)) = some (c + q, vs ++ [y])) := by
          unfold Hid
          rw [HS.out, HTK.out]
          unfold tks
          simp only []
          rw [if_pos ⟨d1, d2, by rw [HTL.out]; exact d3⟩]
          simp [hy]
        clear d3 HS hy
        go_wp2_with fail
        refine HP.mono ?_
        rintro e w2 ⟨rfl, hr2, hkp⟩
        have HR2 : Hid (Rr w2 w.heap.size (c + q) s) := hr2
        have HK2 : Hid (Kept (fun k => k = w.heap.size) wr w2) := hkp
        have HO2 : Hid (w2.ownsRow (w.heap.size + 1) 112 1 u7 vs.length (u64s vs)) := hkp.row HROW.out (fun j hj e => by have := (HROW.out.lt j hj).1; omega)
        have hs2 : w.heap.size + 1 ≤ w2.heap.size := Nat.le_trans hsz hkp.size
        clear hr2 hkp HP
        go_wp2_with (at_builtin; refine wpList_append_lies _ rfl _ _ _ rfl (w.heap.size + 1) 112 i0 _ 1 8 Try.underlying151 hi hz0 hz1 hz2 rfl (by omega) _ vs.length (u64s vs) rfl (HO2.out.alloc _) ⟨w2.heap.size, 0, none⟩ 1 1 [.int .u64 (y : Int)] rfl rfl (cell_one_at _ _ _ _ rfl) (by simp [Value.oneCell']) (by omega) (by have := HVL.out; unfold maxLen; omega) (by have := HVL.out; omega) (by simp; omega) (w2.heap.size + 1) (by simp) ?_; intro g3 cap3 w3 hown3 hgrow3 hat3 hlt3; have HG3 : Hid ((w2.alloc (.cells #[.int .u64 (y : Int)] 112)).grownBy w3 u7.ownBlock) := hgrow3; have HO3 : Hid (w3.ownsRow (w.heap.size + 1) 112 1 (.slice (some ⟨g3, 0, none⟩) (vs.length + 1) cap3) (vs.length + 1) (u64s vs ++ [.int .u64 (y : Int)])) := hown3; clear hown3 hgrow3 hat3 hlt3)
        go_roundw
        case rel =>
          have hfar : ∀ j, u7.ownBlock = some j → w.heap.size + 1 ≤ j := fun j hj => (HROW.out.lt j hj).1
          have k3 : Kept (fun j => u7.ownBlock = some j) w2 w3 := ((Kept.refl _ w2).alloc _).grown HG3.out (fun j hj _ => hj)
          refine ⟨k + 1, by omega, by go_num, ?_, Nat.le_trans hs2 k3.size, c + q, vs ++ [y], HS2.out, HR2.out.kept k3 (fun e => by have := hfar _ e; omega), ?_⟩
          · exact Kept.toBelow (Kept.toBelow HB.out HK2.out (fun j hj => by have hj' : j = w.heap.size := hj; omega)) k3 (fun j hj => by have := hfar j hj; omega)
          · rw [u64s_snoc, List.length_append]; exact HO3.out
        case measure => simp [intOf]; omega
      · have HP := take_no w.heap.size c s d wr HR.out hs hd
        have HE : Hid (tk T ws = none) := by
          refine tk_none T ws (k + 1) ?_
          rw [HS.out, HTK.out]
          unfold tks
          simp only []
          rw [if_neg]
          rintro ⟨e1, e2, e3⟩
          exact hd ⟨⟨e1, e2⟩, by rw [HTL.out] at e3; exact e3⟩
        clear hd HS
        go_wp2_with fail
        refine HP.mono ?_
        rintro e w2 ⟨rfl, hw2⟩
        have HB2 : Hid (Below w.heap.size w w2) := by
          rcases hw2 with rfl | rfl
          · exact HB.out
          · exact HB.out.drew
        clear hw2 HP
        go_wp2_with fail
        go_ret2
        obtain ⟨e1, e2⟩ := un_bad HE.out
        exact ⟨.slice none 0 0, by rw [e2]; rfl, by rw [e1]; exact World.ownsRow_nil _ _ _ _, HB2.out⟩
    · have hkn' : decide ((k : Int) < (n : Int)) = false := by simp; omega
      have e : ws.take k = ws := List.take_of_length_le (by rw [HN.out]; omega)
      rw [e] at HTK
      clear e hb h1
      have hdone := done_any w.heap.size c s wr HR.out hs
      rw [HT.out] at hdone
      go_wp2_with fail
      refine hdone.mono ?_
      rintro e w2 ⟨rfl, hb2⟩
      have HB2 : Hid (Below w.heap.size w w2) := Below.then HB.out hb2
      have HO2 : Hid (w2.ownsRow (w.heap.size + 1) 112 1 u7 vs.length (u64s vs)) := (Kept.ofBelow (F := fun _ => False) hb2).row HROW.out (fun _ _ h => h)
      clear hb2 hdone
      cases hd : dn T c with
      | true =>
        have HD : Hid (dn T c = true) := hd
        clear hd
        go_wp2_with fail
        go_ret2
        obtain ⟨e1, e2⟩ := un_good HTK.out HD.out
        exact ⟨u7, by rw [e2]; rfl, by rw [e1]; exact HO2.out, HB2.out⟩
      | false =>
        have HD : Hid (dn T c = false) := hd
        clear hd
        go_wp2_with fail
        go_ret2
        obtain ⟨e1, e2⟩ := un_open HTK.out HD.out
        exact ⟨.slice none 0 0, by rw [e2]; rfl, by rw [e1]; exact World.ownsRow_nil _ _ _ _, HB2.out⟩
set_option maxHeartbeats 2000000 in
set_option maxRecDepth 100000 in
theorem unpack_none (a : Option Addr) (cp : Nat) (T : List Bool) (s : ByteArray) (hT : tb (bys s) = T) (w : World) (hs : s.size < 1099511627776) :
    Calls Try.prog 95 #[.string s, .slice a 0 cp] w fun e w' => ∃ v, e = .returned (.tuple #[v, .int .i64 (unE T [])]) ∧ w'.ownsRow (w.heap.size + 1) 112 1 v (unL T []).length (u64s (unL T [])) ∧ Below w.heap.size w w' := by
  have hdone := done_any w.heap.size 0 s _ (Rr.new w s) hs
  rw [hT] at hdone
  go_enter Try.func95, Try.ntmps95
  go_wp2_with fail
  refine (read_any s w).mono ?_
  rintro e w1 ⟨rfl, rfl⟩
  go_wp2_with fail
  refine wp_loop_rounds 1 ?_
  rw [rounds_succ]
  go_wp2_with fail
  refine hdone.mono ?_
  rintro e w2 ⟨rfl, hb2⟩
  have HB2 : Hid (Below w.heap.size w w2) := Below.then (below1 _ _) hb2
  clear hb2 hdone
  cases hd : dn T 0 with
  | true =>
    have HD : Hid (dn T 0 = true) := hd
    clear hd
    go_wp2_with fail
    go_ret2
    obtain ⟨e1, e2⟩ := un_good (ws := []) (c := 0) (vs := []) rfl HD.out
    exact ⟨.slice none 0 0, by rw [e2]; rfl, by rw [e1]; exact World.ownsRow_nil _ _ _ _, HB2.out⟩
  | false =>
    have HD : Hid (dn T 0 = false) := hd
    clear hd
    go_wp2_with fail
    go_ret2
    obtain ⟨e1, e2⟩ := un_open (ws := []) (c := 0) (vs := []) rfl HD.out
    exact ⟨.slice none 0 0, by rw [e2]; rfl, by rw [e1]; exact World.ownsRow_nil _ _ _ _, HB2.out⟩
theorem unpack_any (a : Option Addr) (cp n : Nat) (ws : List Int) (T : List Bool) (s : ByteArray) (hn : ws.length = n) (hT : tb (bys s) = T) (w : World) (hl : n ≤ 16777216) (hs : s.size < 1099511627776) (h : RdI w a ws) :
    Calls Try.prog 95 #[.string s, .slice a n cp] w fun e w' => ∃ v, e = .returned (.tuple #[v, .int .i64 (unE T ws)]) ∧ w'.ownsRow (w.heap.size + 1) 112 1 v (unL T ws).length (u64s (unL T ws)) ∧ Below w.heap.size w w' := by
  subst hn
  by_cases h0 : ws = []
  · subst h0; exact unpack_none a cp T s hT w hs
  · obtain ⟨b, o, rfl, k1⟩ := h.spot h0
    exact unpack_some b o cp ws.length ws T s rfl hT w hl hs k1
end Go.Proofs.Ytohgflimdoebiaa.Bt
