/- Contracts of the document's answers: Pack, Unpack. -/
import Derived.Test.YtpofjkjcbflloaaBitRefD
import Derived.Test.YtpofjkjcbflloaaBitUnpack
namespace Go.Proofs.Ytpofjkjcbflloaa
open Go.RowKit Go.Maps
set_option linter.unusedVariables false

theorem row_later {w w' : World} {B e k n : Nat} {v : Value} {xs : List Value} (h : w.ownsRow B e k v n xs) (hb : Below w.heap.size w w') : w'.ownsRow B e k v n xs := (Kept.ofBelow (F := fun _ => False) hb).row h (fun _ _ h => h)
set_option maxHeartbeats 2000000 in
set_option maxRecDepth 100000 in
theorem rPack_some (b o c n : Nat) (fs : List (Nat × Int)) (hn : fs.length = n) (w : World) (hl : n ≤ 16777216)
    (h1 : ∀ i, i < n → w.cell? ⟨b, o + i * 2, none⟩ = some (.int .u64 ((fs.getD i (0, 0)).1 : Int)) ∧ w.cell? ⟨b, o + i * 2 + 1, none⟩ = some (.int .i64 (fs.getD i (0, 0)).2) ∧ (fs.getD i (0, 0)).1 < 18446744073709551616) :
    Calls Try.prog 11 #[.slice (some ⟨b, o, none⟩) n c] w fun e w' => e = .returned (.tuple #[.string (pkS fs), .int .i64 (pkE fs)]) ∧ Below w.heap.size w w' := by
  have HN : Hid (fs.length = n) := hn
  clear hn
  go_enter Try.func11, Try.ntmps11
  go_wp2_with fail
  go_loopw [4, 9] (fun v i wr => ∃ k : Nat, k ≤ n ∧ i = .int .i64 (k : Int) ∧ (∀ f ∈ fs.take k, okF f = true) ∧ Below w.heap.size w wr ∧ wr.ownsRow w.heap.size 5 1 v (bitsF (fs.take k)).length (b01 (bitsF (fs.take k)))) (fun _ i _ => n - (intOf i).toNat)
  case atStart => exact ⟨0, by omega, rfl, by simp, Below.refl _ _, World.ownsRow_nil _ _ _ _⟩
  case round =>
    obtain ⟨k, hk, rfl, hok, hb, hrow⟩ := hrel
    have HB : Hid (Below w.heap.size w wr) := hb
    have HROW : Hid (wr.ownsRow w.heap.size 5 1 u4 (bitsF (fs.take k)).length (b01 (bitsF (fs.take k)))) := hrow
    have HOK : Hid (∀ f ∈ fs.take k, okF f = true) := hok
    have hlen : Hid ((bitsF (fs.take k)).length ≤ 64 * k) := by
      have := bitsF_le _ HOK.out
      rw [List.length_take] at this
      unfold Hid; omega
    clear hrow hok
    by_cases hkn : k < n
    · obtain ⟨c0, c1, hv64⟩ := h1 k hkn
      have c0 := cell_later hb c0
      have c1 := cell_later hb c1
      have i1 : (0 : Int) ≤ (k : Int) := by omega
      have i2 : (k : Int) < (n : Int) := by omega
      have HS : Hid (fs.take (k + 1) = fs.take k ++ [fs.getD k (0, 0)]) := take_snoc fs k (0, 0) (by rw [HN.out]; exact hkn)
      have HF : Hid (okF (fs.getD k (0, 0)) = false → fs.all okF = false) := all_take okF fs k (0, 0) (by rw [HN.out]; exact hkn)
      obtain ⟨v, d, evd⟩ : ∃ v d, fs.getD k (0, 0) = (v, d) := ⟨_, _, rfl⟩
      rw [evd] at c0 c1 hv64 HS HF
      clear h1 evd hb
      go_wp2_with fail
      refine (rRight_any v d _ hv64).mono ?_
      rintro e w2 ⟨rfl, hb2⟩
      have c0 : w2.cell? ⟨wr.heap.size, 0, none⟩ = some (.int .u64 (v : Int)) := cell_later hb2 (by simp [go_sem])
      have c1 : w2.cell? ⟨wr.heap.size, 1, none⟩ = some (.int .i64 d) := cell_later hb2 (by simp [go_sem])
      have HB2 : Hid (Below w.heap.size w w2) := Below.then (Below.more HB.out _) hb2
      have HR2 : Hid (w2.ownsRow w.heap.size 5 1 u4 (bitsF (fs.take k)).length (b01 (bitsF (fs.take k)))) := row_later (HROW.out.alloc _) hb2
      clear hb2
      cases hf : okF (v, d) with
      | true =>
        obtain ⟨d1, d2, d3⟩ := okF_width hf
        obtain ⟨q, rfl⟩ : ∃ q : Nat, d = (q : Int) := ⟨d.toNat, by omega⟩
        have HP := rAdd_any w.heap.size v q _ (bitsF (fs.take k)) u4 w2 (by omega) (by omega) rfl HB2.out.size HR2.out (by have := hlen.out; omega) hv64
        have HFT : Hid (okF (v, (q : Int)) = true) := hf
        clear hf d3
        go_wp2_with fail
        refine HP.mono ?_
        rintro e w3 ⟨x', rfl, hr3, hk3, _⟩
        have HR3 : Hid (w3.ownsRow w.heap.size 5 1 x' ((bitsF (fs.take k)).length + q) (b01 (bitsF (fs.take k) ++ bo v q))) := hr3
        have HB3 : Hid (Below w.heap.size w w3) := Kept.toBelow HB2.out hk3 (fun j hj => (HR2.out.lt j hj).1)
        clear hr3 hk3 HP
        go_wp2_with fail
        go_roundw
        case rel =>
          refine ⟨k + 1, by omega, by go_num, ?_, HB3.out, ?_⟩
          · rw [HS.out]
            intro f hf
            rcases List.mem_append.1 hf with hf | hf
            · exact HOK.out f hf
            · simp at hf; subst hf; exact HFT.out
          · rw [HS.out, bitsF_append]
            have e : bitsF [(v, (q : Int))] = bo v q := by simp [bitsF]
            rw [e, List.length_append, bo_length]; exact HR3.out
        case measure => simp [intOf]; omega
      | false =>
        have hall : Hid (fs.all okF = false) := HF.out hf
        clear hf
        go_wp2_with fail
        go_ret2
        exact ⟨by simp [pkS, pkE, hall.out]; rfl, HB2.out⟩
    · have hkn' : decide ((k : Int) < (n : Int)) = false := by simp; omega
      have e : fs.take k = fs := List.take_of_length_le (by rw [HN.out]; omega)
      have HE : Hid (fs.take k = fs) := e
      have hp := rBytes_any _ _ _ _ _ rfl (by have := hlen.out; omega) HROW.out
      clear e hb h1
      go_wp2_with fail
      refine hp.mono ?_
      rintro e w2 ⟨rfl, hb2⟩
      have HB2 : Hid (Below w.heap.size w w2) := Below.then HB.out hb2
      clear hb2 hp
      go_wp2_with fail
      go_ret2
      have hall : fs.all okF = true := by
        rw [List.all_eq_true]; intro f hf; exact HOK.out f (by rw [HE.out]; exact hf)
      exact ⟨by simp [pkS, pkE, hall, HE.out], HB2.out⟩
set_option maxHeartbeats 2000000 in
set_option maxRecDepth 100000 in
theorem rPack_none (a : Option Addr) (c : Nat) (w : World) :
    Calls Try.prog 11 #[.slice a 0 c] w fun e w' => e = .returned (.tuple #[.string (pkS []), .int .i64 (pkE [])]) ∧ Below w.heap.size w w' := by
  go_enter Try.func11, Try.ntmps11
  go_wp2_with fail
  refine wp_loop_rounds 1 ?_
  rw [rounds_succ]
  go_wp2_with fail
  refine (rBytes_nil w).mono ?_
  rintro e w2 ⟨rfl, hb2⟩
  go_wp2_with fail
  go_ret2
  exact ⟨rfl, hb2⟩
theorem rPack_any (a : Option Addr) (c n : Nat) (fs : List (Nat × Int)) (hn : fs.length = n) (w : World) (hl : n ≤ 16777216) (h : RdF w a fs) :
    Calls Try.prog 11 #[.slice a n c] w fun e w' => e = .returned (.tuple #[.string (pkS fs), .int .i64 (pkE fs)]) ∧ Below w.heap.size w w' := by
  subst hn
  by_cases h0 : fs = []
  · subst h0; exact rPack_none a c w
  · obtain ⟨b, o, rfl, k1⟩ := h.spot h0
    exact rPack_some b o c fs.length fs rfl w hl k1
set_option maxHeartbeats 2000000 in
set_option maxRecDepth 100000 in
theorem rUnpack_some (b o cp n : Nat) (ws : List Int) (T : List Bool) (s : ByteArray) (hn : ws.length = n) (hT : tb (bys s) = T) (w : World) (hl : n ≤ 16777216) (hs : s.size ≤ 16777216)
    (h1 : ∀ i, i < n → w.cell? ⟨b, o + i, none⟩ = some (.int .i64 (ws.getD i 0))) :
    Calls Try.prog 13 #[.string s, .slice (some ⟨b, o, none⟩) n cp] w fun e w' => ∃ v, e = .returned (.tuple #[v, .int .i64 (unE T ws)]) ∧ w'.ownsRow w.heap.size 33 1 v (unL T ws).length (u64s (unL T ws)) ∧ Below w.heap.size w w' := by
  obtain ⟨i0, hi, hz0, hz1, hz2⟩ := info_parts info64
  have HN : Hid (ws.length = n) := hn
  have hrd := rRead_any s w hs
  have HTL : Hid (T.length = 8 * s.size) := by unfold Hid; rw [← hT, tb_length, bys_length]
  rw [hT] at hrd
  clear hn hT
  go_enter Try.func13, Try.ntmps13
  go_wp2_with fail
  refine hrd.mono ?_
  rintro e w1 ⟨g, x, rfl, hrm, hg, hb1⟩
  have HRM : Hid (Rm w.heap.size w1 g 0 T x) := hrm
  have HB1 : Hid (Below w.heap.size w w1) := hb1
  have hgl : g < w1.heap.size := (Array.getElem?_eq_some_iff.1 hrm.blk).1
  have hxl : Hid (∀ j, x.ownBlock = some j → j < w1.heap.size) := fun j hj => (hrm.row.lt j hj).2
  have HLT : Hid (T.length < 4611686018427387904) := by have := HTL.out; unfold Hid; omega
  clear hrm hb1 hrd
  go_wp2_with fail
  go_loopw [7, 16] (fun v i wr => ∃ k : Nat, k ≤ n ∧ i = .int .i64 (k : Int) ∧ Below w.heap.size w wr ∧ w1.heap.size ≤ wr.heap.size ∧ ∃ c vs, tk T (ws.take k) = some (c, vs) ∧ Rm w.heap.size wr g c T x ∧ wr.ownsRow w1.heap.size 33 1 v vs.length (u64s vs)) (fun _ i _ => n - (intOf i).toNat)
  case atStart => exact ⟨0, by omega, rfl, HB1.out, Nat.le_refl _, 0, [], rfl, HRM.out, World.ownsRow_nil _ _ _ _⟩
  case round =>
    obtain ⟨k, hk, rfl, hb, hsz, c, vs, htk, hr, hrow⟩ := hrel
    have HB : Hid (Below w.heap.size w wr) := hb
    have HR : Hid (Rm w.heap.size wr g c T x) := hr
    have HROW : Hid (wr.ownsRow w1.heap.size 33 1 u7 vs.length (u64s vs)) := hrow
    have HVL : Hid (vs.length = k) := by
      unfold Hid
      have := (tk_lt htk).2
      rw [List.length_take, HN.out] at this
      omega
    have HTK : Hid (tk T (ws.take k) = some (c, vs)) := htk
    clear hr hrow htk
    by_cases hkn : k < n
    · have c0 := cell_later hb (h1 k hkn)
      have i1 : (0 : Int) ≤ (k : Int) := by omega
      have i2 : (k : Int) < (n : Int) := by omega
      have HS : Hid (tk T (ws.take (k + 1)) = tks T (tk T (ws.take k)) (ws.getD k 0)) := tk_take T ws k (by rw [HN.out]; exact hkn)
      obtain ⟨d, ed⟩ : ∃ d, ws.getD k 0 = d := ⟨_, rfl⟩
      rw [ed] at c0 HS
      clear h1 ed hb
      by_cases hd : Gw d ∧ d ≤ ((T.length - c : Nat) : Int)
      · obtain ⟨⟨d1, d2⟩, d3⟩ := hd
        obtain ⟨q, rfl⟩ : ∃ q : Nat, d = (q : Int) := ⟨d.toNat, by omega⟩
        have HP := rTake_yes w.heap.size g c q T x wr HR.out HLT.out (by omega) (by omega) (by have := HR.out.le; omega)
        obtain ⟨y, hy⟩ : ∃ y, bv ((T.drop c).take q) = y := ⟨_, rfl⟩
        rw [hy] at HP
        have HS2 : Hid (tk T (ws.take (k + 1)) = some (c + q, vs ++ [y])) := by
          unfold Hid
          rw [HS.out, HTK.out]
          unfold tks
          simp only []
          rw [if_pos ⟨d1, d2, d3⟩]
          simp [hy]
        clear d3 HS hy
        go_wp2_with fail
        refine HP.mono ?_
        rintro e w2 ⟨rfl, hr2, hkp⟩
        have HR2 : Hid (Rm w.heap.size w2 g (c + q) T x) := hr2
        have HK2 : Hid (Kept (fun k => k = g) wr w2) := hkp
        have HO2 : Hid (w2.ownsRow w1.heap.size 33 1 u7 vs.length (u64s vs)) := hkp.row HROW.out (fun j hj e => by have := (HROW.out.lt j hj).1; omega)
        have hs2 : w1.heap.size ≤ w2.heap.size := Nat.le_trans hsz hkp.size
        clear hr2 hkp HP
        go_wp2_with (at_builtin; refine wpList_append_lies _ rfl _ _ _ rfl w1.heap.size 33 i0 _ 1 8 Try.underlying28 hi hz0 hz1 hz2 rfl (by omega) _ vs.length (u64s vs) rfl (HO2.out.alloc _) ⟨w2.heap.size, 0, none⟩ 1 1 [.int .u64 (y : Int)] rfl rfl (cell_one_at _ _ _ _ rfl) (by simp [Value.oneCell']) (by omega) (by have := HVL.out; unfold maxLen; omega) (by have := HVL.out; omega) (by simp; omega) (w2.heap.size + 1) (by simp) ?_; intro g3 cap3 w3 hown3 hgrow3 hat3 hlt3; have HG3 : Hid ((w2.alloc (.cells #[.int .u64 (y : Int)] 33)).grownBy w3 u7.ownBlock) := hgrow3; have HO3 : Hid (w3.ownsRow w1.heap.size 33 1 (.slice (some ⟨g3, 0, none⟩) (vs.length + 1) cap3) (vs.length + 1) (u64s vs ++ [.int .u64 (y : Int)])) := hown3; clear hown3 hgrow3 hat3 hlt3)
        go_roundw
        case rel =>
          have hfar : ∀ j, u7.ownBlock = some j → w1.heap.size ≤ j := fun j hj => (HROW.out.lt j hj).1
          have hs1 := HB1.out.size
          have k3 : Kept (fun j => u7.ownBlock = some j) w2 w3 := ((Kept.refl _ w2).alloc _).grown HG3.out (fun j hj _ => hj)
          refine ⟨k + 1, by omega, by go_num, ?_, Nat.le_trans hs2 k3.size, c + q, vs ++ [y], HS2.out, HR2.out.kept k3 (fun e => by have := hfar _ e; omega) (fun j hj e => by have := hfar _ e; have := hxl.out j hj; omega), ?_⟩
          · exact Kept.toBelow (Kept.toBelow HB.out HK2.out (fun j hj => by have hj' : j = g := hj; omega)) k3 (fun j hj => by have := hfar j hj; omega)
          · rw [u64s_snoc, List.length_append]; exact HO3.out
        case measure => simp [intOf]; omega
      · have HP := rTake_no w.heap.size g c T x d wr HR.out HLT.out hd
        have HE : Hid (tk T ws = none) := by
          refine tk_none T ws (k + 1) ?_
          rw [HS.out, HTK.out]
          unfold tks
          simp only []
          rw [if_neg]
          rintro ⟨e1, e2, e3⟩
          exact hd ⟨⟨e1, e2⟩, e3⟩
        clear hd HS
        go_wp2_with fail
        refine HP.mono ?_
        rintro e w2 ⟨rfl, hw2⟩
        have HB2 : Hid (Below w.heap.size w w2) := by
          obtain ⟨m, rfl⟩ := hw2
          exact ⟨HB.out.os, HB.out.tape, HB.out.output, HB.out.size, HB.out.block⟩
        clear hw2 HP
        go_wp2_with fail
        go_ret2
        obtain ⟨e1, e2⟩ := un_bad HE.out
        exact ⟨.slice none 0 0, by rw [e2]; rfl, by rw [e1]; exact World.ownsRow_nil _ _ _ _, HB2.out⟩
    · have hkn' : decide ((k : Int) < (n : Int)) = false := by simp; omega
      have e : ws.take k = ws := List.take_of_length_le (by rw [HN.out]; omega)
      rw [e] at HTK
      clear e hb h1
      have hdone := rDone_any w.heap.size g c T x wr HR.out HLT.out
      go_wp2_with fail
      refine hdone.mono ?_
      rintro e w2 ⟨rfl, rfl⟩
      have HB2 : Hid (Below w.heap.size w wr.drew) := HB.out.drew
      have HO2 : Hid (wr.drew.ownsRow w.heap.size 33 1 u7 vs.length (u64s vs)) := by
        have h := HROW.out
        refine ⟨h.1, ?_⟩
        rcases h.2 with h0 | ⟨r, cap, cur, hv, hbb, rest⟩
        · exact .inl h0
        · exact .inr ⟨r, cap, cur, hv, Nat.le_trans HB1.out.size hbb, rest⟩
      clear hdone
      cases hd : dn T c with
      | true =>
        have HD : Hid (dn T c = true) := hd
        clear hd
        go_wp2_with fail
        go_ret2
        obtain ⟨e1, e2⟩ := un_good HTK.out HD.out
        exact ⟨u7, by rw [e2]; rfl, by rw [e1]; exact HO2.out, HB2.out⟩
      | false =>
        have HD : Hid (dn T c = false) := hd
        clear hd
        go_wp2_with fail
        go_ret2
        obtain ⟨e1, e2⟩ := un_open HTK.out HD.out
        exact ⟨.slice none 0 0, by rw [e2]; rfl, by rw [e1]; exact World.ownsRow_nil _ _ _ _, HB2.out⟩
set_option maxHeartbeats 2000000 in
set_option maxRecDepth 100000 in
theorem rUnpack_none (a : Option Addr) (cp : Nat) (T : List Bool) (s : ByteArray) (hT : tb (bys s) = T) (w : World) (hs : s.size ≤ 16777216) :
    Calls Try.prog 13 #[.string s, .slice a 0 cp] w fun e w' => ∃ v, e = .returned (.tuple #[v, .int .i64 (unE T [])]) ∧ w'.ownsRow w.heap.size 33 1 v (unL T []).length (u64s (unL T [])) ∧ Below w.heap.size w w' := by
  have hrd := rRead_any s w hs
  have HTL : Hid (T.length = 8 * s.size) := by unfold Hid; rw [← hT, tb_length, bys_length]
  have HLT : Hid (T.length < 4611686018427387904) := by have := HTL.out; unfold Hid; omega
  rw [hT] at hrd
  clear hT
  go_enter Try.func13, Try.ntmps13
  go_wp2_with fail
  refine hrd.mono ?_
  rintro e w1 ⟨g, x, rfl, hrm, hg, hb1⟩
  have hdone := rDone_any w.heap.size g 0 T x w1 hrm HLT.out
  have HB1 : Hid (Below w.heap.size w w1) := hb1
  clear hrd hrm hb1
  go_wp2_with fail
  refine wp_loop_rounds 1 ?_
  rw [rounds_succ]
  go_wp2_with fail
  refine hdone.mono ?_
  rintro e w2 ⟨rfl, rfl⟩
  clear hdone
  cases hd : dn T 0 with
  | true =>
    have HD : Hid (dn T 0 = true) := hd
    clear hd
    go_wp2_with fail
    go_ret2
    obtain ⟨e1, e2⟩ := un_good (ws := []) (c := 0) (vs := []) rfl HD.out
    exact ⟨.slice none 0 0, by rw [e2]; rfl, by rw [e1]; exact World.ownsRow_nil _ _ _ _, HB1.out.drew⟩
  | false =>
    have HD : Hid (dn T 0 = false) := hd
    clear hd
    go_wp2_with fail
    go_ret2
    obtain ⟨e1, e2⟩ := un_open (ws := []) (c := 0) (vs := []) rfl HD.out
    exact ⟨.slice none 0 0, by rw [e2]; rfl, by rw [e1]; exact World.ownsRow_nil _ _ _ _, HB1.out.drew⟩
theorem rUnpack_any (a : Option Addr) (cp n : Nat) (ws : List Int) (T : List Bool) (s : ByteArray) (hn : ws.length = n) (hT : tb (bys s) = T) (w : World) (hl : n ≤ 16777216) (hs : s.size ≤ 16777216) (h : RdI w a ws) :
    Calls Try.prog 13 #[.string s, .slice a n cp] w fun e w' => ∃ v, e = .returned (.tuple #[v, .int .i64 (unE T ws)]) ∧ w'.ownsRow w.heap.size 33 1 v (unL T ws).length (u64s (unL T ws)) ∧ Below w.heap.size w w' := by
  subst hn
  by_cases h0 : ws = []
  · subst h0; exact rUnpack_none a cp T s hT w hs
  · obtain ⟨b, o, rfl, k1⟩ := h.spot h0
    exact rUnpack_some b o cp ws.length ws T s rfl hT w hl hs k1
end Go.Proofs.Ytpofjkjcbflloaa
