/- Contract: the document's Least. -/
import Derived.Test.YtpofjkjcbflloabKlLeast
namespace Go.Proofs.Ytpofjkjcbflloab
open Go.Maps Go.RowKit Go.Sort Go.Lib
set_option linter.unusedVariables false

def kki (b : Int) : Lit := .int .i64 b
def eli (_b s : Int) : DataW Unit := .lit (.int .i64 s)
theorem kki_inj : Inj kki := fun b c _ _ _ _ h => by simpa [kki] using h
theorem intLaw : Keyed Try.prog 3 := int_keyed Try.underlying3
theorem zeroInt (w : World) : (zeroValue 3).run Try.prog w = .ok (.int .i64 0) w := by kernel_rfl
theorem eli_inj {b s c t : Int} (h : eli b s = eli c t) : s = t := by simpa [eli] using h

set_option maxHeartbeats 4000000 in
set_option maxRecDepth 100000 in
theorem rLeast_some (b o c n : Nat) (ks : List (Int × Int)) (hn : ks.length = n) (w : World) (hl : n ≤ 8796093022208)
    (h1 : ∀ i, i < n → w.cell? ⟨b, o + i * 2, none⟩ = some (.int .i64 (ks.getD i (0, 0)).1) ∧ w.cell? ⟨b, o + i * 2 + 1, none⟩ = some (.int .i64 (ks.getD i (0, 0)).2)) :
    Calls Try.prog 5 #[.slice (some ⟨b, o, none⟩) n c] w fun e w' => ∃ v, e = .returned v ∧ w'.ownsRow (w.heap.size + 1) 25 2 v (lst ks).length (cellsL (lst ks)) ∧ Below w.heap.size w w' := by
  have hmm := @run_makeMap Try.prog
  obtain ⟨i0, hi, hz0, hz1, hz2⟩ := info_parts infoKey
  have HN : Hid (ks.length = n) := hn
  clear hn
  go_enter Try.func5, Try.ntmps5
  go_wp2
  go_loopw [15] (fun i wr => ∃ k : Nat, k ≤ n ∧ i = .int .i64 (k : Int) ∧ Below w.heap.size w wr ∧ ∃ D, wr.ownsMap Try.prog 3 (plainElem Try.prog 3) w.heap.size k D ∧ MapIs kki eli D (fo (ks.take k))) (fun i _ => n - (intOf i).toNat)
  case atStart => exact ⟨0, by omega, rfl, below1 _ _, _, World.ownsMap_made _ _ _ _, by simpa [fo] using MapIs.empty kki eli⟩
  case round =>
    obtain ⟨k, hk, rfl, hb, D, hown, hD⟩ := hrel
    by_cases hkn : k < n
    · obtain ⟨c0, c1⟩ := h1 k hkn
      have c0 := cell_later hb c0
      have c1 := cell_later hb c1
      have i1 : (0 : Int) ≤ (k : Int) := by omega
      have i2 : (k : Int) < (n : Int) := by omega
      have hfo := fo_take ks k (by rw [HN.out]; exact hkn)
      obtain ⟨x, y, exy⟩ : ∃ x y, ks.getD k (0, 0) = (x, y) := ⟨_, _, rfl⟩
      rw [exy] at c0 c1 hfo
      clear h1 exy
      have HB : Hid (Below w.heap.size w wr) := hb
      have HF : Hid (fo (ks.take (k + 1)) = up (fo (ks.take k)) (x, y)) := hfo
      have HD : Hid (MapIs kki eli D (fo (ks.take k))) := hD
      clear hb hfo hD
      by_cases hg : Gd x y
      · have hgd := gd_yes hg
        have g1 := hg.1
        have g2 := hg.2.1
        have g3 := hg.2.2.1
        have g4 := hg.2.2.2
        have hkey : keyOf Try.prog 3 (.int .i64 x) = some (kki x) := keyOf_int_mk Try.underlying3 (wf_of (by omega) (by omega))
        have hwy : plainElem (H := Unit) Try.prog 3 (.int .i64 y) = some (eli x y, []) := plainElem_int Try.underlying3 (wf_of (by omega) (by omega))
        cases hf : fo (ks.take k) x with
        | none =>
          have hh := HD.out.has_no kki_inj g1 g2 hf
          go_wp2_with (first
            | (go_at_call 10; refine (rGood_any _ _ _).mono ?_; rintro e w' ⟨rfl, rfl⟩)
            | (at_lookup; refine wpList_lookup_own_ok_int _ rfl _ _ 35 rfl 3 3 .i64 intLaw Try.underlying35 Try.underlying3 (zeroInt _) w.heap.size k D rfl ((hown.alloc _).alloc _) _ (kki x) rfl hkey ?_; intro p hat hwp; clear hat hwp)
            | (at_mapUpdate; refine wpList_mapUpdate_own _ rfl _ _ _ 35 rfl 3 3 intLaw Try.underlying35 (plainElem Try.prog 3) w.heap.size k D rfl ((hown.alloc _).alloc _) (by unfold maxLen; omega) _ _ (kki x) rfl rfl hkey (eli x y) [] hwy ?_; intro w1 hown1 hgrow1)
            | go_in)
          go_roundw
          case rel => exact ⟨k + 1, by omega, by go_num, Below.grown (Below.more (Below.more HB.out _) _) hgrow1 (by have := HB.out.size; simp; omega) (fun j hj => by cases hj; exact Nat.le_refl _), _, hown1, by rw [HF.out, up_new hg hf]; exact HD.out.put kki_inj (hown.tidy intLaw) trivial g1 g2⟩
          case measure => simp [intOf]; omega
        | some s =>
          have hh := HD.out.has x s hf
          have hq : ∀ p, D.atKey (kki x) (.lit (.int .i64 0)) = .lit (.int .i64 p) → p = s := fun p e => by rw [HD.out.at_yes kki_inj hf] at e; exact (eli_inj (b := x) (c := x) e).symm
          by_cases hys : y < s
          · go_wp2_with (first
              | (go_at_call 10; refine (rGood_any _ _ _).mono ?_; rintro e w' ⟨rfl, rfl⟩)
              | (at_lookup; refine wpList_lookup_own_ok_int _ rfl _ _ 35 rfl 3 3 .i64 intLaw Try.underlying35 Try.underlying3 (zeroInt _) w.heap.size k D rfl ((hown.alloc _).alloc _) _ (kki x) rfl hkey ?_; intro p hat hwp; have hlt : y < p := by (rw [hq p hat]; exact hys))
              | (at_mapUpdate; refine wpList_mapUpdate_own _ rfl _ _ _ 35 rfl 3 3 intLaw Try.underlying35 (plainElem Try.prog 3) w.heap.size k D rfl ((hown.alloc _).alloc _) (by unfold maxLen; omega) _ _ (kki x) rfl rfl hkey (eli x y) [] hwy ?_; intro w1 hown1 hgrow1)
              | go_in)
            go_roundw
            case rel => exact ⟨k + 1, by omega, by go_num, Below.grown (Below.more (Below.more HB.out _) _) hgrow1 (by have := HB.out.size; simp; omega) (fun j hj => by cases hj; exact Nat.le_refl _), _, hown1, by rw [HF.out, up_less hg hf hys]; exact HD.out.put kki_inj (hown.tidy intLaw) trivial g1 g2⟩
            case measure => simp [intOf]; omega
          · go_wp2_with (first
              | (go_at_call 10; refine (rGood_any _ _ _).mono ?_; rintro e w' ⟨rfl, rfl⟩)
              | (at_lookup; refine wpList_lookup_own_ok_int _ rfl _ _ 35 rfl 3 3 .i64 intLaw Try.underlying35 Try.underlying3 (zeroInt _) w.heap.size k D rfl ((hown.alloc _).alloc _) _ (kki x) rfl hkey ?_; intro p hat hwp; have hlt : decide (y < p) = false := by (rw [hq p hat]; simpa using hys))
              | go_in)
            go_roundw
            case rel => exact ⟨k + 1, by omega, by go_num, Below.more (Below.more HB.out _) _, D, ((hown.alloc _).alloc _).mono (Nat.le_succ _), by rw [HF.out, up_more hg hf (show ¬ y < s by omega)]; exact HD.out⟩
            case measure => simp [intOf]; omega
      · have hgd := gd_no hg
        go_wp2_with (first
          | (go_at_call 10; refine (rGood_any _ _ _).mono ?_; rintro e w' ⟨rfl, rfl⟩))
        go_roundw
        case rel => exact ⟨k + 1, by omega, by go_num, Below.more (Below.more HB.out _) _, D, ((hown.alloc _).alloc _).mono (Nat.le_succ _), by rw [HF.out, up_bad hg]; exact HD.out⟩
        case measure => simp [intOf]; omega
    · have hkn' : decide ((k : Int) < (n : Int)) = false := by simp; omega
      obtain ⟨F, eF⟩ : ∃ F, fo ks = F := ⟨_, rfl⟩
      have HLS : Hid (lst ks = lpart F 65535) := by rw [← eF]; rfl
      have HD : Hid (MapIs kki eli D F) := by
        have e : ks.take k = ks := List.take_of_length_le (by rw [HN.out]; omega)
        rw [e, eF] at hD; exact hD
      have HSZ : Hid (Maps.size D = (lpart F 65535).length) := HD.out.size
      have HB : Hid (Below w.heap.size w wr) := hb
      have HOW : Hid (wr.ownsMap Try.prog 3 (plainElem Try.prog 3) w.heap.size k D) := hown
      have hlt0 := hown.lt
      clear hD hb h1 eF hown
      go_wp2_with fail
      go_loopw [8, 9] (fun v i wr' => ∃ k2 : Nat, k2 ≤ 65535 ∧ i = .int .i64 ((k2 : Int) + 1) ∧ Below w.heap.size w wr' ∧ w.heap.size + 1 ≤ wr'.heap.size ∧ wr'.ownsMap Try.prog 3 (plainElem Try.prog 3) w.heap.size k D ∧ ∃ L, L = lpart F k2 ∧ wr'.ownsRow (w.heap.size + 1) 25 2 v (List.length L) (cellsL L)) (fun _ i _ => 65536 - (intOf i).toNat)
      case atStart => exact ⟨0, by omega, by first | rfl | go_num, HB.out, by omega, HOW.out, [], rfl, World.ownsRow_nil _ _ _ _⟩
      case round =>
        obtain ⟨k2, hk2, rfl, hb2, hw2, hown2, L, eL, hrow2⟩ := hrel
        have HL : Hid (L = lpart F k2) := eL
        have hLl : L.length ≤ 65535 := by rw [eL]; exact Nat.le_trans (lpart_le _ _) hk2
        have HB2 : Hid (Below w.heap.size w wr) := hb2
        clear eL hb2
        obtain ⟨a8, cp, hv⟩ : ∃ a8 cp, u8 = .slice a8 L.length cp := by
          rcases hrow2.2 with ⟨h0, h00⟩ | ⟨g6, cp, cur, h6, _⟩
          · exact ⟨none, 0, by rw [h0, h00]⟩
          · exact ⟨_, cp, h6⟩
        subst hv
        have hlen := hown2.len Try.underlying35
        have HEND : Hid (L = lst ks → ∃ v, Ending.returned (.slice a8 L.length cp) = .returned v ∧ wr.ownsRow (w.heap.size + 1) 25 2 v (lst ks).length (cellsL (lst ks)) ∧ Below w.heap.size w wr) := fun e => ⟨_, rfl, by rw [← e]; exact hrow2, HB2.out⟩
        by_cases hk5 : k2 < 65535
        · have b1 : (k2 : Int) + 1 ≤ 65535 := by omega
          by_cases hls : L.length < Maps.size D
          · have b2 : (L.length : Int) < (Maps.size D : Int) := by omega
            have hkey : keyOf Try.prog 3 (.int .i64 ((k2 : Int) + 1)) = some (kki ((k2 : Int) + 1)) := keyOf_int_mk Try.underlying3 (wf_of (by omega) (by omega))
            cases hf : F ((k2 : Int) + 1) with
            | none =>
              have hh := HD.out.has_no kki_inj (b := (k2 : Int) + 1) (by omega) (by omega) hf
              go_wp2_with (first
                | (at_lookup; refine wpList_lookup_own_ok_int _ rfl _ _ 35 rfl 3 3 .i64 intLaw Try.underlying35 Try.underlying3 (zeroInt _) w.heap.size k D rfl hown2 _ (kki ((k2 : Int) + 1)) rfl hkey ?_; intro p hat hwp; clear hat hwp)
                | go_in)
              go_roundw
              case rel => exact ⟨k2 + 1, by omega, by go_num, HB2.out, hw2, hown2, L, by rw [HL.out, lpart_succ, hf]; simp, hrow2⟩
              case measure => simp [intOf]; omega
            | some s =>
              have hh := HD.out.has ((k2 : Int) + 1) s hf
              have hq : ∀ p, D.atKey (kki ((k2 : Int) + 1)) (.lit (.int .i64 0)) = .lit (.int .i64 p) → p = s := fun p e => by rw [HD.out.at_yes kki_inj hf] at e; exact (eli_inj (b := 0) (c := 0) e).symm
              have HQ : Hid _ := hq
              clear hq
              go_wp2_with (first
                | (at_lookup; refine wpList_lookup_own_ok_int _ rfl _ _ 35 rfl 3 3 .i64 intLaw Try.underlying35 Try.underlying3 (zeroInt _) w.heap.size k D rfl hown2 _ (kki ((k2 : Int) + 1)) rfl hkey ?_; intro p hat hwp; have HP : Hid (p = s) := HQ.out p hat; clear hat hwp)
                | (at_builtin; refine wpList_append_own _ rfl _ _ 22 rfl (w.heap.size + 1) 25 i0 (.agg #[.int .i64 0, .int .i64 0]) 2 16 Try.underlying22 hi hz0 hz1 hz2 rfl (by decide) _ _ _ rfl (hrow2.alloc _) ⟨wr.heap.size, 0, none⟩ 1 1 [.int .i64 ((k2 : Int) + 1), .int .i64 p] rfl rfl (cell_two_at _ _ _ _ _ rfl) (by simp [Value.oneCell']) (by unfold maxLen; omega) (by omega) (by simp; omega) ?_; intro v' w3 hown' hg3 hnil3; go_frame)
                | go_in)
              have hw3 := hg3.size
              simp at hw3
              go_roundw
              case rel => exact ⟨k2 + 1, by omega, by go_num, Below.grown (Below.more HB2.out _) hg3 (by simp; omega) (fun j hj => Nat.le_of_succ_le (hrow2.lt j hj).1), by omega, (hown2.alloc _).kept hg3 (row_ne_low hrow2 (Nat.lt_succ_self _)), L ++ [((k2 : Int) + 1, p)], by rw [HL.out, lpart_succ, hf, HP.out], by rw [cellsL_append]; simpa [cellsL] using hown'⟩
              case measure => simp [intOf]; omega
          · have b2 : decide ((L.length : Int) < (Maps.size D : Int)) = false := by simp; omega
            have hend := HEND.out (by
              rw [HLS.out, HL.out]
              obtain ⟨r, hr⟩ := lpart_mono F (show k2 ≤ 65535 by omega)
              have h1 := congrArg List.length hr
              rw [List.length_append, ← HSZ.out, ← HL.out] at h1
              have : r = [] := List.length_eq_zero_iff.1 (by omega)
              rw [hr, this, List.append_nil])
            have HE : Hid _ := hend
            clear hend
            go_wp2
            go_ret
            exact HE.out
        · obtain rfl : k2 = 65535 := by omega
          have hend := HEND.out (by rw [HLS.out, HL.out])
          have HE : Hid _ := hend
          clear hend
          rw [show ((65535 : Nat) : Int) + 1 = 65536 from rfl]
          go_wp2
          go_ret
          exact HE.out
set_option maxHeartbeats 4000000 in
set_option maxRecDepth 100000 in
theorem rLeast_none (a : Option Addr) (c : Nat) (w : World) :
    Calls Try.prog 5 #[.slice a 0 c] w fun e w' => e = .returned (.slice none 0 0) ∧ Below w.heap.size w w' := by
  have hmm := @run_makeMap Try.prog
  have hown := World.ownsMap_made (H := Unit) w Try.prog 3 (plainElem Try.prog 3)
  have hlen := hown.len Try.underlying35
  go_enter Try.func5, Try.ntmps5
  go_wp2
  refine wp_loop_rounds 1 ?_
  rw [rounds_succ]
  go_wp2_with fail
  refine wp_loop_rounds 1 ?_
  rw [rounds_succ]
  go_wp2
  go_ret
  exact ⟨rfl, below1 _ _⟩
/- The document's Least, at any slice of keys. -/
theorem rLeast_any (a : Option Addr) (c : Nat) (ks : List (Int × Int)) (w : World) (hl : ks.length ≤ 8796093022208) (h : RdAt w a ks) :
    Calls Try.prog 5 #[.slice a ks.length c] w fun e w' => ∃ a' cap, e = .returned (.slice a' (lst ks).length cap) ∧ RdAt w' a' (lst ks) ∧ Below w.heap.size w w' := by
  by_cases h0 : ks = []
  · subst h0
    exact (rLeast_none a c w).mono fun e w' ⟨he, hb⟩ => ⟨none, 0, by rw [he, lst_nil]; rfl, by rw [lst_nil]; exact RdAt.nil _ _, hb⟩
  · obtain ⟨b, o, rfl, k1⟩ := h.spot h0
    refine (rLeast_some b o c ks.length ks rfl w hl k1).mono fun e w' ⟨v, he, hrow, hb⟩ => ?_
    rcases hrow.2 with ⟨hv, hn⟩ | ⟨g, cap, cur, hv, _⟩
    · have e0 : lst ks = [] := List.length_eq_zero_iff.1 hn
      exact ⟨none, 0, by rw [he, hv, e0]; rfl, by rw [e0]; exact RdAt.nil _ _, hb⟩
    · rw [hv] at hrow
      exact ⟨_, cap, by rw [he, hv], rd_of_row hrow, hb⟩
end Go.Proofs.Ytpofjkjcbflloab
