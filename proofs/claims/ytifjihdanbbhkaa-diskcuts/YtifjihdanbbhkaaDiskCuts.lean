/- For every list of writes and every number: DiskCuts answers true. No condition but the form's own reach. -/
import Derived.Test.YtifjihdanbbhkaaRows
import Derived.Test.YtifjihdanbbhkaaDkH
import Derived.Test.YtifjihdanbbhkaaOpenDk
import Derived.Deep.DeepCutAuto
namespace Go.Proofs.Ytifjihdanbbhkaa.diskCuts
open Go.ChangeShapes Go.WideShapes Go.ChangeAt Go.RowKit
set_option linter.unusedVariables false
set_option linter.unusedSimpArgs false

set_option maxHeartbeats 8000000 in
set_option maxRecDepth 100000 in
theorem walk (a0 : Option Addr) (c0 : Nat) (l0 : List (Int × ByteArray)) (a1 : Int) (w : World) (rd0 : RdW w a0 l0) (hl0 : l0.length * 24 ≤ 140737488351232) (hn0 : a0 = none → c0 = 0) (hg0 : ∀ p ∈ l0, (Lit.int .i64 p.1).wf = true ∧ p.2.size ≤ 9223372036854775807) (w1 : (Lit.int .i64 a1).wf = true) :
    Calls Try.prog 4 #[.slice a0 l0.length c0, .int .i64 a1] w fun e w' => e = .returned (.bool true) ∧ Below w.heap.size w w' := by
  obtain ⟨n, hn⟩ : ∃ n, l0.length = n := ⟨_, rfl⟩
  have HN : Hid (l0.length = n) := hn
  have HRD : Hid (RdW w a0 l0) := rd0
  have HG : Hid (∀ p ∈ l0, (Lit.int .i64 p.1).wf = true ∧ p.2.size ≤ 9223372036854775807) := hg0
  rw [hn] at hl0 ⊢
  have hnl : n ≤ 5864062014634 := by omega
  clear hn rd0 hg0 hn0
  go_enter Try.func4, Try.ntmps4
  go_wp2_with fail
  refine (lives_any _).mono ?_
  rintro e wl ⟨rfl, hbl⟩
  have HBL : Hid (Below w.heap.size w wl) := hbl
  clear hbl
  go_wp2_with fail
  refine (new_any wl).mono ?_
  rintro e w2 ⟨p, b, m, x, rfl, hd2, hb2⟩
  have HD2 : Hid (Dk wl.heap.size w2 p nu b m x) := hd2
  have HB2 : Hid (Below wl.heap.size wl w2) := hb2
  clear hd2 hb2
  go_upto_if 21 with (fail)
  go_cut [6] (fun s6 wx => ∃ k : Nat, k ≤ n ∧ s6 = .int .i64 (k : Int) ∧ wx = w2)
  case first =>
    by_cases h0 : n = 0
    · have d0 : decide ((n : Int) > 0) = false := by simp; omega
      have d0' : decide (0 < n) = false := by simp; omega
      go_wp2
      go_meet
      case rel => exact ⟨0, by omega, rfl, rfl⟩
    · have d0 : decide ((n : Int) > 0) = true := by simp; omega
      have d0' : decide (0 < n) = true := by simp; omega
      obtain ⟨k, hkn, hk⟩ := k_mod a1 n (by omega)
      go_wp2
      go_meet
      case rel => exact ⟨k, hkn, by rw [hk], rfl⟩
  case rest =>
    obtain ⟨k, hkn, rfl, rfl⟩ := hcut
    obtain ⟨T, hT⟩ : ∃ T, (im (S (l0.take k)).bl).length = T := ⟨_, rfl⟩
    have HT : Hid ((im (S (l0.take k)).bl).length = T) := hT
    have hT2 : T ≤ 2048 := by rw [← hT, im_length]; exact top_le _
    obtain ⟨L, hL⟩ : ∃ L, (S (l0.take k)).log.length = L := ⟨_, rfl⟩
    have HLN : Hid ((S (l0.take k)).log.length = L) := hL
    have hLn : L ≤ n := by rw [← hL, ← HN.out]; exact S_len l0 k
    clear hT hL
    go_wp2_with fail
    go_loopw [7, 8, 32] (fun v7 v8 i wr => ∃ j : Nat, j ≤ n ∧ i = .int .i64 (j : Int) ∧ (∃ x, Dk wl.heap.size wr p (S (l0.take j)) b m x ∧ Got wl.heap.size wr (Fd p b m x) l0 k j T L v7 v8) ∧ Below wl.heap.size wl wr) (fun _ _ i _ => n - (intOf i).toNat)
    case atStart => exact ⟨0, by omega, rfl, ⟨x, by simpa [S_nil] using HD2.out, .inl ⟨by omega, rfl, rfl⟩⟩, HB2.out⟩
    case round =>
      obtain ⟨j, hj, rfl, ⟨xj, hdj, hgot⟩, hbj⟩ := hrel
      have HDJ : Hid (Dk wl.heap.size wr p (S (l0.take j)) b m xj) := hdj
      have HBJ : Hid (Below wl.heap.size wl wr) := hbj
      by_cases hjn : j < n
      · obtain ⟨g, o, ea, hcs⟩ := HRD.out.spot (by intro e; have := HN.out; rw [e] at this; simp at this; omega)
        obtain ⟨y0, y1⟩ := hcs j (by rw [HN.out]; exact hjn)
        have x0 := cell_later (thenB HBL.out HBJ.out) (Nat.le_refl _) y0
        have x1 := cell_later (thenB HBL.out HBJ.out) (Nat.le_refl _) y1
        have hgj := HG.out (l0.getD j (0, ⟨#[]⟩)) (by rw [getD_yes _ _ (by rw [HN.out]; exact hjn)]; exact List.getElem_mem _)
        have htk1 : l0.take (j + 1) = l0.take j ++ [l0.getD j (0, ⟨#[]⟩)] := by
          rw [List.take_add_one]; simp [List.getElem?_eq_getElem (show j < l0.length by rw [HN.out]; exact hjn)]
        obtain ⟨at', t, eat⟩ : ∃ at' t, l0.getD j (0, ⟨#[]⟩) = (at', t) := ⟨_, _, rfl⟩
        rw [eat] at x0 x1 hgj htk1
        subst ea
        have HTK1 : Hid (nx (S (l0.take j)) at' t = S (l0.take (j + 1))) := by show nx (S (l0.take j)) at' t = S (l0.take (j + 1)); rw [htk1, nx_S]
        have hb1 := below1 wr (.cells #[.int .i64 at', .string t] 49)
        have HBB : Hid _ := hb1
        have HDA : Hid (Dk wl.heap.size (wr.alloc (.cells #[.int .i64 at', .string t] 49)) p (S (l0.take j)) b m xj) := HDJ.out.later hb1
        have HBA : Hid (Below wl.heap.size wl (wr.alloc (.cells #[.int .i64 at', .string t] 49))) := thenB HBJ.out hb1
        have hSl : (S (l0.take j)).log.length ≤ n := by rw [← HN.out]; exact S_len l0 j
        have j1 : (0 : Int) ≤ (j : Int) := by omega
        have j2 : (j : Int) < (n : Int) := by omega
        have HW : Hid (∀ W x', Dk wl.heap.size W p (S (l0.take j)) b m x' → Below wl.heap.size wl W → Calls Try.prog 22 #[.pointer (some ⟨p, 0, none⟩), .int .i64 at', .string t] W fun e w' => (∃ v, e = .returned (.int .i64 v)) ∧ Wrote wl.heap.size W p (S (l0.take (j + 1))) b m x' w') := fun W x' hd hb => by
          refine (write_any wl.heap.size W p _ b m x' hd at' t hgj.1 hgj.2 (by omega) hb.size).mono ?_
          rintro e w' ⟨he, hW⟩
          rw [HTK1.out] at hW
          exact ⟨⟨_, he⟩, hW⟩
        clear y0 y1 hcs eat hb1 htk1 hgj hdj hbj
        by_cases hjk : j = k
        · subst hjk
          have d0 : ((j : Int) == (j : Int)) = true := by simp
          have him := image_any wl.heap.size _ p _ b m xj HDA.out (by omega)
          go_wp2_with fail
          refine him.mono ?_
          rintro e w4 ⟨v4, rfl, hr4, hb4⟩
          have HS4 : Hid (HoldS wl.heap.size w4 (Fd p b m xj) v4 (im (S (l0.take j)).bl)) := HoldS.new hr4 HBA.out.size (fun k hk => (HDA.out.inHeap k hk).1)
          obtain ⟨a4, cap4, e4⟩ := row_spell hr4
          rw [HT.out] at e4
          subst e4
          have HD4 : Hid (Dk wl.heap.size w4 p (S (l0.take j)) b m xj) := HDA.out.later hb4
          have HB4 : Hid (Below wl.heap.size wl w4) := thenB HBA.out hb4
          have HBC : Hid (Below (wr.alloc (.cells #[.int .i64 at', .string t] 49)).heap.size (wr.alloc (.cells #[.int .i64 at', .string t] 49)) w4) := hb4
          clear hr4 hb4 him
          have hwr := writes_any wl.heap.size w4 p _ b m xj HD4.out (by omega)
          go_wp2_with fail
          refine hwr.mono ?_
          rintro e w5 ⟨v5, rfl, hr5, hb5⟩
          have HW5 : Hid (HoldW wl.heap.size w5 (Fd p b m xj) v5 (S (l0.take j)).log) := HoldW.new hr5 HB4.out.size (fun k hk => (HD4.out.inHeap k hk).1)
          have HS5 : Hid (HoldS wl.heap.size w5 (Fd p b m xj) (.slice a4 T cap4) (im (S (l0.take j)).bl)) := HS4.out.later hb5
          obtain ⟨a5, cap5, e5⟩ := row_spell hr5
          rw [HLN.out] at e5
          subst e5
          have HD5 : Hid (Dk wl.heap.size w5 p (S (l0.take j)) b m xj) := HD4.out.later hb5
          have HB5 : Hid (Below wl.heap.size wl w5) := thenB HB4.out hb5
          have z0 := cell_later (thenB HBC.out hb5) (Nat.le_refl _) (two_cells wr (.int .i64 at') (.string t) 49).1
          have z1 := cell_later (thenB HBC.out hb5) (Nat.le_refl _) (two_cells wr (.int .i64 at') (.string t) 49).2
          have hw6 := HW.out w5 xj HD5.out HB5.out
          clear hr5 hb5 hwr hgot
          go_wp2_with fail
          refine hw6.mono ?_
          rintro e w6 ⟨⟨v6, rfl⟩, x6, hd6, hk6, hf6⟩
          have HD6 : Hid (Dk wl.heap.size w6 p (S (l0.take (j + 1))) b m x6) := hd6
          have HGT : Hid (Got wl.heap.size w6 (Fd p b m x6) l0 j (j + 1) T L (.slice a4 T cap4) (.slice a5 L cap5)) := .inr ⟨by omega, a4, cap4, a5, cap5, rfl, rfl, HS5.out.kept hk6 hf6, HW5.out.kept hk6 hf6⟩
          have HB6 : Hid (Below wl.heap.size wl w6) := belowK HB5.out hk6 (fun i hi => (HD5.out.inHeap i hi).2) HB5.out.size
          clear hd6 hk6 hf6 hw6
          go_wp2
          go_roundw
          case rel => exact ⟨j + 1, by omega, by go_num, ⟨x6, HD6.out, HGT.out⟩, HB6.out⟩
          case measure => simp [intOf]; omega
        · have d0 : ((j : Int) == (k : Int)) = false := by simp; omega
          have d1 : (j == k) = false := by simp; omega
          have HGA : Hid (Got wl.heap.size (wr.alloc (.cells #[.int .i64 at', .string t] 49)) (Fd p b m xj) l0 k j T L u7 u8) := hgot.later HBB.out
          have hw6 := HW.out _ xj HDA.out HBA.out
          clear hgot
          go_wp2_with fail
          refine hw6.mono ?_
          rintro e w6 ⟨⟨v6, rfl⟩, x6, hd6, hk6, hf6⟩
          have HD6 : Hid (Dk wl.heap.size w6 p (S (l0.take (j + 1))) b m x6) := hd6
          have HGT : Hid (Got wl.heap.size w6 (Fd p b m x6) l0 k (j + 1) T L u7 u8) := HGA.out.kept hjk hk6 hf6
          have HB6 : Hid (Below wl.heap.size wl w6) := belowK HBA.out hk6 (fun i hi => (HDA.out.inHeap i hi).2) HBA.out.size
          clear hd6 hk6 hf6 hw6
          go_wp2
          go_roundw
          case rel => exact ⟨j + 1, by omega, by go_num, ⟨x6, HD6.out, HGT.out⟩, HB6.out⟩
          case measure => simp [intOf]; omega
      · have hjk' : decide ((j : Int) < (n : Int)) = false := by simp; omega
        have ej : l0.take j = l0 := List.take_of_length_le (by rw [HN.out]; omega)
        have ejn : j = n := by omega
        rw [ej] at HDJ
        have HGOT : Hid (Got wl.heap.size wr (Fd p b m xj) l0 k n T L u7 u8) := by rw [ejn] at hgot; exact hgot
        have hSn : (S l0).log.length ≤ n := by rw [← HN.out]; exact S_all l0
        clear hdj hbj hgot ej ejn
        go_upto_if 54 with (fail)
        go_cut [7, 8] (fun s7 s8 wx => ∃ a7 c7 a8 c8, s7 = .slice a7 T c7 ∧ s8 = .slice a8 L c8 ∧ HoldS wl.heap.size wx (Fd p b m xj) s7 (im (S (l0.take k)).bl) ∧ HoldW wl.heap.size wx (Fd p b m xj) s8 (S (l0.take k)).log ∧ Dk wl.heap.size wx p (S l0) b m xj ∧ Below wl.heap.size wl wx)
        case first =>
          by_cases hkk : k = n
          · have d0 : ((k : Int) == (n : Int)) = true := by simp; omega
            have d1 : (k == n) = true := by simp; omega
            have etk : l0.take k = l0 := List.take_of_length_le (by rw [HN.out]; omega)
            rw [etk] at HT HLN
            have him := image_any wl.heap.size _ p _ b m xj HDJ.out (by omega)
            clear HGOT hkk
            go_wp2_with fail
            refine him.mono ?_
            rintro e w4 ⟨v4, rfl, hr4, hb4⟩
            have HS4 : Hid (HoldS wl.heap.size w4 (Fd p b m xj) v4 (im (S l0).bl)) := HoldS.new hr4 HBJ.out.size (fun k hk => (HDJ.out.inHeap k hk).1)
            obtain ⟨a4, cap4, e4⟩ := row_spell hr4
            rw [HT.out] at e4
            subst e4
            have HD4 : Hid (Dk wl.heap.size w4 p (S l0) b m xj) := HDJ.out.later hb4
            have HB4 : Hid (Below wl.heap.size wl w4) := thenB HBJ.out hb4
            have hwr := writes_any wl.heap.size w4 p _ b m xj HD4.out (by omega)
            clear hr4 hb4 him
            go_wp2_with fail
            refine hwr.mono ?_
            rintro e w5 ⟨v5, rfl, hr5, hb5⟩
            have HW5 : Hid (HoldW wl.heap.size w5 (Fd p b m xj) v5 (S l0).log) := HoldW.new hr5 HB4.out.size (fun k hk => (HD4.out.inHeap k hk).1)
            have HS5 : Hid (HoldS wl.heap.size w5 (Fd p b m xj) (.slice a4 T cap4) (im (S l0).bl)) := HS4.out.later hb5
            obtain ⟨a5, cap5, e5⟩ := row_spell hr5
            rw [HLN.out] at e5
            subst e5
            have HD5 : Hid (Dk wl.heap.size w5 p (S l0) b m xj) := HD4.out.later hb5
            have HB5 : Hid (Below wl.heap.size wl w5) := thenB HB4.out hb5
            clear hr5 hb5 hwr
            go_wp2
            go_meet
            case rel => rw [etk]; exact ⟨a4, cap4, a5, cap5, rfl, rfl, HS5.out, HW5.out, HD5.out, HB5.out⟩
          · have d0 : ((k : Int) == (n : Int)) = false := by simp; omega
            have d1 : (k == n) = false := by simp; omega
            rcases HGOT.out with ⟨h1, _⟩ | ⟨h1, a7, c7, a8, c8, rfl, rfl, h7, h8⟩
            · omega
            have HS7 : Hid (HoldS wl.heap.size wr (Fd p b m xj) (.slice a7 T c7) (im (S (l0.take k)).bl)) := h7
            have HW8 : Hid (HoldW wl.heap.size wr (Fd p b m xj) (.slice a8 L c8) (S (l0.take k)).log) := h8
            clear h7 h8
            go_wp2
            go_meet
            case rel => exact ⟨a7, c7, a8, c8, rfl, rfl, HS7.out, HW8.out, HDJ.out, HBJ.out⟩
        case rest =>
          obtain ⟨a7, c7, a8, c8, rfl, rfl, h7, h8, hd, hb⟩ := hcut
          have HS0 : Hid (HoldS wl.heap.size wc (Fd p b m xj) (.slice a7 T c7) (im (S (l0.take k)).bl)) := h7
          have HW0 : Hid (HoldW wl.heap.size wc (Fd p b m xj) (.slice a8 L c8) (S (l0.take k)).log) := h8
          have HD0 : Hid (Dk wl.heap.size wc p (S l0) b m xj) := hd
          have HB0 : Hid (Below wl.heap.size wl wc) := hb
          clear h7 h8 hd hb HDJ HBJ HGOT
          obtain ⟨U, hU⟩ : ∃ U, (im (S l0).bl).length = U := ⟨_, rfl⟩
          have HU : Hid ((im (S l0).bl).length = U) := hU
          have hU2 : U ≤ 2048 := by rw [← hU, im_length]; exact top_le _
          have him := image_any wl.heap.size _ p _ b m xj HD0.out (by omega)
          clear hU
          go_wp2_with fail
          refine him.mono ?_
          rintro e W1 ⟨v1, rfl, hr1, hb1⟩
          obtain ⟨aw, cw, e1⟩ := row_spell hr1
          rw [HU.out] at e1
          subst e1
          have HRW : Hid (RdS W1 aw (im (S l0).bl)) := hr1.rd
          have HS1 : Hid (HoldS wl.heap.size W1 (Fd p b m xj) (.slice a7 T c7) (im (S (l0.take k)).bl)) := HS0.out.later hb1
          have HW1 : Hid (HoldW wl.heap.size W1 (Fd p b m xj) (.slice a8 L c8) (S (l0.take k)).log) := HW0.out.later hb1
          have HD1 : Hid (Dk wl.heap.size W1 p (S l0) b m xj) := HD0.out.later hb1
          have HB1 : Hid (Below wl.heap.size wl W1) := thenB HB0.out hb1
          have hct := cut_any wl.heap.size W1 p _ b m xj HD1.out (by omega) (L : Int) (wf_of (by omega) (by omega))
          have ect : ct (S l0) (L : Int).toNat = S (l0.take k) := by rw [Int.toNat_natCast, ← HLN.out]; exact S_take l0 k
          rw [ect] at hct
          clear hr1 hb1 him HS0 HW0 HD0 HB0 ect
          go_wp2_with fail
          refine hct.mono ?_
          rintro e W2 ⟨pc, bc, mc, xc, rfl, hdc, hb2⟩
          have HC2 : Hid (Dk W1.heap.size W2 pc (S (l0.take k)) bc mc xc) := hdc
          have HB2 : Hid (Below W1.heap.size W1 W2) := hb2
          have hon := on_any W1.heap.size W2 pc _ bc mc xc hdc
          rw [show decide ((S (l0.take k)).left ≠ 0) = true from rfl] at hon
          have him := image_any W1.heap.size W2 pc _ bc mc xc hdc (by rw [HLN.out]; omega)
          clear hdc hb2 hct
          go_wp2_with fail
          refine hon.mono ?_
          rintro e W2' ⟨rfl, rfl⟩
          clear hon
          go_wp2_with fail
          refine him.mono ?_
          rintro e W3 ⟨v3, rfl, hr3, hb3⟩
          obtain ⟨a3, cp3, e3⟩ := row_spell hr3
          rw [HT.out] at e3
          subst e3
          have hsm := same_n HT.out (by omega) a3 a7 cp3 c7 W3 hr3.rd ((HS1.out.later HB2.out).later hb3).rd
          have HB3 : Hid (Below W1.heap.size W1 W3) := thenB HB2.out hb3
          have HC3 : Hid (Dk W1.heap.size W3 pc (S (l0.take k)) bc mc xc) := HC2.out.later hb3
          clear hr3 hb3 him
          go_wp2_with fail
          refine hsm.mono ?_
          rintro e W4 ⟨rfl, hb4⟩
          have HB4 : Hid (Below W1.heap.size W1 W4) := thenB HB3.out hb4
          have HC4 : Hid (Dk W1.heap.size W4 pc (S (l0.take k)) bc mc xc) := HC3.out.later hb4
          have hwr := writes_any W1.heap.size W4 pc _ bc mc xc HC4.out (by rw [HLN.out]; omega)
          clear hb4 hsm
          go_wp2_with fail
          refine hwr.mono ?_
          rintro e W5 ⟨v5, rfl, hr5, hb5⟩
          obtain ⟨a5, cp5, e5⟩ := row_spell hr5
          rw [HLN.out] at e5
          subst e5
          have hsm := sameW_n HLN.out (by omega) a5 a8 cp5 c8 W5 hr5.rd ((HW1.out.later HB4.out).later hb5).rd
          have HB5 : Hid (Below W1.heap.size W1 W5) := thenB HB4.out hb5
          have HC5 : Hid (Dk W1.heap.size W5 pc (S (l0.take k)) bc mc xc) := HC4.out.later hb5
          clear hr5 hb5 hwr
          go_wp2_with fail
          refine hsm.mono ?_
          rintro e W6 ⟨rfl, hb6⟩
          have HB6 : Hid (Below W1.heap.size W1 W6) := thenB HB5.out hb6
          have HC6 : Hid (Dk W1.heap.size W6 pc (S (l0.take k)) bc mc xc) := HC5.out.later hb6
          clear hb6 hsm
          go_wp2_with fail
          refine (new_any W6).mono ?_
          rintro e W7 ⟨pa, ba, ma, xa, rfl, hda, hb7⟩
          have HA7 : Hid (Dk W6.heap.size W7 pa nu ba ma xa) := hda
          have HB7 : Hid (Below W6.heap.size W6 W7) := hb7
          have HD7 : Hid (Dk wl.heap.size W7 p (S l0) b m xj) := HD1.out.later (thenB HB6.out hb7)
          obtain ⟨Q, hQ⟩ : ∃ Q, (S l0).log.length = Q := ⟨_, rfl⟩
          have HQ : Hid ((S l0).log.length = Q) := hQ
          have hQn : Q ≤ n := by rw [← hQ]; exact hSn
          have hwr := writes_any wl.heap.size W7 p _ b m xj HD7.out (by omega)
          clear hda hb7 hQ
          go_wp2_with fail
          refine hwr.mono ?_
          rintro e W8 ⟨v8, rfl, hr8, hb8⟩
          have HH8 : Hid (HoldW W6.heap.size W8 (Fd pa ba ma xa) v8 (S l0).log) := HoldW.new hr8 HB7.out.size (fun k hk => (HA7.out.inHeap k hk).1)
          obtain ⟨ar, cr, e8⟩ := row_spell hr8
          rw [HQ.out] at e8
          subst e8
          have HA8 : Hid (Dk W6.heap.size W8 pa nu ba ma xa) := HA7.out.later hb8
          have HB8 : Hid (Below W6.heap.size W6 W8) := thenB HB7.out hb8
          clear hr8 hb8 hwr HA7 HD7 HB7
          go_wp2_with fail
          go_loopw [90] (fun i wr => ∃ j : Nat, j ≤ Q ∧ i = .int .i64 (j : Int) ∧ (∃ x, Dk W6.heap.size wr pa (S ((S l0).log.take j)) ba ma x ∧ HoldW W6.heap.size wr (Fd pa ba ma x) (.slice ar Q cr) (S l0).log) ∧ Below W6.heap.size W6 wr) (fun i _ => Q - (intOf i).toNat)
          case atStart => exact ⟨0, by omega, rfl, ⟨xa, by simpa [S_nil] using HA8.out, HH8.out⟩, HB8.out⟩
          case round =>
            obtain ⟨j', hj', rfl, ⟨xr, hdr, hhr⟩, hbr⟩ := hrel
            have HAR : Hid (Dk W6.heap.size wr pa (S ((S l0).log.take j')) ba ma xr) := hdr
            have HHR : Hid (HoldW W6.heap.size wr (Fd pa ba ma xr) (.slice ar Q cr) (S l0).log) := hhr
            have HBR : Hid (Below W6.heap.size W6 wr) := hbr
            clear hdr hhr hbr HA8 HH8 HB8
            by_cases hjq : j' < Q
            · obtain ⟨g, o, ea, hcs⟩ := HHR.out.rd.spot (by intro e; have := HQ.out; rw [e] at this; simp at this; omega)
              obtain ⟨x0, x1⟩ := hcs j' (by rw [HQ.out]; exact hjq)
              have hgj := S_good l0 ((S l0).log.getD j' (0, ⟨#[]⟩)) (by rw [getD_yes _ _ (by rw [HQ.out]; exact hjq)]; exact List.getElem_mem _)
              have htk1 : (S l0).log.take (j' + 1) = (S l0).log.take j' ++ [(S l0).log.getD j' (0, ⟨#[]⟩)] := by
                rw [List.take_add_one]; simp [List.getElem?_eq_getElem (show j' < (S l0).log.length by rw [HQ.out]; exact hjq)]
              obtain ⟨at', t, eat⟩ : ∃ at' t, (S l0).log.getD j' (0, ⟨#[]⟩) = (at', t) := ⟨_, _, rfl⟩
              rw [eat] at x0 x1 hgj htk1
              subst ea
              have HTK1 : Hid (nx (S ((S l0).log.take j')) at' t = S ((S l0).log.take (j' + 1))) := by show nx (S ((S l0).log.take j')) at' t = S ((S l0).log.take (j' + 1)); rw [htk1, nx_S]
              have hb1 := below1 wr (.cells #[.int .i64 at', .string t] 49)
              have HAA : Hid (Dk W6.heap.size (wr.alloc (.cells #[.int .i64 at', .string t] 49)) pa (S ((S l0).log.take j')) ba ma xr) := HAR.out.later hb1
              have HHA : Hid (HoldW W6.heap.size (wr.alloc (.cells #[.int .i64 at', .string t] 49)) (Fd pa ba ma xr) (.slice (some ⟨g, o, none⟩) Q cr) (S l0).log) := HHR.out.later hb1
              have HBA : Hid (Below W6.heap.size W6 (wr.alloc (.cells #[.int .i64 at', .string t] 49))) := thenB HBR.out hb1
              have hwt := write_any W6.heap.size _ pa _ ba ma xr HAA.out at' t (wf_of (by have := hgj.1; simp at this; omega) (by have := hgj.2.1; simp at this; omega)) (by have := hgj.2.2; simp at this; omega) (by have := S_len (S l0).log j'; rw [HQ.out] at this; omega) HBA.out.size
              rw [show we (S ((S l0).log.take j')).left at' t = 0 from we_good (by show (-1 : Int) ≠ 0; decide) hgj, HTK1.out] at hwt
              have j1 : (0 : Int) ≤ (j' : Int) := by omega
              have j2 : (j' : Int) < (Q : Int) := by omega
              clear hcs hgj htk1 eat hb1
              go_wp2_with fail
              refine hwt.mono ?_
              rintro e w9 ⟨rfl, x9, hd9, hk9, hf9⟩
              have HD9 : Hid (Dk W6.heap.size w9 pa (S ((S l0).log.take (j' + 1))) ba ma x9) := hd9
              have HH9 : Hid (HoldW W6.heap.size w9 (Fd pa ba ma x9) (.slice (some ⟨g, o, none⟩) Q cr) (S l0).log) := HHA.out.kept hk9 hf9
              have HB9 : Hid (Below W6.heap.size W6 w9) := belowK HBA.out hk9 (fun i hi => (HAA.out.inHeap i hi).2) HBA.out.size
              clear hd9 hk9 hf9 hwt
              go_wp2
              go_roundw
              case rel => exact ⟨j' + 1, by omega, by go_num, ⟨x9, HD9.out, HH9.out⟩, HB9.out⟩
              case measure => simp [intOf]; omega
            · have hjq' : decide ((j' : Int) < (Q : Int)) = false := by simp; omega
              have ej : (S l0).log.take j' = (S l0).log := List.take_of_length_le (by rw [HQ.out]; omega)
              rw [ej, S_log] at HAR
              have him := image_any W6.heap.size wr pa _ ba ma xr HAR.out (by omega)
              clear ej
              go_wp2_with fail
              refine him.mono ?_
              rintro e V1 ⟨v1, rfl, hr1, hb1⟩
              obtain ⟨ai, ci, e1⟩ := row_spell hr1
              rw [HU.out] at e1
              subst e1
              have HX1 : Hid (Below W1.heap.size W1 V1) := thenB HB6.out (thenB HBR.out hb1)
              have hsm := same_n HU.out (by omega) ai aw ci cw V1 hr1.rd (HRW.out.later HX1.out)
              have HCV : Hid (Dk W1.heap.size V1 pc (S (l0.take k)) bc mc xc) := HC6.out.later (thenB HBR.out hb1)
              clear hr1 hb1 him
              go_wp2_with fail
              refine hsm.mono ?_
              rintro e V2 ⟨rfl, hb2⟩
              have HX2 : Hid (Below W1.heap.size W1 V2) := thenB HX1.out hb2
              have HCV2 : Hid (Dk W1.heap.size V2 pc (S (l0.take k)) bc mc xc) := HCV.out.later hb2
              have hwt := write_any W1.heap.size V2 pc _ bc mc xc HCV2.out 7 ⟨#[111, 116, 104, 101, 114]⟩ (by decide) (by decide) (by rw [HLN.out]; omega) HX2.out.size
              rw [show we (S (l0.take k)).left 7 ⟨#[111, 116, 104, 101, 114]⟩ = 0 from we_good (by show (-1 : Int) ≠ 0; decide) ⟨by decide, by decide, by decide⟩, nx_S] at hwt
              clear hb2 hsm HCV
              go_wp2_with fail
              refine hwt.mono ?_
              rintro e V3 ⟨rfl, x3, hd3, hk3, _⟩
              have HC7 : Hid (Dk W1.heap.size V3 pc (S (l0.take k ++ [(7, ⟨#[111, 116, 104, 101, 114]⟩)])) bc mc x3) := hd3
              have HX3 : Hid (Below W1.heap.size W1 V3) := belowK HX2.out hk3 (fun i hi => (HCV2.out.inHeap i hi).2) HX2.out.size
              have hwt := write_any W1.heap.size V3 pc _ bc mc x3 HC7.out 1 ⟨#[]⟩ (by decide) (by decide) (by
                have h1 := List.length_filter_le gdb (l0.take k ++ [(7, ⟨#[111, 116, 104, 101, 114]⟩)])
                have h2 : (l0.take k).length ≤ l0.length := by simp; omega
                rw [HN.out] at h2
                show (List.filter gdb (l0.take k ++ [(7, ⟨#[111, 116, 104, 101, 114]⟩)])).length + 1 ≤ _
                simp only [List.length_append, List.length_cons, List.length_nil] at h1
                omega) HX3.out.size
              rw [show we (S (l0.take k ++ [(7, ⟨#[111, 116, 104, 101, 114]⟩)])).left 1 ⟨#[]⟩ = 0 from we_good (by show (-1 : Int) ≠ 0; decide) ⟨by decide, by decide, by decide⟩, nx_S] at hwt
              clear hd3 hk3
              go_wp2_with fail
              refine hwt.mono ?_
              rintro e V4 ⟨rfl, x4, hd4, hk4, _⟩
              obtain ⟨l4, el4⟩ : ∃ l4, l0.take k ++ [(7, ⟨#[111, 116, 104, 101, 114]⟩)] ++ [(1, ⟨#[]⟩)] = l4 := ⟨_, rfl⟩
              rw [el4] at hd4
              have HC8 : Hid (Dk W1.heap.size V4 pc (S l4) bc mc x4) := hd4
              have HX4 : Hid (Below W1.heap.size W1 V4) := belowK HX3.out hk4 (fun i hi => (HC7.out.inHeap i hi).2) HX3.out.size
              have HD4 : Hid (Dk wl.heap.size V4 p (S l0) b m xj) := HD1.out.later HX4.out
              have him := image_any wl.heap.size V4 p _ b m xj HD4.out (by omega)
              clear hd4 hk4 hwt el4
              go_wp2_with fail
              refine him.mono ?_
              rintro e V5 ⟨v5, rfl, hr5, hb5⟩
              obtain ⟨a6, c6, e6⟩ := row_spell hr5
              rw [HU.out] at e6
              subst e6
              have HX5 : Hid (Below W1.heap.size W1 V5) := thenB HX4.out hb5
              have HC9 : Hid (Dk W1.heap.size V5 pc (S l4) bc mc x4) := HC8.out.later hb5
              have hsm := same_n HU.out (by omega) a6 aw c6 cw V5 hr5.rd (HRW.out.later HX5.out)
              clear hr5 hb5 him
              go_wp2_with fail
              refine hsm.mono ?_
              rintro e V6 ⟨rfl, hb6⟩
              have HX6 : Hid (Below W1.heap.size W1 V6) := thenB HX5.out hb6
              have HC10 : Hid (Dk W1.heap.size V6 pc (S l4) bc mc x4) := HC9.out.later hb6
              have HD6 : Hid (Dk wl.heap.size V6 p (S l0) b m xj) := HD1.out.later HX6.out
              have HS6 : Hid (HoldS wl.heap.size V6 (Fd p b m xj) (.slice a7 T c7) (im (S (l0.take k)).bl)) := HS1.out.later HX6.out
              have hof := off_any wl.heap.size V6 p _ b m xj HD6.out
              clear hb6 hsm
              go_wp2_with fail
              refine hof.mono ?_
              rintro e V7 ⟨rfl, hd7, hk7⟩
              have HD7 : Hid (Dk wl.heap.size V7 p ⟨[], (S l0).log, 0⟩ b m xj) := hd7
              have HC11 : Hid (Dk W1.heap.size V7 pc (S l4) bc mc x4) := HC10.out.kept hk7 (fun i h1 h2 => by have := (HC10.out.inHeap i h1).2; have := (HD1.out.inHeap i h2).1; omega)
              have HS7 : Hid (HoldS wl.heap.size V7 (Fd p b m xj) (.slice a7 T c7) (im (S (l0.take k)).bl)) := HS6.out.kept hk7 (fun i h => .inl h)
              have HX7 : Hid (Below wl.heap.size wl V7) := belowK (belowN HB1.out (belowW HX6.out HB1.out.size)) hk7 (fun i hi => (HD6.out.inHeap i hi).2) (Nat.le_trans HB1.out.size HX6.out.size)
              have hon := on_any W1.heap.size V7 pc _ bc mc x4 HC11.out
              rw [show decide ((S l4).left ≠ 0) = true from rfl] at hon
              have hon2 := on_any wl.heap.size V7 p _ b m xj HD7.out
              rw [show decide ((St.mk [] (S l0).log 0).left ≠ 0) = false from rfl] at hon2
              have hct := cut_any wl.heap.size V7 p _ b m xj HD7.out (by show (S l0).log.length ≤ _; omega) (L : Int) (wf_of (by omega) (by omega))
              have ect : ct ⟨[], (S l0).log, 0⟩ (L : Int).toNat = S (l0.take k) := by rw [Int.toNat_natCast, ← HLN.out]; exact S_take l0 k
              rw [ect] at hct
              clear hd7 hk7 hof ect
              go_wp2_with fail
              refine hon.mono ?_
              rintro e V8 ⟨rfl, rfl⟩
              clear hon
              go_wp2_with fail
              refine hon2.mono ?_
              rintro e V9 ⟨rfl, rfl⟩
              clear hon2
              go_wp2_with fail
              refine hct.mono ?_
              rintro e V10 ⟨pz, bz, mz, xz, rfl, hdz, hb10⟩
              have HZ : Hid (Dk V9.heap.size V10 pz (S (l0.take k)) bz mz xz) := hdz
              have HX10 : Hid (Below V9.heap.size V9 V10) := hb10
              have him := image_any V9.heap.size V10 pz _ bz mz xz hdz (by rw [HLN.out]; omega)
              clear hdz hb10 hct
              go_wp2_with fail
              refine him.mono ?_
              rintro e V11 ⟨v11, rfl, hr11, hb11⟩
              obtain ⟨a11, c11, e11⟩ := row_spell hr11
              rw [HT.out] at e11
              subst e11
              have hsm := same_n HT.out (by omega) a11 a7 c11 c7 V11 hr11.rd (HS7.out.later (thenB HX10.out hb11)).rd
              have HX11 : Hid (Below wl.heap.size wl V11) := thenB HX7.out (thenB HX10.out hb11)
              clear hr11 hb11 him
              go_wp2_with fail
              refine hsm.mono ?_
              rintro e V12 ⟨rfl, hb12⟩
              have HX12 : Hid (Below wl.heap.size wl V12) := thenB HX11.out hb12
              clear hb12 hsm
              go_wp2
              go_ret
              exact ⟨rfl, thenB HBL.out HX12.out⟩
theorem own : ownKnob Try.prog.godebug = none := by kernel_rfl
theorem laidOut : laidOutB Try.prog = true := by kernel_rfl
set_option maxRecDepth 100000 in
theorem lifted (os : Os) (started : os.Started) (H : Type) (enc : TypeId × Value → H) :
    ReturnsInHanded {} Try.checked os 4 .any (Rows.diskCutsSpec.pre6 enc Try.prog Try.f4 Rows.diskCutsRow.domain false) (Rows.diskCutsSpec.post enc Try.prog Try.f4 false true false false) := by
  refine returnsInHanded_of_change_sized (C := Try.checked) own started (by kernel_rfl) Try.func4
    (ChangeSpec.witness6 (enc := enc) (C := Try.checked) false ⟨#[], #[.slice none 0 0, .int .i64 0], []⟩ 8 (by kernel_rfl) (by kernel_rfl) (by kernel_rfl) (by kernel_rfl)) ?_
  intro W base args ds gs before hval0 hW hcnd hsz0 _
  have hsz : (DataW.weightsEach Try.prog (Try.f4.params.toList ++ Rows.diskCutsSpec.plain.varTypes Try.prog) (ds ++ gs)).all (· ≤ reachBytes) = true := hsz0
  clear hsz0
  have hval : ∀ (j : Nat) t v, Try.f4.params[j]? = some t → args[j]? = some v → Value.okWide Try.prog W .any base t v := hval0
  have hW' := hW
  obtain ⟨p, q, hA0, hV, rfl, hfz, hnd⟩ := hW
  have hA : DataW.TrodAll enc Try.prog W 0 (fun _ => true) true Try.f4.params.toList args.toList ds p := hA0
  rw [Try.params4] at hA hval hsz
  obtain ⟨v0, vs0, d0, ds0, p0, q0, hargs, rfl, rfl, h0, r0⟩ := trodAll_cons hA
  obtain ⟨v1, vs1, d1, ds1, p1, q1, rfl, rfl, rfl, h1, r1⟩ := trodAll_cons r0
  obtain ⟨rfl, rfl, rfl⟩ := trodAll_nil r1
  obtain rfl : args = #[v0, v1] := by cases args; simp_all
  obtain ⟨rfl, rfl⟩ := trodVars_none hV
  have k0 := h0
  have lt0 : ∀ x ∈ p0, x.block < W.heap.size := by obtain ⟨m, hm⟩ := k0; exact DataW.trod_lt m _ _ _ hm
  obtain ⟨a0, c0, l0, rfl, rd0, hl0, hn0, hg0⟩ := writes_of (fun es sp e => by subst e; have h := sized_slice hsz (j := 0) (t := 42) (e := 49) rfl rfl Try.underlying42; rw [bytesW] at h; exact h) (okWide_slice Try.underlying42 (hval 0 42 v0 rfl rfl)) h0
  obtain ⟨a1, rfl, rfl, rfl, w1⟩ := open_int Try.underlying3 (hval 1 3 v1 rfl rfl) h1
  clear hA0 hval0
  refine (walk a0 c0 l0 a1 W rd0 hl0 hn0 hg0 w1).mono fun e W' ⟨he, bel⟩ => ?_
  subst he
  exact ⟨_, rfl, _, _, _, [], _, [], hW', trodAll_mk1 (shut_bool Try.underlying4 _), (trodAll_cons_mk (Below.trod laidOut (by kernel_rfl) (of_decide_eq_true (by kernel_rfl)) k0 bel lt0) (trodAll_cons_mk (shut_int Try.underlying3 w1) trodAll_mk0)), rfl, bel.frame _, fun h => by cases h⟩
theorem over : Rows.diskCutsRow.holds Try.pinned (OpenSpec.ofChange Rows.diskCutsSpec) :=
  OpenClaim.holds_of_wide 4 Try.f4 rfl rfl rfl rfl rfl rfl rfl ⟨rfl, rfl, rfl, rfl, rfl⟩ rfl rfl rfl rfl rfl (by kernel_rfl) Try.func4 (by kernel_rfl)
    (of_decide_eq_true (by kernel_rfl)) (by unfold Func.isWrapper; first | (rw [if_pos (by decide +kernel)]; kernel_rfl) | (rw [if_neg (by decide +kernel)]; exact ⟨rfl, rfl⟩))
    (fun os started H enc _ => lifted os started H enc)
end Go.Proofs.Ytifjihdanbbhkaa.diskCuts
namespace Go.Proofs.Ytifjihdanbbhkaa
theorem diskCuts_holds : Rows.DiskCutsSaid := diskCuts.over
#print axioms diskCuts_holds
end Go.Proofs.Ytifjihdanbbhkaa
