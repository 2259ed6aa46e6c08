/- For every piece, every place and all four bytes: a right piece's block, spoilt within four neighbouring bytes of its first 28 or of its last four, is refused; if it is the same still, it is taken. No conditions. -/
import Derived.Test.YtoohoapbcdekgaaRows
import Derived.Test.YtoohoapbcdekgaaFrL
import Derived.Test.YtoohoapbcdekgaaSumE
import Derived.Test.YtoohoapbcdekgaaOpenFr
import Derived.Test.YtoohoapbcdekgaaOpenArr4
import Derived.OpenShut
import Derived.SizedLaws
import Derived.ChangeMaps5
namespace Go.Proofs.Ytoohoapbcdekgaa.frameTurned
open Go.ChangeShapes Go.WideShapes Go.ChangeAt Go.RowKit Go.Maps
set_option linter.unusedVariables false
set_option linter.unusedSimpArgs false

theorem mod_of (n m : Int) (hm0 : 0 < m) (hm1 : m ≤ 140737488351232) : ∃ v : Nat, wrap64 ((IntKind.u64.wrap n).tmod m) = (v : Int) ∧ (v : Int) < m := by
  have h0 : 0 ≤ IntKind.u64.wrap n := by simp only [IntKind.wrap_u64]; omega
  have h1 : 0 ≤ IntKind.u64.wrap n % m := Int.emod_nonneg _ (by omega)
  have h2 : IntKind.u64.wrap n % m < m := Int.emod_lt_of_pos _ hm0
  refine ⟨(IntKind.u64.wrap n % m).toNat, ?_, by omega⟩
  rw [Int.tmod_eq_emod_of_nonneg h0]
  have h3 : wrap64 (IntKind.u64.wrap n % m) = IntKind.u64.wrap n % m := by unfold wrap64; omega
  rw [h3]; omega
theorem turned_ub (q p n : Int) (d : ByteArray) (h : rt q p n d.size = true) (F : Nat) (B : List UInt8) (hB : B.length = 4) (hF : F ≤ 24 ∨ F = 28) (hU : Ub ⟨(lay (bl q p n d).data.toList B F 4).toArray⟩) : lay (bl q p n d).data.toList B F 4 = (bl q p n d).data.toList := by
  obtain ⟨h1, h2, h3, h4, h5, h6, h7, h8⟩ := (rt_iff _ _ _ _).1 h
  have hs := hU.same
  obtain ⟨s, es⟩ : ∃ s : ByteArray, ⟨(lay (bl q p n d).data.toList B F 4).toArray⟩ = s := ⟨_, rfl⟩
  have el : s.data.toList = lay (bl q p n d).data.toList B F 4 := by rw [← es]
  rw [es] at hs hU
  have hsz := rdd_size s hU.size hU.len
  have hb := congrArg (fun x : ByteArray => x.data.toList) hs
  simp only [bl_list] at hb
  rw [el] at hb
  rw [bl_list] at hb ⊢
  exact spoilt _ _ _ _ (by rw [dlen]; omega) _ _ _ _ (by rw [dlen, hsz]; exact hU.len) F B hB hF hb
theorem ub_same (q p n : Int) (d : ByteArray) (h : rt q p n d.size = true) (W : World) : Calls Try.prog 14 #[.string (bl q p n d)] W fun e w' => e = .returned (.tuple #[.agg #[.int .i64 q, .int .i64 p, .int .i64 n, .string d], .int .i64 0]) ∧ Below W.heap.size W w' := by
  have hu := unblock_yes (bl q p n d) W (ub_bl q p n d h)
  rw [rq_bl q p n d h, (bts_bl q p n d h).1, (bts_bl q p n d h).2, rdd_bl q p n d h] at hu
  exact hu
set_option maxHeartbeats 4000000 in
set_option maxRecDepth 100000 in
theorem walk (a0_0 a0_1 a0_2 : Int) (s0 : ByteArray) (a1 : Int) (z0 z1 z2 z3 : Int) (w0_0 : (Lit.int .i64 a0_0).wf = true) (w0_1 : (Lit.int .i64 a0_1).wf = true) (w0_2 : (Lit.int .i64 a0_2).wf = true) (hz0 : s0.size ≤ 9223372036854775807) (w1 : (Lit.int .i64 a1).wf = true) (y0 : (Lit.int .u8 z0).wf = true) (y1 : (Lit.int .u8 z1).wf = true) (y2 : (Lit.int .u8 z2).wf = true) (y3 : (Lit.int .u8 z3).wf = true) (w : World) :
    Calls Try.prog 7 #[.agg #[.int .i64 a0_0, .int .i64 a0_1, .int .i64 a0_2, .string s0], .int .i64 a1, .agg #[.int .u8 z0, .int .u8 z1, .int .u8 z2, .int .u8 z3]] w fun e w' => e = .returned (.bool true) ∧ Below w.heap.size w w' := by
  have g0 := bounds_u8 y0
  have g1 := bounds_u8 y1
  have g2 := bounds_u8 y2
  have g3 := bounds_u8 y3
  clear w1 y0 y1 y2 y3 w0_0 w0_1 w0_2 hz0
  have ofu : ∀ z : Int, 0 ≤ z ∧ z ≤ 255 → ∃ b : UInt8, z = (b.toNat : Int) := fun z h => ⟨UInt8.ofNat z.toNat, by simp [UInt8.toNat_ofNat']; omega⟩
  obtain ⟨b0, rfl⟩ := ofu z0 g0
  obtain ⟨b1, rfl⟩ := ofu z1 g1
  obtain ⟨b2, rfl⟩ := ofu z2 g2
  obtain ⟨b3, rfl⟩ := ofu z3 g3
  clear g0 g1 g2 g3 ofu
  have hB1 := fun W => block_any a0_0 a0_1 a0_2 s0 W
  cases hr : rt a0_0 a0_1 a0_2 s0.size with
  | false =>
    simp only [hr] at hB1
    clear hr
    go_enter Try.func7, Try.ntmps7
    go_wp2_with fail
    refine (lives_any _).mono ?_
    rintro e w1 ⟨rfl, hb1⟩
    have HB1 : Hid (Below w.heap.size w w1) := Below.then (Below.more (below1 _ _) _) hb1
    have c0 : w1.cell? ⟨w.heap.size, 0, none⟩ = some (.int .i64 a0_0) := cell_later hb1 (by simp [go_sem])
    have c1 : w1.cell? ⟨w.heap.size, 1, none⟩ = some (.int .i64 a0_1) := cell_later hb1 (by simp [go_sem])
    have c2 : w1.cell? ⟨w.heap.size, 2, none⟩ = some (.int .i64 a0_2) := cell_later hb1 (by simp [go_sem])
    have c3 : w1.cell? ⟨w.heap.size, 3, none⟩ = some (.string s0) := cell_later hb1 (by simp [go_sem])
    clear hb1
    go_wp2_with fail
    refine (hB1 _).mono ?_
    rintro e w2 ⟨rfl, hb2⟩
    go_wp2_with fail
    go_ret
    exact ⟨rfl, Below.then HB1.out hb2⟩
  | true =>
    simp only [hr, if_true] at hB1
    have HTU := fun F hF => turned_ub a0_0 a0_1 a0_2 s0 hr F [b0, b1, b2, b3] rfl hF
    have HUS : Hid (∀ W, Calls Try.prog 14 #[.string (bl a0_0 a0_1 a0_2 s0)] W fun e w' => e = .returned (.tuple #[.agg #[.int .i64 a0_0, .int .i64 a0_1, .int .i64 a0_2, .string s0], .int .i64 0]) ∧ Below W.heap.size W w') := ub_same a0_0 a0_1 a0_2 s0 hr
    have HUT : Hid (Ub (bl a0_0 a0_1 a0_2 s0)) := ub_bl _ _ _ _ hr
    have hT32 := HUT.out.size
    have hTL := dlen (bl a0_0 a0_1 a0_2 s0)
    rw [hT32] at hTL
    obtain ⟨T, hT⟩ : ∃ T, bl a0_0 a0_1 a0_2 s0 = T := ⟨_, rfl⟩
    simp only [hT] at hB1 HTU hT32 hTL
    rw [hT] at HUS HUT
    have HTL : Hid (T.data.toList.length = 32) := hTL
    clear hr hT hTL
    have hcv0 := fun W => run_bytes_of_string (P := Try.prog) W 9 44 5 T Try.underlying9 Try.underlying44 Try.underlying5
    rw [hT32] at hcv0
    obtain ⟨G, hG, hG26⟩ := mod_of a1 26 (by omega) (by omega)
    go_enter Try.func7, Try.ntmps7
    go_wp2_with fail
    refine (lives_any _).mono ?_
    rintro e w9 ⟨rfl, hb9⟩
    have HB9 : Hid (Below w.heap.size w w9) := Below.then (Below.more (below1 _ _) _) hb9
    have c0 : w9.cell? ⟨w.heap.size, 0, none⟩ = some (.int .i64 a0_0) := cell_later hb9 (by simp [go_sem])
    have c1 : w9.cell? ⟨w.heap.size, 1, none⟩ = some (.int .i64 a0_1) := cell_later hb9 (by simp [go_sem])
    have c2 : w9.cell? ⟨w.heap.size, 2, none⟩ = some (.int .i64 a0_2) := cell_later hb9 (by simp [go_sem])
    have c3 : w9.cell? ⟨w.heap.size, 3, none⟩ = some (.string s0) := cell_later hb9 (by simp [go_sem])
    have cb9 : ∀ (k : Nat) (b : UInt8), [b0, b1, b2, b3][k]? = some b → w9.cell? ⟨w.heap.size + 1, k, none⟩ = some (.int .u8 (b.toNat : Int)) := by
      intro k b hk
      refine cell_later hb9 ?_
      match k, hk with
      | 0, hk => simp at hk; subst hk; simp [go_sem]
      | 1, hk => simp at hk; subst hk; simp [go_sem]
      | 2, hk => simp at hk; subst hk; simp [go_sem]
      | 3, hk => simp at hk; subst hk; simp [go_sem]
    have HC9 : Hid (∀ (k : Nat) (b : UInt8), [b0, b1, b2, b3][k]? = some b → w9.cell? ⟨w.heap.size + 1, k, none⟩ = some (.int .u8 (b.toNat : Int))) := cb9
    clear hb9 cb9
    go_wp2_with fail
    refine (hB1 _).mono ?_
    rintro e w1 ⟨rfl, hb1⟩
    have HB1 : Hid (Below w.heap.size w w1) := Below.then HB9.out hb1
    have HCB : Hid (∀ (k : Nat) (b : UInt8), [b0, b1, b2, b3][k]? = some b → w1.cell? ⟨w.heap.size + 1, k, none⟩ = some (.int .u8 (b.toNat : Int))) := fun k b hk => cell_later hb1 (HC9.out k b hk)
    have s1 : w.heap.size + 1 < w1.heap.size := World.block_lt_of_cell? w1 ⟨w.heap.size + 1, 0, none⟩ (HCB.out 0 b0 rfl)
    have d0 := cell_later hb1 c0
    have d1 := cell_later hb1 c1
    have d2 := cell_later hb1 c2
    have d3 := cell_later hb1 c3
    clear hb1 c0 c1 c2 c3 hB1 HC9 HB9
    have c0 := d0
    have c1 := d1
    have c2 := d2
    have c3 := d3
    clear d0 d1 d2 d3
    by_cases h25 : G = 25
    · subst h25
      obtain ⟨F, hF⟩ : ∃ F : Nat, F = 28 := ⟨_, rfl⟩
      have HTU : Hid (Ub ⟨(lay T.data.toList [b0, b1, b2, b3] F 4).toArray⟩ → lay T.data.toList [b0, b1, b2, b3] F 4 = T.data.toList) := HTU F (.inr hF)
      have hF28 : F ≤ 28 := by omega
      go_wp2_with fail
      rw [show (28 : Int) = (F : Int) by omega]
      obtain ⟨C, hC⟩ : ∃ C, grownCap w1 32 0 5 = C := ⟨_, rfl⟩
      rw [hC]
      clear hcv0 hG hC hG26 hF
      go_loopw [11] (fun i wr => ∃ k : Nat, k ≤ 4 ∧ i = .int .i64 (k : Int) ∧ Sm.Bs wr w1.heap.size (lay T.data.toList [b0, b1, b2, b3] F k) ∧ Below w1.heap.size w1 wr) (fun i _ => 4 - (intOf i).toNat)
      case atStart => exact ⟨0, by omega, rfl, by rw [lay_zero]; exact Sm.bs_conv w1 T _ C, Below.drew ((Below.refl _ _).alloc (Nat.le_refl _) _)⟩
      case round =>
        obtain ⟨k, hk4, rfl, hbs, hb⟩ := hrel
        have HBS : Hid (Sm.Bs wr w1.heap.size (lay T.data.toList [b0, b1, b2, b3] F k)) := hbs
        have HB : Hid (Below w1.heap.size w1 wr) := hb
        have hlen := lay_length T.data.toList [b0, b1, b2, b3] F k (by simpa using hk4) (by rw [HTL.out]; omega)
        rw [HTL.out] at hlen
        by_cases l4 : k < 4
        · have i1 : (k : Int) < 4 := by omega
          obtain ⟨b, hbk⟩ : ∃ b, [b0, b1, b2, b3][k]? = some b := ⟨_, List.getElem?_eq_getElem (by simpa using l4)⟩
          have ck : wr.cell? ⟨w.heap.size + 1, k, none⟩ = some (.int .u8 (b.toNat : Int)) := (hb.cell (p := ⟨w.heap.size + 1, k, none⟩) s1).trans (HCB.out k b hbk)
          have HS : Hid (Sm.Bs (wr.setCell ⟨w1.heap.size, F + k, none⟩ (.int .u8 (b.toNat : Int))) w1.heap.size (lay T.data.toList [b0, b1, b2, b3] F (k + 1))) := by
            unfold Hid
            rw [lay_succ _ _ _ _ b hbk (by rw [HTL.out]; omega)]
            exact hbs.store _ _ (by rw [hlen]; omega)
          obtain ⟨u, hu⟩ : ∃ u, wr.cell? ⟨w1.heap.size, F + k, none⟩ = some (.int .u8 u) := ⟨_, hbs.cell _ _ (List.getElem?_eq_getElem (by rw [hlen]; omega))⟩
          have fz := hbs.free (F + k) (by rw [hlen]; omega)
          have j1 : (0 : Int) ≤ (F : Int) + (k : Int) := by omega
          have j2 : (F : Int) + (k : Int) < 32 := by omega
          have j3 : ((F : Int) + (k : Int)).toNat = F + k := by omega
          have j4 : IntKind.i64.wrap ((F : Int) + (k : Int)) = (F : Int) + (k : Int) := Bt.wrap_fit _ (by omega) (by omega)
          clear hbs hb hbk hlen
          go_wp2_with fail
          go_roundw
          case rel => exact ⟨k + 1, by omega, by go_num, HS.out, HB.out.setCell (Nat.le_refl _) _⟩
          case measure => simp [intOf]; omega
        · have i1 : decide ((k : Int) < 4) = false := by simp; omega
          obtain rfl : k = 4 := by omega
          have hcv : ∀ W, Below wr.heap.size wr W → (convert 44 9 (.slice (some ⟨w1.heap.size, 0, none⟩) 32 C)).run Try.prog W = .ok (.string ⟨(lay T.data.toList [b0, b1, b2, b3] F 4).toArray⟩) W := fun W hW => Sm.Bs.conv (hbs.below hW (World.block_lt_of_cell? wr ⟨w1.heap.size, 0, none⟩ (hbs.cell 0 _ (List.getElem?_eq_getElem (by rw [hlen]; omega))))) hlen
          have cv0 := hcv wr (Below.refl _ _)
          have HCV : Hid (∀ W, Below wr.heap.size wr W → (convert 44 9 (.slice (some ⟨w1.heap.size, 0, none⟩) 32 C)).run Try.prog W = .ok (.string ⟨(lay T.data.toList [b0, b1, b2, b3] F 4).toArray⟩) W) := hcv
          clear hcv hbs
          by_cases hU : Ub ⟨(lay T.data.toList [b0, b1, b2, b3] F 4).toArray⟩
          · have e := HTU.out hU
            have e2 : (⟨(lay T.data.toList [b0, b1, b2, b3] F 4).toArray⟩ : ByteArray) = T := by rw [e]
            rw [e2] at cv0
            rw [e2] at HCV
            clear hU e e2
            go_wp2_with fail
            refine (HUS.out _).mono ?_
            rintro e w2 ⟨rfl, hb2⟩
            have cv2 := HCV.out (w2.alloc (.cells #[.int .i64 a0_0, .int .i64 a0_1, .int .i64 a0_2, .string s0] 23)) (Below.more hb2 _)
            have d0 := cell_later (Below.then HB.out hb2) c0
            have d1 := cell_later (Below.then HB.out hb2) c1
            have d2 := cell_later (Below.then HB.out hb2) c2
            have d3 := cell_later (Below.then HB.out hb2) c3
            have n0 : w.heap.size < w2.heap.size := World.block_lt_of_cell? w2 _ d0
            have HB2 : Hid (Below w.heap.size w w2) := Below.then (Below.then HB1.out HB.out) hb2
            clear hb2 c0 c1 c2 c3 cv0 hb
            go_wp2
            go_ret
            exact ⟨rfl, Below.more HB2.out _⟩
          · have hne : (⟨(lay T.data.toList [b0, b1, b2, b3] F 4).toArray⟩ : ByteArray) ≠ T := fun e => by rw [e] at hU; exact hU HUT.out
            have hst := str_ne hne
            have hun := fun W => unblock_no ⟨(lay T.data.toList [b0, b1, b2, b3] F 4).toArray⟩ W hU
            obtain ⟨L, hL⟩ : ∃ L : ByteArray, ⟨(lay T.data.toList [b0, b1, b2, b3] F 4).toArray⟩ = L := ⟨_, rfl⟩
            rw [hL] at hst cv0
            simp only [hL] at hun
            rw [hL] at HCV
            clear hU hne hL
            go_wp2_with fail
            refine (hun _).mono ?_
            rintro e w2 ⟨rfl, hb2⟩
            have cv2 := HCV.out (w2.alloc (.cells #[.int .i64 0, .int .i64 0, .int .i64 0, .string ⟨#[]⟩] 23)) (Below.more hb2 _)
            have HB2 : Hid (Below w.heap.size w w2) := Below.then (Below.then HB1.out HB.out) hb2
            clear hb2 c0 c1 c2 c3 cv0 hb hun
            go_wp2
            go_ret
            exact ⟨rfl, Below.more HB2.out _⟩
    · obtain ⟨F, hFG⟩ : ∃ F, F = G := ⟨_, rfl⟩
      subst hFG
      have h25' : ((F : Int) == 25) = false := by simp; omega
      have HTU : Hid (Ub ⟨(lay T.data.toList [b0, b1, b2, b3] F 4).toArray⟩ → lay T.data.toList [b0, b1, b2, b3] F 4 = T.data.toList) := HTU F (.inl (by omega))
      have hF28 : F ≤ 28 := by omega
      go_wp2_with fail
      rw [hG]
      obtain ⟨C, hC⟩ : ∃ C, grownCap w1 32 0 5 = C := ⟨_, rfl⟩
      rw [hC]
      clear hcv0 hG hC hG26 h25 h25'
      go_loopw [11] (fun i wr => ∃ k : Nat, k ≤ 4 ∧ i = .int .i64 (k : Int) ∧ Sm.Bs wr w1.heap.size (lay T.data.toList [b0, b1, b2, b3] F k) ∧ Below w1.heap.size w1 wr) (fun i _ => 4 - (intOf i).toNat)
      case atStart => exact ⟨0, by omega, rfl, by rw [lay_zero]; exact Sm.bs_conv w1 T _ C, Below.drew ((Below.refl _ _).alloc (Nat.le_refl _) _)⟩
      case round =>
        obtain ⟨k, hk4, rfl, hbs, hb⟩ := hrel
        have HBS : Hid (Sm.Bs wr w1.heap.size (lay T.data.toList [b0, b1, b2, b3] F k)) := hbs
        have HB : Hid (Below w1.heap.size w1 wr) := hb
        have hlen := lay_length T.data.toList [b0, b1, b2, b3] F k (by simpa using hk4) (by rw [HTL.out]; omega)
        rw [HTL.out] at hlen
        by_cases l4 : k < 4
        · have i1 : (k : Int) < 4 := by omega
          obtain ⟨b, hbk⟩ : ∃ b, [b0, b1, b2, b3][k]? = some b := ⟨_, List.getElem?_eq_getElem (by simpa using l4)⟩
          have ck : wr.cell? ⟨w.heap.size + 1, k, none⟩ = some (.int .u8 (b.toNat : Int)) := (hb.cell (p := ⟨w.heap.size + 1, k, none⟩) s1).trans (HCB.out k b hbk)
          have HS : Hid (Sm.Bs (wr.setCell ⟨w1.heap.size, F + k, none⟩ (.int .u8 (b.toNat : Int))) w1.heap.size (lay T.data.toList [b0, b1, b2, b3] F (k + 1))) := by
            unfold Hid
            rw [lay_succ _ _ _ _ b hbk (by rw [HTL.out]; omega)]
            exact hbs.store _ _ (by rw [hlen]; omega)
          obtain ⟨u, hu⟩ : ∃ u, wr.cell? ⟨w1.heap.size, F + k, none⟩ = some (.int .u8 u) := ⟨_, hbs.cell _ _ (List.getElem?_eq_getElem (by rw [hlen]; omega))⟩
          have fz := hbs.free (F + k) (by rw [hlen]; omega)
          have j1 : (0 : Int) ≤ (F : Int) + (k : Int) := by omega
          have j2 : (F : Int) + (k : Int) < 32 := by omega
          have j3 : ((F : Int) + (k : Int)).toNat = F + k := by omega
          have j4 : IntKind.i64.wrap ((F : Int) + (k : Int)) = (F : Int) + (k : Int) := Bt.wrap_fit _ (by omega) (by omega)
          clear hbs hb hbk hlen
          go_wp2_with fail
          go_roundw
          case rel => exact ⟨k + 1, by omega, by go_num, HS.out, HB.out.setCell (Nat.le_refl _) _⟩
          case measure => simp [intOf]; omega
        · have i1 : decide ((k : Int) < 4) = false := by simp; omega
          obtain rfl : k = 4 := by omega
          have hcv : ∀ W, Below wr.heap.size wr W → (convert 44 9 (.slice (some ⟨w1.heap.size, 0, none⟩) 32 C)).run Try.prog W = .ok (.string ⟨(lay T.data.toList [b0, b1, b2, b3] F 4).toArray⟩) W := fun W hW => Sm.Bs.conv (hbs.below hW (World.block_lt_of_cell? wr ⟨w1.heap.size, 0, none⟩ (hbs.cell 0 _ (List.getElem?_eq_getElem (by rw [hlen]; omega))))) hlen
          have cv0 := hcv wr (Below.refl _ _)
          have HCV : Hid (∀ W, Below wr.heap.size wr W → (convert 44 9 (.slice (some ⟨w1.heap.size, 0, none⟩) 32 C)).run Try.prog W = .ok (.string ⟨(lay T.data.toList [b0, b1, b2, b3] F 4).toArray⟩) W) := hcv
          clear hcv hbs
          by_cases hU : Ub ⟨(lay T.data.toList [b0, b1, b2, b3] F 4).toArray⟩
          · have e := HTU.out hU
            have e2 : (⟨(lay T.data.toList [b0, b1, b2, b3] F 4).toArray⟩ : ByteArray) = T := by rw [e]
            rw [e2] at cv0
            rw [e2] at HCV
            clear hU e e2
            go_wp2_with fail
            refine (HUS.out _).mono ?_
            rintro e w2 ⟨rfl, hb2⟩
            have cv2 := HCV.out (w2.alloc (.cells #[.int .i64 a0_0, .int .i64 a0_1, .int .i64 a0_2, .string s0] 23)) (Below.more hb2 _)
            have d0 := cell_later (Below.then HB.out hb2) c0
            have d1 := cell_later (Below.then HB.out hb2) c1
            have d2 := cell_later (Below.then HB.out hb2) c2
            have d3 := cell_later (Below.then HB.out hb2) c3
            have n0 : w.heap.size < w2.heap.size := World.block_lt_of_cell? w2 _ d0
            have HB2 : Hid (Below w.heap.size w w2) := Below.then (Below.then HB1.out HB.out) hb2
            clear hb2 c0 c1 c2 c3 cv0 hb
            go_wp2
            go_ret
            exact ⟨rfl, Below.more HB2.out _⟩
          · have hne : (⟨(lay T.data.toList [b0, b1, b2, b3] F 4).toArray⟩ : ByteArray) ≠ T := fun e => by rw [e] at hU; exact hU HUT.out
            have hst := str_ne hne
            have hun := fun W => unblock_no ⟨(lay T.data.toList [b0, b1, b2, b3] F 4).toArray⟩ W hU
            obtain ⟨L, hL⟩ : ∃ L : ByteArray, ⟨(lay T.data.toList [b0, b1, b2, b3] F 4).toArray⟩ = L := ⟨_, rfl⟩
            rw [hL] at hst cv0
            simp only [hL] at hun
            rw [hL] at HCV
            clear hU hne hL
            go_wp2_with fail
            refine (hun _).mono ?_
            rintro e w2 ⟨rfl, hb2⟩
            have cv2 := HCV.out (w2.alloc (.cells #[.int .i64 0, .int .i64 0, .int .i64 0, .string ⟨#[]⟩] 23)) (Below.more hb2 _)
            have HB2 : Hid (Below w.heap.size w w2) := Below.then (Below.then HB1.out HB.out) hb2
            clear hb2 c0 c1 c2 c3 cv0 hb hun
            go_wp2
            go_ret
            exact ⟨rfl, Below.more HB2.out _⟩
theorem own : ownKnob Try.prog.godebug = none := by kernel_rfl
theorem laidOut : laidOutB Try.prog = true := by kernel_rfl
set_option maxRecDepth 100000 in
theorem lifted (os : Os) (started : os.Started) (H : Type) (enc : TypeId × Value → H) :
    ReturnsInHanded {} Try.checked os 7 .any (Rows.frameTurnedSpec.pre6 enc Try.prog Try.f7 Rows.frameTurnedRow.domain false) (Rows.frameTurnedSpec.post enc Try.prog Try.f7 false true false false) := by
  refine returnsInHanded_of_change (C := Try.checked) own started (by kernel_rfl) Try.func7
    (ChangeSpec.witness6 (enc := enc) (C := Try.checked) false ⟨#[], #[.agg #[.int .i64 0, .int .i64 0, .int .i64 0, .string ⟨#[]⟩], .int .i64 0, .agg #[.int .u8 0, .int .u8 0, .int .u8 0, .int .u8 0]], []⟩ 8 (by kernel_rfl) (by kernel_rfl) (by kernel_rfl) (by kernel_rfl)) ?_
  intro W base args ds gs before hval0 hW hcnd _
  have hval : ∀ (j : Nat) t v, Try.f7.params[j]? = some t → args[j]? = some v → Value.okWide Try.prog W .any base t v := hval0
  have hW' := hW
  obtain ⟨p, q, hA0, hV, rfl, hfz, hnd⟩ := hW
  have hA : DataW.TrodAll enc Try.prog W 0 (fun _ => true) true Try.f7.params.toList args.toList ds p := hA0
  rw [Try.params7] at hA hval
  obtain ⟨v0, vs0, d0, ds0, p0, q0, hargs, rfl, rfl, h0, r0⟩ := trodAll_cons hA
  obtain ⟨v1, vs1, d1, ds1, p1, q1, rfl, rfl, rfl, h1, r1⟩ := trodAll_cons r0
  obtain ⟨v2, vs2, d2, ds2, p2, q2, rfl, rfl, rfl, h2, r2⟩ := trodAll_cons r1
  obtain ⟨rfl, rfl, rfl⟩ := trodAll_nil r2
  obtain rfl : args = #[v0, v1, v2] := by cases args; simp_all
  obtain ⟨rfl, rfl⟩ := trodVars_none hV
  have k0 := h0
  have lt0 : ∀ x ∈ p0, x.block < W.heap.size := by obtain ⟨m, hm⟩ := k0; exact DataW.trod_lt m _ _ _ hm
  obtain ⟨a0_0, a0_1, a0_2, s0, rfl, w0_0, w0_1, w0_2, hz0⟩ := open_piece (hval 0 23 v0 rfl rfl) h0
  obtain ⟨a1, rfl, rfl, rfl, w1⟩ := open_int Try.underlying3 (hval 1 3 v1 rfl rfl) h1
  have k2 := h2
  have lt2 : ∀ x ∈ p2, x.block < W.heap.size := by obtain ⟨m, hm⟩ := k2; exact DataW.trod_lt m _ _ _ hm
  obtain ⟨a2_0, a2_1, a2_2, a2_3, rfl, w2_0, w2_1, w2_2, w2_3⟩ := open_arr4 Try.underlying43 Try.underlying5 (by kernel_rfl) (by kernel_rfl) (hval 2 43 v2 rfl rfl) h2
  clear hA0 hval0
  refine (walk a0_0 a0_1 a0_2 s0 a1 a2_0 a2_1 a2_2 a2_3 w0_0 w0_1 w0_2 hz0 w1 w2_0 w2_1 w2_2 w2_3 W).mono fun e W' ⟨he, bel⟩ => ?_
  subst he
  exact ⟨_, rfl, _, _, _, [], _, [], hW', trodAll_mk1 (shut_bool Try.underlying4 _), (trodAll_cons_mk (Below.trod laidOut (by kernel_rfl) (of_decide_eq_true (by kernel_rfl)) k0 bel lt0) (trodAll_cons_mk (shut_int Try.underlying3 w1) (trodAll_cons_mk (Below.trod laidOut (by kernel_rfl) (of_decide_eq_true (by kernel_rfl)) k2 bel lt2) trodAll_mk0))), rfl, bel.frame _, fun h => by cases h⟩
theorem over : Rows.frameTurnedRow.holds Try.pinned (OpenSpec.ofChange Rows.frameTurnedSpec) :=
  OpenClaim.holds_of_wide 7 Try.f7 rfl rfl rfl rfl rfl rfl rfl ⟨rfl, rfl, rfl, rfl, rfl⟩ rfl rfl rfl rfl rfl (by kernel_rfl) Try.func7 (by kernel_rfl)
    (of_decide_eq_true (by kernel_rfl)) (by unfold Func.isWrapper; first | (rw [if_pos (by decide +kernel)]; kernel_rfl) | (rw [if_neg (by decide +kernel)]; exact ⟨rfl, rfl⟩))
    (fun os started H enc _ => lifted os started H enc)
end Go.Proofs.Ytoohoapbcdekgaa.frameTurned
namespace Go.Proofs.Ytoohoapbcdekgaa
theorem frameTurned_holds : Rows.FrameTurnedSaid := frameTurned.over
#print axioms frameTurned_holds
end Go.Proofs.Ytoohoapbcdekgaa
