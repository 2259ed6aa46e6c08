/- Contracts: number, Parse of the document's answers. -/
import Derived.Test.YtpofjkjcbflloabDoorKtB
namespace Go.Proofs.YtpofjkjcbflloabDoor
open Go.RowKit Go.Lib Go.Sort
set_option linter.unusedVariables false

/- What a numeral at that place tells. -/
def NumAt (l : List UInt8) (k n : Nat) : Prop := ∀ u r, l = decDigits u ++ r → u ≤ 65535 → (∀ c, r.head? = some c → ¬ (48 ≤ c.toNat ∧ c.toNat ≤ 57)) → k ≤ nDigits u ∧ n = u / 10 ^ (nDigits u - k)
theorem NumAt.start (l : List UInt8) : NumAt l 0 0 := fun u r _ _ _ => ⟨Nat.zero_le _, by rw [Nat.sub_zero, Nat.div_eq_of_lt (lt_pow_nDigits u)]⟩
theorem NumAt.more {l : List UInt8} {k n : Nat} (h : NumAt l k n) {c : UInt8} (hc : l[k]? = some c) (h1 : 48 ≤ c.toNat) (h2 : c.toNat ≤ 57) : NumAt l (k + 1) (10 * n + (c.toNat - 48)) := fun u r hl hu hr => by
  obtain ⟨hk, hn⟩ := h u r hl hu hr
  have hlt : k < nDigits u := by
    rcases Nat.lt_or_ge k (nDigits u) with h' | h'
    · exact h'
    · have e : k = nDigits u := by omega
      exfalso
      have hd := decDigits_length u
      rw [hl, List.getElem?_append_right (by omega)] at hc
      rw [e, hd, Nat.sub_self] at hc
      exact hr c (by rw [List.head?_eq_getElem?]; exact hc) ⟨h1, h2⟩
  have hd := decDigits_length u
  have hcd : c = UInt8.ofNat (48 + u / 10 ^ (nDigits u - 1 - k) % 10) := by
    rw [hl, List.getElem?_append_left (by omega), dec_at u k hlt] at hc
    simpa using hc.symm
  have hcv : c.toNat - 48 = u / 10 ^ (nDigits u - 1 - k) % 10 := by
    rw [hcd]
    have : u / 10 ^ (nDigits u - 1 - k) % 10 < 10 := Nat.mod_lt _ (by decide)
    simp [UInt8.toNat_ofNat']; omega
  exact ⟨hlt, by rw [hcv, hn]; exact dec_step u k hlt⟩
theorem NumAt.fin {l : List UInt8} {k n : Nat} (h : NumAt l k n) (hout : ∀ c, l[k]? = some c → 48 ≤ c.toNat → c.toNat ≤ 57 → 100000 ≤ n) : ∀ u r, l = decDigits u ++ r → u ≤ 65535 → (∀ c, r.head? = some c → ¬ (48 ≤ c.toNat ∧ c.toNat ≤ 57)) → n = u ∧ k = (decDigits u).length := fun u r hl hu hr => by
  obtain ⟨hk, hn⟩ := h u r hl hu hr
  have hd := decDigits_length u
  have e : k = nDigits u := by
    rcases Nat.lt_or_ge k (nDigits u) with h' | h'
    · exfalso
      have hc := dec_at u k h'
      have hmem := dec_digit u _ (List.mem_of_getElem? hc)
      have hb := hout _ (by rw [hl, List.getElem?_append_left (by omega)]; exact hc) hmem.1 hmem.2
      have : u / 10 ^ (nDigits u - k) ≤ u := Nat.div_le_self _ _
      omega
    · omega
  subst e
  rw [Nat.sub_self, Nat.pow_zero, Nat.div_one] at hn
  exact ⟨hn, hd.symm⟩
theorem get_drop (s : ByteArray) (at0 k : Nat) (h : at0 + k < s.size) : (s.data.toList.drop at0)[k]? = some (s[at0 + k]'h) := by
  rw [List.getElem?_drop]
  have h' : at0 + k < s.data.toList.length := by rw [← Lib.size_eq]; exact h
  rw [List.getElem?_eq_getElem h']
  simp
  rfl
set_option maxHeartbeats 2000000 in
set_option maxRecDepth 100000 in
theorem number_any (s : ByteArray) (at0 : Nat) (w : World) (hs : s.size ≤ 140737488351232) (hat : at0 ≤ 140737488351233) :
    Calls Tryd.prog 15 #[.string s, .int .i64 (at0 : Int)] w fun e w' => ∃ x y : Nat, e = .returned (.tuple #[.int .i64 (x : Int), .int .i64 (y : Int)]) ∧ w' = w ∧ x < 1000000 ∧ at0 ≤ y ∧ y ≤ 140737488351233 ∧
      (∀ u r, s.data.toList.drop at0 = decDigits u ++ r → u ≤ 65535 → (∀ c, r.head? = some c → ¬ (48 ≤ c.toNat ∧ c.toNat ≤ 57)) → x = u ∧ y = at0 + (decDigits u).length) := by
  go_enter Tryd.func15, Tryd.ntmps15
  go_wp2_with fail
  go_loopw [1, 6] (fun i x wr => ∃ k n : Nat, at0 + k ≤ 140737488351233 ∧ i = .int .i64 ((at0 + k : Nat) : Int) ∧ x = .int .i64 (n : Int) ∧ n < 1000000 ∧ NumAt (s.data.toList.drop at0) k n ∧ wr = w) (fun i _ _ => 281474976710656 - (RowKit.intOf i).toNat)
  case atStart => exact ⟨0, 0, by omega, rfl, rfl, by omega, NumAt.start _, rfl⟩
  case round =>
    obtain ⟨k, n, hk, rfl, rfl, hn, hna, rfl⟩ := hrel
    obtain ⟨p, hp⟩ : ∃ p, at0 + k = p := ⟨_, rfl⟩
    have HP : Hid (at0 + k = p) := hp
    have HNA : Hid (NumAt (s.data.toList.drop at0) k n) := hna
    rw [hp] at hk ⊢
    clear hna
    by_cases h1 : p < s.size
    · have hg := get_drop s at0 k (by rw [hp]; exact h1)
      have i1 : (0 : Int) ≤ (p : Int) := by omega
      have i2 : (p : Int) < (s.size : Int) := by omega
      obtain ⟨c, hc⟩ : ∃ c, s[p]'h1 = c := ⟨_, rfl⟩
      have hgc : (s.data.toList.drop at0)[k]? = some c := by rw [hg]; subst hp; rw [hc]
      obtain ⟨y, hy⟩ : ∃ y, c.toNat = y := ⟨_, rfl⟩
      have hidx : (s[p]'h1).toNat = y := by rw [hc, hy]
      have hy256 : y < 256 := by rw [← hy]; exact UInt8.toNat_lt _
      have HG : Hid ((s.data.toList.drop at0)[k]? = some c ∧ c.toNat = y) := ⟨hgc, hy⟩
      clear hg hgc hc hy hp
      by_cases h2 : 48 ≤ y
      · have j2 : (48 : Int) ≤ (y : Int) := by omega
        by_cases h3 : y ≤ 57
        · have j3 : (y : Int) ≤ 57 := by omega
          by_cases h4 : n < 100000
          · have j4 : (n : Int) < 100000 := by omega
            have HMO : Hid (NumAt (s.data.toList.drop at0) (k + 1) (10 * n + (y - 48))) := by
              have := HNA.out.more HG.out.1 (by rw [HG.out.2]; exact h2) (by rw [HG.out.2]; exact h3)
              rw [HG.out.2] at this
              exact this
            have hw1 : IntKind.u8.wrap ((y : Int) - 48) = ((y - 48 : Nat) : Int) := by simp [IntKind.wrap, IntKind.bits, IntKind.signed]; omega
            obtain ⟨d, hd⟩ : ∃ d, y - 48 = d := ⟨_, rfl⟩
            rw [hd] at hw1 HMO
            have hd9 : d ≤ 9 := by omega
            clear hd
            go_wp2_with fail
            go_roundw
            case rel => exact ⟨k + 1, 10 * n + d, by have := HP.out; omega, by have := HP.out; rw [← this]; go_num, by go_num, by omega, HMO.out, by first | rfl | trivial⟩
            case measure => simp [RowKit.intOf]; omega
          · have j4 : decide ((n : Int) < 100000) = false := by simp; omega
            have HOUT : Hid (∀ c, (s.data.toList.drop at0)[k]? = some c → 48 ≤ c.toNat → c.toNat ≤ 57 → 100000 ≤ n) := fun _ _ _ _ => by omega
            go_wp2_with fail
            go_ret2
            exact ⟨n, p, rfl, rfl, hn, by have := HP.out; omega, by have := HP.out; omega, fun u r hl hu hr => by
              obtain ⟨z1, z2⟩ := HNA.out.fin HOUT.out u r hl hu hr
              exact ⟨z1, by have := HP.out; omega⟩⟩
        · have j3 : decide ((y : Int) ≤ 57) = false := by simp; omega
          have HOUT : Hid (∀ c, (s.data.toList.drop at0)[k]? = some c → 48 ≤ c.toNat → c.toNat ≤ 57 → 100000 ≤ n) := fun c' hc' _ h' => by
            rw [HG.out.1] at hc'; cases hc'; have := HG.out.2; omega
          go_wp2_with fail
          go_ret2
          exact ⟨n, p, rfl, rfl, hn, by have := HP.out; omega, by have := HP.out; omega, fun u r hl hu hr => by
            obtain ⟨z1, z2⟩ := HNA.out.fin HOUT.out u r hl hu hr
            exact ⟨z1, by have := HP.out; omega⟩⟩
      · have j2 : decide ((48 : Int) ≤ (y : Int)) = false := by simp; omega
        have HOUT : Hid (∀ c, (s.data.toList.drop at0)[k]? = some c → 48 ≤ c.toNat → c.toNat ≤ 57 → 100000 ≤ n) := fun c' hc' h' _ => by
          rw [HG.out.1] at hc'; cases hc'; have := HG.out.2; omega
        go_wp2_with fail
        go_ret2
        exact ⟨n, p, rfl, rfl, hn, by have := HP.out; omega, by have := HP.out; omega, fun u r hl hu hr => by
          obtain ⟨z1, z2⟩ := HNA.out.fin HOUT.out u r hl hu hr
          exact ⟨z1, by have := HP.out; omega⟩⟩
    · have i2 : decide ((p : Int) < (s.size : Int)) = false := by simp; omega
      have HOUT : Hid (∀ c, (s.data.toList.drop at0)[k]? = some c → 48 ≤ c.toNat → c.toNat ≤ 57 → 100000 ≤ n) := fun c' hc' _ _ => by
        exfalso
        have hlt := (List.getElem?_eq_some_iff.1 hc').1
        rw [List.length_drop, ← Lib.size_eq] at hlt
        omega
      clear hp
      go_wp2_with fail
      go_ret2
      exact ⟨n, p, rfl, rfl, hn, by have := HP.out; omega, by have := HP.out; omega, fun u r hl hu hr => by
        obtain ⟨z1, z2⟩ := HNA.out.fin HOUT.out u r hl hu hr
        exact ⟨z1, by have := HP.out; omega⟩⟩
theorem drop_one (b s : Nat) : (tt b s).data.toList.drop 1 = decDigits b ++ 46 :: decDigits s := by rw [tt_list]; rfl
theorem drop_two (b s : Nat) : (tt b s).data.toList.drop (1 + (decDigits b).length + 1) = decDigits s ++ [] := by
  rw [tt_list, List.append_nil, show 1 + (decDigits b).length + 1 = ((decDigits b).length + 1) + 1 by omega, List.drop_succ_cons]
  have e : decDigits b ++ 46 :: decDigits s = (decDigits b ++ [46]) ++ decDigits s := by simp
  rw [e]
  exact List.drop_left' (by simp)
set_option maxHeartbeats 2000000 in
set_option maxRecDepth 100000 in
theorem rParse_yes (b s : Nat) (h : Gd b s) (w : World) (hv : Vs w) :
    Calls Tryd.prog 8 #[.string (tt b s)] w fun e w' => e = .returned (.tuple #[.agg #[.int .i64 (b : Int), .int .i64 (s : Int)], .int .i64 0]) ∧ Below w.heap.size w w' := by
  have HV : Hid (Vs w) := hv
  obtain ⟨h1, h2, h3, h4⟩ := id h
  have l1 := dec_len b (by omega)
  have l2 := dec_len s (by omega)
  have hsz := tt_size b s
  have hp2 := Lib.nDigits_pos s
  rw [← decDigits_length] at hp2
  obtain ⟨p, hp⟩ : ∃ p, 1 + (decDigits b).length = p := ⟨_, rfl⟩
  have c1 : ∀ w0, Calls Tryd.prog 15 #[.string (tt b s), .int .i64 1] w0 fun e w' => e = .returned (.tuple #[.int .i64 (b : Int), .int .i64 (p : Int)]) ∧ w' = w0 := fun w0 =>
    (number_any (tt b s) 1 w0 (by omega) (by omega)).mono fun e w' ⟨x, y, he, hw, _, _, _, hn⟩ => by
      obtain ⟨z1, z2⟩ := hn b _ (drop_one b s) (by omega) (by intro c hc; simp at hc; subst hc; simp)
      exact ⟨by rw [he, z1, z2, hp], hw⟩
  have c3 : ∀ w0, Calls Tryd.prog 15 #[.string (tt b s), .int .i64 ((p + 1 : Nat) : Int)] w0 fun e w' => (∃ y : Nat, e = .returned (.tuple #[.int .i64 (s : Int), .int .i64 (y : Int)])) ∧ w' = w0 := fun w0 =>
    (number_any (tt b s) (p + 1) w0 (by omega) (by omega)).mono fun e w' ⟨x, y, he, hw, _, _, _, hn⟩ => by
      have hd := drop_two b s
      rw [hp] at hd
      obtain ⟨z1, z2⟩ := hn s _ hd (by omega) (by intro c hc; simp at hc)
      exact ⟨⟨y, by rw [he, z1]⟩, hw⟩
  have c2 : ∀ w0, Vs w0 → Calls Tryd.prog 6 #[.agg #[.int .i64 (b : Int), .int .i64 (s : Int)]] w0 fun e w' => e = .returned (.tuple #[.string (tt b s), .int .i64 0]) ∧ Below w0.heap.size w0 w' := fun w0 hv0 => rText_yes b s h w0 hv0
  have hlt : p < (tt b s).size := by omega
  have hpb : p ≤ 100 := by omega
  have hne0 : (tt b s).size ≠ 0 := by omega
  generalize tt b s = S at c1 c2 c3 hlt hne0 ⊢
  have n0 : decide ((S.size : Int) = 0) = false := decide_eq_false (by omega)
  have n1 : ((S.size : Int) == 0) = false := beq_eq_false_iff_ne.2 (by omega)
  have n2 : (p : Int) < (S.size : Int) := by omega
  have hcast : ((p + 1 : Nat) : Int) = (p : Int) + 1 := by omega
  rw [hcast] at c3
  clear h hv h1 h2 h3 h4 l1 l2 hsz hp2 hp hne0 hcast
  go_enter Tryd.func8, Tryd.ntmps8
  go_wp2_with fail
  refine (c1 _).mono ?_
  rintro e w1 ⟨rfl, rfl⟩
  go_wp2_with fail
  refine (c3 _).mono ?_
  rintro e w1 ⟨⟨y, rfl⟩, rfl⟩
  obtain ⟨W2, hW2⟩ : ∃ W2, w.alloc (.cells #[.int .i64 0, .int .i64 0] 23) = W2 := ⟨_, rfl⟩
  rw [hW2]
  go_wp2_with fail
  have HR2 : Hid (W2.heap[w.heap.size]? = some (.cells #[.int .i64 0, .int .i64 0] 23)) := by
    rw [← hW2]; exact heap_alloc_new w _
  have HB2 : Hid (Below w.heap.size w W2) := by rw [← hW2]; exact below1 _ _
  have HV2 : Hid (Vs W2) := HV.out.later HB2.out
  have hs2 : w.heap.size < W2.heap.size := by rw [← hW2]; simp
  clear hW2
  have HV3 : Hid (Vs (W2.alloc (.cells #[.int .i64 (b : Int), .int .i64 (s : Int)] 23))) := HV2.out.later (below1 _ _)
  refine (c2 _ HV3.out).mono ?_
  rintro e w3 ⟨rfl, hb3⟩
  have hk3 : w3.heap[W2.heap.size]? = some (.cells #[.int .i64 (b : Int), .int .i64 (s : Int)] 23) := blk_later (heap_alloc_new W2 _) hb3
  have hr3 : w3.heap[w.heap.size]? = some (.cells #[.int .i64 0, .int .i64 0] 23) := blk_later (blk_later HR2.out (below1 _ _)) hb3
  have HB3 : Hid (Below w.heap.size w w3) := Below.then (Below.then HB2.out (below1 _ _)) hb3
  obtain ⟨q0, q1, f0, f1⟩ := two_cells hk3
  obtain ⟨r0, r1, g0, g1⟩ := two_cells hr3
  have hne : W2.heap.size ≠ w.heap.size := by omega
  have hne2 : w.heap.size ≠ W2.heap.size := by omega
  clear hk3 hr3 hb3
  go_wp2_with fail
  refine bodyPost_ret (v := .tuple #[.agg #[.int .i64 (b : Int), .int .i64 (s : Int)], .int .i64 0]) (by simp [results, Tryd.results8, go_sem, r0, r1]) rfl ⟨rfl, ?_⟩
  exact (HB3.out.setCell (p := ⟨w.heap.size, 0, none⟩) (by simp) _).setCell (p := ⟨w.heap.size, 1, none⟩) (by simp) _
theorem tt_far {Z S : ByteArray} (h : Z ≠ S) : (Z.toList == S.toList) = false ∧ ¬ Z.toList = S.toList := by
  have h2 : ¬ Z.toList = S.toList := by
    intro e
    apply h
    have e1 := Lib.toList_data Z
    have e2 := Lib.toList_data S
    rw [e1, e2] at e
    cases Z; cases S
    simpa using e
  exact ⟨by rw [beq_eq_false_iff_ne]; exact h2, h2⟩
set_option maxHeartbeats 2000000 in
set_option maxRecDepth 100000 in
theorem rParse_no (S : ByteArray) (hs : S.size ≤ 140737488351232) (h : ∀ b s, Gd b s → tt b s ≠ S) (w : World) (hv : Vs w) :
    Calls Tryd.prog 8 #[.string S] w fun e w' => e = .returned (.tuple #[.agg #[.int .i64 0, .int .i64 0], .int .i64 25]) ∧ Below w.heap.size w w' := by
  have HV : Hid (Vs w) := hv
  have HNO : Hid (∀ b s, Gd b s → tt b s ≠ S) := h
  clear h hv
  by_cases h0 : S.size = 0
  · have n0 : (S.size : Int) = 0 := by omega
    have HRR : Hid True := trivial
    go_enter Tryd.func8, Tryd.ntmps8
    go_wp2_with fail
    refine bodyPost_ret (v := .tuple #[.agg #[.int .i64 0, .int .i64 0], .int .i64 25]) (by simp [results, Tryd.results8, go_sem]) rfl ⟨rfl, ?_⟩
    exact below1 _ _
  · have n0 : decide ((S.size : Int) = 0) = false := decide_eq_false (by omega)
    have n1 : ((S.size : Int) == 0) = false := beq_eq_false_iff_ne.2 (by omega)
    have c1 : ∀ w0, Calls Tryd.prog 15 #[.string S, .int .i64 1] w0 _ := fun w0 => number_any S 1 w0 hs (by omega)
    go_enter Tryd.func8, Tryd.ntmps8
    go_wp2_with fail
    refine (c1 _).mono ?_
    rintro e w1 ⟨b, p, rfl, rfl, hb, hp1, hp2, -⟩
    clear c1
    by_cases hlt : p < S.size
    · have n2 : (p : Int) < (S.size : Int) := by omega
      have c3 := fun w0 => number_any S (p + 1) w0 hs (by omega)
      have hcast : ((p + 1 : Nat) : Int) = (p : Int) + 1 := by omega
      rw [hcast] at c3
      clear hcast
      go_wp2_with fail
      refine (c3 _).mono ?_
      rintro e w1 ⟨s, y, rfl, rfl, hsb, -, -, -⟩
      clear c3
      obtain ⟨W2, hW2⟩ : ∃ W2, w.alloc (.cells #[.int .i64 0, .int .i64 0] 23) = W2 := ⟨_, rfl⟩
      rw [hW2]
      by_cases hg : Gd b s
      · have c2 : ∀ w0, Vs w0 → Calls Tryd.prog 6 #[.agg #[.int .i64 (b : Int), .int .i64 (s : Int)]] w0 fun e w' => e = .returned (.tuple #[.string (tt b s), .int .i64 0]) ∧ Below w0.heap.size w0 w' := fun w0 hv0 => rText_yes b s hg w0 hv0
        have hne0 := HNO.out b s hg
        generalize tt b s = Z at c2 hne0
        obtain ⟨hz2, hz3⟩ := tt_far hne0
        clear hg
        go_wp2_with fail
        have HR2 : Hid (W2.heap[w.heap.size]? = some (.cells #[.int .i64 0, .int .i64 0] 23)) := by
          rw [← hW2]; exact heap_alloc_new w _
        have HB2 : Hid (Below w.heap.size w W2) := by rw [← hW2]; exact below1 _ _
        have HV2 : Hid (Vs W2) := HV.out.later HB2.out
        have hs2 : w.heap.size < W2.heap.size := by rw [← hW2]; simp
        clear hW2
        have HV3 : Hid (Vs (W2.alloc (.cells #[.int .i64 (b : Int), .int .i64 (s : Int)] 23))) := HV2.out.later (below1 _ _)
        refine (c2 _ HV3.out).mono ?_
        rintro e w3 ⟨rfl, hb3⟩
        have hk3 : w3.heap[W2.heap.size]? = some (.cells #[.int .i64 (b : Int), .int .i64 (s : Int)] 23) := blk_later (heap_alloc_new W2 _) hb3
        have hr3 : w3.heap[w.heap.size]? = some (.cells #[.int .i64 0, .int .i64 0] 23) := blk_later (blk_later HR2.out (below1 _ _)) hb3
        have HB3 : Hid (Below w.heap.size w w3) := Below.then (Below.then HB2.out (below1 _ _)) hb3
        obtain ⟨q0, q1, f0, f1⟩ := two_cells hk3
        obtain ⟨r0, r1, g0, g1⟩ := two_cells hr3
        have hne : W2.heap.size ≠ w.heap.size := by omega
        have hne2 : w.heap.size ≠ W2.heap.size := by omega
        clear hk3 hr3 hb3
        go_wp2_with fail
        refine bodyPost_ret (v := .tuple #[.agg #[.int .i64 0, .int .i64 0], .int .i64 25]) (by simp [results, Tryd.results8, go_sem, r0, r1]) rfl ⟨rfl, ?_⟩
        exact (HB3.out.setCell (p := ⟨w.heap.size, 0, none⟩) (by simp) _).setCell (p := ⟨w.heap.size, 1, none⟩) (by simp) _
      · have c2 : ∀ w0, Vs w0 → Calls Tryd.prog 6 #[.agg #[.int .i64 (b : Int), .int .i64 (s : Int)]] w0 fun e w' => e = .returned (.tuple #[.string ⟨#[]⟩, .int .i64 3]) ∧ Below w0.heap.size w0 w' := fun w0 hv0 => rText_no b s hg w0
        clear hg
        go_wp2_with fail
        have HR2 : Hid (W2.heap[w.heap.size]? = some (.cells #[.int .i64 0, .int .i64 0] 23)) := by
          rw [← hW2]; exact heap_alloc_new w _
        have HB2 : Hid (Below w.heap.size w W2) := by rw [← hW2]; exact below1 _ _
        have HV2 : Hid (Vs W2) := HV.out.later HB2.out
        have hs2 : w.heap.size < W2.heap.size := by rw [← hW2]; simp
        clear hW2
        have HV3 : Hid (Vs (W2.alloc (.cells #[.int .i64 (b : Int), .int .i64 (s : Int)] 23))) := HV2.out.later (below1 _ _)
        refine (c2 _ HV3.out).mono ?_
        rintro e w3 ⟨rfl, hb3⟩
        have hk3 : w3.heap[W2.heap.size]? = some (.cells #[.int .i64 (b : Int), .int .i64 (s : Int)] 23) := blk_later (heap_alloc_new W2 _) hb3
        have hr3 : w3.heap[w.heap.size]? = some (.cells #[.int .i64 0, .int .i64 0] 23) := blk_later (blk_later HR2.out (below1 _ _)) hb3
        have HB3 : Hid (Below w.heap.size w w3) := Below.then (Below.then HB2.out (below1 _ _)) hb3
        obtain ⟨q0, q1, f0, f1⟩ := two_cells hk3
        obtain ⟨r0, r1, g0, g1⟩ := two_cells hr3
        have hne : W2.heap.size ≠ w.heap.size := by omega
        have hne2 : w.heap.size ≠ W2.heap.size := by omega
        clear hk3 hr3 hb3
        go_wp2_with fail
        refine bodyPost_ret (v := .tuple #[.agg #[.int .i64 0, .int .i64 0], .int .i64 25]) (by simp [results, Tryd.results8, go_sem, r0, r1]) rfl ⟨rfl, ?_⟩
        exact (HB3.out.setCell (p := ⟨w.heap.size, 0, none⟩) (by simp) _).setCell (p := ⟨w.heap.size, 1, none⟩) (by simp) _
    · have n2 : decide ((p : Int) < (S.size : Int)) = false := decide_eq_false (by omega)
      obtain ⟨W2, hW2⟩ : ∃ W2, w.alloc (.cells #[.int .i64 0, .int .i64 0] 23) = W2 := ⟨_, rfl⟩
      rw [hW2]
      by_cases hg : Gd b 0
      · have c2 : ∀ w0, Vs w0 → Calls Tryd.prog 6 #[.agg #[.int .i64 (b : Int), .int .i64 0]] w0 fun e w' => e = .returned (.tuple #[.string (tt b 0), .int .i64 0]) ∧ Below w0.heap.size w0 w' := fun w0 hv0 => rText_yes b 0 hg w0 hv0
        have hne0 := HNO.out b 0 hg
        generalize tt b 0 = Z at c2 hne0
        obtain ⟨hz2, hz3⟩ := tt_far hne0
        clear hg
        go_wp2_with fail
        have HR2 : Hid (W2.heap[w.heap.size]? = some (.cells #[.int .i64 0, .int .i64 0] 23)) := by
          rw [← hW2]; exact heap_alloc_new w _
        have HB2 : Hid (Below w.heap.size w W2) := by rw [← hW2]; exact below1 _ _
        have HV2 : Hid (Vs W2) := HV.out.later HB2.out
        have hs2 : w.heap.size < W2.heap.size := by rw [← hW2]; simp
        clear hW2
        have HV3 : Hid (Vs (W2.alloc (.cells #[.int .i64 (b : Int), .int .i64 0] 23))) := HV2.out.later (below1 _ _)
        refine (c2 _ HV3.out).mono ?_
        rintro e w3 ⟨rfl, hb3⟩
        have hk3 : w3.heap[W2.heap.size]? = some (.cells #[.int .i64 (b : Int), .int .i64 0] 23) := blk_later (heap_alloc_new W2 _) hb3
        have hr3 : w3.heap[w.heap.size]? = some (.cells #[.int .i64 0, .int .i64 0] 23) := blk_later (blk_later HR2.out (below1 _ _)) hb3
        have HB3 : Hid (Below w.heap.size w w3) := Below.then (Below.then HB2.out (below1 _ _)) hb3
        obtain ⟨q0, q1, f0, f1⟩ := two_cells hk3
        obtain ⟨r0, r1, g0, g1⟩ := two_cells hr3
        have hne : W2.heap.size ≠ w.heap.size := by omega
        have hne2 : w.heap.size ≠ W2.heap.size := by omega
        clear hk3 hr3 hb3
        go_wp2_with fail
        refine bodyPost_ret (v := .tuple #[.agg #[.int .i64 0, .int .i64 0], .int .i64 25]) (by simp [results, Tryd.results8, go_sem, r0, r1]) rfl ⟨rfl, ?_⟩
        exact (HB3.out.setCell (p := ⟨w.heap.size, 0, none⟩) (by simp) _).setCell (p := ⟨w.heap.size, 1, none⟩) (by simp) _
      · have c2 : ∀ w0, Vs w0 → Calls Tryd.prog 6 #[.agg #[.int .i64 (b : Int), .int .i64 0]] w0 fun e w' => e = .returned (.tuple #[.string ⟨#[]⟩, .int .i64 3]) ∧ Below w0.heap.size w0 w' := fun w0 hv0 => rText_no b 0 hg w0
        clear hg
        go_wp2_with fail
        have HR2 : Hid (W2.heap[w.heap.size]? = some (.cells #[.int .i64 0, .int .i64 0] 23)) := by
          rw [← hW2]; exact heap_alloc_new w _
        have HB2 : Hid (Below w.heap.size w W2) := by rw [← hW2]; exact below1 _ _
        have HV2 : Hid (Vs W2) := HV.out.later HB2.out
        have hs2 : w.heap.size < W2.heap.size := by rw [← hW2]; simp
        clear hW2
        have HV3 : Hid (Vs (W2.alloc (.cells #[.int .i64 (b : Int), .int .i64 0] 23))) := HV2.out.later (below1 _ _)
        refine (c2 _ HV3.out).mono ?_
        rintro e w3 ⟨rfl, hb3⟩
        have hk3 : w3.heap[W2.heap.size]? = some (.cells #[.int .i64 (b : Int), .int .i64 0] 23) := blk_later (heap_alloc_new W2 _) hb3
        have hr3 : w3.heap[w.heap.size]? = some (.cells #[.int .i64 0, .int .i64 0] 23) := blk_later (blk_later HR2.out (below1 _ _)) hb3
        have HB3 : Hid (Below w.heap.size w w3) := Below.then (Below.then HB2.out (below1 _ _)) hb3
        obtain ⟨q0, q1, f0, f1⟩ := two_cells hk3
        obtain ⟨r0, r1, g0, g1⟩ := two_cells hr3
        have hne : W2.heap.size ≠ w.heap.size := by omega
        have hne2 : w.heap.size ≠ W2.heap.size := by omega
        clear hk3 hr3 hb3
        go_wp2_with fail
        refine bodyPost_ret (v := .tuple #[.agg #[.int .i64 0, .int .i64 0], .int .i64 25]) (by simp [results, Tryd.results8, go_sem, r0, r1]) rfl ⟨rfl, ?_⟩
        exact (HB3.out.setCell (p := ⟨w.heap.size, 0, none⟩) (by simp) _).setCell (p := ⟨w.heap.size, 1, none⟩) (by simp) _
end Go.Proofs.YtpofjkjcbflloabDoor
