/- Contract: Append, where it writes. -/
import Derived.Test.YtohgflimdoebiaaJnC
namespace Go.Proofs.Ytohgflimdoebiaa.Dk
open Go.RowKit Go.Maps
set_option linter.unusedVariables false
set_option maxRecDepth 4000
set_option linter.unusedSimpArgs false

theorem plc_cons {l : List ByteArray} {a k : Nat} (hk : k < l.length) : plc (l.drop k) (a + k) = (((a + k : Nat) : Int), l.getD k ⟨#[]⟩) :: plc (l.drop (k + 1)) (a + (k + 1)) := by
  rw [List.drop_eq_getElem_cons hk, plc, ← getD_yes (d := ⟨#[]⟩) l k hk, Nat.add_assoc]
theorem Wrote.first {N : Nat} {w w1 w2 : World} {p : Nat} {s : St} {b m : Nat} {x : Value} (hb : Below w.heap.size w w1) (h : Wrote N w1 p s b m x w2) : Wrote N w p s b m x w2 := by
  obtain ⟨x3, d3, k3, f3⟩ := h
  exact ⟨x3, d3, (Kept.ofBelow (F := Fd p b m x) hb).trans k3 (fun i _ h => h), fun k hk => (f3 k hk).elim .inl (fun h => .inr (Nat.le_trans hb.size h))⟩
theorem apE_go {s : St} {c a : Nat} {d : Bool} {t : ByteArray} (h0 : ¬ (d = true ∨ s.left = 0)) (hl : ¬ 5865 < t.size) (hf : ¬ (2048 < a + np t.size ∨ 65535 ≤ c)) : apS s c a d t = (wl (apW c a t) s).1 ∧ apE s c a d t = if (wl (apW c a t) s).2 = true then 0 else 11 := by
  unfold apE apS
  rw [if_neg h0, if_neg hl, if_neg hf, if_neg h0, if_neg hl, if_neg hf]
  exact ⟨rfl, rfl⟩
set_option maxHeartbeats 4000000 in
theorem append_go (N : Nat) (w : World) (j p : Nat) (s : St) (b m : Nat) (x : Value) (c a : Nat) (d : Bool) (t : ByteArray) (h : Dk N w p s b m x) (hj : Jn w j p c a d) (h0 : ¬ (d = true ∨ s.left = 0)) (hl : ¬ 5865 < t.size) (hf : ¬ (2048 < a + np t.size ∨ 65535 ≤ c)) (hlog : s.log.length + 255 ≤ 5864062014805) (hN : N ≤ w.heap.size) :
    Calls Try.prog 26 #[.pointer (some ⟨j, 0, none⟩), .string t] w fun e w' => AppP N w j p s b m x c a d t e w' := by
  obtain ⟨hS, hE⟩ := apE_go h0 hl hf
  have HD : Hid (Dk N w p s b m x) := h
  have HJ : Hid (Jn w j p c a d) := hj
  have HIH : Hid (∀ k, Fd p b m x k → k < w.heap.size ∧ N ≤ k) := h.inHeap
  have hB32 := blks_size (num_ok (c := c) (by omega)) (t := t) (by omega)
  have HB32 : Hid (∀ y ∈ blks ((c + 1 : Nat) : Int) t, y.size = 32) := hB32
  have hjout := hj.out h
  have HJO : Hid (¬ Fd p b m x j) := hjout
  have c0 := hj.c0
  have c1 := hj.c1
  have c2 := hj.c2
  have c3 := hj.c3
  have hon := on_any N w p s b m x h
  obtain rfl : d = false := by cases d with | true => exact absurd (.inl rfl) h0 | false => rfl
  have hs0 : s.left ≠ 0 := by simpa using h0
  have hb : decide (s.left ≠ 0) = true := by simpa using h0
  rw [hb] at hon
  have hpt := parts_any (t.size : Int) (by omega) (by omega) w
  obtain ⟨n1, n2, n3, -, -⟩ := np_spec t.size (by omega)
  rw [n1] at hpt
  have hpk := pack_yes ((c + 1 : Nat) : Int) t w (num_ok (by omega)) (by omega)
  obtain ⟨R, hR⟩ : ∃ R, wl (apW c a t) s = R := ⟨_, rfl⟩
  have HR : Hid (wl (plc (blks ((c + 1 : Nat) : Int) t) a) s = R) := hR
  have HYES : Hid (∀ w', R.2 = true → JWrote N w j p R.1 b m x (c + 1) (a + np t.size) false w' → AppP N w j p s b m x c a false t (.returned (.int .i64 0)) w') := fun w' h2 hw => by
    have hE' : apE s c a false t = 0 := by rw [hE, hR, if_pos h2]
    unfold AppP apC apA apD
    rw [hE', if_pos rfl, if_pos rfl, if_neg (by decide), hS, hR]
    exact ⟨rfl, hw⟩
  have HNO : Hid (∀ w', R.2 = false → JWrote N w j p R.1 b m x c a true w' → AppP N w j p s b m x c a false t (.returned (.int .i64 11)) w') := fun w' h2 hw => by
    have hE' : apE s c a false t = 11 := by rw [hE, hR, if_neg (by rw [h2]; decide)]
    unfold AppP apC apA apD
    rw [hE', if_neg (by decide), if_neg (by decide), if_pos rfl, hS, hR]
    exact ⟨rfl, hw⟩
  have HBL : Hid ((blks ((c + 1 : Nat) : Int) t).length = np t.size) := blks_length _ _
  obtain ⟨n, hn⟩ : ∃ n, np t.size = n := ⟨_, rfl⟩
  obtain ⟨B, hB⟩ : ∃ B, blks ((c + 1 : Nat) : Int) t = B := ⟨_, rfl⟩
  rw [hn] at hpt n2 n3 hf HYES HBL
  rw [hB] at hpk HR HB32 HBL
  have m0 : ((n : Int) == 0) = false := by simp; omega
  have m1 : IntKind.i64.wrap ((a : Int) + (n : Int)) = ((a + n : Nat) : Int) := by rw [← Int.natCast_add]; exact Bt.wrap_fit _ (by omega) (by omega)
  have m2 : decide (2048 < ((a + n : Nat) : Int)) = false := by simp; omega
  have m3 : decide (65535 ≤ (c : Int)) = false := by simp; omega
  have m4 : IntKind.i64.wrap ((c : Int) + 1) = ((c + 1 : Nat) : Int) := by rw [Bt.wrap_fit _ (by omega) (by omega)]; omega
  have HAN : Hid (a + n ≤ 2048) := by show _ ≤ _; omega
  obtain ⟨an, han⟩ : ∃ an, ((a + n : Nat) : Int) = an := ⟨_, rfl⟩
  obtain ⟨cn, hcn⟩ : ∃ cn, ((c + 1 : Nat) : Int) = cn := ⟨_, rfl⟩
  have HAE : Hid (((a + n : Nat) : Int) = an) := han
  have HCE : Hid (((c + 1 : Nat) : Int) = cn) := hcn
  rw [han] at m1 m2
  rw [hcn] at m4 hpk
  clear h hj h0 hb hl hf n1 hn hB hS hE hR hB32 hjout han hcn
  go_enter Try.func26, Try.ntmps26
  go_wp2_with fail
  refine hon.mono ?_
  rintro e w1 ⟨rfl, rfl⟩
  go_wp2_with fail
  refine hpt.mono ?_
  rintro e w2 ⟨rfl, rfl⟩
  go_wp2_with fail
  refine hpk.mono ?_
  rintro e w3 ⟨v3, rfl, hr3, hb3⟩
  have hr3' : RwS w3 w2.heap.size v3 B := hr3
  obtain ⟨a3, cap3, e3⟩ := row_spell hr3'
  subst e3
  have HRD : Hid (RdS w3 a3 B) := RwS.rd hr3'
  have HFAR : Hid (∀ g o, a3 = some ⟨g, o, none⟩ → ¬ Fd p b m x g) := fun g o ea hF => by
    have := (row_far hr3' g o ea).1
    have := (HIH.out g hF).1
    omega
  have HD3 : Hid (Dk N w3 p s b m x) := HD.out.later hb3
  have HJ3 : Hid (Jn w3 j p c a false) := HJ.out.later hb3
  have HB3 : Hid (Below w2.heap.size w2 w3) := hb3
  have hs3 := hb3.size
  rw [HBL.out]
  clear hr3 hr3' hb3 hpk hpt hon c0 c1 c2 c3
  go_wp2_with fail
  go_loopw [56] (fun i wr => ∃ (k : Nat) (s' : St), k ≤ n ∧ i = .int .i64 (k : Int) ∧ Wrote N w3 p s' b m x wr ∧ s'.left ≠ 0 ∧ wl (plc (B.drop k) (a + k)) s' = R ∧ s'.log.length ≤ s.log.length + k) (fun i _ => n - (intOf i).toNat)
  case atStart => exact ⟨0, s, by omega, rfl, HD3.out.same, hs0, HR.out, by omega⟩
  case round =>
    obtain ⟨k, s', hk2, rfl, hW, hs0', hwl, hlg⟩ := hrel
    have HW : Hid (Wrote N w3 p s' b m x wr) := hW
    have HWL : Hid (wl (plc (B.drop k) (a + k)) s' = R) := hwl
    obtain ⟨x', d', kp, fp⟩ := hW
    have hsz := kp.size
    have hjr := HJ3.out.kept kp HJO.out
    have HJR : Hid (Jn wr j p c a false) := hjr
    have c0 := hjr.c0
    have c1 := hjr.c1
    have c2 := hjr.c2
    have f1 := hjr.fr 1
    have f2 := hjr.fr 2
    have f3 := hjr.fr 3
    by_cases hkn : k < n
    · obtain ⟨g, o, ea, cX⟩ := (HRD.out.kept kp HFAR.out) k (by rw [HBL.out]; exact hkn)
      subst ea
      have HPC : Hid (plc (B.drop k) (a + k) = (((a + k : Nat) : Int), B.getD k ⟨#[]⟩) :: plc (B.drop (k + 1)) (a + (k + 1))) := plc_cons (by rw [HBL.out]; exact hkn)
      have j1 : (0 : Int) ≤ (k : Int) := by omega
      have j2 : (k : Int) < (n : Int) := by omega
      have j3 : IntKind.i64.wrap ((a : Int) + (k : Int)) = ((a + k : Nat) : Int) := by rw [← Int.natCast_add]; exact Bt.wrap_fit _ (by have := HAN.out; omega) (by have := HAN.out; omega)
      have hX32 : (B.getD k ⟨#[]⟩).size ≤ 32 := by
        rw [HB32.out _ (by rw [getD_yes _ _ (by rw [HBL.out]; exact hkn)]; exact List.getElem_mem _)]
        decide
      obtain ⟨X, hXX⟩ : ∃ X, B.getD k ⟨#[]⟩ = X := ⟨_, rfl⟩
      rw [hXX] at cX hX32 HPC
      obtain ⟨ak, hak⟩ : ∃ ak, ((a + k : Nat) : Int) = ak := ⟨_, rfl⟩
      have hla := fun W (hW : Below wr.heap.size wr W) => lasting_any N W p s' b m x' (d'.later hW) ak X hs0' ⟨by show (0 : Int) ≤ ak; omega, by show ak < 2048; have := HAN.out; omega, hX32⟩ (by omega) (Nat.le_trans hN (Nat.le_trans hs3 (Nat.le_trans hsz hW.size)))
      rw [hak] at j3 HPC
      obtain ⟨s2, hs2⟩ : ∃ s2, nx s' ak X = s2 := ⟨_, rfl⟩
      have HLG : Hid ((nx s' ak X).log.length ≤ s'.log.length + 1) := nx_log _ _ _
      have HC : Hid (wl ((ak, X) :: plc (B.drop (k + 1)) (a + (k + 1))) s' = R) := by
        show _ = _
        rw [← HWL.out, HPC.out]
      have HS2 : Hid (nx s' ak X = s2) := hs2
      rw [hs2] at HLG
      have hla2 : ∀ W, Below wr.heap.size wr W → Calls Try.prog 44 #[.pointer (some ⟨p, 0, none⟩), .int .i64 ak, .string X] W fun e w' => e = .returned (.bool (decide (s2.left ≠ 0))) ∧ Wrote N w3 p s2 b m x w' ∧ Jn w' j p c a false := fun W hW => (hla W hW).mono fun e w' h9 => by
        rw [hs2] at h9
        have hW9 := Wrote.next (kp.trans (Kept.ofBelow (F := fun _ => False) hW) (fun _ _ h => h.elim)) (fun i hi => fp i hi) h9.2
        obtain ⟨x9, d9, k9, f9⟩ := hW9
        exact ⟨h9.1, ⟨x9, d9, k9, f9⟩, HJ3.out.kept k9 HJO.out⟩
      clear hXX hwl d' kp fp hs2 hla hjr hX32 hak
      by_cases hz : s2.left = 0
      · have hb : decide (s2.left ≠ 0) = false := by simp [hz]
        have HE : Hid (R = (s2, false)) := by
          show _ = _
          rw [← HC.out, wl_off (by rw [HS2.out]; exact hz), HS2.out]
        rw [hb] at hla2
        clear hz hb
        go_wp2_with fail
        go_region_held3 (fun w' => w'.cell? ⟨j, 0, none⟩ = some (.pointer (some ⟨p, 0, none⟩)) ∧ w'.cell? ⟨j, 2, none⟩ = some (.int .i64 (a : Int))) (first | exact ⟨hj4.c0, hj4.c2⟩ | exact ⟨c0, c2⟩) (first | (go_at_call 44; refine (hla2 _ (Below.drew (Below.refl _ wr))).mono ?_; rintro e w4 ⟨rfl, hW4, hj4⟩))
        have HW4 : Hid (Wrote N w3 p s2 b m x w4) := hW4
        have HJ4 : Hid (Jn w4 j p c a false) := hj4
        have c34 := hj4.c3
        have f34 := hj4.fr 3
        clear hW4 hj4 hla2
        go_wp2_with fail
        go_ret
        refine HNO.out _ (by rw [HE.out]) ?_
        rw [HE.out]
        exact (JWrote.of HJ4.out (Wrote.first HB3.out HW4.out)).set 3 (.bool true) (HJ4.out.dead true)
      · have hb : decide (s2.left ≠ 0) = true := by simp [hz]
        have HE : Hid (wl (plc (B.drop (k + 1)) (a + (k + 1))) s2 = R) := by
          show _ = _
          rw [← HC.out, wl_on (by rw [HS2.out]; exact hz), HS2.out]
        rw [hb] at hla2
        clear hb
        go_wp2_with fail
        go_region_held3 (fun w' => w'.cell? ⟨j, 0, none⟩ = some (.pointer (some ⟨p, 0, none⟩)) ∧ w'.cell? ⟨j, 2, none⟩ = some (.int .i64 (a : Int))) (first | exact ⟨hj4.c0, hj4.c2⟩ | exact ⟨c0, c2⟩) (first | (go_at_call 44; refine (hla2 _ (Below.drew (Below.refl _ wr))).mono ?_; rintro e w4 ⟨rfl, hW4, hj4⟩))
        go_wp2_with fail
        go_roundw
        case rel => exact ⟨k + 1, s2, by omega, by go_num, hW4, hz, HE.out, by have := HLG.out; omega⟩
        case measure => simp [intOf]; omega
    · have i2 : decide ((k : Int) < (n : Int)) = false := by simp; omega
      have HE : Hid (R = (s', true)) := by
        show _ = _
        rw [← HWL.out, List.drop_eq_nil_of_le (by rw [HBL.out]; omega), plc, wl]
      clear hwl d' kp fp hjr
      go_wp2_with fail
      go_ret
      refine HYES.out _ (by rw [HE.out]) ?_
      rw [HE.out, ← HCE.out, ← HAE.out]
      exact ((JWrote.of HJR.out (Wrote.first HB3.out HW.out)).set 1 (.int .i64 ((c + 1 : Nat) : Int)) (HJR.out.count (c + 1))).set 2 (.int .i64 ((a + n : Nat) : Int)) ((HJR.out.count (c + 1)).endd (a + n))
theorem append_any (N : Nat) (w : World) (j p : Nat) (s : St) (b m : Nat) (x : Value) (c a : Nat) (d : Bool) (t : ByteArray) (h : Dk N w p s b m x) (hj : Jn w j p c a d) (ha : a ≤ 2048) (ht : t.size ≤ 9223372036854775807) (hlog : s.log.length + 255 ≤ 5864062014805) (hN : N ≤ w.heap.size) :
    Calls Try.prog 26 #[.pointer (some ⟨j, 0, none⟩), .string t] w fun e w' => AppP N w j p s b m x c a d t e w' := by
  by_cases h0 : d = true ∨ s.left = 0
  · exact append_down N w j p s b m x c a d t h hj h0
  · by_cases hl : 5865 < t.size
    · exact append_long N w j p s b m x c a d t h hj h0 ht hl
    · by_cases hf : 2048 < a + np t.size ∨ 65535 ≤ c
      · exact append_full N w j p s b m x c a d t h hj h0 hl ha hf
      · exact append_go N w j p s b m x c a d t h hj h0 hl hf hlog hN
end Go.Proofs.Ytohgflimdoebiaa.Dk
