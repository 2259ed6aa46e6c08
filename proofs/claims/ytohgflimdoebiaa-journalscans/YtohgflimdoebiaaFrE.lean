/- Contract: the document's Block. -/
import Derived.Test.YtohgflimdoebiaaFrC
import Derived.Test.YtohgflimdoebiaaFrMJ
import Derived.Test.YtohgflimdoebiaaSumJ
import Derived.Lib.AppendStr
import Derived.BigQuiet
import Derived.Deep.QuietTactic
namespace Go.Proofs.Ytohgflimdoebiaa
open Go.RowKit Go.Maps
set_option linter.unusedVariables false
set_option linter.unusedSimpArgs false

set_option maxHeartbeats 2000000 in
set_option maxRecDepth 100000 in
theorem rBlock_no (q p n : Int) (d : ByteArray) (w : World) (h : rt q p n d.size = false) : Calls Try.prog 57 #[.agg #[.int .i64 q, .int .i64 p, .int .i64 n, .string d]] w fun e w' => e = .returned (.tuple #[.string ⟨#[]⟩, .int .i64 7]) ∧ Below w.heap.size w w' := by
  have hr := fun W => rRight_any q p n d W
  rw [h] at hr
  go_enter Try.func57, Try.ntmps57
  go_wp2_with fail
  refine (hr _).mono ?_
  rintro e w1 ⟨rfl, hb⟩
  go_wp2_with fail
  go_ret2
  exact ⟨rfl, Below.then (below1 _ _) hb⟩
theorem u8b_hd (Q P N z : Nat) (q1 : Q < 65536) (p1 : P < 256) (n1 : N < 256) (z1 : z < 256) : Sm.u8b (hd Q P N z) = [.int .u8 ((Q / 256 : Nat) : Int), .int .u8 ((Q % 256 : Nat) : Int), .int .u8 (P : Int), .int .u8 (N : Int), .int .u8 (z : Int)] := by
  simp [Sm.u8b, hd, UInt8.toNat_ofNat']
  omega
def lenV : Value → Nat
  | .slice _ n _ => n
  | _ => 0
theorem keepC {w w1 w2 : World} {B : Nat} {v : Value} {L : List UInt8} (h : Below w.heap.size w w1 ∧ w1.ownsRow B 5 1 v 28 (Sm.u8b L) ∧ (convert 120 9 v).run Try.prog w1 = .ok (.string ⟨L.toArray⟩) w1) (hb : Below w1.heap.size w1 w2) (hl : L.length = 28) : Below w.heap.size w w2 ∧ w2.ownsRow B 5 1 v 28 (Sm.u8b L) ∧ (convert 120 9 v).run Try.prog w2 = .ok (.string ⟨L.toArray⟩) w2 :=
  ⟨Below.then h.1 hb, row_later h.2.1 hb, Sm.conv_u8 hl (row_later h.2.1 hb)⟩
set_option maxHeartbeats 2000000 in
set_option maxRecDepth 100000 in
theorem rBlock_yes (Q P N : Nat) (d : ByteArray) (w : World) (h : rt Q P N d.size = true) : Calls Try.prog 57 #[.agg #[.int .i64 (Q : Int), .int .i64 (P : Int), .int .i64 (N : Int), .string d]] w fun e w' => e = .returned (.tuple #[.string (bl Q P N d), .int .i64 0]) ∧ Below w.heap.size w w' := by
  have hr := fun W => rRight_any Q P N d W
  rw [h] at hr
  obtain ⟨i0, hi, hz0, hz1, hz2⟩ := info_parts Sm.info8
  obtain ⟨h1, h2, h3, h4, h5, h6, h7, h8⟩ := (rt_iff _ _ _ _).1 h
  obtain ⟨z, hz⟩ : ∃ z, d.size = z := ⟨_, rfl⟩
  have HZ : Hid (d.size = z) := hz
  rw [hz] at h8
  have z23 : z ≤ 23 := by omega
  have q1 : Q < 65536 := by omega
  have p1 : P < 256 := by omega
  have n1 : N < 256 := by omega
  clear h h1 h2 h3 h4 h5 h6 h7 h8
  obtain ⟨a, ha⟩ : ∃ a, Q / 256 = a := ⟨_, rfl⟩
  obtain ⟨b, hb⟩ : ∃ b, Q % 256 = b := ⟨_, rfl⟩
  have HU : Hid (Sm.u8b (hd Q P N z) = [.int .u8 (a : Int), .int .u8 (b : Int), .int .u8 (P : Int), .int .u8 (N : Int), .int .u8 (z : Int)]) := by
    unfold Hid; rw [u8b_hd Q P N z q1 p1 n1 (by omega), ha, hb]
  have u1 : (Q : Int) / 256 = (a : Int) := by omega
  have u2 : (Q : Int) % 256 = (b : Int) := by omega
  have a1 : a < 256 := by omega
  have b1 : b < 256 := by omega
  clear ha hb
  go_enter Try.func57, Try.ntmps57
  go_wp2_with fail
  refine (hr _).mono ?_
  rintro e w1 ⟨rfl, hb⟩
  have c0 : w1.cell? ⟨w.heap.size, 0, none⟩ = some (.int .i64 (Q : Int)) := cell_later hb (by simp [go_sem])
  have c1 : w1.cell? ⟨w.heap.size, 1, none⟩ = some (.int .i64 (P : Int)) := cell_later hb (by simp [go_sem])
  have c2 : w1.cell? ⟨w.heap.size, 2, none⟩ = some (.int .i64 (N : Int)) := cell_later hb (by simp [go_sem])
  have c3 : w1.cell? ⟨w.heap.size, 3, none⟩ = some (.string d) := cell_later hb (by simp [go_sem])
  have HB1 : Hid (Below w.heap.size w w1) := Below.then (below1 _ _) hb
  clear hb hr
  have n0 : w.heap.size < w1.heap.size := World.block_lt_of_cell? w1 _ c3
  have HR0 : Hid ((w1.alloc (.cells #[.int .u8 (a : Int), .int .u8 (b : Int), .int .u8 (P : Int), .int .u8 (N : Int), .int .u8 (z : Int)] 5)).ownsRow w1.heap.size 5 1 (.slice (some ⟨w1.heap.size, 0, none⟩) 5 5) 5 (Sm.u8b (hd Q P N z))) := by
    unfold Hid; rw [HU.out]; exact World.ownsRow_lit w1 _ 5 (Nat.le_refl _) (by unfold maxLen; omega) rfl
  go_wp2_with (at_builtin; refine Lib.wpList_append_own_string _ rfl _ _ _ _ rfl w1.heap.size 5 i0 Try.underlying120 Try.underlying9 hi hz0 hz1 hz2 _ 5 _ rfl HR0.out d rfl (by unfold maxLen; omega) (by omega) (by simp) ?_; intro v2 w2 hown2 hgrow2 hnil2; have HO2 : Hid (w2.ownsRow w1.heap.size 5 1 v2 (5 + d.size) (Sm.u8b (hd Q P N z) ++ Lib.strCells d)) := hown2; have HG2 : Hid _ := hgrow2; clear hown2 hgrow2 hnil2)
  have HB2 : Hid (Below w.heap.size w w2) := (Below.more HB1.out _).grown HG2.out (by have := HB1.out.size; simp; omega) (fun j hj => by cases hj; exact HB1.out.size)
  have hs2 : w1.heap.size ≤ w2.heap.size := by have := HG2.out.size; simp at this; omega
  have HO2' : Hid (w2.ownsRow w1.heap.size 5 1 v2 (5 + z + 0) (Sm.u8b (hd Q P N z ++ d.data.toList ++ List.replicate 0 0))) := by
    unfold Hid
    have h := HO2.out
    rw [hz] at h
    rw [Nat.add_zero, List.replicate_zero, List.append_nil, Sm.u8b_append]
    exact h
  clear HG2 HO2 HR0 c0 c1 c2 c3 HU u1 u2 a1 b1
  go_loopw [4] (fun v wr => ∃ k : Nat, z + k ≤ 23 ∧ wr.ownsRow w1.heap.size 5 1 v (5 + z + k) (Sm.u8b (hd Q P N z ++ d.data.toList ++ List.replicate k 0)) ∧ Below w.heap.size w wr ∧ w1.heap.size ≤ wr.heap.size) (fun v _ => 28 - lenV v)
  case atStart => exact ⟨0, by omega, HO2'.out, HB2.out, hs2⟩
  case round =>
    obtain ⟨k, hk, hrow, hb, hsz⟩ := hrel
    obtain ⟨ad, cap, rfl⟩ := row_spell hrow
    have HROW : Hid (wr.ownsRow w1.heap.size 5 1 (.slice ad (5 + z + k) cap) (5 + z + k) (Sm.u8b (hd Q P N z ++ d.data.toList ++ List.replicate k 0))) := hrow
    have HB : Hid (Below w.heap.size w wr) := hb
    clear HO2' HB2 hs2 hrow hb
    by_cases hlt : z + k < 23
    · have i1 : (5 : Int) + (z : Int) + (k : Int) < 28 := by omega
      go_wp2_with (at_builtin; refine wpList_append_lies _ rfl _ _ _ rfl w1.heap.size 5 i0 _ 1 1 Try.underlying120 hi hz0 hz1 hz2 rfl (by omega) _ (5 + z + k) _ rfl (HROW.out.alloc _) ⟨wr.heap.size, 0, none⟩ 1 1 [.int .u8 0] rfl rfl (cell_one_at _ _ _ _ rfl) (by simp [Value.oneCell']) (by omega) (by unfold maxLen; omega) (by omega) (by simp; omega) (wr.heap.size + 1) (by simp) ?_; intro g3 cap3 w3 hown3 hgrow3 hat3 hlt3; have HG3 : Hid _ := hgrow3; have HO3 : Hid _ := hown3; clear hown3 hgrow3 hat3 hlt3)
      go_roundw
      case rel =>
        refine ⟨k + 1, by omega, ?_, ?_, ?_⟩
        · have h := HO3.out
          have e : Sm.u8b (hd Q P N z ++ d.data.toList ++ List.replicate k 0) ++ [.int .u8 0] = Sm.u8b (hd Q P N z ++ d.data.toList ++ List.replicate (k + 1) 0) := by
            rw [List.replicate_succ', ← List.append_assoc, Sm.u8b_append (_ ++ List.replicate k 0)]
            rfl
          rw [e] at h
          exact h
        · have hsw := HB.out.size
          exact (Below.more HB.out _).grown HG3.out (by simp; omega) (fun j hj => by have := (HROW.out.lt j hj).1; have := HB1.out.size; omega)
        · have := HG3.out.size; simp at this; omega
      case measure => simp [lenV]; omega
    · have i1 : decide ((5 : Int) + (z : Int) + (k : Int) < 28) = false := by simp; omega
      obtain rfl : k = 23 - z := by omega
      have hL : (hd Q P N z ++ d.data.toList ++ List.replicate (23 - z) 0) = body Q P N d.data.toList := by
        unfold body; rw [dlen, HZ.out]
      have hlen := body_length Q P N d.data.toList (by rw [dlen, HZ.out]; exact z23)
      have e28 : 5 + z + (23 - z) = 28 := by omega
      rw [hL, e28] at HROW
      rw [e28]
      clear e28 i1 hlt hk hsz hL
      have hcv : ∀ W, Below wr.heap.size wr W → (convert 120 9 (.slice ad 28 cap)).run Try.prog W = .ok (.string ⟨(body Q P N d.data.toList).toArray⟩) W := fun W hW => Sm.conv_u8 hlen (row_later HROW.out hW)
      have HW : Hid ((⟨(body Q P N d.data.toList).toArray⟩ : ByteArray) ++ Sm.tx (Sm.b4 (Sm.ext 0 (body Q P N d.data.toList))) = bl Q P N d) := bl_whole Q P N d
      obtain ⟨L, hL⟩ : ∃ L, body Q P N d.data.toList = L := ⟨_, rfl⟩
      rw [hL] at HROW hlen HW
      simp only [hL] at hcv
      have hXs : (⟨L.toArray⟩ : ByteArray).size = 28 := by rw [← hlen]; simp [ByteArray.size]
      have hsum := fun W => Sm.rSum_any ⟨L.toArray⟩ W (by omega)
      have hlt := Sm.ext_lt 0 L
      have hby := fun W => Sm.rBytes_any (Sm.ext 0 L) W hlt
      have hYs : (Sm.tx (Sm.b4 (Sm.ext 0 L))).size = 4 := by rw [Sm.tx_size]; rfl
      obtain ⟨E, hE⟩ : ∃ E, Sm.ext 0 L = E := ⟨_, rfl⟩
      simp only [hE] at hsum hby
      rw [hE] at HW hYs
      obtain ⟨Y, hY⟩ : ∃ Y, Sm.tx (Sm.b4 E) = Y := ⟨_, rfl⟩
      simp only [hY] at hby
      rw [hY] at HW hYs
      have hc0 := hcv wr (Below.refl _ _)
      clear hL hE hY hlt hcv
      have HS0 : Hid (Below w.heap.size w wr.drew ∧ wr.drew.ownsRow w1.heap.size 5 1 (.slice ad 28 cap) 28 (Sm.u8b L) ∧ (convert 120 9 (.slice ad 28 cap)).run Try.prog wr.drew = .ok (.string ⟨L.toArray⟩) wr.drew) := ⟨HB.out.drew, HROW.out, Sm.conv_u8 hlen (show wr.drew.ownsRow _ _ _ _ _ _ from HROW.out)⟩
      have HLN : Hid (L.length = 28) := hlen
      have s1 : ¬ 9223372036854775807 < L.length + Y.size := by omega
      go_wp2_with fail
      go_region_held3 (fun w' => Below w.heap.size w w' ∧ w'.ownsRow w1.heap.size 5 1 (.slice ad 28 cap) 28 (Sm.u8b L) ∧ (convert 120 9 (.slice ad 28 cap)).run Try.prog w' = .ok (.string ⟨L.toArray⟩) w') (first | exact HS0.out | assumption | exact keepC (by assumption) hb HLN.out) (first | (go_at_call 69; refine (hsum _).mono ?_; rintro e w' ⟨rfl, rfl⟩) | (go_at_call 68; refine (hby _).mono ?_; rintro e w' ⟨rfl, hb⟩))
      all_goals go_wp2
      all_goals go_ret2
      all_goals exact ⟨by rw [HW.out]; rfl, Below.then HB.out.drew hb⟩
theorem rBlock_any (q p n : Int) (d : ByteArray) (w : World) : Calls Try.prog 57 #[.agg #[.int .i64 q, .int .i64 p, .int .i64 n, .string d]] w fun e w' => e = .returned (.tuple #[.string (if rt q p n d.size then bl q p n d else ⟨#[]⟩), .int .i64 (if rt q p n d.size then 0 else 7)]) ∧ Below w.heap.size w w' := by
  cases h : rt q p n d.size with
  | false => exact rBlock_no q p n d w h
  | true =>
    obtain ⟨h1, h2, h3, h4, h5, h6, h7, h8⟩ := (rt_iff _ _ _ _).1 h
    obtain ⟨Q, rfl⟩ : ∃ Q : Nat, q = (Q : Int) := ⟨q.toNat, by omega⟩
    obtain ⟨P, rfl⟩ : ∃ P : Nat, p = (P : Int) := ⟨p.toNat, by omega⟩
    obtain ⟨N, rfl⟩ : ∃ N : Nat, n = (N : Int) := ⟨n.toNat, by omega⟩
    exact rBlock_yes Q P N d w h
end Go.Proofs.Ytohgflimdoebiaa
