/- Blocks on plain data: their bytes, the piece of a block, blocks that are spoilt. -/
import Derived.Test.YtohgflimdoebiaaFrR
import Derived.Test.YtohgflimdoebiaaSumB
import Derived.Test.YtohgflimdoebiaaBitBack
namespace Go.Proofs.Ytohgflimdoebiaa
open Go.RowKit Go.Maps
set_option linter.unusedVariables false
set_option maxRecDepth 4000
set_option linter.unusedSimpArgs false

theorem head_bits (q p n z : Nat) : Bt.bitsF [(q, 16), (p, 8), (n, 8), (z, 8)] = Bt.tb [q / 256, q % 256, p, n, z] := by
  have e : Bt.bo q 16 = Bt.bo (q / 256) 8 ++ Bt.bo (q % 256) 8 := by
    have e1 := Bt.bo_split q 8 8
    have e2 := Bt.bo_mod q 8
    rw [show (256 : Nat) = 2 ^ 8 from rfl, e2]
    exact e1
  simp [Bt.bitsF, Bt.tb, e]
theorem head_ok (q p n z : Nat) (hq : q < 65536) (hp : p < 256) (hn : n < 256) (hz : z < 256) : ∀ f ∈ [(q, (16 : Int)), (p, 8), (n, 8), (z, 8)], Bt.okF f = true := by
  intro f hf
  simp only [List.mem_cons, List.not_mem_nil, or_false] at hf
  have e16 : (2 : Nat) ^ 16 = 65536 := rfl
  have e8 : (2 : Nat) ^ 8 = 256 := rfl
  rcases hf with rfl | rfl | rfl | rfl <;> simp [Bt.okF, Bt.gw, e16, e8, hq, hp, hn, hz]
theorem head_pk (q p n z : Nat) (hq : q < 65536) (hp : p < 256) (hn : n < 256) (hz : z < 256) : Bt.pkS [(q, 16), (p, 8), (n, 8), (z, 8)] = Sm.tx [q / 256, q % 256, p, n, z] ∧ Bt.pkE [(q, 16), (p, 8), (n, 8), (z, 8)] = 0 := by
  have ha : ([(q, (16 : Int)), (p, 8), (n, 8), (z, 8)].all Bt.okF) = true := List.all_eq_true.2 (head_ok q p n z hq hp hn hz)
  unfold Bt.pkS Bt.pkE
  rw [if_pos ha, if_pos ha, head_bits, Bt.pk_tb _ (by intro x hx; simp at hx; omega)]
  exact ⟨rfl, rfl⟩
theorem head_un (b0 b1 b2 b3 b4 : Nat) (h0 : b0 < 256) (h1 : b1 < 256) (h2 : b2 < 256) (h3 : b3 < 256) (h4 : b4 < 256) : Bt.unL (Bt.tb [b0, b1, b2, b3, b4]) [16, 8, 8, 8] = [256 * b0 + b1, b2, b3, b4] ∧ Bt.unE (Bt.tb [b0, b1, b2, b3, b4]) [16, 8, 8, 8] = 0 := by
  have e := head_bits (256 * b0 + b1) b2 b3 b4
  rw [show (256 * b0 + b1) / 256 = b0 by omega, show (256 * b0 + b1) % 256 = b1 by omega] at e
  rw [← e]
  have ht := Bt.tk_all _ [] (head_ok (256 * b0 + b1) b2 b3 b4 (by omega) h2 h3 h4)
  rw [List.append_nil] at ht
  have hd := Bt.dn_pad (Bt.bitsF [(256 * b0 + b1, 16), (b2, 8), (b3, 8), (b4, 8)]) 0
  rw [List.replicate_zero, List.append_nil] at hd
  exact Bt.un_good ht (by rw [hd]; rfl)
def hd (q p n z : Nat) : List UInt8 := [q / 256, q % 256, p, n, z].map UInt8.ofNat
def body (q p n : Nat) (D : List UInt8) : List UInt8 := hd q p n D.length ++ D ++ List.replicate (23 - D.length) 0
def sm (L : List UInt8) : List UInt8 := (Sm.b4 (Sm.ext 0 L)).map UInt8.ofNat
def bk (q p n : Nat) (D : List UInt8) : List UInt8 := body q p n D ++ sm (body q p n D)
def bl (q p n : Int) (d : ByteArray) : ByteArray := ⟨(bk q.toNat p.toNat n.toNat d.data.toList).toArray⟩
theorem hd_length (q p n z : Nat) : (hd q p n z).length = 5 := rfl
theorem sm_length (L : List UInt8) : (sm L).length = 4 := rfl
theorem body_length (q p n : Nat) (D : List UInt8) (h : D.length ≤ 23) : (body q p n D).length = 28 := by
  simp [body, hd_length]; omega
theorem bk_length (q p n : Nat) (D : List UInt8) (h : D.length ≤ 23) : (bk q p n D).length = 32 := by
  simp [bk, sm_length, body_length q p n D h]
theorem dlen (d : ByteArray) : d.data.toList.length = d.size := by rw [Array.length_toList]; rfl
theorem bl_size (q p n : Int) (d : ByteArray) (h : d.size ≤ 23) : (bl q p n d).size = 32 := by
  have := bk_length q.toNat p.toNat n.toNat d.data.toList (by rw [dlen]; exact h)
  rw [← dlen]; simpa [bl] using this
theorem bl_list (q p n : Int) (d : ByteArray) : (bl q p n d).data.toList = bk q.toNat p.toNat n.toNat d.data.toList := by simp [bl]
def bt (s : ByteArray) (i : Nat) : Nat := (s.data.toList.getD i 0).toNat
theorem bt_lt (s : ByteArray) (i : Nat) : bt s i < 256 := UInt8.toNat_lt _
theorem bt_get (s : ByteArray) (i : Nat) (h : i < s.size) : bt s i = s[i].toNat := by
  have h2 : i < s.data.toList.length := by rw [dlen]; exact h
  unfold bt
  rw [List.getD_eq_getElem?_getD, List.getElem?_eq_getElem h2]
  rfl
def rq (s : ByteArray) : Int := ((256 * bt s 0 + bt s 1 : Nat) : Int)
def rdd (s : ByteArray) : ByteArray := s.extract 5 (5 + bt s 4)
theorem extract_list (s : ByteArray) (a b : Nat) : (s.extract a b).data.toList = (s.data.toList.drop a).take (b - a) := by
  rw [ByteArray.data_extract, Array.toList_extract, List.extract_eq_take_drop]
theorem rdd_size (s : ByteArray) (h : s.size = 32) (h4 : bt s 4 ≤ 23) : (rdd s).size = bt s 4 := by
  rw [← dlen, rdd, extract_list]
  simp
  have := dlen s
  simp at this
  omega
structure Ub (s : ByteArray) : Prop where
  size : s.size = 32
  len : bt s 4 ≤ 23
  right : rt (rq s) (bt s 2) (bt s 3) (bt s 4) = true
  same : bl (rq s) (bt s 2) (bt s 3) (rdd s) = s
theorem bt_bl (q p n : Int) (d : ByteArray) (h : rt q p n d.size = true) : bt (bl q p n d) 0 = q.toNat / 256 ∧ bt (bl q p n d) 1 = q.toNat % 256 ∧ bt (bl q p n d) 2 = p.toNat ∧ bt (bl q p n d) 3 = n.toNat ∧ bt (bl q p n d) 4 = d.size := by
  obtain ⟨h1, h2, h3, h4, h5, h6, h7, h8⟩ := (rt_iff _ _ _ _).1 h
  have hl := dlen d
  unfold bt
  rw [bl_list]
  unfold bk body hd
  rw [hl]
  simp [UInt8.toNat_ofNat']
  omega
theorem rdd_bl (q p n : Int) (d : ByteArray) (h : rt q p n d.size = true) : rdd (bl q p n d) = d := by
  obtain ⟨h1, h2, h3, h4, h5, h6, h7, h8⟩ := (rt_iff _ _ _ _).1 h
  obtain ⟨-, -, -, -, e4⟩ := bt_bl q p n d h
  apply ByteArray.ext
  apply Array.ext'
  unfold rdd
  rw [extract_list, e4, bl_list]
  unfold bk body
  rw [List.append_assoc, List.append_assoc, List.drop_left' (hd_length _ _ _ _), List.take_left' (by rw [dlen]; omega)]
theorem rq_bl (q p n : Int) (d : ByteArray) (h : rt q p n d.size = true) : rq (bl q p n d) = q := by
  obtain ⟨h1, h2, h3, h4, h5, h6, h7, h8⟩ := (rt_iff _ _ _ _).1 h
  obtain ⟨e0, e1, -⟩ := bt_bl q p n d h
  unfold rq
  rw [e0, e1]; omega
theorem bts_bl (q p n : Int) (d : ByteArray) (h : rt q p n d.size = true) : ((bt (bl q p n d) 2 : Nat) : Int) = p ∧ ((bt (bl q p n d) 3 : Nat) : Int) = n := by
  obtain ⟨h1, h2, h3, h4, h5, h6, h7, h8⟩ := (rt_iff _ _ _ _).1 h
  obtain ⟨-, -, e2, e3, -⟩ := bt_bl q p n d h
  rw [e2, e3]; omega
theorem ub_bl (q p n : Int) (d : ByteArray) (h : rt q p n d.size = true) : Ub (bl q p n d) := by
  obtain ⟨h1, h2, h3, h4, h5, h6, h7, h8⟩ := (rt_iff _ _ _ _).1 h
  obtain ⟨-, -, -, -, e4⟩ := bt_bl q p n d h
  obtain ⟨e2, e3⟩ := bts_bl q p n d h
  refine ⟨bl_size q p n d (by omega), by omega, ?_, ?_⟩
  · rw [rq_bl q p n d h, e2, e3, e4]; exact h
  · rw [rq_bl q p n d h, e2, e3, rdd_bl q p n d h]
theorem ub_rt {s : ByteArray} (h : Ub s) : rt (rq s) (bt s 2) (bt s 3) (rdd s).size = true := by rw [rdd_size s h.size h.len]; exact h.right
/- A row of bytes behind k of the stores. -/
def lay (T B : List UInt8) (F k : Nat) : List UInt8 := T.take F ++ B.take k ++ T.drop (F + k)
theorem lay_zero (T B : List UInt8) (F : Nat) : lay T B F 0 = T := by simp [lay]
theorem lay_length (T B : List UInt8) (F k : Nat) (hk : k ≤ B.length) (hF : F + k ≤ T.length) : (lay T B F k).length = T.length := by
  simp [lay]; omega
theorem lay_succ (T B : List UInt8) (F k : Nat) (b : UInt8) (hb : B[k]? = some b) (hF : F + k < T.length) : lay T B F (k + 1) = (lay T B F k).set (F + k) b := by
  obtain ⟨hk, hb2⟩ := List.getElem?_eq_some_iff.1 hb
  have e1 : (T.take F ++ B.take k).length = F + k := by simp; omega
  unfold lay
  rw [List.set_append_right _ _ (by omega), e1, Nat.sub_self]
  have e2 : T.drop (F + k) = T[F + k] :: T.drop (F + k + 1) := List.drop_eq_getElem_cons hF
  rw [e2, List.take_succ_eq_append_getElem hk, hb2]
  simp [Nat.add_assoc]
theorem sm_inj {L M : List UInt8} (h : sm L = sm M) : Sm.ext 0 L = Sm.ext 0 M := by
  have h1 := Sm.ext_lt 0 L
  have h2 := Sm.ext_lt 0 M
  obtain ⟨a, ha⟩ : ∃ a, Sm.ext 0 L = a := ⟨_, rfl⟩
  obtain ⟨b, hb⟩ : ∃ b, Sm.ext 0 M = b := ⟨_, rfl⟩
  unfold sm at h
  rw [ha, hb] at h
  rw [ha] at h1 ⊢
  rw [hb] at h2 ⊢
  have h3 := congrArg (fun l => l.map UInt8.toNat) h
  simp [Sm.b4, UInt8.toNat_ofNat'] at h3
  omega
theorem spoilt (q p n : Nat) (D : List UInt8) (hD : D.length ≤ 23) (q' p' n' : Nat) (D' : List UInt8) (hD' : D'.length ≤ 23) (F : Nat) (B : List UInt8) (hB : B.length = 4) (hF : F ≤ 24 ∨ F = 28) (e : bk q' p' n' D' = lay (bk q p n D) B F 4) : lay (bk q p n D) B F 4 = bk q p n D := by
  rw [← e]
  have l1 := body_length q p n D hD
  have l2 := body_length q' p' n' D' hD'
  have hb : body q' p' n' D' = body q p n D := by
    rcases hF with hF | rfl
    · -- the sum's bytes stand
      have e1 := congrArg (List.drop 28) e
      have e2 := congrArg (List.take 28) e
      unfold lay at e1 e2
      have eb : B.take 4 = B := List.take_of_length_le (by omega)
      rw [eb] at e1 e2
      have d1 : (bk q' p' n' D').drop 28 = sm (body q' p' n' D') := List.drop_left' l2
      have d2 : (bk q p n D).drop 28 = sm (body q p n D) := List.drop_left' l1
      have t2 : (bk q' p' n' D').take 28 = body q' p' n' D' := List.take_left' l2
      have hlen := bk_length q p n D hD
      have k1 : ((bk q p n D).take F ++ B ++ (bk q p n D).drop (F + 4)).drop 28 = (bk q p n D).drop 28 := by
        have lx : ((bk q p n D).take F ++ B).length = F + 4 := by simp; omega
        rw [List.drop_append, lx, List.drop_drop, List.drop_eq_nil_of_le (by omega)]
        rw [List.nil_append]; congr 1; omega
      rw [k1, d1, d2] at e1
      have es := sm_inj e1
      rw [t2] at e2
      obtain ⟨M, hM⟩ : ∃ M, body q p n D = M := ⟨_, rfl⟩
      have eM : M = M.take F ++ (M.drop F).take 4 ++ M.drop (F + 4) := by
        rw [List.append_assoc]
        have : M.drop (F + 4) = (M.drop F).drop 4 := by rw [List.drop_drop]
        rw [this, List.take_append_drop, List.take_append_drop]
      have k2 : ((bk q p n D).take F ++ B ++ (bk q p n D).drop (F + 4)).take 28 = M.take F ++ B ++ M.drop (F + 4) := by
        have lx : ((bk q p n D).take F ++ B).length = F + 4 := by simp; omega
        have hMl : M.length = 28 := by rw [← hM]; exact l1
        unfold bk
        rw [hM]
        have tF : (M ++ sm M).take F = M.take F := List.take_append_of_le_length (by omega)
        have dF : (M ++ sm M).drop (F + 4) = M.drop (F + 4) ++ sm M := List.drop_append_of_le_length (by omega)
        rw [tF, dF, ← List.append_assoc]
        exact List.take_left' (by simp; omega)
      rw [k2] at e2
      rw [hM] at es ⊢
      rw [e2, eM] at es
      have hx : B = (M.drop F).take 4 := by
        have hMl : M.length = 28 := by rw [← hM]; exact l1
        refine Sm.ext_tells (M.take F) B ((M.drop F).take 4) (M.drop (F + 4)) (by simp; omega) (by omega) ?_
        have := es
        rw [← eM] at this
        rw [← eM]; exact this
      rw [e2, hx, ← eM]
    · have e2 := congrArg (List.take 28) e
      unfold lay at e2
      have t1 : (bk q p n D).take 28 = body q p n D := List.take_left' l1
      have t2 : (bk q' p' n' D').take 28 = body q' p' n' D' := List.take_left' l2
      rw [t1, t2, List.append_assoc, List.take_left' l1] at e2
      exact e2
  unfold bk
  rw [hb]
end Go.Proofs.Ytohgflimdoebiaa
