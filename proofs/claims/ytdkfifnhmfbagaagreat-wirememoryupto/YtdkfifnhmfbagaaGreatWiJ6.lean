/- WiSd, WiSe, joined. -/
import Derived.Test.YtdkfifnhmfbagaaGreatWiJ5
/- Contract of the document's reader: message, at a reply. -/
namespace Go.Proofs.YtdkfifnhmfbagaaGreat.Wi
open Go.RowKit Go.Maps
open Bt (Kept Rm tb bys bv tx u8s)
set_option linter.unusedVariables false
set_option linter.unusedSimpArgs false

section
variable {k : Int} {r : Int × (List (Int × Int) × (List (Int × Int) × List ((Int × Int) × ((Int × Int) × (Int × Int)))))} {q : Int × Int} {a b c : Int} {B0 B1 B2 : (Int × Int) × (Int × Int)} {d : Int × ((Int × Int) × ByteArray)} {x y z : Value}
theorem wp_stMid0 {o : Oper} {a : Act} {w : World} {K : Act → World → Prop} {Q : Exit → Act → World → Prop} (ty : TypeId) (x y : Operand) (ho : o.op = .store ty x y) (b off : Nat) (cs : List Value) (hx : a.eval x = .pointer (some ⟨b, off, none⟩)) (hy : a.eval y = .agg cs.toArray) (ht : w.there b off cs.length) (hi : (Tryz.prog.info? ty).map (·.size) = some cs.length) (h1 : cs.all (·.oneCell') = true) (hd : o.dst = none) (h : K a (w.setCells b off cs)) : o.wp Tryz.prog a w K Q := by
  refine wp_store_mid ty x y ho b off cs.toArray hx hy (by simpa using ht) (by simpa using hi) (by simpa using h1) ?_
  rw [hd]
  exact h
theorem upd_b0 (n : (Int × Int) × (Int × Int)) : upd (mgl ⟨k, r, q, ((a, b), (c, (B0, (B1, B2)))), d⟩ x y z).toArray 10 (bxl n) = (mgl ⟨k, r, q, ((a, b), (c, (n, (B1, B2)))), d⟩ x y z).toArray :=
  upd_mid (bxl n) (bxl B0) [.int .i64 k, .int .i64 r.1, x, y, z, .int .i64 q.1, .int .i64 q.2, .int .i64 a, .int .i64 b, .int .i64 c] (bxl B1 ++ (bxl B2 ++ sdl d)) rfl
theorem upd_b1 (n : (Int × Int) × (Int × Int)) : upd (mgl ⟨k, r, q, ((a, b), (c, (B0, (B1, B2)))), d⟩ x y z).toArray 14 (bxl n) = (mgl ⟨k, r, q, ((a, b), (c, (B0, (n, B2)))), d⟩ x y z).toArray :=
  upd_mid (bxl n) (bxl B1) ([.int .i64 k, .int .i64 r.1, x, y, z, .int .i64 q.1, .int .i64 q.2, .int .i64 a, .int .i64 b, .int .i64 c] ++ bxl B0) (bxl B2 ++ sdl d) rfl
theorem upd_b2 (n : (Int × Int) × (Int × Int)) : upd (mgl ⟨k, r, q, ((a, b), (c, (B0, (B1, B2)))), d⟩ x y z).toArray 18 (bxl n) = (mgl ⟨k, r, q, ((a, b), (c, (B0, (B1, n)))), d⟩ x y z).toArray :=
  upd_mid (bxl n) (bxl B2) ([.int .i64 k, .int .i64 r.1, x, y, z, .int .i64 q.1, .int .i64 q.2, .int .i64 a, .int .i64 b, .int .i64 c] ++ (bxl B0 ++ bxl B1)) (sdl d) rfl
end
set_option maxRecDepth 100000 in
set_option maxHeartbeats 2000000 in
theorem rMsg_3 (B sc g : Nat) (T : List Bool) (v : Value) (w : World) (h : SC B w sc g 0 T v) (hT : T.length < 4611686018427387904) (hk : (tn 2 T 0).1 = 2) :
    Calls Tryz.prog 44 #[.pointer (some ⟨sc, 0, none⟩)] w fun e w' => ∃ ct, e = .returned (.agg ct.toArray) ∧ MO w.heap.size w' (tM T) ct ∧ Kept (fun k => k = g) w w' := by
  have hb := SB.new h (.cells #[.int .i64 0, .int .i64 0, .slice none 0 0, .slice none 0 0, .slice none 0 0, .int .i64 0, .int .i64 0, .int .i64 0, .int .i64 0, .int .i64 0, .int .i64 0, .int .i64 0, .int .i64 0, .int .i64 0, .int .i64 0, .int .i64 0, .int .i64 0, .int .i64 0, .int .i64 0, .int .i64 0, .int .i64 0, .int .i64 0, .int .i64 0, .int .i64 0, .int .i64 0, .string ⟨#[]⟩] 38)
  have HT : Hid (T.length < 4611686018427387904) := hT
  have HN : Hid (tM T = mP (tP T (tn 2 T 0).2).1) := by unfold Hid tM; rw [if_neg (by omega), if_neg (by omega), if_pos hk]
  rw [HN.out]
  have hp := num_any B sc g 0 2 T v _ hb.st hT (by omega) (by omega)
  obtain ⟨p1, hp1⟩ : ∃ p, tn 2 T 0 = p := ⟨_, rfl⟩
  rw [hp1] at hp hk ⊢
  obtain ⟨x0, c1⟩ := p1
  dsimp only at hp hk ⊢
  subst hk
  have HW : Hid (SC B w sc g 0 T v) := h
  clear h hT HN hp1
  go_enter Tryz.func44, Tryz.ntmps44
  go_upto_region 1 with (fail)
  generalize w.alloc (.cells #[.int .i64 0, .int .i64 0, .slice none 0 0, .slice none 0 0, .slice none 0 0, .int .i64 0, .int .i64 0, .int .i64 0, .int .i64 0, .int .i64 0, .int .i64 0, .int .i64 0, .int .i64 0, .int .i64 0, .int .i64 0, .int .i64 0, .int .i64 0, .int .i64 0, .int .i64 0, .int .i64 0, .int .i64 0, .int .i64 0, .int .i64 0, .int .i64 0, .int .i64 0, .string ⟨#[]⟩] 38) = w1 at *
  obtain ⟨zc, hzc⟩ : ∃ z : Array Value, #[.int .i64 0, .int .i64 0, .slice none 0 0, .slice none 0 0, .slice none 0 0, .int .i64 0, .int .i64 0, .int .i64 0, .int .i64 0, .int .i64 0, .int .i64 0, .int .i64 0, .int .i64 0, .int .i64 0, .int .i64 0, .int .i64 0, .int .i64 0, .int .i64 0, .int .i64 0, .int .i64 0, .int .i64 0, .int .i64 0, .int .i64 0, .int .i64 0, .int .i64 0, .string ⟨#[]⟩] = z := ⟨_, rfl⟩
  have HZC : Hid (zc.size = 26) := by unfold Hid; rw [← hzc]; rfl
  rw [hzc] at hb
  clear hzc
  obtain ⟨D, hDe⟩ : ∃ D, w.heap.size = D := ⟨_, rfl⟩
  rw [hDe] at hb ⊢
  have HD : Hid (w.heap.size = D) := hDe
  clear hDe
  have HB1 : Hid (SB B sc g T v w w1 0 D (.cells zc 38)) := hb
  clear hb
  go_wp2_with fail
  refine hp.mono ?_
  rintro e w2 ⟨rfl, hs2, hk2⟩
  have HB2 : Hid (SB B sc g T v w w2 c1 D (.cells zc 38)) := HB1.out.next hs2 hk2
  clear hp hs2 hk2 HB1
  go_upto_region 2 with (refine stN szMg rfl (mgl ⟨3, zR, zQ, zP, zD⟩ (.slice none 0 0) (.slice none 0 0) (.slice none 0 0)) rfl rfl rfl _ _ rfl rfl rfl ?_)
  have hm : SM B sc g T v w (w2.alloc (.cells (mgl ⟨3, zR, zQ, zP, zD⟩ (.slice none 0 0) (.slice none 0 0) (.slice none 0 0)).toArray 38)) c1 D (.cells zc 38) w2.heap.size ⟨3, zR, zQ, zP, zD⟩ (.slice none 0 0) (.slice none 0 0) (.slice none 0 0) :=
    ⟨HB2.out.later (below_alloc _ _), heap_alloc_last w2 _, ⟨HB2.out.st.new, by have := row_lt HB2.out.hd; omega⟩, HB2.out.kp.size⟩
  generalize w2.alloc (.cells (mgl ⟨3, zR, zQ, zP, zD⟩ (.slice none 0 0) (.slice none 0 0) (.slice none 0 0)).toArray 38) = w3 at *
  generalize w2.heap.size = M at *
  have ck := hm.cell 0 _ rfl
  dsimp only at ck
  have HM : Hid (SM B sc g T v w w3 c1 D (.cells zc 38) M ⟨3, zR, zQ, zP, zD⟩ (.slice none 0 0) (.slice none 0 0) (.slice none 0 0)) := hm
  clear hm HB2
  have hp := num_any B sc g c1 8 T v w3 HM.out.sb.st HT.out (by omega) (by omega)
  obtain ⟨p1, hp1⟩ : ∃ p, tn 8 T c1 = p := ⟨_, rfl⟩
  have HP1 : Hid (tn 8 T c1 = p1) := hp1
  rw [hp1] at hp
  clear hp1
  obtain ⟨xa, d1⟩ := p1
  dsimp only at hp
  go_wp2_with fail
  refine hp.mono ?_
  rintro e a1 ⟨rfl, hs, hk⟩
  have HA1 : Hid (SM B sc g T v w a1 d1 D (.cells zc 38) M ⟨3, zR, zQ, zP, zD⟩ (.slice none 0 0) (.slice none 0 0) (.slice none 0 0)) := HM.out.next hs hk
  clear hp hs hk HM
  try clear ck
  have ck := HA1.out.cell 0 _ rfl
  dsimp only at ck
  have cx := HA1.out.cell 7 _ rfl
  have fx := HA1.out.fr 7
  try dsimp only at cx
  have HM1 : Hid (SM B sc g T v w (a1.setCell ⟨M, 7, none⟩ (.int .i64 (xa : Int))) d1 D (.cells zc 38) M ⟨3, zR, zQ, (((xa : Int), 0), (0, (((0, 0), (0, 0)), (((0, 0), (0, 0)), ((0, 0), (0, 0)))))), zD⟩ (.slice none 0 0) (.slice none 0 0) (.slice none 0 0)) := HA1.out.set 7 (.int .i64 (xa : Int)) rfl
  clear HA1
  have hp := num_any B sc g d1 6 T v (a1.setCell ⟨M, 7, none⟩ (.int .i64 (xa : Int))) HM1.out.sb.st HT.out (by omega) (by omega)
  obtain ⟨p2, hp2⟩ : ∃ p, tn 6 T d1 = p := ⟨_, rfl⟩
  have HP2 : Hid (tn 6 T d1 = p2) := hp2
  rw [hp2] at hp
  clear hp2
  obtain ⟨xb, d2⟩ := p2
  dsimp only at hp
  go_wp2_with fail
  refine hp.mono ?_
  rintro e a2 ⟨rfl, hs, hk⟩
  have HA2 : Hid (SM B sc g T v w a2 d2 D (.cells zc 38) M ⟨3, zR, zQ, (((xa : Int), 0), (0, (((0, 0), (0, 0)), (((0, 0), (0, 0)), ((0, 0), (0, 0)))))), zD⟩ (.slice none 0 0) (.slice none 0 0) (.slice none 0 0)) := HM1.out.next hs hk
  clear hp hs hk HM1
  try clear ck
  have ck := HA2.out.cell 0 _ rfl
  dsimp only at ck
  have cx := HA2.out.cell 8 _ rfl
  have fx := HA2.out.fr 8
  try dsimp only at cx
  have HM2 : Hid (SM B sc g T v w (a2.setCell ⟨M, 8, none⟩ (.int .i64 (xb : Int))) d2 D (.cells zc 38) M ⟨3, zR, zQ, (((xa : Int), (xb : Int)), (0, (((0, 0), (0, 0)), (((0, 0), (0, 0)), ((0, 0), (0, 0)))))), zD⟩ (.slice none 0 0) (.slice none 0 0) (.slice none 0 0)) := HA2.out.set 8 (.int .i64 (xb : Int)) rfl
  clear HA2
  have hp := num_any B sc g d2 8 T v (a2.setCell ⟨M, 8, none⟩ (.int .i64 (xb : Int))) HM2.out.sb.st HT.out (by omega) (by omega)
  obtain ⟨p3, hp3⟩ : ∃ p, tn 8 T d2 = p := ⟨_, rfl⟩
  have HP3 : Hid (tn 8 T d2 = p3) := hp3
  rw [hp3] at hp
  clear hp3
  obtain ⟨xc, d3⟩ := p3
  dsimp only at hp
  go_wp2_with fail
  refine hp.mono ?_
  rintro e a3 ⟨rfl, hs, hk⟩
  have HA3 : Hid (SM B sc g T v w a3 d3 D (.cells zc 38) M ⟨3, zR, zQ, (((xa : Int), (xb : Int)), (0, (((0, 0), (0, 0)), (((0, 0), (0, 0)), ((0, 0), (0, 0)))))), zD⟩ (.slice none 0 0) (.slice none 0 0) (.slice none 0 0)) := HM2.out.next hs hk
  clear hp hs hk HM2
  try clear ck
  have ck := HA3.out.cell 0 _ rfl
  dsimp only at ck
  have cx := HA3.out.cell 9 _ rfl
  have fx := HA3.out.fr 9
  try dsimp only at cx
  have HM3 : Hid (SM B sc g T v w (a3.setCell ⟨M, 9, none⟩ (.int .i64 (xc : Int))) d3 D (.cells zc 38) M ⟨3, zR, zQ, (((xa : Int), (xb : Int)), ((xc : Int), (((0, 0), (0, 0)), (((0, 0), (0, 0)), ((0, 0), (0, 0)))))), zD⟩ (.slice none 0 0) (.slice none 0 0) (.slice none 0 0)) := HA3.out.set 9 (.int .i64 (xc : Int)) rfl
  clear HA3
  go_wp2_with fail
  refine wp_loop_rounds 4 ?_
  rw [rounds_succ]
  have hp := rBox_any B sc g d3 T v (a3.setCell ⟨M, 9, none⟩ (.int .i64 (xc : Int))) HM3.out.sb.st HT.out
  obtain ⟨p4, hp4⟩ : ∃ p, tB T d3 = p := ⟨_, rfl⟩
  have HP4 : Hid (tB T d3 = p4) := hp4
  rw [hp4] at hp
  clear hp4
  obtain ⟨⟨⟨e00, e01⟩, ⟨e02, e03⟩⟩, d4⟩ := p4
  dsimp only [bxl, stl] at hp
  try clear ck
  try clear cx
  try clear fx
  go_wp2_with fail
  refine hp.mono ?_
  rintro e a4 ⟨rfl, hs, hk⟩
  have HA4 : Hid (SM B sc g T v w a4 d4 D (.cells zc 38) M ⟨3, zR, zQ, (((xa : Int), (xb : Int)), ((xc : Int), (((0, 0), (0, 0)), (((0, 0), (0, 0)), ((0, 0), (0, 0)))))), zD⟩ (.slice none 0 0) (.slice none 0 0) (.slice none 0 0)) := HM3.out.next hs hk
  have HM4 : Hid (SM B sc g T v w ((((a4.setCell ⟨M, 10, none⟩ (.int .i64 e00)).setCell ⟨M, 11, none⟩ (.int .i64 e01)).setCell ⟨M, 12, none⟩ (.int .i64 e02)).setCell ⟨M, 13, none⟩ (.int .i64 e03)) d4 D (.cells zc 38) M ⟨3, zR, zQ, (((xa : Int), (xb : Int)), ((xc : Int), (((e00, e01), (e02, e03)), (((0, 0), (0, 0)), ((0, 0), (0, 0)))))), zD⟩ (.slice none 0 0) (.slice none 0 0) (.slice none 0 0)) := HA4.out.setP 10 [.int .i64 e00, .int .i64 e01, .int .i64 e02, .int .i64 e03] (upd_b0 ((e00, e01), (e02, e03)))
  have k0 := HA4.out.cell 10 _ rfl
  have f0 := HA4.out.fr 10
  try dsimp only at k0
  have k1 := HA4.out.cell 11 _ rfl
  have f1 := HA4.out.fr 11
  try dsimp only at k1
  have k2 := HA4.out.cell 12 _ rfl
  have f2 := HA4.out.fr 12
  try dsimp only at k2
  have k3 := HA4.out.cell 13 _ rfl
  have f3 := HA4.out.fr 13
  try dsimp only at k3
  clear hp hs hk HA4 HM3
  go_wp2_with fail
  clear k0 k1 k2 k3 f0 f1 f2 f3
  generalize ((((a4.setCell ⟨M, 10, none⟩ (.int .i64 e00)).setCell ⟨M, 11, none⟩ (.int .i64 e01)).setCell ⟨M, 12, none⟩ (.int .i64 e02)).setCell ⟨M, 13, none⟩ (.int .i64 e03)) = y0 at *
  rw [rounds_succ]
  have hp := rBox_any B sc g d4 T v y0 HM4.out.sb.st HT.out
  obtain ⟨p5, hp5⟩ : ∃ p, tB T d4 = p := ⟨_, rfl⟩
  have HP5 : Hid (tB T d4 = p5) := hp5
  rw [hp5] at hp
  clear hp5
  obtain ⟨⟨⟨e10, e11⟩, ⟨e12, e13⟩⟩, d5⟩ := p5
  dsimp only [bxl, stl] at hp
  try clear ck
  try clear cx
  try clear fx
  go_wp2_with fail
  refine hp.mono ?_
  rintro e a5 ⟨rfl, hs, hk⟩
  have HA5 : Hid (SM B sc g T v w a5 d5 D (.cells zc 38) M ⟨3, zR, zQ, (((xa : Int), (xb : Int)), ((xc : Int), (((e00, e01), (e02, e03)), (((0, 0), (0, 0)), ((0, 0), (0, 0)))))), zD⟩ (.slice none 0 0) (.slice none 0 0) (.slice none 0 0)) := HM4.out.next hs hk
  have HM5 : Hid (SM B sc g T v w ((((a5.setCell ⟨M, 14, none⟩ (.int .i64 e10)).setCell ⟨M, 15, none⟩ (.int .i64 e11)).setCell ⟨M, 16, none⟩ (.int .i64 e12)).setCell ⟨M, 17, none⟩ (.int .i64 e13)) d5 D (.cells zc 38) M ⟨3, zR, zQ, (((xa : Int), (xb : Int)), ((xc : Int), (((e00, e01), (e02, e03)), (((e10, e11), (e12, e13)), ((0, 0), (0, 0)))))), zD⟩ (.slice none 0 0) (.slice none 0 0) (.slice none 0 0)) := HA5.out.setP 14 [.int .i64 e10, .int .i64 e11, .int .i64 e12, .int .i64 e13] (upd_b1 ((e10, e11), (e12, e13)))
  have k0 := HA5.out.cell 14 _ rfl
  have f0 := HA5.out.fr 14
  try dsimp only at k0
  have k1 := HA5.out.cell 15 _ rfl
  have f1 := HA5.out.fr 15
  try dsimp only at k1
  have k2 := HA5.out.cell 16 _ rfl
  have f2 := HA5.out.fr 16
  try dsimp only at k2
  have k3 := HA5.out.cell 17 _ rfl
  have f3 := HA5.out.fr 17
  try dsimp only at k3
  clear hp hs hk HA5 HM4
  go_wp2_with fail
  clear k0 k1 k2 k3 f0 f1 f2 f3
  generalize ((((a5.setCell ⟨M, 14, none⟩ (.int .i64 e10)).setCell ⟨M, 15, none⟩ (.int .i64 e11)).setCell ⟨M, 16, none⟩ (.int .i64 e12)).setCell ⟨M, 17, none⟩ (.int .i64 e13)) = y1 at *
  rw [rounds_succ]
  have hp := rBox_any B sc g d5 T v y1 HM5.out.sb.st HT.out
  obtain ⟨p6, hp6⟩ : ∃ p, tB T d5 = p := ⟨_, rfl⟩
  have HP6 : Hid (tB T d5 = p6) := hp6
  rw [hp6] at hp
  clear hp6
  obtain ⟨⟨⟨e20, e21⟩, ⟨e22, e23⟩⟩, d6⟩ := p6
  dsimp only [bxl, stl] at hp
  try clear ck
  try clear cx
  try clear fx
  go_wp2_with fail
  refine hp.mono ?_
  rintro e a6 ⟨rfl, hs, hk⟩
  have HA6 : Hid (SM B sc g T v w a6 d6 D (.cells zc 38) M ⟨3, zR, zQ, (((xa : Int), (xb : Int)), ((xc : Int), (((e00, e01), (e02, e03)), (((e10, e11), (e12, e13)), ((0, 0), (0, 0)))))), zD⟩ (.slice none 0 0) (.slice none 0 0) (.slice none 0 0)) := HM5.out.next hs hk
  have HM6 : Hid (SM B sc g T v w ((((a6.setCell ⟨M, 18, none⟩ (.int .i64 e20)).setCell ⟨M, 19, none⟩ (.int .i64 e21)).setCell ⟨M, 20, none⟩ (.int .i64 e22)).setCell ⟨M, 21, none⟩ (.int .i64 e23)) d6 D (.cells zc 38) M ⟨3, zR, zQ, (((xa : Int), (xb : Int)), ((xc : Int), (((e00, e01), (e02, e03)), (((e10, e11), (e12, e13)), ((e20, e21), (e22, e23)))))), zD⟩ (.slice none 0 0) (.slice none 0 0) (.slice none 0 0)) := HA6.out.setP 18 [.int .i64 e20, .int .i64 e21, .int .i64 e22, .int .i64 e23] (upd_b2 ((e20, e21), (e22, e23)))
  have k0 := HA6.out.cell 18 _ rfl
  have f0 := HA6.out.fr 18
  try dsimp only at k0
  have k1 := HA6.out.cell 19 _ rfl
  have f1 := HA6.out.fr 19
  try dsimp only at k1
  have k2 := HA6.out.cell 20 _ rfl
  have f2 := HA6.out.fr 20
  try dsimp only at k2
  have k3 := HA6.out.cell 21 _ rfl
  have f3 := HA6.out.fr 21
  try dsimp only at k3
  clear hp hs hk HA6 HM5
  go_wp2_with fail
  clear k0 k1 k2 k3 f0 f1 f2 f3
  generalize ((((a6.setCell ⟨M, 18, none⟩ (.int .i64 e20)).setCell ⟨M, 19, none⟩ (.int .i64 e21)).setCell ⟨M, 20, none⟩ (.int .i64 e22)).setCell ⟨M, 21, none⟩ (.int .i64 e23)) = y2 at *
  rw [rounds_succ]
  have HRA : Hid (y2.rangeAt M 0 (mgl ⟨3, zR, zQ, (((xa : Int), (xb : Int)), ((xc : Int), (((e00, e01), (e02, e03)), (((e10, e11), (e12, e13)), ((e20, e21), (e22, e23)))))), zD⟩ (.slice none 0 0) (.slice none 0 0) (.slice none 0 0))) := ra_of HM6.out.hm 0 _ (by simp)
  go_wp2_with (first | (refine ldM HRA.out Tryz.underlying38 rfl szMg _ rfl rfl rfl ?_) | (refine stW szMg HM6.out.sb.hd HZC.out (mgl ⟨3, zR, zQ, (((xa : Int), (xb : Int)), ((xc : Int), (((e00, e01), (e02, e03)), (((e10, e11), (e12, e13)), ((e20, e21), (e22, e23)))))), zD⟩ (.slice none 0 0) (.slice none 0 0) (.slice none 0 0)) rfl rfl rfl _ _ rfl rfl rfl ?_))
  have hb5 := HM6.out.sb.setRow (mgl ⟨3, zR, zQ, (((xa : Int), (xb : Int)), ((xc : Int), (((e00, e01), (e02, e03)), (((e10, e11), (e12, e13)), ((e20, e21), (e22, e23)))))), zD⟩ (.slice none 0 0) (.slice none 0 0) (.slice none 0 0)).toArray
  refine bodyPost_ret (res1 (T := 38) (p := 2) rfl _ _ D (mgl ⟨3, zR, zQ, (((xa : Int), (xb : Int)), ((xc : Int), (((e00, e01), (e02, e03)), (((e10, e11), (e12, e13)), ((e20, e21), (e22, e23)))))), zD⟩ (.slice none 0 0) (.slice none 0 0) (.slice none 0 0)).toArray rfl (run_loadVar_row _ D _ 38 _ _ _ hb5.hd Tryz.underlying38 rfl szMg)) rfl ?_
  refine ⟨_, rfl, ?_, hb5.kp⟩
  have e : (tP T c1).1 = (((xa : Int), (xb : Int)), ((xc : Int), (((e00, e01), (e02, e03)), (((e10, e11), (e12, e13)), ((e20, e21), (e22, e23)))))) := by
    show (((((tn 8 T c1).1 : Nat) : Int), (((tn 6 T (tn 8 T c1).2).1 : Nat) : Int)), ((((tn 8 T (tn 6 T (tn 8 T c1).2).2).1 : Nat) : Int), ((tB T (tn 8 T (tn 6 T (tn 8 T c1).2).2).2).1, ((tB T (tB T (tn 8 T (tn 6 T (tn 8 T c1).2).2).2).2).1, (tB T (tB T (tB T (tn 8 T (tn 6 T (tn 8 T c1).2).2).2).2).2).1)))) = _
    rw [HP1.out]
    dsimp only
    rw [HP2.out]
    dsimp only
    rw [HP3.out]
    dsimp only
    rw [HP4.out]
    dsimp only
    rw [HP5.out]
    dsimp only
    rw [HP6.out]
  rw [e]
  exact MO.nil _ _ _ _ _ _ (show 0 < 4611686018427387904 by decide)
end Go.Proofs.YtdkfifnhmfbagaaGreat.Wi
/- Contract of the document's reader: message, at a sealed text. -/
namespace Go.Proofs.YtdkfifnhmfbagaaGreat.Wi
open Go.RowKit Go.Maps
open Bt (Kept Rm tb bys bv tx u8s)
set_option linter.unusedVariables false
set_option linter.unusedSimpArgs false

theorem infoU8 : (Tryz.prog.info? 5).map (fun i => (i.zero, i.size, i.bytes)) = some (some (.int .u8 0), 1, 1) := by kernel_rfl
theorem infoU8_parts : ∃ i, Tryz.prog.info? 5 = some i ∧ i.zero = some (.int .u8 0) ∧ i.size = 1 ∧ i.bytes = 1 := by
  have h := infoU8
  cases hq : Tryz.prog.info? 5 with
  | none => rw [hq] at h; cases h
  | some i =>
    rw [hq] at h
    simp at h
    exact ⟨i, rfl, h.1, h.2.1, h.2.2⟩
theorem tl_lt (T : List Bool) (c : Nat) : ∀ n, ∀ x ∈ (tl (tn 8) T c n).1, x < 256
  | 0 => by intro x hx; cases hx
  | n + 1 => by
    intro x hx
    rw [tl] at hx
    rcases List.mem_append.1 hx with h | h
    · exact tl_lt T c n x h
    · simp at h
      rw [h]
      exact tn_lt 8 T _
theorem SM.grown {B : Nat} {w w4 w5 : World} {sc g c c0 D M T2 k n : Nat} {T : List Bool} {v u vL vJ vI : Value} {O o : Obj} {m : Msg} {xs : List Value} (h : SM B sc g T v w w4 c D O M m vL vJ vI) (h0 : SC B w sc g c0 T v) (hr : w4.ownsRow (M + 1) T2 k u n xs) (hg : (w4.alloc o).grownBy w5 u.ownBlock) (hDM : D ≤ M) : SM B sc g T v w w5 c D O M m vL vJ vI := by
  have hr' : w4.ownsRow w.heap.size T2 k u n xs := owns_wide hr (by have := h.lm; omega)
  obtain ⟨kA, kB, kC⟩ := grown_kept h.sb.st hg hr' h0
  have hf : ∀ i, i ≤ M → ¬ u.ownBlock = some i := fun i hi e => by have := (hr.lt i e).1; omega
  exact ⟨⟨kA, (kB.block D (row_lt h.sb.hd) (hf D hDM)).trans h.sb.hd, h.sb.kp.trans kB kC, h.sb.nd, h.sb.le⟩, (kB.block M (row_lt h.hm) (hf M (Nat.le_refl _))).trans h.hm, h.nm, h.lm⟩
set_option maxRecDepth 100000 in
set_option maxHeartbeats 2000000 in
theorem rMsg_4 (B sc g : Nat) (T : List Bool) (v : Value) (w : World) (h : SC B w sc g 0 T v) (hT : T.length < 4611686018427387904) (hk : (tn 2 T 0).1 = 3) :
    Calls Tryz.prog 44 #[.pointer (some ⟨sc, 0, none⟩)] w fun e w' => ∃ ct, e = .returned (.agg ct.toArray) ∧ MO w.heap.size w' (tM T) ct ∧ Kept (fun k => k = g) w w' := by
  have hb := SB.new h (.cells #[.int .i64 0, .int .i64 0, .slice none 0 0, .slice none 0 0, .slice none 0 0, .int .i64 0, .int .i64 0, .int .i64 0, .int .i64 0, .int .i64 0, .int .i64 0, .int .i64 0, .int .i64 0, .int .i64 0, .int .i64 0, .int .i64 0, .int .i64 0, .int .i64 0, .int .i64 0, .int .i64 0, .int .i64 0, .int .i64 0, .int .i64 0, .int .i64 0, .int .i64 0, .string ⟨#[]⟩] 38)
  have HT : Hid (T.length < 4611686018427387904) := hT
  have HN : Hid (tM T = mD (tD T (tn 2 T 0).2).1) := by unfold Hid tM; rw [if_neg (by omega), if_neg (by omega), if_neg (by omega)]
  rw [HN.out]
  have hp := num_any B sc g 0 2 T v _ hb.st hT (by omega) (by omega)
  obtain ⟨p1, hp1⟩ : ∃ p, tn 2 T 0 = p := ⟨_, rfl⟩
  rw [hp1] at hp hk ⊢
  obtain ⟨x0, c1⟩ := p1
  dsimp only at hp hk ⊢
  subst hk
  have HW : Hid (SC B w sc g 0 T v) := h
  clear h hT HN hp1
  go_enter Tryz.func44, Tryz.ntmps44
  go_upto_region 1 with (fail)
  generalize w.alloc (.cells #[.int .i64 0, .int .i64 0, .slice none 0 0, .slice none 0 0, .slice none 0 0, .int .i64 0, .int .i64 0, .int .i64 0, .int .i64 0, .int .i64 0, .int .i64 0, .int .i64 0, .int .i64 0, .int .i64 0, .int .i64 0, .int .i64 0, .int .i64 0, .int .i64 0, .int .i64 0, .int .i64 0, .int .i64 0, .int .i64 0, .int .i64 0, .int .i64 0, .int .i64 0, .string ⟨#[]⟩] 38) = w1 at *
  obtain ⟨zc, hzc⟩ : ∃ z : Array Value, #[.int .i64 0, .int .i64 0, .slice none 0 0, .slice none 0 0, .slice none 0 0, .int .i64 0, .int .i64 0, .int .i64 0, .int .i64 0, .int .i64 0, .int .i64 0, .int .i64 0, .int .i64 0, .int .i64 0, .int .i64 0, .int .i64 0, .int .i64 0, .int .i64 0, .int .i64 0, .int .i64 0, .int .i64 0, .int .i64 0, .int .i64 0, .int .i64 0, .int .i64 0, .string ⟨#[]⟩] = z := ⟨_, rfl⟩
  have HZC : Hid (zc.size = 26) := by unfold Hid; rw [← hzc]; rfl
  rw [hzc] at hb
  clear hzc
  obtain ⟨D, hDe⟩ : ∃ D, w.heap.size = D := ⟨_, rfl⟩
  rw [hDe] at hb ⊢
  have HD : Hid (w.heap.size = D) := hDe
  clear hDe
  have HB1 : Hid (SB B sc g T v w w1 0 D (.cells zc 38)) := hb
  clear hb
  go_wp2_with fail
  refine hp.mono ?_
  rintro e w2 ⟨rfl, hs2, hk2⟩
  have HB2 : Hid (SB B sc g T v w w2 c1 D (.cells zc 38)) := HB1.out.next hs2 hk2
  clear hp hs2 hk2 HB1
  go_upto_region 2 with (refine stN szMg rfl (mgl ⟨4, zR, zQ, zP, zD⟩ (.slice none 0 0) (.slice none 0 0) (.slice none 0 0)) rfl rfl rfl _ _ rfl rfl rfl ?_)
  have hm : SM B sc g T v w (w2.alloc (.cells (mgl ⟨4, zR, zQ, zP, zD⟩ (.slice none 0 0) (.slice none 0 0) (.slice none 0 0)).toArray 38)) c1 D (.cells zc 38) w2.heap.size ⟨4, zR, zQ, zP, zD⟩ (.slice none 0 0) (.slice none 0 0) (.slice none 0 0) :=
    ⟨HB2.out.later (below_alloc _ _), heap_alloc_last w2 _, ⟨HB2.out.st.new, by have := row_lt HB2.out.hd; omega⟩, HB2.out.kp.size⟩
  generalize w2.alloc (.cells (mgl ⟨4, zR, zQ, zP, zD⟩ (.slice none 0 0) (.slice none 0 0) (.slice none 0 0)).toArray 38) = w3 at *
  generalize w2.heap.size = M at *
  have ck := hm.cell 0 _ rfl
  dsimp only at ck
  have HM : Hid (SM B sc g T v w w3 c1 D (.cells zc 38) M ⟨4, zR, zQ, zP, zD⟩ (.slice none 0 0) (.slice none 0 0) (.slice none 0 0)) := hm
  clear hm HB2
  have hp := num_any B sc g c1 8 T v w3 HM.out.sb.st HT.out (by omega) (by omega)
  obtain ⟨p1, hp1⟩ : ∃ p, tn 8 T c1 = p := ⟨_, rfl⟩
  have HP1 : Hid (tn 8 T c1 = p1) := hp1
  rw [hp1] at hp
  clear hp1
  obtain ⟨xa, d1⟩ := p1
  dsimp only at hp
  go_wp2_with fail
  refine hp.mono ?_
  rintro e a1 ⟨rfl, hs, hk⟩
  have HA1 : Hid (SM B sc g T v w a1 d1 D (.cells zc 38) M ⟨4, zR, zQ, zP, zD⟩ (.slice none 0 0) (.slice none 0 0) (.slice none 0 0)) := HM.out.next hs hk
  clear hp hs hk HM
  try clear ck
  have ck := HA1.out.cell 0 _ rfl
  dsimp only at ck
  have cx := HA1.out.cell 22 _ rfl
  have fx := HA1.out.fr 22
  try dsimp only at cx
  have HM1 : Hid (SM B sc g T v w (a1.setCell ⟨M, 22, none⟩ (.int .i64 (xa : Int))) d1 D (.cells zc 38) M ⟨4, zR, zQ, zP, ((xa : Int), ((0, 0), tx []))⟩ (.slice none 0 0) (.slice none 0 0) (.slice none 0 0)) := HA1.out.set 22 (.int .i64 (xa : Int)) rfl
  clear HA1
  have hp := rKey_any B sc g d1 T v (a1.setCell ⟨M, 22, none⟩ (.int .i64 (xa : Int))) HM1.out.sb.st HT.out
  obtain ⟨p2, hp2⟩ : ∃ p, tK T d1 = p := ⟨_, rfl⟩
  have HP2 : Hid (tK T d1 = p2) := hp2
  rw [hp2] at hp
  clear hp2
  obtain ⟨⟨kb, ks⟩, d2⟩ := p2
  dsimp only [bxl, stl] at hp
  go_wp2_with fail
  refine hp.mono ?_
  rintro e a2 ⟨rfl, hs, hk⟩
  have HA2 : Hid (SM B sc g T v w a2 d2 D (.cells zc 38) M ⟨4, zR, zQ, zP, ((xa : Int), ((0, 0), tx []))⟩ (.slice none 0 0) (.slice none 0 0) (.slice none 0 0)) := HM1.out.next hs hk
  clear hp hs hk HM1
  try clear ck
  have ck := HA2.out.cell 0 _ rfl
  dsimp only at ck
  have HTH2 : Hid (a2.there M 23 ([.int .i64 kb, .int .i64 ks] : List Value).length) := th_of HA2.out.hm 23 _ (by show 23 + 2 ≤ 26; decide)
  have HM2 : Hid (SM B sc g T v w (a2.setCells M 23 [.int .i64 kb, .int .i64 ks]) d2 D (.cells zc 38) M ⟨4, zR, zQ, zP, ((xa : Int), ((kb, ks), tx []))⟩ (.slice none 0 0) (.slice none 0 0) (.slice none 0 0)) := HA2.out.setP 23 [.int .i64 kb, .int .i64 ks] rfl
  have hp := num_any B sc g d2 7 T v (a2.setCells M 23 [.int .i64 kb, .int .i64 ks]) HM2.out.sb.st HT.out (by omega) (by omega)
  obtain ⟨p3, hp3⟩ : ∃ p, tn 7 T d2 = p := ⟨_, rfl⟩
  have HP3 : Hid (tn 7 T d2 = p3) := hp3
  rw [hp3] at hp
  clear hp3
  obtain ⟨n, d3⟩ := p3
  dsimp only at hp
  go_wp2_with (refine stM (cs := [.int .i64 kb, .int .i64 ks]) HTH2.out szKey rfl rfl _ _ rfl rfl rfl ?_)
  refine hp.mono ?_
  rintro e a3 ⟨rfl, hs, hk⟩
  have HA3 : Hid (SM B sc g T v w a3 d3 D (.cells zc 38) M ⟨4, zR, zQ, zP, ((xa : Int), ((kb, ks), tx []))⟩ (.slice none 0 0) (.slice none 0 0) (.slice none 0 0)) := HM2.out.next hs hk
  clear hp hs hk HM2
  have HNL : Hid (n < 128) := by
    have h := tn_lt 7 T d2
    rw [HP3.out] at h
    exact h
  have hn128 : n < 128 := HNL.out
  obtain ⟨i0, hi, hz0, hz1, hz2⟩ := infoU8_parts
  go_wp2_with fail
  go_loopw [10, 11] (fun x i wr => ∃ k : Nat, k ≤ n ∧ i = .int .i64 (k : Int) ∧ wr.ownsRow (M + 1) 5 1 x k (u8s (tl (tn 8) T d3 k).1) ∧ SM B sc g T v w wr (tl (tn 8) T d3 k).2 D (.cells zc 38) M ⟨4, zR, zQ, zP, ((xa : Int), ((kb, ks), tx []))⟩ (.slice none 0 0) (.slice none 0 0) (.slice none 0 0)) (fun _ i _ => n - (intOf i).toNat)
  case atStart => exact ⟨0, by omega, rfl, World.ownsRow_nil _ _ _ _, HA3.out⟩
  case round =>
    obtain ⟨k, hk, rfl, hr, hs⟩ := hrel
    have HR : Hid (wr.ownsRow (M + 1) 5 1 u10 k (u8s (tl (tn 8) T d3 k).1)) := hr
    have HX : Hid (tl (tn 8) T d3 (k + 1) = ((tl (tn 8) T d3 k).1 ++ [(tn 8 T (tl (tn 8) T d3 k).2).1], (tn 8 T (tl (tn 8) T d3 k).2).2)) := rfl
    have HLN : Hid ((tl (tn 8) T d3 k).1.length = k) := tl_len _ _ _ _
    have HALL : Hid (∀ x ∈ (tl (tn 8) T d3 k).1, x < 256) := tl_lt _ _ _
    have HM2 : Hid (SM B sc g T v w wr (tl (tn 8) T d3 k).2 D (.cells zc 38) M ⟨4, zR, zQ, zP, ((xa : Int), ((kb, ks), tx []))⟩ (.slice none 0 0) (.slice none 0 0) (.slice none 0 0)) := hs
    clear hr hs HA3
    by_cases hkn : k < n
    · have i1 : (k : Int) < (n : Int) := by omega
      generalize tl (tn 8) T d3 k = lc at *
      obtain ⟨l, c2⟩ := lc
      dsimp only at HR HX HLN HM2 HALL
      have hp := num_any B sc g c2 8 T v wr HM2.out.sb.st HT.out (by omega) (by omega)
      have hy := tn_lt 8 T c2
      generalize tn 8 T c2 = p at *
      obtain ⟨y, c3⟩ := p
      dsimp only at hp HX hy
      have hwy : IntKind.u8.wrap (y : Int) = (y : Int) := by simp [IntKind.wrap, IntKind.bits, IntKind.signed]; omega
      go_wp2_with fail
      refine hp.mono ?_
      rintro e w4 ⟨rfl, hs4, hk4⟩
      have hr4 := hk4.row HR.out (fun j hj e => by
        subst e
        have h1 := (HR.out.lt j hj).1
        have h2 := row_lt HW.out.rm.blk
        have h3 := HM2.out.lm
        omega)
      have HM4 : Hid (SM B sc g T v w w4 c3 D (.cells zc 38) M ⟨4, zR, zQ, zP, ((xa : Int), ((kb, ks), tx []))⟩ (.slice none 0 0) (.slice none 0 0) (.slice none 0 0)) := HM2.out.next hs4 hk4
      have hsz : M + 1 ≤ w4.heap.size := by have := row_lt HM4.out.hm; omega
      clear hp hs4 hk4
      go_wp2_with (at_builtin; (refine wpList_append_own _ rfl _ _ 101 rfl (M + 1) 5 i0 (.int .u8 0) 1 1 Tryz.underlying101 hi hz0 hz1 hz2 rfl (by decide) u10 k (u8s l) rfl (hr4.alloc _) ⟨w4.heap.size, 0, none⟩ 1 1 [.int .u8 (y : Int)] rfl rfl (cell_row_new _ _ _) (by simp [Value.oneCell']) (by unfold maxLen; omega) (by omega) (by simp; omega) ?_); intro v' w5 hown hg5 _; have HO : Hid (w5.ownsRow (M + 1) 5 1 v' (k + 1) (u8s l ++ [.int .u8 (y : Int)])) := hown; have HG5 : Hid ((w4.alloc (.cells #[.int .u8 (y : Int)] 5)).grownBy w5 u10.ownBlock) := hg5; clear hown hg5)
      have HR4 : Hid (w4.ownsRow (M + 1) 5 1 u10 k (u8s l)) := hr4
      go_roundw
      case rel =>
        refine ⟨k + 1, by omega, by go_num, ?_, ?_⟩
        · rw [HX.out]; dsimp only; simpa [u8s] using HO.out
        · rw [HX.out]; exact HM4.out.grown HW.out HR4.out HG5.out (by have := HD.out; have := HM4.out.sb.le; have := HM4.out.lm; omega)
      case measure => simp [intOf]; omega
    · have hkn' : decide ((k : Int) < (n : Int)) = false := by simp; omega
      obtain rfl : k = n := by omega
      have hcv := conv_row HLN.out HR.out HALL.out
      have ck := HM2.out.cell 0 _ rfl
      have cx := HM2.out.cell 25 _ rfl
      have fx := HM2.out.fr 25
      try dsimp only at ck cx
      have HM9 : Hid (SM B sc g T v w (wr.setCell ⟨M, 25, none⟩ (.string (tx (tl (tn 8) T d3 k).1))) (tl (tn 8) T d3 k).2 D (.cells zc 38) M ⟨4, zR, zQ, zP, ((xa : Int), ((kb, ks), tx (tl (tn 8) T d3 k).1))⟩ (.slice none 0 0) (.slice none 0 0) (.slice none 0 0)) := HM2.out.set 25 (.string (tx (tl (tn 8) T d3 k).1)) rfl
      have HRA : Hid ((wr.setCell ⟨M, 25, none⟩ (.string (tx (tl (tn 8) T d3 k).1))).rangeAt M 0 (mgl ⟨4, zR, zQ, zP, ((xa : Int), ((kb, ks), tx (tl (tn 8) T d3 k).1))⟩ (.slice none 0 0) (.slice none 0 0) (.slice none 0 0))) := ra_of HM9.out.hm 0 _ (by simp)
      go_wp2_with (first | (refine ldM HRA.out Tryz.underlying38 rfl szMg _ rfl rfl rfl ?_) | (refine stW szMg HM9.out.sb.hd HZC.out (mgl ⟨4, zR, zQ, zP, ((xa : Int), ((kb, ks), tx (tl (tn 8) T d3 k).1))⟩ (.slice none 0 0) (.slice none 0 0) (.slice none 0 0)) rfl rfl rfl _ _ rfl rfl rfl ?_))
      have hb5 := HM9.out.sb.setRow (mgl ⟨4, zR, zQ, zP, ((xa : Int), ((kb, ks), tx (tl (tn 8) T d3 k).1))⟩ (.slice none 0 0) (.slice none 0 0) (.slice none 0 0)).toArray
      refine bodyPost_ret (res1 (T := 38) (p := 2) rfl _ _ D (mgl ⟨4, zR, zQ, zP, ((xa : Int), ((kb, ks), tx (tl (tn 8) T d3 k).1))⟩ (.slice none 0 0) (.slice none 0 0) (.slice none 0 0)).toArray rfl (run_loadVar_row _ D _ 38 _ _ _ hb5.hd Tryz.underlying38 rfl szMg)) rfl ?_
      refine ⟨_, rfl, ?_, hb5.kp⟩
      have e : (tD T c1).1 = ((xa : Int), ((kb, ks), tx (tl (tn 8) T d3 k).1)) := by
        show ((((tn 8 T c1).1 : Nat) : Int), ((tK T (tn 8 T c1).2).1, tx (tl (tn 8) T (tn 7 T (tK T (tn 8 T c1).2).2).2 (tn 7 T (tK T (tn 8 T c1).2).2).1).1)) = _
        rw [HP1.out]
        dsimp only
        rw [HP2.out]
        dsimp only
        rw [HP3.out]
      rw [e]
      exact MO.nil _ _ _ _ _ _ (by show (tx (tl (tn 8) T d3 k).1).size < _; rw [Bt.tx_size, HLN.out]; omega)
end Go.Proofs.YtdkfifnhmfbagaaGreat.Wi
