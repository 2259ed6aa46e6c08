/- Contract of the document's reader: message, at a rekey. -/
import Derived.Test.YtdkfifnhmfbagaaGreatWiJ6
namespace Go.Proofs.YtdkfifnhmfbagaaGreat.Wi
open Go.RowKit Go.Maps
open Bt (Kept Rm tb bys bv tx u8s)
set_option linter.unusedVariables false
set_option linter.unusedSimpArgs false

section
variable {B : Nat} {w W : World} {sc g c M n1 k n T2 : Nat} {T : List Bool} {v x : Value} {xs : List Value}
theorem far_g (h0 : SC B w sc g c T v) (lm : w.heap.size ≤ M) (hr : W.ownsRow (M + 1) T2 k x n xs) : ∀ j, x.ownBlock = some j → ¬ j = g := fun j hj e => by
  have h1 := (hr.lt j hj).1
  have h2 := row_lt h0.rm.blk
  omega
theorem far_m (hr : W.ownsRow (M + 1) T2 k x n xs) : ∀ j, x.ownBlock = some j → ¬ j = M := fun j hj e => by
  have h1 := (hr.lt j hj).1
  omega
theorem far_n (h0 : SC B w sc g c T v) (lm : w.heap.size ≤ M) (hM : M < n1) (hr : W.ownsRow n1 T2 k x n xs) : ∀ j, x.ownBlock = some j → ¬ j = g := fun j hj e => by
  have h1 := (hr.lt j hj).1
  have h2 := row_lt h0.rm.blk
  omega
end
theorem infoIt : (Tryz.prog.info? 53).map (fun i => (i.zero, i.size, i.bytes)) = some (some (.agg #[.int .i64 0, .int .i64 0, .int .i64 0, .int .i64 0, .int .i64 0, .int .i64 0]), 6, 48) := by kernel_rfl
theorem infoIt_parts : ∃ i, Tryz.prog.info? 53 = some i ∧ i.zero = some (.agg #[.int .i64 0, .int .i64 0, .int .i64 0, .int .i64 0, .int .i64 0, .int .i64 0]) ∧ i.size = 6 ∧ i.bytes = 48 := by
  have h := infoIt
  cases hq : Tryz.prog.info? 53 with
  | none => rw [hq] at h; cases h
  | some i =>
    rw [hq] at h
    simp at h
    exact ⟨i, rfl, h.1, h.2.1, h.2.2⟩
theorem appT {ops : Array Oper} {o : Oper} {a : Act} {w : World} {K : Act → World → Prop} {Q : Exit → Act → World → Prop} {E : Prop} (hw : Region.wanted o (yielded ops a.tmps) = true) (d : Tmp) (hd : o.dst = some d) (s x : Operand)
    (ho : o.op = .call { callee := .builtin .append, args := #[s, x], argTypes := #[ 23, 23 ] })
    (n0 : Nat) (v : Value) (l : List ((Int × Int) × ((Int × Int) × (Int × Int)))) (k : Nat) (hk : l.length = k) (hs : a.eval s = v) (hown : w.ownsRow n0 53 6 v k (l.flatMap itl)) (g : Nat) (y : (Int × Int) × ((Int × Int) × (Int × Int))) (hx : a.eval x = .slice (some ⟨g, 0, none⟩) 1 1)
    (hnews : ∀ j u, (itl y)[j]? = some u → w.cell? ((⟨g, 0, none⟩ : Addr).add j) = some u) (hl : k ≤ 4096) (hb : n0 ≤ w.heap.size)
    (h : ∀ v' w', w'.ownsRow n0 53 6 v' (k + 1) (l.flatMap itl ++ itl y) → w.grownBy w' v.ownBlock → K (a.put (some d) v') w') :
    if Region.wanted o (yielded ops a.tmps) = true then Oper.wp Tryz.prog o a w K Q else E := by
  obtain ⟨i0, hi, hz0, hz1, hz2⟩ := infoIt_parts
  rw [if_pos hw]
  refine wp_append_own w s x 23 ho n0 53 i0 _ 6 48 Tryz.underlying23 hi hz0 hz1 hz2 rfl (by omega) v k (l.flatMap itl) hs hown ⟨g, 0, none⟩ 1 1 (itl y) hx rfl hnews (by simp [itl, Value.oneCell']) (by unfold maxLen; omega) (by omega) hb ?_
  intro v' w' h2 h3 h4
  rw [hd]
  exact h v' w' h2 h3
set_option maxRecDepth 100000 in
set_option maxHeartbeats 2000000 in
theorem rMsg_1 (B sc g : Nat) (T : List Bool) (v : Value) (w : World) (h : SC B w sc g 0 T v) (hT : T.length < 4611686018427387904) (hk : (tn 2 T 0).1 = 0) :
    Calls Tryz.prog 44 #[.pointer (some ⟨sc, 0, none⟩)] w fun e w' => ∃ ct, e = .returned (.agg ct.toArray) ∧ MO w.heap.size w' (tM T) ct ∧ Kept (fun k => k = g) w w' := by
  have hb := SB.new h (.cells #[.int .i64 0, .int .i64 0, .slice none 0 0, .slice none 0 0, .slice none 0 0, .int .i64 0, .int .i64 0, .int .i64 0, .int .i64 0, .int .i64 0, .int .i64 0, .int .i64 0, .int .i64 0, .int .i64 0, .int .i64 0, .int .i64 0, .int .i64 0, .int .i64 0, .int .i64 0, .int .i64 0, .int .i64 0, .int .i64 0, .int .i64 0, .int .i64 0, .int .i64 0, .string ⟨#[]⟩] 38)
  have HT : Hid (T.length < 4611686018427387904) := hT
  have HN : Hid (tM T = mR (tR T (tn 2 T 0).2).1) := by unfold Hid tM; rw [if_pos hk]
  rw [HN.out]
  have hp := num_any B sc g 0 2 T v _ hb.st hT (by omega) (by omega)
  obtain ⟨p1, hp1⟩ : ∃ p, tn 2 T 0 = p := ⟨_, rfl⟩
  rw [hp1] at hp hk ⊢
  obtain ⟨x0, c1⟩ := p1
  dsimp only at hp hk ⊢
  subst hk
  have HW : Hid (SC B w sc g 0 T v) := h
  clear h hT HN hp1
  go_enter Tryz.func44, Tryz.ntmps44
  go_upto_region 1 with (fail)
  generalize w.alloc (.cells #[.int .i64 0, .int .i64 0, .slice none 0 0, .slice none 0 0, .slice none 0 0, .int .i64 0, .int .i64 0, .int .i64 0, .int .i64 0, .int .i64 0, .int .i64 0, .int .i64 0, .int .i64 0, .int .i64 0, .int .i64 0, .int .i64 0, .int .i64 0, .int .i64 0, .int .i64 0, .int .i64 0, .int .i64 0, .int .i64 0, .int .i64 0, .int .i64 0, .int .i64 0, .string ⟨#[]⟩] 38) = w1 at *
  obtain ⟨zc, hzc⟩ : ∃ z : Array Value, #[.int .i64 0, .int .i64 0, .slice none 0 0, .slice none 0 0, .slice none 0 0, .int .i64 0, .int .i64 0, .int .i64 0, .int .i64 0, .int .i64 0, .int .i64 0, .int .i64 0, .int .i64 0, .int .i64 0, .int .i64 0, .int .i64 0, .int .i64 0, .int .i64 0, .int .i64 0, .int .i64 0, .int .i64 0, .int .i64 0, .int .i64 0, .int .i64 0, .int .i64 0, .string ⟨#[]⟩] = z := ⟨_, rfl⟩
  have HZC : Hid (zc.size = 26) := by unfold Hid; rw [← hzc]; rfl
  rw [hzc] at hb
  clear hzc
  obtain ⟨D, hDe⟩ : ∃ D, w.heap.size = D := ⟨_, rfl⟩
  rw [hDe] at hb ⊢
  have HD : Hid (w.heap.size = D) := hDe
  clear hDe
  have HB1 : Hid (SB B sc g T v w w1 0 D (.cells zc 38)) := hb
  clear hb
  go_wp2_with fail
  refine hp.mono ?_
  rintro e w2 ⟨rfl, hs2, hk2⟩
  have HB2 : Hid (SB B sc g T v w w2 c1 D (.cells zc 38)) := HB1.out.next hs2 hk2
  clear hp hs2 hk2 HB1
  go_upto_region 2 with (refine stN szMg rfl (mgl ⟨1, zR, zQ, zP, zD⟩ (.slice none 0 0) (.slice none 0 0) (.slice none 0 0)) rfl rfl rfl _ _ rfl rfl rfl ?_)
  have hm : SM B sc g T v w (w2.alloc (.cells (mgl ⟨1, zR, zQ, zP, zD⟩ (.slice none 0 0) (.slice none 0 0) (.slice none 0 0)).toArray 38)) c1 D (.cells zc 38) w2.heap.size ⟨1, zR, zQ, zP, zD⟩ (.slice none 0 0) (.slice none 0 0) (.slice none 0 0) :=
    ⟨HB2.out.later (below_alloc _ _), heap_alloc_last w2 _, ⟨HB2.out.st.new, by have := row_lt HB2.out.hd; omega⟩, HB2.out.kp.size⟩
  generalize w2.alloc (.cells (mgl ⟨1, zR, zQ, zP, zD⟩ (.slice none 0 0) (.slice none 0 0) (.slice none 0 0)).toArray 38) = w3 at *
  generalize w2.heap.size = M at *
  have ck := hm.cell 0 _ rfl
  dsimp only at ck
  have HM : Hid (SM B sc g T v w w3 c1 D (.cells zc 38) M ⟨1, zR, zQ, zP, zD⟩ (.slice none 0 0) (.slice none 0 0) (.slice none 0 0)) := hm
  clear hm HB2
  have hp := num_any B sc g c1 8 T v w3 HM.out.sb.st HT.out (by omega) (by omega)
  obtain ⟨p1, hp1⟩ : ∃ p, tn 8 T c1 = p := ⟨_, rfl⟩
  have HP1 : Hid (tn 8 T c1 = p1) := hp1
  rw [hp1] at hp
  clear hp1
  obtain ⟨xa, d1⟩ := p1
  dsimp only at hp
  go_wp2_with fail
  refine hp.mono ?_
  rintro e a1 ⟨rfl, hs, hk⟩
  have HA1 : Hid (SM B sc g T v w a1 d1 D (.cells zc 38) M ⟨1, zR, zQ, zP, zD⟩ (.slice none 0 0) (.slice none 0 0) (.slice none 0 0)) := HM.out.next hs hk
  clear hp hs hk HM
  try clear ck
  have ck := HA1.out.cell 0 _ rfl
  dsimp only at ck
  have cx := HA1.out.cell 1 _ rfl
  have fx := HA1.out.fr 1
  try dsimp only at cx
  have HM1 : Hid (SM B sc g T v w (a1.setCell ⟨M, 1, none⟩ (.int .i64 (xa : Int))) d1 D (.cells zc 38) M ⟨1, ((xa : Int), ([], ([], []))), zQ, zP, zD⟩ (.slice none 0 0) (.slice none 0 0) (.slice none 0 0)) := HA1.out.set 1 (.int .i64 (xa : Int)) rfl
  clear HA1
  have hp := rScanS_any B sc g d1 T v (a1.setCell ⟨M, 1, none⟩ (.int .i64 (xa : Int))) HM1.out.sb.st HT.out
  have HQ2 : Hid ((tc 7 tS T d1).1.length < 128) := by unfold Hid tc; rw [tl_len]; exact tn_lt 7 T _
  obtain ⟨p2, hp2⟩ : ∃ p, tc 7 tS T d1 = p := ⟨_, rfl⟩
  have HP2 : Hid (tc 7 tS T d1 = p2) := hp2
  rw [hp2] at hp HQ2
  clear hp2
  obtain ⟨lL, d2⟩ := p2
  dsimp only at hp HQ2
  have hM1 : M + 1 ≤ (a1.setCell ⟨M, 1, none⟩ (.int .i64 (xa : Int))).heap.size := by have := row_lt HM1.out.hm; omega
  go_wp2_with fail
  refine hp.mono ?_
  rintro e a2 ⟨xL, rfl, hr, hs, hk⟩
  have hr := owns_wide hr hM1
  clear hM1
  obtain ⟨aL, cL, hvL⟩ := owns_slice hr
  subst hvL
  obtain ⟨nL, hnL⟩ : ∃ n, lL.length = n := ⟨_, rfl⟩
  have HNL2 : Hid (lL.length = nL) := hnL
  rw [hnL] at hr HQ2
  try rw [hnL]
  clear hnL
  have HA2 : Hid (SM B sc g T v w a2 d2 D (.cells zc 38) M ⟨1, ((xa : Int), ([], ([], []))), zQ, zP, zD⟩ (.slice none 0 0) (.slice none 0 0) (.slice none 0 0)) := HM1.out.next hs hk
  have HRL : Hid (a2.ownsRow (M + 1) 55 2 (.slice aL nL cL) nL (lL.flatMap stl)) := hr
  clear hp hs hk hr HM1
  try clear ck
  try clear cx
  try clear fx
  have ck := HA2.out.cell 0 _ rfl
  have cx := HA2.out.cell 2 _ rfl
  have fx := HA2.out.fr 2
  try dsimp only at ck cx
  have HM2 : Hid (SM B sc g T v w (a2.setCell ⟨M, 2, none⟩ (.slice aL nL cL)) d2 D (.cells zc 38) M ⟨1, ((xa : Int), (lL, ([], []))), zQ, zP, zD⟩ (.slice aL nL cL) (.slice none 0 0) (.slice none 0 0)) := HA2.out.set 2 (.slice aL nL cL) rfl
  have HRL2 : Hid ((a2.setCell ⟨M, 2, none⟩ (.slice aL nL cL)).ownsRow (M + 1) 55 2 (.slice aL nL cL) nL (lL.flatMap stl)) := ((Kept.refl (fun k => k = M) a2).setCell (p := ⟨M, 2, none⟩) (fun _ => rfl) _).row HRL.out (far_m HRL.out)
  clear HA2
  have hp := rScanS_any B sc g d2 T v (a2.setCell ⟨M, 2, none⟩ (.slice aL nL cL)) HM2.out.sb.st HT.out
  have HQ3 : Hid ((tc 7 tS T d2).1.length < 128) := by unfold Hid tc; rw [tl_len]; exact tn_lt 7 T _
  obtain ⟨p3, hp3⟩ : ∃ p, tc 7 tS T d2 = p := ⟨_, rfl⟩
  have HP3 : Hid (tc 7 tS T d2 = p3) := hp3
  rw [hp3] at hp HQ3
  clear hp3
  obtain ⟨lJ, d3⟩ := p3
  dsimp only at hp HQ3
  have hM1 : M + 1 ≤ (a2.setCell ⟨M, 2, none⟩ (.slice aL nL cL)).heap.size := by have := row_lt HM2.out.hm; omega
  go_wp2_with fail
  refine hp.mono ?_
  rintro e a3 ⟨xJ, rfl, hr, hs, hk⟩
  have hr := owns_wide hr hM1
  clear hM1
  obtain ⟨aJ, cJ, hvJ⟩ := owns_slice hr
  subst hvJ
  obtain ⟨nJ, hnJ⟩ : ∃ n, lJ.length = n := ⟨_, rfl⟩
  have HNJ2 : Hid (lJ.length = nJ) := hnJ
  rw [hnJ] at hr HQ3
  try rw [hnJ]
  clear hnJ
  have HA3 : Hid (SM B sc g T v w a3 d3 D (.cells zc 38) M ⟨1, ((xa : Int), (lL, ([], []))), zQ, zP, zD⟩ (.slice aL nL cL) (.slice none 0 0) (.slice none 0 0)) := HM2.out.next hs hk
  have HRJ : Hid (a3.ownsRow (M + 1) 55 2 (.slice aJ nJ cJ) nJ (lJ.flatMap stl)) := hr
  have HRLj : Hid (a3.ownsRow (M + 1) 55 2 (.slice aL nL cL) nL (lL.flatMap stl)) := hk.row HRL2.out (far_g HW.out HM2.out.lm HRL2.out)
  clear hp hs hk hr HM2
  try clear ck
  try clear cx
  try clear fx
  have ck := HA3.out.cell 0 _ rfl
  have cx := HA3.out.cell 3 _ rfl
  have fx := HA3.out.fr 3
  try dsimp only at ck cx
  have HM3 : Hid (SM B sc g T v w (a3.setCell ⟨M, 3, none⟩ (.slice aJ nJ cJ)) d3 D (.cells zc 38) M ⟨1, ((xa : Int), (lL, (lJ, []))), zQ, zP, zD⟩ (.slice aL nL cL) (.slice aJ nJ cJ) (.slice none 0 0)) := HA3.out.set 3 (.slice aJ nJ cJ) rfl
  have HRJ2 : Hid ((a3.setCell ⟨M, 3, none⟩ (.slice aJ nJ cJ)).ownsRow (M + 1) 55 2 (.slice aJ nJ cJ) nJ (lJ.flatMap stl)) := ((Kept.refl (fun k => k = M) a3).setCell (p := ⟨M, 3, none⟩) (fun _ => rfl) _).row HRJ.out (far_m HRJ.out)
  have HRL3 : Hid ((a3.setCell ⟨M, 3, none⟩ (.slice aJ nJ cJ)).ownsRow (M + 1) 55 2 (.slice aL nL cL) nL (lL.flatMap stl)) := ((Kept.refl (fun k => k = M) a3).setCell (p := ⟨M, 3, none⟩) (fun _ => rfl) _).row HRLj.out (far_m HRLj.out)
  clear HA3
  have hp := num_any B sc g d3 11 T v (a3.setCell ⟨M, 3, none⟩ (.slice aJ nJ cJ)) HM3.out.sb.st HT.out (by omega) (by omega)
  obtain ⟨p4, hp4⟩ : ∃ p, tn 11 T d3 = p := ⟨_, rfl⟩
  have HP4 : Hid (tn 11 T d3 = p4) := hp4
  rw [hp4] at hp
  clear hp4
  obtain ⟨n, d4⟩ := p4
  dsimp only at hp
  go_wp2_with fail
  refine hp.mono ?_
  rintro e a4 ⟨rfl, hs, hk⟩
  have HRL4 : Hid (a4.ownsRow (M + 1) 55 2 (.slice aL nL cL) nL (lL.flatMap stl)) := hk.row HRL3.out (far_g HW.out HM3.out.lm HRL3.out)
  have HRJ4 : Hid (a4.ownsRow (M + 1) 55 2 (.slice aJ nJ cJ) nJ (lJ.flatMap stl)) := hk.row HRJ2.out (far_g HW.out HM3.out.lm HRJ2.out)
  have HA4 : Hid (SM B sc g T v w a4 d4 D (.cells zc 38) M ⟨1, ((xa : Int), (lL, (lJ, []))), zQ, zP, zD⟩ (.slice aL nL cL) (.slice aJ nJ cJ) (.slice none 0 0)) := HM3.out.next hs hk
  clear hp hs hk HM3
  have HNL : Hid (n < 2048) := by
    have h := tn_lt 11 T d3
    rw [HP4.out] at h
    exact h
  have hn2k : n < 2048 := HNL.out
  obtain ⟨n1, hn1⟩ : ∃ n1, a4.heap.size = n1 := ⟨_, rfl⟩
  have HN1 : Hid ((∀ j, (Value.slice aL nL cL).ownBlock = some j → j < n1) ∧ (∀ j, (Value.slice aJ nJ cJ).ownBlock = some j → j < n1) ∧ M < n1) := by
    refine ⟨fun j hj => ?_, fun j hj => ?_, ?_⟩
    · rw [← hn1]; exact (HRL4.out.lt j hj).2
    · rw [← hn1]; exact (HRJ4.out.lt j hj).2
    · rw [← hn1]; exact row_lt HA4.out.hm
  have HN1s : Hid (n1 ≤ a4.heap.size) := by unfold Hid; omega
  clear hn1 HRL HRL2 HRL3 HRLj HRJ HRJ2
  go_wp2_with fail
  go_loopw [5] (fun i wr => ∃ k : Nat, k ≤ n ∧ i = .int .i64 (k : Int) ∧ ∃ aI cI, (SM B sc g T v w wr (tl tI T d4 k).2 D (.cells zc 38) M ⟨1, ((xa : Int), (lL, (lJ, (tl tI T d4 k).1))), zQ, zP, zD⟩ (.slice aL nL cL) (.slice aJ nJ cJ) (.slice aI k cI)) ∧ (wr.ownsRow (M + 1) 55 2 (.slice aL nL cL) nL (lL.flatMap stl) ∧ wr.ownsRow (M + 1) 55 2 (.slice aJ nJ cJ) nJ (lJ.flatMap stl)) ∧ wr.ownsRow n1 53 6 (.slice aI k cI) k ((tl tI T d4 k).1.flatMap itl) ∧ n1 ≤ wr.heap.size) (fun i _ => n - (intOf i).toNat)
  case atStart => exact ⟨0, by omega, rfl, none, 0, HA4.out, ⟨HRL4.out, HRJ4.out⟩, World.ownsRow_nil _ _ _ _, HN1s.out⟩
  case round =>
    obtain ⟨k, hk, rfl, aI, cI, hs, hlj, hr, hsz⟩ := hrel
    have HS : Hid (SM B sc g T v w wr (tl tI T d4 k).2 D (.cells zc 38) M ⟨1, ((xa : Int), (lL, (lJ, (tl tI T d4 k).1))), zQ, zP, zD⟩ (.slice aL nL cL) (.slice aJ nJ cJ) (.slice aI k cI)) := hs
    have HLJ : Hid (wr.ownsRow (M + 1) 55 2 (.slice aL nL cL) nL (lL.flatMap stl) ∧ wr.ownsRow (M + 1) 55 2 (.slice aJ nJ cJ) nJ (lJ.flatMap stl)) := hlj
    have HR : Hid (wr.ownsRow n1 53 6 (.slice aI k cI) k ((tl tI T d4 k).1.flatMap itl)) := hr
    have HSZ : Hid (n1 ≤ wr.heap.size) := hsz
    have HX : Hid (tl tI T d4 (k + 1) = ((tl tI T d4 k).1 ++ [(tI T (tl tI T d4 k).2).1], (tI T (tl tI T d4 k).2).2)) := rfl
    have HLN : Hid ((tl tI T d4 k).1.length = k) := tl_len _ _ _ _
    clear hs hlj hr hsz HA4 HRL4 HRJ4
    try clear ck
    try clear cx
    try clear fx
    by_cases hkn : k < n
    · have i1 : (k : Int) < (n : Int) := by omega
      generalize tl tI T d4 k = lc at *
      obtain ⟨l, c5⟩ := lc
      dsimp only at HS HR HX HLN
      have hp := num_any B sc g c5 5 T v wr HS.out.sb.st HT.out (by omega) (by omega)
      have HTI : Hid (tI T c5 = ((((((tn 5 T c5).1 : Nat) : Int), (((tn 7 T (tn 5 T c5).2).1 : Nat) : Int)), (tB T (tn 7 T (tn 5 T c5).2).2).1), (tB T (tn 7 T (tn 5 T c5).2).2).2)) := rfl
      rw [HTI.out] at HX
      clear HTI
      generalize tn 5 T c5 = p at *
      obtain ⟨pv, c6⟩ := p
      dsimp only at hp HX
      go_wp2_with fail
      refine hp.mono ?_
      rintro e w5 ⟨rfl, hs, hk5⟩
      have HS5 : Hid (SM B sc g T v w w5 c6 D (.cells zc 38) M ⟨1, ((xa : Int), (lL, (lJ, l))), zQ, zP, zD⟩ (.slice aL nL cL) (.slice aJ nJ cJ) (.slice aI k cI)) := HS.out.next hs hk5
      have HLJ5 : Hid (w5.ownsRow (M + 1) 55 2 (.slice aL nL cL) nL (lL.flatMap stl) ∧ w5.ownsRow (M + 1) 55 2 (.slice aJ nJ cJ) nJ (lJ.flatMap stl)) := ⟨hk5.row HLJ.out.1 (far_g HW.out HS.out.lm HLJ.out.1), hk5.row HLJ.out.2 (far_g HW.out HS.out.lm HLJ.out.2)⟩
      have HR5 : Hid (w5.ownsRow n1 53 6 (.slice aI k cI) k (l.flatMap itl)) := hk5.row HR.out (far_n HW.out HS.out.lm HN1.out.2.2 HR.out)
      have HSZ5 : Hid (n1 ≤ w5.heap.size) := Nat.le_trans HSZ.out hk5.size
      clear hp hs hk5 HS HLJ HR HSZ
      have hp := num_any B sc g c6 7 T v w5 HS5.out.sb.st HT.out (by omega) (by omega)
      generalize tn 7 T c6 = p at *
      obtain ⟨pf, c7⟩ := p
      dsimp only at hp HX
      go_wp2_with fail
      refine hp.mono ?_
      rintro e w6 ⟨rfl, hs, hk6⟩
      have hd : Below w6.heap.size w6 w6.drew := drew_below w6
      have HS6 : Hid (SM B sc g T v w w6.drew c7 D (.cells zc 38) M ⟨1, ((xa : Int), (lL, (lJ, l))), zQ, zP, zD⟩ (.slice aL nL cL) (.slice aJ nJ cJ) (.slice aI k cI)) := (HS5.out.next hs hk6).later hd
      have HLJ6 : Hid (w6.drew.ownsRow (M + 1) 55 2 (.slice aL nL cL) nL (lL.flatMap stl) ∧ w6.drew.ownsRow (M + 1) 55 2 (.slice aJ nJ cJ) nJ (lJ.flatMap stl)) := ⟨owns_later (hk6.row HLJ5.out.1 (far_g HW.out HS5.out.lm HLJ5.out.1)) hd, owns_later (hk6.row HLJ5.out.2 (far_g HW.out HS5.out.lm HLJ5.out.2)) hd⟩
      have HR6 : Hid (w6.drew.ownsRow n1 53 6 (.slice aI k cI) k (l.flatMap itl)) := owns_later (hk6.row HR5.out (far_n HW.out HS5.out.lm HN1.out.2.2 HR5.out)) hd
      have HSZ6 : Hid (n1 ≤ w6.drew.heap.size) := Nat.le_trans HSZ5.out (Nat.le_trans hk6.size hd.size)
      clear hp hs hk6 HS5 HLJ5 HR5 HSZ5 hd
      have hp := rBox_any B sc g c7 T v w6.drew HS6.out.sb.st HT.out
      generalize tB T c7 = p at *
      obtain ⟨⟨⟨pa, pb⟩, ⟨pc, pd⟩⟩, c8⟩ := p
      dsimp only [bxl] at hp HX
      have c4 := HS6.out.cell 4 _ rfl
      try dsimp only at c4
      go_upto_region 13 with (fail)
      refine wp_region_held_drew (S := fun _ => True) (by kernel_rfl) trivial (fun hHeld => ?_)
      refine wpAnyH_take (i := 0) (oi := { dst := some 43, op := Op.fieldAddr 38 (Operand.tmp 3) 1, type := _, pos := _, after := _, guard := none }) (v := .pointer (some ⟨M, 1, none⟩)) rfl (by kernel_rfl) (by kernel_rfl) (by kernel_rfl) (fun _ _ _ h => h) (Or.inl ⟨by rfl, fun w hSw => by (try dsimp only at hSw); go_simp⟩) (by assumption) ?_
      simp only [Act.put, List.setIfInBounds_toArray, List.set_cons_zero, List.set_cons_succ]
      refine wpAnyH_take (i := 1) (oi := { dst := some 44, op := Op.fieldAddr 25 (Operand.tmp 43) 3, type := _, pos := _, after := _, guard := none }) (v := .pointer (some ⟨M, 4, none⟩)) rfl (by kernel_rfl) (by kernel_rfl) (by kernel_rfl) (fun _ _ _ h => h) (Or.inl ⟨by rfl, fun w hSw => by (try dsimp only at hSw); go_simp⟩) (by assumption) ?_
      simp only [Act.put, List.setIfInBounds_toArray, List.set_cons_zero, List.set_cons_succ]
      refine wpAnyH_take (i := 3) (oi := { dst := some 46, op := Op.move (Operand.tmp 6), type := _, pos := _, after := _, guard := none }) (v := .int .i64 (pv : Int)) rfl (by kernel_rfl) (by kernel_rfl) (by kernel_rfl) (fun _ _ _ h => h) (Or.inl ⟨by rfl, fun w hSw => by (try dsimp only at hSw); go_simp⟩) (by assumption) ?_
      simp only [Act.put, List.setIfInBounds_toArray, List.set_cons_zero, List.set_cons_succ]
      refine wpAnyH_take (i := 4) (oi := { dst := some 47, op := Op.move (Operand.tmp 7), type := _, pos := _, after := _, guard := none }) (v := .int .i64 (pf : Int)) rfl (by kernel_rfl) (by kernel_rfl) (by kernel_rfl) (fun _ _ _ h => h) (Or.inl ⟨by rfl, fun w hSw => by (try dsimp only at hSw); go_simp⟩) (by assumption) ?_
      simp only [Act.put, List.setIfInBounds_toArray, List.set_cons_zero, List.set_cons_succ]
      refine wpAnyH_take (i := 5) (oi := { dst := some 48, op := Op.move (Operand.tmp 0), type := _, pos := _, after := _, guard := none }) (v := .pointer (some ⟨sc, 0, none⟩)) rfl (by kernel_rfl) (by kernel_rfl) (by kernel_rfl) (fun _ _ _ h => h) (Or.inl ⟨by rfl, fun w hSw => by (try dsimp only at hSw); go_simp⟩) (by assumption) ?_
      simp only [Act.put, List.setIfInBounds_toArray, List.set_cons_zero, List.set_cons_succ]
      refine wpAnyH_ready (rs := [2, 6]) (by kernel_rfl) (by simp) ?_
      refine (AllReadyH.cons rfl (fun K hK => ?_) (AllReadyH.cons rfl (fun K hK => ?_) AllReadyH.nil))
      · go_simp
        refine hK.out _ _ trivial (fun hHd1 => ?_)
        clear hHeld
        clear hK K
        try simp only [Act.put, List.setIfInBounds_toArray, List.set_cons_zero, List.set_cons_succ]
        refine wpAnyH_ready (rs := [6]) (by kernel_rfl) (by simp) ?_
        refine AllReadyH.cons rfl (fun K hK => ?_) AllReadyH.nil
        go_simp
        refine hp.mono ?_
        rintro e w7 ⟨rfl, hs, hk7⟩
        have HS7 : Hid (SM B sc g T v w w7 c8 D (.cells zc 38) M ⟨1, ((xa : Int), (lL, (lJ, l))), zQ, zP, zD⟩ (.slice aL nL cL) (.slice aJ nJ cJ) (.slice aI k cI)) := HS6.out.next hs hk7
        have HLJ7 : Hid (w7.ownsRow (M + 1) 55 2 (.slice aL nL cL) nL (lL.flatMap stl) ∧ w7.ownsRow (M + 1) 55 2 (.slice aJ nJ cJ) nJ (lJ.flatMap stl)) := ⟨hk7.row HLJ6.out.1 (far_g HW.out HS6.out.lm HLJ6.out.1), hk7.row HLJ6.out.2 (far_g HW.out HS6.out.lm HLJ6.out.2)⟩
        have HR7 : Hid (w7.ownsRow n1 53 6 (.slice aI k cI) k (l.flatMap itl)) := hk7.row HR6.out (far_n HW.out HS6.out.lm HN1.out.2.2 HR6.out)
        have HSZ7 : Hid (n1 ≤ w7.heap.size) := Nat.le_trans HSZ6.out hk7.size
        have c47 := HS7.out.cell 4 _ rfl
        try dsimp only at c47
        clear hp hs hk7 HS6 HLJ6 HR6 HSZ6
        clear c4
        have c4 := c47
        clear c47
        go_wp2_with fail
        refine hK.out _ _ trivial (fun hHd2 => ?_)
        clear hHd1
        clear hK K
        try simp only [Act.put, List.setIfInBounds_toArray, List.set_cons_zero, List.set_cons_succ]
        refine wpAnyH_take (i := 7) (oi := { dst := some 50, op := Op.build 53 #[(0, (Operand.tmp 46)), (1, (Operand.tmp 47)), (2, (Operand.tmp 49))], type := _, pos := _, after := _, guard := none }) (v := .agg #[.int .i64 (pv : Int), .int .i64 (pf : Int), .int .i64 pa, .int .i64 pb, .int .i64 pc, .int .i64 pd]) rfl (by kernel_rfl) (by kernel_rfl) (by kernel_rfl) (fun _ _ _ h => h) (Or.inl ⟨by rfl, fun w hSw => by (try dsimp only at hSw); go_simp⟩) (by assumption) ?_
        simp only [Act.put, List.setIfInBounds_toArray, List.set_cons_zero, List.set_cons_succ]
        refine wpAnyH_ready (rs := [8]) (by kernel_rfl) (by simp) ?_
        refine AllReadyH.cons rfl (fun K hK => ?_) AllReadyH.nil
        go_simp
        have c48 := (HS7.out.later (below_alloc w7 (.cells #[.int .i64 (pv : Int), .int .i64 (pf : Int), .int .i64 pa, .int .i64 pb, .int .i64 pc, .int .i64 pd] 53))).cell 4 _ rfl
        try dsimp only at c48
        clear c4
        have c4 := c48
        clear c48
        refine hK.out _ _ trivial (fun hHd3 => ?_)
        clear hHd2
        clear hK K
        try simp only [Act.put, List.setIfInBounds_toArray, List.set_cons_zero, List.set_cons_succ]
        refine wpAnyH_ready (rs := [9]) (by kernel_rfl) (by simp) ?_
        refine AllReadyH.cons rfl (fun Kc hK => ?_) AllReadyH.nil
        refine appT rfl 52 rfl _ _ rfl n1 (.slice aI k cI) l k HLN.out rfl (HR7.out.alloc _) w7.heap.size (((pv : Int), (pf : Int)), ((pa, pb), (pc, pd))) rfl (cell_row_new _ _ _) (by omega) (by have := HSZ7.out; simp; omega) ?_
        intro v' w8 hown hg8
        obtain ⟨a2, k2, hv2⟩ := owns_slice hown
        subst hv2
        have HS8 : Hid (SM B sc g T v w w8 c8 D (.cells zc 38) M ⟨1, ((xa : Int), (lL, (lJ, l))), zQ, zP, zD⟩ (.slice aL nL cL) (.slice aJ nJ cJ) (.slice aI k cI)) := HS7.out.grown HW.out (owns_wide HR7.out (by have := HN1.out.2.2; omega)) hg8 (by have := HD.out; have := HS7.out.sb.le; have := HS7.out.lm; omega)
        obtain ⟨_, kB, _⟩ := grown_kept HS7.out.sb.st hg8 (owns_wide HR7.out (by have := HS7.out.lm; have := HN1.out.2.2; omega)) HW.out
        have HLJ8 : Hid (w8.ownsRow (M + 1) 55 2 (.slice aL nL cL) nL (lL.flatMap stl) ∧ w8.ownsRow (M + 1) 55 2 (.slice aJ nJ cJ) nJ (lJ.flatMap stl)) := ⟨kB.row HLJ7.out.1 (fun j hj e => by have h1 := HN1.out.1 j hj; have h2 := (HR7.out.lt j e).1; omega), kB.row HLJ7.out.2 (fun j hj e => by have h1 := HN1.out.2.1 j hj; have h2 := (HR7.out.lt j e).1; omega)⟩
        have HR8 : Hid (w8.ownsRow n1 53 6 (.slice a2 (k + 1) k2) (k + 1) (l.flatMap itl ++ itl (((pv : Int), (pf : Int)), ((pa, pb), (pc, pd))))) := hown
        have HSZ8 : Hid (n1 ≤ w8.heap.size) := Nat.le_trans HSZ7.out kB.size
        have c48 := HS8.out.cell 4 _ rfl
        have f48 := HS8.out.fr 4
        try dsimp only at c48
        clear hown hg8 kB HS7 HLJ7 HR7 HSZ7 c4
        refine hK.out _ _ trivial (fun hHd4 => ?_)
        clear hHd3
        clear hK Kc
        try simp only [Act.put, List.setIfInBounds_toArray, List.set_cons_zero, List.set_cons_succ]
        refine wpAnyH_take (i := 10) (oi := { dst := some 53, op := Op.fieldAddr 38 (Operand.tmp 3) 1, type := _, pos := _, after := _, guard := none }) (v := .pointer (some ⟨M, 1, none⟩)) rfl (by kernel_rfl) (by kernel_rfl) (by kernel_rfl) (fun _ _ _ h => h) (Or.inl ⟨by rfl, fun w hSw => by (try dsimp only at hSw); go_simp⟩) (by assumption) ?_
        simp only [Act.put, List.setIfInBounds_toArray, List.set_cons_zero, List.set_cons_succ]
        refine wpAnyH_take (i := 11) (oi := { dst := some 54, op := Op.fieldAddr 25 (Operand.tmp 53) 3, type := _, pos := _, after := _, guard := none }) (v := .pointer (some ⟨M, 4, none⟩)) rfl (by kernel_rfl) (by kernel_rfl) (by kernel_rfl) (fun _ _ _ h => h) (Or.inl ⟨by rfl, fun w hSw => by (try dsimp only at hSw); go_simp⟩) (by assumption) ?_
        simp only [Act.put, List.setIfInBounds_toArray, List.set_cons_zero, List.set_cons_succ]
        refine wpAnyH_ready (rs := [12]) (by kernel_rfl) (by simp) ?_
        refine AllReadyH.cons rfl (fun K hK => ?_) AllReadyH.nil
        go_simp
        have HS9 : Hid (SM B sc g T v w (w8.setCell ⟨M, 4, none⟩ (.slice a2 (k + 1) k2)) c8 D (.cells zc 38) M ⟨1, ((xa : Int), (lL, (lJ, (l ++ [(((pv : Int), (pf : Int)), ((pa, pb), (pc, pd)))])))), zQ, zP, zD⟩ (.slice aL nL cL) (.slice aJ nJ cJ) (.slice a2 (k + 1) k2)) := HS8.out.set 4 (.slice a2 (k + 1) k2) rfl
        have kM := (Kept.refl (fun k => k = M) w8).setCell (p := ⟨M, 4, none⟩) (fun _ => rfl) (.slice a2 (k + 1) k2)
        have HLJ9 : Hid ((w8.setCell ⟨M, 4, none⟩ (.slice a2 (k + 1) k2)).ownsRow (M + 1) 55 2 (.slice aL nL cL) nL (lL.flatMap stl) ∧ (w8.setCell ⟨M, 4, none⟩ (.slice a2 (k + 1) k2)).ownsRow (M + 1) 55 2 (.slice aJ nJ cJ) nJ (lJ.flatMap stl)) := ⟨kM.row HLJ8.out.1 (far_m HLJ8.out.1), kM.row HLJ8.out.2 (far_m HLJ8.out.2)⟩
        have HR9 : Hid ((w8.setCell ⟨M, 4, none⟩ (.slice a2 (k + 1) k2)).ownsRow n1 53 6 (.slice a2 (k + 1) k2) (k + 1) (l.flatMap itl ++ itl (((pv : Int), (pf : Int)), ((pa, pb), (pc, pd))))) := kM.row HR8.out (fun j hj e => by have h1 := (HR8.out.lt j hj).1; have h2 := HN1.out.2.2; omega)
        have HSZ9 : Hid (n1 ≤ (w8.setCell ⟨M, 4, none⟩ (.slice a2 (k + 1) k2)).heap.size) := Nat.le_trans HSZ8.out kM.size
        clear kM
        have HF1 : Hid (SM B sc g T v w (w8.setCell ⟨M, 4, none⟩ (.slice a2 (k + 1) k2)) (tl tI T d4 (k + 1)).2 D (.cells zc 38) M ⟨1, ((xa : Int), (lL, (lJ, (tl tI T d4 (k + 1)).1))), zQ, zP, zD⟩ (.slice aL nL cL) (.slice aJ nJ cJ) (.slice a2 (k + 1) k2)) := by unfold Hid; rw [HX.out]; exact HS9.out
        have HF2 : Hid ((w8.setCell ⟨M, 4, none⟩ (.slice a2 (k + 1) k2)).ownsRow n1 53 6 (.slice a2 (k + 1) k2) (k + 1) ((tl tI T d4 (k + 1)).1.flatMap itl)) := by unfold Hid; rw [HX.out]; dsimp only; rw [List.flatMap_append]; simpa using HR9.out
        refine hK.out _ _ trivial (fun hHd5 => ?_)
        clear hHd4 c48 f48
        clear hK K
        try simp only [Act.put, List.setIfInBounds_toArray, List.set_cons_zero, List.set_cons_succ]
        refine wpAnyH_done (by kernel_rfl) ?_ _
        go_wp2_with fail
        go_roundw
        case rel => exact ⟨k + 1, by omega, by go_num, a2, k2, HF1.out, HLJ9.out, HF2.out, HSZ9.out⟩
        case measure => simp [intOf]; omega
      · go_simp
        refine hp.mono ?_
        rintro e w7 ⟨rfl, hs, hk7⟩
        have HS7 : Hid (SM B sc g T v w w7 c8 D (.cells zc 38) M ⟨1, ((xa : Int), (lL, (lJ, l))), zQ, zP, zD⟩ (.slice aL nL cL) (.slice aJ nJ cJ) (.slice aI k cI)) := HS6.out.next hs hk7
        have HLJ7 : Hid (w7.ownsRow (M + 1) 55 2 (.slice aL nL cL) nL (lL.flatMap stl) ∧ w7.ownsRow (M + 1) 55 2 (.slice aJ nJ cJ) nJ (lJ.flatMap stl)) := ⟨hk7.row HLJ6.out.1 (far_g HW.out HS6.out.lm HLJ6.out.1), hk7.row HLJ6.out.2 (far_g HW.out HS6.out.lm HLJ6.out.2)⟩
        have HR7 : Hid (w7.ownsRow n1 53 6 (.slice aI k cI) k (l.flatMap itl)) := hk7.row HR6.out (far_n HW.out HS6.out.lm HN1.out.2.2 HR6.out)
        have HSZ7 : Hid (n1 ≤ w7.heap.size) := Nat.le_trans HSZ6.out hk7.size
        have c47 := HS7.out.cell 4 _ rfl
        try dsimp only at c47
        clear hp hs hk7 HS6 HLJ6 HR6 HSZ6
        clear c4
        have c4 := c47
        clear c47
        go_wp2_with fail
        refine hK.out _ _ trivial (fun hHd1 => ?_)
        clear hHeld
        clear hK K
        try simp only [Act.put, List.setIfInBounds_toArray, List.set_cons_zero, List.set_cons_succ]
        refine wpAnyH_take (i := 7) (oi := { dst := some 50, op := Op.build 53 #[(0, (Operand.tmp 46)), (1, (Operand.tmp 47)), (2, (Operand.tmp 49))], type := _, pos := _, after := _, guard := none }) (v := .agg #[.int .i64 (pv : Int), .int .i64 (pf : Int), .int .i64 pa, .int .i64 pb, .int .i64 pc, .int .i64 pd]) rfl (by kernel_rfl) (by kernel_rfl) (by kernel_rfl) (fun _ _ _ h => h) (Or.inl ⟨by rfl, fun w hSw => by (try dsimp only at hSw); go_simp⟩) (by assumption) ?_
        simp only [Act.put, List.setIfInBounds_toArray, List.set_cons_zero, List.set_cons_succ]
        refine wpAnyH_ready (rs := [2, 8]) (by kernel_rfl) (by simp) ?_
        refine (AllReadyH.cons rfl (fun K hK => ?_) (AllReadyH.cons rfl (fun K hK => ?_) AllReadyH.nil))
        · go_simp
          refine hK.out _ _ trivial (fun hHd2 => ?_)
          clear hHd1
          clear hK K
          try simp only [Act.put, List.setIfInBounds_toArray, List.set_cons_zero, List.set_cons_succ]
          refine wpAnyH_ready (rs := [8]) (by kernel_rfl) (by simp) ?_
          refine AllReadyH.cons rfl (fun K hK => ?_) AllReadyH.nil
          go_simp
          have c48 := (HS7.out.later (below_alloc w7 (.cells #[.int .i64 (pv : Int), .int .i64 (pf : Int), .int .i64 pa, .int .i64 pb, .int .i64 pc, .int .i64 pd] 53))).cell 4 _ rfl
          try dsimp only at c48
          clear c4
          have c4 := c48
          clear c48
          refine hK.out _ _ trivial (fun hHd3 => ?_)
          clear hHd2
          clear hK K
          try simp only [Act.put, List.setIfInBounds_toArray, List.set_cons_zero, List.set_cons_succ]
          refine wpAnyH_ready (rs := [9]) (by kernel_rfl) (by simp) ?_
          refine AllReadyH.cons rfl (fun Kc hK => ?_) AllReadyH.nil
          refine appT rfl 52 rfl _ _ rfl n1 (.slice aI k cI) l k HLN.out rfl (HR7.out.alloc _) w7.heap.size (((pv : Int), (pf : Int)), ((pa, pb), (pc, pd))) rfl (cell_row_new _ _ _) (by omega) (by have := HSZ7.out; simp; omega) ?_
          intro v' w8 hown hg8
          obtain ⟨a2, k2, hv2⟩ := owns_slice hown
          subst hv2
          have HS8 : Hid (SM B sc g T v w w8 c8 D (.cells zc 38) M ⟨1, ((xa : Int), (lL, (lJ, l))), zQ, zP, zD⟩ (.slice aL nL cL) (.slice aJ nJ cJ) (.slice aI k cI)) := HS7.out.grown HW.out (owns_wide HR7.out (by have := HN1.out.2.2; omega)) hg8 (by have := HD.out; have := HS7.out.sb.le; have := HS7.out.lm; omega)
          obtain ⟨_, kB, _⟩ := grown_kept HS7.out.sb.st hg8 (owns_wide HR7.out (by have := HS7.out.lm; have := HN1.out.2.2; omega)) HW.out
          have HLJ8 : Hid (w8.ownsRow (M + 1) 55 2 (.slice aL nL cL) nL (lL.flatMap stl) ∧ w8.ownsRow (M + 1) 55 2 (.slice aJ nJ cJ) nJ (lJ.flatMap stl)) := ⟨kB.row HLJ7.out.1 (fun j hj e => by have h1 := HN1.out.1 j hj; have h2 := (HR7.out.lt j e).1; omega), kB.row HLJ7.out.2 (fun j hj e => by have h1 := HN1.out.2.1 j hj; have h2 := (HR7.out.lt j e).1; omega)⟩
          have HR8 : Hid (w8.ownsRow n1 53 6 (.slice a2 (k + 1) k2) (k + 1) (l.flatMap itl ++ itl (((pv : Int), (pf : Int)), ((pa, pb), (pc, pd))))) := hown
          have HSZ8 : Hid (n1 ≤ w8.heap.size) := Nat.le_trans HSZ7.out kB.size
          have c48 := HS8.out.cell 4 _ rfl
          have f48 := HS8.out.fr 4
          try dsimp only at c48
          clear hown hg8 kB HS7 HLJ7 HR7 HSZ7 c4
          refine hK.out _ _ trivial (fun hHd4 => ?_)
          clear hHd3
          clear hK Kc
          try simp only [Act.put, List.setIfInBounds_toArray, List.set_cons_zero, List.set_cons_succ]
          refine wpAnyH_take (i := 10) (oi := { dst := some 53, op := Op.fieldAddr 38 (Operand.tmp 3) 1, type := _, pos := _, after := _, guard := none }) (v := .pointer (some ⟨M, 1, none⟩)) rfl (by kernel_rfl) (by kernel_rfl) (by kernel_rfl) (fun _ _ _ h => h) (Or.inl ⟨by rfl, fun w hSw => by (try dsimp only at hSw); go_simp⟩) (by assumption) ?_
          simp only [Act.put, List.setIfInBounds_toArray, List.set_cons_zero, List.set_cons_succ]
          refine wpAnyH_take (i := 11) (oi := { dst := some 54, op := Op.fieldAddr 25 (Operand.tmp 53) 3, type := _, pos := _, after := _, guard := none }) (v := .pointer (some ⟨M, 4, none⟩)) rfl (by kernel_rfl) (by kernel_rfl) (by kernel_rfl) (fun _ _ _ h => h) (Or.inl ⟨by rfl, fun w hSw => by (try dsimp only at hSw); go_simp⟩) (by assumption) ?_
          simp only [Act.put, List.setIfInBounds_toArray, List.set_cons_zero, List.set_cons_succ]
          refine wpAnyH_ready (rs := [12]) (by kernel_rfl) (by simp) ?_
          refine AllReadyH.cons rfl (fun K hK => ?_) AllReadyH.nil
          go_simp
          have HS9 : Hid (SM B sc g T v w (w8.setCell ⟨M, 4, none⟩ (.slice a2 (k + 1) k2)) c8 D (.cells zc 38) M ⟨1, ((xa : Int), (lL, (lJ, (l ++ [(((pv : Int), (pf : Int)), ((pa, pb), (pc, pd)))])))), zQ, zP, zD⟩ (.slice aL nL cL) (.slice aJ nJ cJ) (.slice a2 (k + 1) k2)) := HS8.out.set 4 (.slice a2 (k + 1) k2) rfl
          have kM := (Kept.refl (fun k => k = M) w8).setCell (p := ⟨M, 4, none⟩) (fun _ => rfl) (.slice a2 (k + 1) k2)
          have HLJ9 : Hid ((w8.setCell ⟨M, 4, none⟩ (.slice a2 (k + 1) k2)).ownsRow (M + 1) 55 2 (.slice aL nL cL) nL (lL.flatMap stl) ∧ (w8.setCell ⟨M, 4, none⟩ (.slice a2 (k + 1) k2)).ownsRow (M + 1) 55 2 (.slice aJ nJ cJ) nJ (lJ.flatMap stl)) := ⟨kM.row HLJ8.out.1 (far_m HLJ8.out.1), kM.row HLJ8.out.2 (far_m HLJ8.out.2)⟩
          have HR9 : Hid ((w8.setCell ⟨M, 4, none⟩ (.slice a2 (k + 1) k2)).ownsRow n1 53 6 (.slice a2 (k + 1) k2) (k + 1) (l.flatMap itl ++ itl (((pv : Int), (pf : Int)), ((pa, pb), (pc, pd))))) := kM.row HR8.out (fun j hj e => by have h1 := (HR8.out.lt j hj).1; have h2 := HN1.out.2.2; omega)
          have HSZ9 : Hid (n1 ≤ (w8.setCell ⟨M, 4, none⟩ (.slice a2 (k + 1) k2)).heap.size) := Nat.le_trans HSZ8.out kM.size
          clear kM
          have HF1 : Hid (SM B sc g T v w (w8.setCell ⟨M, 4, none⟩ (.slice a2 (k + 1) k2)) (tl tI T d4 (k + 1)).2 D (.cells zc 38) M ⟨1, ((xa : Int), (lL, (lJ, (tl tI T d4 (k + 1)).1))), zQ, zP, zD⟩ (.slice aL nL cL) (.slice aJ nJ cJ) (.slice a2 (k + 1) k2)) := by unfold Hid; rw [HX.out]; exact HS9.out
          have HF2 : Hid ((w8.setCell ⟨M, 4, none⟩ (.slice a2 (k + 1) k2)).ownsRow n1 53 6 (.slice a2 (k + 1) k2) (k + 1) ((tl tI T d4 (k + 1)).1.flatMap itl)) := by unfold Hid; rw [HX.out]; dsimp only; rw [List.flatMap_append]; simpa using HR9.out
          refine hK.out _ _ trivial (fun hHd5 => ?_)
          clear hHd4 c48 f48
          clear hK K
          try simp only [Act.put, List.setIfInBounds_toArray, List.set_cons_zero, List.set_cons_succ]
          refine wpAnyH_done (by kernel_rfl) ?_ _
          go_wp2_with fail
          go_roundw
          case rel => exact ⟨k + 1, by omega, by go_num, a2, k2, HF1.out, HLJ9.out, HF2.out, HSZ9.out⟩
          case measure => simp [intOf]; omega
        · go_simp
          have c48 := (HS7.out.later (below_alloc w7 (.cells #[.int .i64 (pv : Int), .int .i64 (pf : Int), .int .i64 pa, .int .i64 pb, .int .i64 pc, .int .i64 pd] 53))).cell 4 _ rfl
          try dsimp only at c48
          clear c4
          have c4 := c48
          clear c48
          refine hK.out _ _ trivial (fun hHd2 => ?_)
          clear hHd1
          clear hK K
          try simp only [Act.put, List.setIfInBounds_toArray, List.set_cons_zero, List.set_cons_succ]
          refine wpAnyH_ready (rs := [2]) (by kernel_rfl) (by simp) ?_
          refine AllReadyH.cons rfl (fun K hK => ?_) AllReadyH.nil
          go_simp
          refine hK.out _ _ trivial (fun hHd3 => ?_)
          clear hHd2
          clear hK K
          try simp only [Act.put, List.setIfInBounds_toArray, List.set_cons_zero, List.set_cons_succ]
          refine wpAnyH_ready (rs := [9]) (by kernel_rfl) (by simp) ?_
          refine AllReadyH.cons rfl (fun Kc hK => ?_) AllReadyH.nil
          refine appT rfl 52 rfl _ _ rfl n1 (.slice aI k cI) l k HLN.out rfl (HR7.out.alloc _) w7.heap.size (((pv : Int), (pf : Int)), ((pa, pb), (pc, pd))) rfl (cell_row_new _ _ _) (by omega) (by have := HSZ7.out; simp; omega) ?_
          intro v' w8 hown hg8
          obtain ⟨a2, k2, hv2⟩ := owns_slice hown
          subst hv2
          have HS8 : Hid (SM B sc g T v w w8 c8 D (.cells zc 38) M ⟨1, ((xa : Int), (lL, (lJ, l))), zQ, zP, zD⟩ (.slice aL nL cL) (.slice aJ nJ cJ) (.slice aI k cI)) := HS7.out.grown HW.out (owns_wide HR7.out (by have := HN1.out.2.2; omega)) hg8 (by have := HD.out; have := HS7.out.sb.le; have := HS7.out.lm; omega)
          obtain ⟨_, kB, _⟩ := grown_kept HS7.out.sb.st hg8 (owns_wide HR7.out (by have := HS7.out.lm; have := HN1.out.2.2; omega)) HW.out
          have HLJ8 : Hid (w8.ownsRow (M + 1) 55 2 (.slice aL nL cL) nL (lL.flatMap stl) ∧ w8.ownsRow (M + 1) 55 2 (.slice aJ nJ cJ) nJ (lJ.flatMap stl)) := ⟨kB.row HLJ7.out.1 (fun j hj e => by have h1 := HN1.out.1 j hj; have h2 := (HR7.out.lt j e).1; omega), kB.row HLJ7.out.2 (fun j hj e => by have h1 := HN1.out.2.1 j hj; have h2 := (HR7.out.lt j e).1; omega)⟩
          have HR8 : Hid (w8.ownsRow n1 53 6 (.slice a2 (k + 1) k2) (k + 1) (l.flatMap itl ++ itl (((pv : Int), (pf : Int)), ((pa, pb), (pc, pd))))) := hown
          have HSZ8 : Hid (n1 ≤ w8.heap.size) := Nat.le_trans HSZ7.out kB.size
          have c48 := HS8.out.cell 4 _ rfl
          have f48 := HS8.out.fr 4
          try dsimp only at c48
          clear hown hg8 kB HS7 HLJ7 HR7 HSZ7 c4
          refine hK.out _ _ trivial (fun hHd4 => ?_)
          clear hHd3
          clear hK Kc
          try simp only [Act.put, List.setIfInBounds_toArray, List.set_cons_zero, List.set_cons_succ]
          refine wpAnyH_take (i := 10) (oi := { dst := some 53, op := Op.fieldAddr 38 (Operand.tmp 3) 1, type := _, pos := _, after := _, guard := none }) (v := .pointer (some ⟨M, 1, none⟩)) rfl (by kernel_rfl) (by kernel_rfl) (by kernel_rfl) (fun _ _ _ h => h) (Or.inl ⟨by rfl, fun w hSw => by (try dsimp only at hSw); go_simp⟩) (by assumption) ?_
          simp only [Act.put, List.setIfInBounds_toArray, List.set_cons_zero, List.set_cons_succ]
          refine wpAnyH_take (i := 11) (oi := { dst := some 54, op := Op.fieldAddr 25 (Operand.tmp 53) 3, type := _, pos := _, after := _, guard := none }) (v := .pointer (some ⟨M, 4, none⟩)) rfl (by kernel_rfl) (by kernel_rfl) (by kernel_rfl) (fun _ _ _ h => h) (Or.inl ⟨by rfl, fun w hSw => by (try dsimp only at hSw); go_simp⟩) (by assumption) ?_
          simp only [Act.put, List.setIfInBounds_toArray, List.set_cons_zero, List.set_cons_succ]
          refine wpAnyH_ready (rs := [12]) (by kernel_rfl) (by simp) ?_
          refine AllReadyH.cons rfl (fun K hK => ?_) AllReadyH.nil
          go_simp
          have HS9 : Hid (SM B sc g T v w (w8.setCell ⟨M, 4, none⟩ (.slice a2 (k + 1) k2)) c8 D (.cells zc 38) M ⟨1, ((xa : Int), (lL, (lJ, (l ++ [(((pv : Int), (pf : Int)), ((pa, pb), (pc, pd)))])))), zQ, zP, zD⟩ (.slice aL nL cL) (.slice aJ nJ cJ) (.slice a2 (k + 1) k2)) := HS8.out.set 4 (.slice a2 (k + 1) k2) rfl
          have kM := (Kept.refl (fun k => k = M) w8).setCell (p := ⟨M, 4, none⟩) (fun _ => rfl) (.slice a2 (k + 1) k2)
          have HLJ9 : Hid ((w8.setCell ⟨M, 4, none⟩ (.slice a2 (k + 1) k2)).ownsRow (M + 1) 55 2 (.slice aL nL cL) nL (lL.flatMap stl) ∧ (w8.setCell ⟨M, 4, none⟩ (.slice a2 (k + 1) k2)).ownsRow (M + 1) 55 2 (.slice aJ nJ cJ) nJ (lJ.flatMap stl)) := ⟨kM.row HLJ8.out.1 (far_m HLJ8.out.1), kM.row HLJ8.out.2 (far_m HLJ8.out.2)⟩
          have HR9 : Hid ((w8.setCell ⟨M, 4, none⟩ (.slice a2 (k + 1) k2)).ownsRow n1 53 6 (.slice a2 (k + 1) k2) (k + 1) (l.flatMap itl ++ itl (((pv : Int), (pf : Int)), ((pa, pb), (pc, pd))))) := kM.row HR8.out (fun j hj e => by have h1 := (HR8.out.lt j hj).1; have h2 := HN1.out.2.2; omega)
          have HSZ9 : Hid (n1 ≤ (w8.setCell ⟨M, 4, none⟩ (.slice a2 (k + 1) k2)).heap.size) := Nat.le_trans HSZ8.out kM.size
          clear kM
          have HF1 : Hid (SM B sc g T v w (w8.setCell ⟨M, 4, none⟩ (.slice a2 (k + 1) k2)) (tl tI T d4 (k + 1)).2 D (.cells zc 38) M ⟨1, ((xa : Int), (lL, (lJ, (tl tI T d4 (k + 1)).1))), zQ, zP, zD⟩ (.slice aL nL cL) (.slice aJ nJ cJ) (.slice a2 (k + 1) k2)) := by unfold Hid; rw [HX.out]; exact HS9.out
          have HF2 : Hid ((w8.setCell ⟨M, 4, none⟩ (.slice a2 (k + 1) k2)).ownsRow n1 53 6 (.slice a2 (k + 1) k2) (k + 1) ((tl tI T d4 (k + 1)).1.flatMap itl)) := by unfold Hid; rw [HX.out]; dsimp only; rw [List.flatMap_append]; simpa using HR9.out
          refine hK.out _ _ trivial (fun hHd5 => ?_)
          clear hHd4 c48 f48
          clear hK K
          try simp only [Act.put, List.setIfInBounds_toArray, List.set_cons_zero, List.set_cons_succ]
          refine wpAnyH_done (by kernel_rfl) ?_ _
          go_wp2_with fail
          go_roundw
          case rel => exact ⟨k + 1, by omega, by go_num, a2, k2, HF1.out, HLJ9.out, HF2.out, HSZ9.out⟩
          case measure => simp [intOf]; omega
    · have hkn' : decide ((k : Int) < (n : Int)) = false := by simp; omega
      obtain rfl : k = n := by omega
      have HRA : Hid (wr.rangeAt M 0 (mgl ⟨1, ((xa : Int), (lL, (lJ, (tl tI T d4 k).1))), zQ, zP, zD⟩ (.slice aL nL cL) (.slice aJ nJ cJ) (.slice aI k cI))) := ra_of HS.out.hm 0 _ (by simp)
      go_wp2_with (first | (refine ldM HRA.out Tryz.underlying38 rfl szMg _ rfl rfl rfl ?_) | (refine stW szMg HS.out.sb.hd HZC.out (mgl ⟨1, ((xa : Int), (lL, (lJ, (tl tI T d4 k).1))), zQ, zP, zD⟩ (.slice aL nL cL) (.slice aJ nJ cJ) (.slice aI k cI)) rfl rfl rfl _ _ rfl rfl rfl ?_))
      have hb5 := HS.out.sb.setRow (mgl ⟨1, ((xa : Int), (lL, (lJ, (tl tI T d4 k).1))), zQ, zP, zD⟩ (.slice aL nL cL) (.slice aJ nJ cJ) (.slice aI k cI)).toArray
      refine bodyPost_ret (res1 (T := 38) (p := 2) rfl _ _ D (mgl ⟨1, ((xa : Int), (lL, (lJ, (tl tI T d4 k).1))), zQ, zP, zD⟩ (.slice aL nL cL) (.slice aJ nJ cJ) (.slice aI k cI)).toArray rfl (run_loadVar_row _ D _ 38 _ _ _ hb5.hd Tryz.underlying38 rfl szMg)) rfl ?_
      refine ⟨_, rfl, ?_, hb5.kp⟩
      have e : (tR T c1).1 = ((xa : Int), (lL, (lJ, (tl tI T d4 k).1))) := by
        show ((((tn 8 T c1).1 : Nat) : Int), ((tc 7 tS T (tn 8 T c1).2).1, ((tc 7 tS T (tc 7 tS T (tn 8 T c1).2).2).1, (tl tI T (tn 11 T (tc 7 tS T (tc 7 tS T (tn 8 T c1).2).2).2).2 (tn 11 T (tc 7 tS T (tc 7 tS T (tn 8 T c1).2).2).2).1).1))) = _
        rw [HP1.out]
        dsimp only
        rw [HP2.out]
        dsimp only
        rw [HP3.out]
        dsimp only
        rw [HP4.out]
      rw [e]
      have hDM : D ≤ M := by have := HD.out; have := HS.out.lm; omega
      have kD := kept_setRow wr D (mgl ⟨1, ((xa : Int), (lL, (lJ, (tl tI T d4 k).1))), zQ, zP, zD⟩ (.slice aL nL cL) (.slice aJ nJ cJ) (.slice aI k cI)).toArray
      have r1 := kD.row HLJ.out.1 (fun j hj e => by have h1 := (HLJ.out.1.lt j hj).1; omega)
      have r2 := kD.row HLJ.out.2 (fun j hj e => by have h1 := (HLJ.out.2.lt j hj).1; omega)
      have r3 := kD.row HR.out (fun j hj e => by have h1 := (HR.out.lt j hj).1; have h2 := HN1.out.2.2; omega)
      have q1 : (wr.setRow D (mgl ⟨1, ((xa : Int), (lL, (lJ, (tl tI T d4 k).1))), zQ, zP, zD⟩ (.slice aL nL cL) (.slice aJ nJ cJ) (.slice aI k cI)).toArray).ownsRow (M + 1) 55 2 (.slice aL lL.length cL) lL.length (lL.flatMap stl) := by rw [HNL2.out]; exact r1
      have q2 : (wr.setRow D (mgl ⟨1, ((xa : Int), (lL, (lJ, (tl tI T d4 k).1))), zQ, zP, zD⟩ (.slice aL nL cL) (.slice aJ nJ cJ) (.slice aI k cI)).toArray).ownsRow (M + 1) 55 2 (.slice aJ lJ.length cJ) lJ.length (lJ.flatMap stl) := by rw [HNJ2.out]; exact r2
      have q3 : (wr.setRow D (mgl ⟨1, ((xa : Int), (lL, (lJ, (tl tI T d4 k).1))), zQ, zP, zD⟩ (.slice aL nL cL) (.slice aJ nJ cJ) (.slice aI k cI)).toArray).ownsRow n1 53 6 (.slice aI (tl tI T d4 k).1.length cI) (tl tI T d4 k).1.length ((tl tI T d4 k).1.flatMap itl) := by rw [HLN.out]; exact r3
      have hwM : w.heap.size ≤ M := HS.out.lm
      refine ⟨aL, cL, aJ, cJ, aI, cI, ?_, owns_wide q1 (by have := HD.out; omega), owns_wide q2 (by have := HD.out; omega), owns_wide q3 (by have := HD.out; have := HN1.out.2.2; omega), ?_, ?_, ?_, (show 0 < 4611686018427387904 by decide)⟩
      · unfold mgv mR
        dsimp only
        rw [HNL2.out, HNJ2.out, HLN.out]
      · show lL.length < _; have := HQ2.out; rw [HNL2.out]; omega
      · show lJ.length < _; have := HQ3.out; rw [HNJ2.out]; omega
      · show (tl tI T d4 k).1.length < _; rw [HLN.out]; omega
end Go.Proofs.YtdkfifnhmfbagaaGreat.Wi
