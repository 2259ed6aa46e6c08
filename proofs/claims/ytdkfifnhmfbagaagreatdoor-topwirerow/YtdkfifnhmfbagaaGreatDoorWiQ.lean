/- Contract: Decode. -/
import Derived.Test.YtdkfifnhmfbagaaGreatDoorWiP
import Derived.Defers
import Derived.Recover
namespace Go.Proofs.YtdkfifnhmfbagaaGreatDoor.Wi
open Go.RowKit Go.Maps
open Bt (Rr Kept tb bys tb_length bys_length tx u8s dn)
open Rt (gd)
set_option linter.unusedVariables false
set_option linter.unusedSimpArgs false
set_option maxRecDepth 100000 in
theorem catch_idle (p q : Addr) (w : World) : CallsD Tryz.prog 20 #[.pointer (some p), .pointer (some q)] .returning w fun e u' w' => e = .returned (.tuple #[]) ∧ u' = .returning ∧ w' = w := by
 refine callsD_of_wpS Tryz.func20 rfl fun c₀ cs hu => ?_
 apply wpS_seq
 apply wpS_region
 simp [wpOpsS, go_sem, recoverD, hu, Tryz.ntmps20, Exit.thenS]
 refine wpS_cond (t := false) (by simp [Act.eval, Array.replicate]) ?_
 simp only [Bool.false_eq_true, if_false]
 refine wpS_of_wp (wp_skip ?_)
 cases c₀
 simp_all [bodyPostS, results, Tryz.results20]
set_option maxRecDepth 100000 in
theorem catch_panicking (M E : Nat) (cs : Array Value) (x : Value) (w : World) (hM : w.heap[M]? = some (.cells cs 47 (0, 0))) (hcs : cs.size = 26) (hE : w.heap[E]? = some (.cells #[x] 32 (0, 0))) :
  CallsD Tryz.prog 20 #[.pointer (some ⟨M, 0, none⟩), .pointer (some ⟨E, 0, none⟩)] (.panicking pw) w fun e u' w' => e = .returned (.tuple #[]) ∧ settle u' = .returning ∧ w' = (w.setRow M (mgl zM (.slice none 0 0) (.slice none 0 0) (.slice none 0 0)).toArray).setCell ⟨E, 0, none⟩ (.int .i64 13) := by
 refine callsD_of_wpS Tryz.func20 rfl fun c₀ cs₀ hu => ?_
 apply wpS_seq
 apply wpS_region
 simp [wpOpsS, go_sem, recoverD, hu, pw, Tryz.ntmps20, Exit.thenS]
 refine wpS_cond (t := true) (by simp [Act.eval, Array.replicate]) ?_
 simp only [if_true]
 have hne : E ≠ M := row_ne hE hM (by decide)
 have hE2 : (w.setRow M (mgl zM (.slice none 0 0) (.slice none 0 0) (.slice none 0 0)).toArray).heap[E]? = some (.cells #[x] 32 (0, 0)) := (setRow_other hne _).trans hE
 have e0 : (w.setRow M (mgl zM (.slice none 0 0) (.slice none 0 0) (.slice none 0 0)).toArray).cell? ⟨E, 0, none⟩ = some x := cell_of_row _ E 0 _ _ _ hE2
 have f0 : (w.setRow M (mgl zM (.slice none 0 0) (.slice none 0 0) (.slice none 0 0)).toArray).frozen? ⟨E, 0, none⟩ = false := row_fr hE2 0
 refine wpS_of_wp ?_
 show Code.wp _ _ _ { tmps := #[.pointer (some ⟨M, 0, none⟩), .pointer (some ⟨E, 0, none⟩), .iface 32 (.int .i64 13), .bool true, undef], defers := [] } w
 have HM : Hid (w.heap[M]? = some (.cells cs 47 (0, 0))) := hM
 have HC : Hid (cs.size = 26) := hcs
 clear hE2 hE hne hM hcs
 cases c₀
 go_wp2_with (refine stW szMg HM.out HC.out (mgl zM (.slice none 0 0) (.slice none 0 0) (.slice none 0 0)) rfl rfl rfl _ _ rfl rfl rfl ?_)
 exact ⟨rfl, _, rfl, .tuple #[], by simp [results, Tryz.results20], rfl, rfl, rfl⟩
/- What Decode answers. -/
def RD (w w' : World) (T : List Bool) (e : Ending) : Prop := ∃ aL cL aJ cJ aI cI, e = .returned (.tuple #[.agg (mgv (dcM T) aL aJ aI cL cJ cI).toArray, .int .i64 (dcE T)]) ∧ w'.ownsRow w.heap.size 108 2 (.slice aL (dcM T).rk.2.1.length cL) (dcM T).rk.2.1.length ((dcM T).rk.2.1.flatMap stl) ∧ w'.ownsRow w.heap.size 108 2 (.slice aJ (dcM T).rk.2.2.1.length cJ) (dcM T).rk.2.2.1.length ((dcM T).rk.2.2.1.flatMap stl) ∧ w'.ownsRow w.heap.size 112 6 (.slice aI (dcM T).rk.2.2.2.length cI) (dcM T).rk.2.2.2.length ((dcM T).rk.2.2.2.flatMap itl) ∧ AP aL aJ ∧ Below w.heap.size w w'
theorem res2 {T U : TypeId} {fn : Func} {p q : Tmp} (hf : fn.results = #[.cell p T, .cell q U]) (tmps : Array Value) (W : World) (B C : Nat) (cs : Array Value) (x : Value) (hp : tmps[p]? = some (.pointer (some ⟨B, 0, none⟩))) (hq : tmps[q]? = some (.pointer (some ⟨C, 0, none⟩))) (h : (loadVar T ⟨B, 0, none⟩).run Tryz.prog W = .ok (.agg cs) W) (k : (loadVar U ⟨C, 0, none⟩).run Tryz.prog W = .ok x W) :
  (results fn tmps).run Tryz.prog W = .ok (.tuple #[.agg cs, x]) W := by
 simp [results, hf, hp, hq, asAddr, h, k]
theorem ld_err {w : World} {E : Nat} {x : Int} (h : w.heap[E]? = some (.cells #[.int .i64 x] 32 (0, 0))) : (loadVar 32 ⟨E, 0, none⟩).run Tryz.prog w = .ok (.int .i64 x) w := by
 have c := cell_of_row w E 0 _ _ _ h
 simp [go_sem, c]
set_option maxRecDepth 100000 in
set_option maxHeartbeats 2000000 in
theorem decode_any (s : ByteArray) (w : World) (hs : s.size < 1125899906842624) :
  Calls Tryz.prog 7 #[.string s] w fun e w' => RD w w' (tb (bys s)) e := by
 have hmf : ∀ (fn : Fn) (first cap : Array Value) (w : World), (Instr.makeFunc fn first cap).run Tryz.prog w = .ok (.func fn first cap) w := fun _ _ _ _ => rfl
 have hD := heap_alloc_last w (.cells (mgl ⟨0, zR, zQ, zP, zD⟩ (.slice none 0 0) (.slice none 0 0) (.slice none 0 0)).toArray 47)
 have hE := heap_alloc_last (w.alloc (.cells (mgl ⟨0, zR, zQ, zP, zD⟩ (.slice none 0 0) (.slice none 0 0) (.slice none 0 0)).toArray 47)) (.cells #[.int .i64 0] 32)
 have hb1 := below_alloc w (.cells (mgl ⟨0, zR, zQ, zP, zD⟩ (.slice none 0 0) (.slice none 0 0) (.slice none 0 0)).toArray 47)
 have hb2 := below_alloc (w.alloc (.cells (mgl ⟨0, zR, zQ, zP, zD⟩ (.slice none 0 0) (.slice none 0 0) (.slice none 0 0)).toArray 47)) (.cells #[.int .i64 0] 32)
 have hD := row_later hD hb2
 rw [World.size_alloc] at hE
 have HB2 : Hid (Below w.heap.size w ((w.alloc (.cells (mgl ⟨0, zR, zQ, zP, zD⟩ (.slice none 0 0) (.slice none 0 0) (.slice none 0 0)).toArray 47)).alloc (.cells #[.int .i64 0] 32))) := Below.join hb1 hb2
 clear hb1 hb2
 go_enter_defers Tryz.func7, Tryz.ntmps7
 go_upto_region 1 with (fail)
 rw [mgz 0]
 generalize (w.alloc (.cells (mgl ⟨0, zR, zQ, zP, zD⟩ (.slice none 0 0) (.slice none 0 0) (.slice none 0 0)).toArray 47)).alloc (.cells #[.int .i64 0] 32) = w2 at *
 obtain ⟨E, hEe⟩ : ∃ E, w.heap.size + 1 = E := ⟨_, rfl⟩
 rw [hEe] at hE ⊢
 obtain ⟨D, hDe⟩ : ∃ E, w.heap.size = E := ⟨_, rfl⟩
 have HDE : Hid (w.heap.size = D ∧ D + 1 = E) := ⟨hDe, by omega⟩
 rw [hDe] at hD ⊢
 clear hEe hDe
 go_wp2_with fail
 refine (Bt.read_any s _).mono ?_
 rintro q w3 ⟨rfl, hw3⟩
 have hr3 := Rr.new w2 s
 rw [← hw3] at hr3
 have hb3 : Below w2.heap.size w2 w3 := by rw [hw3]; exact below_alloc _ _
 have HD3 : Hid (w3.heap[D]? = some (.cells (mgl ⟨0, zR, zQ, zP, zD⟩ (.slice none 0 0) (.slice none 0 0) (.slice none 0 0)).toArray 47 (0, 0))) := row_later hD hb3
 have HE3 : Hid (w3.heap[E]? = some (.cells #[.int .i64 0] 32 (0, 0))) := row_later hE hb3
 have HB3 : Hid (Below w.heap.size w w3) := Below.join HB2.out hb3
 have HG : Hid (w.heap.size ≤ w2.heap.size ∧ D < w2.heap.size ∧ E < w2.heap.size) := ⟨HB2.out.size, row_lt hD, row_lt hE⟩
 clear hw3 hb3 hD hE HB2
 generalize w2.heap.size = g at *
 have hm := message_any g s w3 hr3 hs
 clear hr3
 go_wp2_with fail
 refine hm.mono ?_
 rintro q w4 ⟨hk4, hro⟩
 have hD4 := row_kept HD3.out hk4 (by have := HG.out; omega)
 have hE4 := row_kept HE3.out hk4 (by have := HG.out; omega)
 have HB4 : Hid (Below w.heap.size w w4) := HB3.out.trans (hk4.below HB3.out.size (fun k hk => by have := HG.out; omega))
 have HW3 : Hid (w.heap.size ≤ w3.heap.size ∧ E < w3.heap.size) := ⟨HB3.out.size, row_lt HE3.out⟩
 clear hm hk4
 rcases hro with ⟨hok, rfl⟩ | ⟨hok, aL, cL, aJ, cJ, aI, cI, rfl, oL, oJ, oI, hap⟩
 ·have HM : Hid (dcM (tb (bys s)) = zM ∧ dcE (tb (bys s)) = 13) := by unfold Hid dcM dcE; rw [hok]; exact ⟨rfl, rfl⟩
  clear hok
  go_wp2_with fail
  refine leaves_cons (f := 20) (args := #[.pointer (some ⟨D, 0, none⟩), .pointer (some ⟨E, 0, none⟩)]) (by simp) (by simp [go_sem]) ?_
  refine (catch_panicking D E _ _ w4 hD4 rfl hE4).mono ?_
  rintro q u' w5 ⟨rfl, hu, rfl⟩
  have hne : D ≠ E := by have := HDE.out; omega
  have hD5 : ((w4.setRow D (mgl zM (.slice none 0 0) (.slice none 0 0) (.slice none 0 0)).toArray).setCell ⟨E, 0, none⟩ (.int .i64 13)).heap[D]? = some (.cells (mgl zM (.slice none 0 0) (.slice none 0 0) (.slice none 0 0)).toArray 47 (0, 0)) := (other_set hne _ _).trans (setRow_heap w4 D _ _ _ _ hD4)
  have hE5 : ((w4.setRow D (mgl zM (.slice none 0 0) (.slice none 0 0) (.slice none 0 0)).toArray).setCell ⟨E, 0, none⟩ (.int .i64 13)).heap[E]? = some (.cells #[.int .i64 13] 32 (0, 0)) := row_set ((setRow_other (Ne.symm hne) _).trans hE4) 0 _
  show Leaves _ _ _ _ [] (settle u') _
  rw [hu]
  refine ⟨_, res2 (T := 47) (U := 32) (p := 2) (q := 3) rfl _ _ D E _ (.int .i64 13) rfl rfl (run_loadVar_row _ D _ 47 _ _ _ hD5 Tryz.underlying47 rfl szMg) (ld_err hE5), ?_⟩
  refine ⟨none, 0, none, 0, none, 0, ?_⟩
  rw [HM.out.1, HM.out.2]
  refine ⟨rfl, World.ownsRow_nil _ _ _ _, World.ownsRow_nil _ _ _ _, World.ownsRow_nil _ _ _ _, (fun p q h1 _ => by cases h1), ?_⟩
  refine Below.setCell (p := ⟨E, 0, none⟩) ?_ (by have := HDE.out; show w.heap.size ≤ E; omega) _
  exact ⟨HB4.out.os, HB4.out.tape, HB4.out.output, by simpa using HB4.out.size, fun k hk => (setRow_other (by have := HDE.out; omega) _).trans (HB4.out.block k hk)⟩
 ·have HM : Hid (dcM (tb (bys s)) = tM (tb (bys s)) ∧ dcE (tb (bys s)) = 0) := by unfold Hid dcM dcE; rw [hok]; exact ⟨rfl, rfl⟩
  clear hok
  generalize tM (tb (bys s)) = m at *
  unfold mgv
  have HOL : Hid (w4.ownsRow w3.heap.size 108 2 (.slice aL m.rk.2.1.length cL) m.rk.2.1.length (m.rk.2.1.flatMap stl)) := oL
  have HOJ : Hid (w4.ownsRow w3.heap.size 108 2 (.slice aJ m.rk.2.2.1.length cJ) m.rk.2.2.1.length (m.rk.2.2.1.flatMap stl)) := oJ
  have HOI : Hid (w4.ownsRow w3.heap.size 112 6 (.slice aI m.rk.2.2.2.length cI) m.rk.2.2.2.length (m.rk.2.2.2.flatMap itl)) := oI
  have HAP : Hid (AP aL aJ) := hap
  clear oL oJ oI hap
  have hne : D ≠ E := by have := HDE.out; omega
  obtain ⟨ct, hct⟩ : ∃ c, mgl m (.slice aL m.rk.2.1.length cL) (.slice aJ m.rk.2.2.1.length cJ) (.slice aI m.rk.2.2.2.length cI) = c := ⟨_, rfl⟩
  have hl : ct.length = 26 := by rw [← hct]; rfl
  have h1 : ct.all (·.oneCell') = true := by rw [← hct]; rfl
  have HCT : Hid (mgl m (.slice aL m.rk.2.1.length cL) (.slice aJ m.rk.2.2.1.length cJ) (.slice aI m.rk.2.2.2.length cI) = ct ∧ ct.length = 26 ∧ ct.all (·.oneCell') = true) := ⟨hct, hl, h1⟩
  rw [hct]
  clear hct hl h1
  have hD5 := setRow_heap w4 D _ ct.toArray _ _ hD4
  have hE5 := (setRow_other (cs := ct.toArray) (Ne.symm hne)).trans hE4
  have HD4 : Hid (w4.heap[D]? = some (.cells (mgl ⟨0, zR, zQ, zP, zD⟩ (.slice none 0 0) (.slice none 0 0) (.slice none 0 0)).toArray 47 (0, 0))) := hD4
  have e0 := cell_of_row _ E 0 _ _ _ hE5
  have f0 := row_fr hE5 0
  have HD5 : Hid ((w4.setRow D ct.toArray).heap[D]? = some (.cells ct.toArray 47 (0, 0))) := hD5
  have HE5 : Hid ((w4.setRow D ct.toArray).heap[E]? = some (.cells #[.int .i64 0] 32 (0, 0))) := hE5
  clear hD4 hE4 hD5 hE5
  go_wp2_with (refine stW szMg HD4.out rfl ct HCT.out.2.1 HCT.out.2.2 rfl _ _ rfl rfl rfl ?_)
  refine leaves_cons (f := 20) (args := #[.pointer (some ⟨D, 0, none⟩), .pointer (some ⟨E, 0, none⟩)]) (by simp) (by simp [go_sem]) ?_
  refine (catch_idle _ _ _).mono ?_
  rintro q u' w5 ⟨rfl, rfl, rfl⟩
  have hD6 := (other_set hne 0 (.int .i64 0)).trans HD5.out
  have hE6 := row_set HE5.out 0 (.int .i64 0)
  show Leaves _ _ _ _ [] .returning _
  refine ⟨_, res2 (T := 47) (U := 32) (p := 2) (q := 3) rfl _ _ D E _ (.int .i64 0) rfl rfl (run_loadVar_row _ D _ 47 _ _ _ hD6 Tryz.underlying47 rfl (by rw [szMg]; simp [HCT.out.2.1])) (ld_err hE6), ?_⟩
  refine ⟨aL, cL, aJ, cJ, aI, cI, ?_⟩
  rw [HM.out.1, HM.out.2]
  have far : ∀ k, w3.heap.size ≤ k → k < w4.heap.size → ((w4.setRow D ct.toArray).setCell ⟨E, 0, none⟩ (.int .i64 0)).heap[k]? = w4.heap[k]? := fun k h1 h2 => (other_set (by have := HW3.out; omega) _ _).trans (setRow_other (by have := HW3.out; have := HDE.out; omega) _)
  refine ⟨by unfold mgv; rw [HCT.out.1], owns_wide (owns_block HOL.out far) HW3.out.1, owns_wide (owns_block HOJ.out far) HW3.out.1, owns_wide (owns_block HOI.out far) HW3.out.1, HAP.out, ?_⟩
  refine Below.setCell (p := ⟨E, 0, none⟩) ?_ (by have := HDE.out; show w.heap.size ≤ E; omega) _
  exact ⟨HB4.out.os, HB4.out.tape, HB4.out.output, by simpa using HB4.out.size, fun k hk => (setRow_other (by have := HDE.out; omega) _).trans (HB4.out.block k hk)⟩
end Go.Proofs.YtdkfifnhmfbagaaGreatDoor.Wi
