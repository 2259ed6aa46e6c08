/- Replies' boxes on plain data: secrecy with them; one tree on which 1 is on; numbers that came in, in the second form; '==' of replies. -/
import Derived.Test.YtpimbpfefhkojabGreatDoorRqJ
import Derived.Test.YtpimbpfefhkojabGreatDoorPmJ
import Derived.Test.YtpimbpfefhkojabGreatDoorPmO
import Derived.Test.YtpimbpfefhkojabGreatDoorPlJ3
namespace Go.Proofs.YtpimbpfefhkojabGreatDoor.Rq
open Go.RowKit Go.Maps Go.ChangeShapes Go.WideShapes Go.ChangeAt Go.Joins Go.Deep
open Rt (Ky zK gd Gd gd_iff)
open Rs (tkn fnd RdI)
open Sh (belB)
set_option linter.unusedVariables false
set_option linter.unusedSimpArgs false

def rpx (t : Tr) (x : Int) : List It := if anE t x 1 = 0 then [⟨0, 0, caK t x, caQ t x 0⟩, ⟨0, 0, caK t x, caQ t x 1⟩, ⟨0, 0, caK t x, caQ t x 2⟩] else []
def rpxs (ts : List Tr) (l : List Int) (k : Nat) : List It := (List.range k).flatMap fun j => rpx (ts.getD (j % ts.length) (tz 0)) (l.getD j 0)
theorem rpxs_succ (ts : List Tr) (l : List Int) (k : Nat) : rpxs ts l (k + 1) = rpxs ts l k ++ rpx (ts.getD (k % ts.length) (tz 0)) (l.getD k 0) := by
  unfold rpxs
  rw [List.range_succ, List.flatMap_append]
  simp
theorem rpl_one (p : Rp) : ∀ u ∈ (rpl p).drop 3, u.oneCell' = true := fun u hu => by
  have h := rpa_one p
  rw [Array.all_eq_true'] at h
  exact h u (by unfold rpa; rw [List.mem_toArray]; exact List.mem_of_mem_drop hu)
theorem rpx_len (t : Tr) (x : Int) : (rpx t x).length ≤ 3 := by unfold rpx; split <;> simp
theorem rpxs_len (ts : List Tr) (l : List Int) : ∀ k, (rpxs ts l k).length ≤ 3 * k
  | 0 => by simp [rpxs]
  | k + 1 => by
    have h1 := rpxs_len ts l k
    have h2 := rpx_len (ts.getD (k % ts.length) (tz 0)) (l.getD k 0)
    rw [rpxs_succ, List.length_append]
    omega
theorem rpx_yes {t : Tr} {x : Int} (h : anE t x 1 = 0) : (rpx t x).length = 3 ∧ bsl (rpx t x) = (rpl (anP t x 1)).drop 3 := by
  unfold rpx
  rw [if_pos h, anP_yes h]
  exact ⟨rfl, rfl⟩
theorem rpx_no {t : Tr} {x : Int} (h : anE t x 1 ≠ 0) : rpx t x = [] := by unfold rpx; rw [if_neg h]
theorem rpx_mem {t : Tr} {x : Int} {y : It} (hy : y ∈ rpx t x) : tck t = true ∧ ∃ v c, Itm t v c ∧ y.un = kyA t c ∧ y.ld = kyA t v := by
  unfold rpx at hy
  by_cases h : anE t x 1 = 0
  · rw [if_pos h] at hy
    have hca := an_on h
    obtain ⟨ht, s, hs, hf, hk, _⟩ := on_at hca
    obtain ⟨⟨k0, e⟩, q⟩ := on_keys ht hca hs hf hk
    have e2 : ((21 + s : Nat) : Int) = 21 + (s : Int) := by push_cast; rfl
    have it : ∀ i, i < 3 → Itm t (pn s i) (21 + s) := fun i hi => ⟨pn_lt hs i, by omega, by rw [e2]; exact hld_yes hs hk (leaf_self hs), fun u hu hb => by
      rw [e2] at hb
      rw [leaf_up ⟨s, hs⟩ ⟨u, hu⟩ hb]
      exact path_bel hs hi⟩
    refine ⟨ht, ?_⟩
    simp only [List.mem_cons, List.not_mem_nil, or_false] at hy
    rcases hy with rfl | rfl | rfl
    · exact ⟨_, _, it 0 (by omega), e, by rw [kyA_in (pn_lt hs 0)]; exact q 0⟩
    · exact ⟨_, _, it 1 (by omega), e, by rw [kyA_in (pn_lt hs 1)]; exact q 1⟩
    · exact ⟨_, _, it 2 (by omega), e, by rw [kyA_in (pn_lt hs 2)]; exact q 2⟩
  · rw [if_neg h] at hy; cases hy
section
variable {ts : List Tr} {bs : List (List Int × List Int)}
theorem rpxs_mem (h : RowB ts bs) {l : List Int} {k : Nat} {y : It} (hy : y ∈ rpxs ts l k) : ∃ e v c, e ≤ bs.length ∧ Itm (Tf ts e) v c ∧ y.un = kyA (Tf ts e) c ∧ y.ld = kyA (Tf ts e) v := by
  unfold rpxs at hy
  obtain ⟨j, _, hy⟩ := List.mem_flatMap.1 hy
  have hlen := h.len
  obtain ⟨_, v, c, h1, h2, h3⟩ := rpx_mem hy
  have hm : j % ts.length < ts.length := Nat.mod_lt _ (by omega)
  exact ⟨j % ts.length, v, c, by omega, h1, h2, h3⟩
theorem all_wi (h : RowB ts bs) {l : List Int} {k : Nat} : ∀ y ∈ bxs ts bs bs.length ++ rpxs ts l k, Wi y.un.bas ∧ Wi y.ld.bas ∧ Wi y.ld.stp := fun y hy => by
  rcases List.mem_append.1 hy with hy | hy
  · exact bxs_wi h y hy
  · obtain ⟨e, v, c, he, hi, h1, h2⟩ := rpxs_mem h hy
    have hok := h.row'.ok e he
    have g1 := wi_gd (ko_gd hok hi.lc (hld_leaf hok hi.lc hi.held))
    have g2 := wi_gd (ko_gd hok (c := v) (by have := hi.lv; omega) (koE_inner hok (by omega) (by have := hi.lv; omega)))
    rw [h1, h2]
    exact ⟨g1.1, g2.1, g2.2⟩
/- P4, with replies. -/
theorem secretR (h : RowB ts bs) {seen : List (Int × Int)} {l : List Int} {m : Nat} {H : Int → Option Int} (hc : Clos (seen.flatMap (opK ts)) (bxs ts bs bs.length ++ rpxs ts l m) H) : ∀ e v : Nat, e < ts.length → v < 21 → le1 H ((ts.getD e (tz 0)).ks v).bas ((ts.getD e (tz 0)).ks v).stp = true → excB ts (seen.flatMap (opM ts)) (e : Int) (v : Int) = true := fun e v he hv hle => by
  have hlen := h.len
  have hrow := h.row'
  refine exc_excB he ?_
  obtain ⟨u, hu, hus⟩ := le1_iff.1 hle
  have hs := hc.snd.low (Safe (Tf ts) bs.length (seen.flatMap (opM ts))) ?_ ?_ _ _ hu
  · have hok := hrow.ok e (by omega)
    refine hs e v (by omega) (by omega) (koE_inner hok (by omega) (by omega)) ?_ ?_
    · rw [koK_in hok hv]; rfl
    · rw [koK_in hok hv]; exact hus
  · intro k hk
    obtain ⟨x, hx, hin, hk⟩ := mem_opK hk
    obtain ⟨g, s, hg, hgl, hs, hf, ht, ek⟩ := inE_at hin
    have hok := hrow.ok g (by omega)
    have hm : x ∈ seen.flatMap (opM ts) := mem_opM.2 ⟨hx, hin⟩
    rw [ek] at hk
    simp only [List.mem_cons, List.not_mem_nil, or_false] at hk
    have hp : ∀ i, i < 3 → Safe (Tf ts) bs.length (seen.flatMap (opM ts)) (kpr ((Tf ts g).ks (pn s i))).1 (kpr ((Tf ts g).ks (pn s i))).2 := fun i hi => by
      have hpl := pn_lt hs i
      have := safe_key hrow (e := g) (c := pn s i) (by omega) (by omega) (koE_inner hok (by omega) (by omega)) (exc_own hm hg hs hf (path_bel hs hi))
      rw [koK_in hok hpl] at this
      exact this
    rcases hk with rfl | rfl | rfl | rfl
    · obtain ⟨k0, _⟩ := koK_leaf hok hs ht
      refine safe_key hrow (e := g) (c := 21 + s) (by omega) (by omega) k0 (exc_own hm hg hs hf ?_)
      have := leaf_bel ⟨s, hs⟩ ⟨s, hs⟩
      push_cast
      rw [this]
      simp
    · exact hp 0 (by omega)
    · exact hp 1 (by omega)
    · exact hp 2 (by omega)
  · intro x hx u hu hsafe
    rcases List.mem_append.1 hx with hx | hx
    · obtain ⟨i, hi, hx⟩ := mem_bxs.1 hx
      obtain ⟨hst, hn⟩ := h.stp i hi
      obtain ⟨v, c, ex, hit⟩ := item_of hst hx
      rw [← hn] at ex hit
      subst ex
      exact safe_box hrow (e := i + 1) (by omega) hit hu hsafe
    · obtain ⟨e, v, c, he, hit, h1, h2⟩ := rpxs_mem h hx
      rw [h1] at hu hsafe
      rw [h2]
      exact safe_box hrow he hit hu hsafe
end
section
variable {w W W' : World} {vr vs vb v' : Value} {ts : List Tr} {bs : List (List Int × List Int)} {ms : List (Array Value)} {bx : List It}
theorem GBx.appl (h : GBx w W vr vs vb ts bs ms bx) {ys : List It} (hown : W'.ownsRow w.heap.size 33 4 v' (bx.length + ys.length) (bsl bx ++ bsl ys)) (hg : W.grownBy W' vb.ownBlock) : GBx w W' vr vs v' ts bs ms (bx ++ ys) := by
  refine ⟨h.ss.grown h.rb hg (by decide) (by decide) (by decide), ?_⟩
  rw [show bsl (bx ++ ys) = bsl bx ++ bsl ys by simp [bsl], List.length_append]
  exact hown
end
/- One on. -/
def tOn : Tr := pnT stT [] [1]
theorem on_1 : anE tOn 1 1 = 0 ∧ (anP tOn 1 1).2.1 = 1 := by decide +kernel
set_option maxRecDepth 100000 in
set_option maxHeartbeats 1000000 in
theorem oneOn_any (w : World) : Calls Tryz.prog 7 #[] w fun e w' => e = .returned (.agg (tcs tOn)) ∧ Below w.heap.size w w' := by
  have hz0 : TrAt (w.alloc (.cells Tryz.zeroCells47 47)) w.heap.size (tz 0) := TrAt.zero w
  have hB0 : Below w.heap.size w (w.alloc (.cells Tryz.zeroCells47 47)) := below_alloc _ _
  go_enter Tryz.func7, Tryz.ntmps7
  go_upto_region 1 with (fail)
  generalize w.alloc (.cells Tryz.zeroCells47 47) = w1 at *
  obtain ⟨K, hK⟩ : ∃ K, w.heap.size = K := ⟨_, rfl⟩
  have HK : Hid (w.heap.size ≤ K) := by unfold Hid; omega
  rw [hK] at hz0 ⊢
  clear hK
  have h1 := rStart_any w1
  obtain ⟨c0, hc0⟩ : ∃ c, tcs stT = c := ⟨_, rfl⟩
  rw [hc0] at h1
  go_wp2_with fail
  refine h1.mono ?_
  rintro r w2 ⟨rfl, hb2⟩
  have h2 := rNext11_any stT none (some ⟨w2.heap.size, 0, none⟩) 0 1 [] [1] (w2.alloc (.cells #[.int .i64 1] 3)) (by simp) (by simp) (Rs.RdI.nil _ _) (rd_one w2)
  rw [hc0] at h2
  simp only [List.length_nil, List.length_cons, Nat.zero_add, Nat.reduceAdd] at h2
  have hB2 := hB0.trans (hb2.mono hB0.size)
  have hB3 := hB2.alloc hB2.size (.cells #[.int .i64 1] 3)
  have hz3 := (hz0.later hb2).later (below_alloc w2 (.cells #[.int .i64 1] 3))
  clear h1 hc0 hb2 hz0 hB0 hB2
  go_wp2_with fail
  refine h2.mono ?_
  rintro r w4 ⟨⟨vl, vj, rfl, -⟩, hb4⟩
  have hB4 := hB3.trans (hb4.mono hB3.size)
  have hz4 := (hz3.later hb4).later (below_alloc w4 (.cells Tryz.zeroCells47 47))
  have hzN := TrAt.zero w4
  have HN : Hid (w.heap.size ≤ w4.heap.size) := hB4.size
  have HNE : Hid (K ≠ w4.heap.size) := Nat.ne_of_lt ((hz3.later hb4)).lt
  have hB5 := hB4.alloc hB4.size (.cells Tryz.zeroCells47 47)
  rw [show pnT stT [] [1] = tOn from rfl]
  obtain ⟨c3, hc3⟩ : ∃ c, tcs tOn = c := ⟨_, rfl⟩
  have HC : Hid (tcs tOn = c3) := hc3
  rw [hc3]
  obtain ⟨e, he⟩ : ∃ e, plE stT [] [1] = e := ⟨_, rfl⟩
  rw [he]
  clear h2 hb4 hB3 hz3 hB4 he hc3
  have hB6 : Below w.heap.size w ((w4.alloc (.cells Tryz.zeroCells47 47)).setRow w4.heap.size c3) := Rt.setRow_below HN.out hB5 _
  have hzK : TrAt ((w4.alloc (.cells Tryz.zeroCells47 47)).setRow w4.heap.size c3) K (tz 0) := (Rt.row_other HNE.out _).trans hz4
  have hzT : TrAt ((w4.alloc (.cells Tryz.zeroCells47 47)).setRow w4.heap.size c3) w4.heap.size tOn := by rw [← HC.out]; exact hzN.row tOn
  clear hB5 hz4
  go_upto_region 2 with (refine stTc hzN HC.out rfl _ _ rfl rfl rfl ?_)
  clear hzN
  generalize (w4.alloc (.cells Tryz.zeroCells47 47)).setRow w4.heap.size c3 = w6 at *
  generalize w4.heap.size = N at *
  go_wp2_with (first | (refine rdT hzT HC.out _ rfl rfl rfl ?_) | (refine stTc hzK HC.out rfl _ _ rfl rfl rfl ?_))
  refine bodyPost_ret (results_tr (p := 0) rfl _ _ K tOn rfl (by rw [← HC.out]; exact hzK.row _)) rfl ?_
  exact ⟨rfl, Rt.setRow_below HK.out hB6 _⟩
/- Numbers that came in. -/
theorem ints_up {H : Type} {enc : TypeId × Value → H} {W : World} {base : Nat} {spare : Nat → Bool} {held : Bool} {v : Value} {d : DataW H} {ps : List MemPlace} (hs : Rows.uptoBulk d ≤ 1048576) (hv : ∃ a len cap, v = .slice a len cap) (h : DataW.Trod enc Tryz.prog W base spare held 24 v d ps) :
    ∃ (a : Option Addr) (cap : Nat) (ws : List Int), v = .slice a ws.length cap ∧ RdI W a ws ∧ ws.length ≤ 1048576 := by
  obtain ⟨a0, len0, cap0, rfl⟩ := hv
  obtain ⟨fuel, hf⟩ := h
  rcases open_ints Tryz.underlying24 Tryz.underlying3 (by kernel_rfl) hf with ⟨e, _⟩ | ⟨a, len, cap, zs, e, _, hl, _, hm, hx, hc, _⟩
  · simp [Value.cells] at e
    exact ⟨none, 0, [], by rw [e.1, e.2.1, e.2.2]; rfl, Rs.RdI.nil _ _, by simp⟩
  · simp [Value.cells] at e
    obtain ⟨rfl, rfl, rfl⟩ := e
    have hlm : len0 ≤ zs.length := by rw [hm]; split <;> omega
    have hlen : (zs.take len0).length = len0 := by rw [List.length_take]; omega
    refine ⟨some a, cap0, zs.take len0, by rw [hlen], fun i hi => ?_, ?_⟩
    · have hi' : i < len0 := by rw [hlen] at hi; exact hi
      have c0 := hc i (by omega)
      obtain ⟨b, o, sp⟩ := a
      have hsp : sp = none := by simpa [Addr.add] using World.cell?_spot (hc 0 (by omega))
      subst hsp
      have e : (zs.take len0).getD i 0 = zs.getD i 0 := by simp [hi']
      rw [e]
      rw [Rs.add_plain] at c0
      exact ⟨b, o, rfl, c0⟩
    · have h1 := (bulk_slice (es := lits .i64 (zs.take len0)) (sp := lits .i64 (zs.drop len0)) (d := d) (by have := congrArg Prod.fst hx; simpa using this) hs).1
      simp [lits] at h1
      rw [hlen]
      omega
/- '==' . -/
theorem run_eqBx {w : World} (d : Nat) (x : (Int × Int) × (Int × Int)) : (Op.equalIn (d + 3) 33 (.agg (bxl x).toArray) (.agg (bxl x).toArray)).run Tryz.prog w = .ok true w := by
  obtain ⟨⟨a, b⟩, c, e⟩ := x
  unfold bxl
  rw [run_equalIn_agg w (d + 2) _ _ _ (by kernel_rfl) (by kernel_rfl)]
  simp [go_sem, part]
theorem info_bx2 : (Tryz.prog.info? 33).isSome = true := by kernel_rfl
theorem cells_bx : Tryz.prog.cellsOf 33 = 4 := by kernel_rfl
theorem run_eqPt {w : World} (d : Nat) (x y z : (Int × Int) × (Int × Int)) : (Op.equalIn (d + 4) 34 (.agg (bxl x ++ (bxl y ++ bxl z)).toArray) (.agg (bxl x ++ (bxl y ++ bxl z)).toArray)).run Tryz.prog w = .ok true w := by
  obtain ⟨i, hi⟩ := Option.isSome_iff_exists.mp info_bx2
  rw [run_equalIn_array w (d + 3) _ _ Tryz.underlying34 hi, cells_bx]
  have h1 := run_eqBx (w := w) d x
  have h2 := run_eqBx (w := w) d y
  have h3 := run_eqBx (w := w) d z
  unfold bxl at *
  simp [List.range, List.range.loop, Op.eqItems, Sem.run_bind, Sem.run_ite, part, Result.andThen_ok, h1, h2, h3]
theorem run_eqRp {w : World} (d : Nat) (p : Rp) : (Op.equalIn (d + 5) 36 (.agg (rpl p).toArray) (.agg (rpl p).toArray)).run Tryz.prog w = .ok true w := by
  obtain ⟨⟨a, b⟩, c, x, y, z⟩ := p
  have h := run_eqPt (w := w) d x y z
  unfold bxl at h
  unfold rpl
  rw [run_equalIn_agg w (d + 4) _ _ _ (by kernel_rfl) (by kernel_rfl)]
  simp only [List.cons_append, List.nil_append] at h
  simp [go_sem, part, h]
theorem neRp {p : Rp} {c : Array Value} (hc : rpa p = c) {ops : Array Oper} {rest : List Oper} {o : Oper} {a : Act} {w : World} {Q : Exit → Act → World → Prop} (x y : Operand) (ho : o.op = .binOp .neq 36 x y 36)
    (hx : a.eval x = .agg c) (hy : a.eval y = .agg c) (hw : Region.wanted o (yielded ops a.tmps) = true) (k : wpList Tryz.prog ops Q rest (a.put o.dst (.bool false)) w) : wpList Tryz.prog ops Q (o :: rest) a w := by
  subst hc
  refine rd_guard hw ?_ k
  have h3 := run_eqGuard_agg (P := Tryz.prog) w .neq 36 x y (rpa p) (rpa p) Tryz.eqGuardType36
  have h4 := run_neq_struct (P := Tryz.prog) w 36 (rpa p) (rpa p)
  rw [show (Op.equalIn 10000 36 (.agg (rpa p)) (.agg (rpa p))).run Tryz.prog w = .ok true w from run_eqRp 9995 p] at h4
  simp [execOp, ho, hx, hy, h3, h4, Sem.run_bind, Result.andThen]
end Go.Proofs.YtpimbpfefhkojabGreatDoor.Rq
