/- Contracts: the document's Learn, seen, See, read, SeeSealed. MADE by wip/mk_kn.py. -/
import Derived.Test.YtompgoaogomoaaaKnD
import Derived.Test.YtompgoaogomoaaaKeyF
namespace Go.Proofs.Ytompgoaogomoaaa.Kn
open Go.RowKit Go.Maps
open Rt (Gd gd gd_yes gd_no rGood_any)
set_option linter.unusedVariables false
set_option linter.unusedSimpArgs false

def lrn (T : List K2) (k : K2) : List K2 := if gd k.1 k.2 = true ∧ ¬ k ∈ T then T ++ [k] else T
def KnP (w w' : World) (N p : Nat) (s' : Kst) (vt vb vx : Value) : Prop := ∃ vt' vb' vx', KnAt w' N p s' vt' vb' vx' ∧ Kept (Fk p vt vb vx) w w' ∧ ∀ k, Fk p vt' vb' vx' k → Fk p vt vb vx k ∨ w.heap.size ≤ k
theorem infoKey : (Try.prog.info? 33).map (fun i => (i.zero, i.size, i.bytes)) = some (some (.agg #[.int .i64 0, .int .i64 0]), 2, 16) := by kernel_rfl
theorem infoBox : (Try.prog.info? 35).map (fun i => (i.zero, i.size, i.bytes)) = some (some (.agg #[.int .i64 0, .int .i64 0, .int .i64 0, .int .i64 0]), 4, 32) := by kernel_rfl
theorem infoSld : (Try.prog.info? 37).map (fun i => (i.zero, i.size, i.bytes)) = some (some (.agg #[.int .i64 0, .int .i64 0, .int .i64 0, .string ⟨#[]⟩]), 4, 40) := by kernel_rfl
section
variable {w w' w3 : World} {N p g c : Nat} {st : Kst} {vt vb vx : Value}
theorem KnAt.same (h : KnAt w N p st vt vb vx) (hb : Below w.heap.size w w') : KnP w w' N p st vt vb vx := ⟨vt, vb, vx, h.later hb, Kept.ofBelow hb, fun _ h => .inl h⟩
theorem blk_set {cs : Array Value} {t : TypeId} {v : Value} {j : Nat} (h : w.heap[p]? = some (.cells cs t (0, 0))) : (w.setCell ⟨p, j, none⟩ v).heap[p]? = some (.cells (cs.setIfInBounds j v) t (0, 0)) := by
  simp [World.setCell, Array.getElem?_modify, h]
theorem KnAt.grewT (h : KnAt w N p st vt vb vx) (x : K2) (hx : Gd x.1 x.2) (hk : Kept (fun k => vt.ownBlock = some k) w w3) (hr : w3.ownsRow N 33 2 (.slice (some ⟨g, 0, none⟩) (st.T.length + 1) c) (st.T.length + 1) (st.T.flatMap kC ++ kC x)) (hg : vt.ownBlock = some g ∨ w.heap.size ≤ g) :
    KnP w (w3.setCell ⟨p, 0, none⟩ (.slice (some ⟨g, 0, none⟩) (st.T.length + 1) c)) N p ⟨st.T ++ [x], st.B, st.X⟩ vt vb vx := by
  obtain ⟨a1, a2, a3, a4, a5⟩ := h.apart
  have hpl := h.lt
  have hb3 := (hk.block p hpl a1).trans h.blk
  have hgp : g ≠ p := by
    rcases hg with e | e
    · intro e'; subst e'; exact a1 e
    · omega
  have ks : Kept (fun k => k = p) w3 (w3.setCell ⟨p, 0, none⟩ (.slice (some ⟨g, 0, none⟩) (st.T.length + 1) c)) := (Kept.refl (fun k => k = p) w3).setCell (p := ⟨p, 0, none⟩) (fun _ => rfl) _
  have nb : ∀ k, vb.ownBlock = some k → ¬ vt.ownBlock = some k := fun k e e' => (a4 k e').1 e
  have nx : ∀ k, vx.ownBlock = some k → ¬ vt.ownBlock = some k := fun k e e' => (a4 k e').2 e
  refine ⟨.slice (some ⟨g, 0, none⟩) (st.T.length + 1) c, vb, vx, ⟨?_, ?_, ks.row (hk.row h.box nb) (fun k e e' => a2 (e' ▸ e)), ks.row (hk.row h.txt nx) (fun k e e' => a3 (e' ▸ e)), h.np, ?_, h.gb⟩, ?_, ?_⟩
  · rw [blk_set hb3]; simp
  · have e : (st.T ++ [x]).flatMap kC = st.T.flatMap kC ++ kC x := by simp
    rw [e, List.length_append]
    exact ks.row hr fun k e e' => hgp (by cases e; exact e')
  · intro k hk'
    rcases List.mem_append.1 hk' with h1 | h1
    · exact h.gt k h1
    · rw [List.mem_singleton] at h1; subst h1; exact hx
  · exact (hk.mono (F' := Fk p vt vb vx) fun _ _ e => .inr (.inl e)).setCell (fun _ => .inl rfl) _
  · rintro k (e | e | e | e)
    · exact .inl (.inl e)
    · cases e
      exact hg.imp (fun e => .inr (.inl e)) id
    · exact .inl (.inr (.inr (.inl e)))
    · exact .inl (.inr (.inr (.inr e)))
end
set_option maxRecDepth 100000 in
set_option maxHeartbeats 4000000 in
theorem learn_any (w : World) (N p : Nat) (st : Kst) (vt vb vx : Value) (b s : Int) (h : KnAt w N p st vt vb vx) (hN : N ≤ w.heap.size) (hl : st.T.length < 2748779069440) :
    Calls Try.prog 33 #[.pointer (some ⟨p, 0, none⟩), .agg #[.int .i64 b, .int .i64 s]] w fun e w' => e = .returned (.tuple #[]) ∧ KnP w w' N p ⟨lrn st.T (b, s), st.B, st.X⟩ vt vb vx := by
  have hg := rGood_any b s
  have HK : Hid (KnAt w N p st vt vb vx) := h
  cases hgd : gd b s with
  | false =>
    have e : lrn st.T (b, s) = st.T := if_neg (fun h => by rw [hgd] at h; cases h.1)
    rw [e]
    rw [hgd] at hg
    clear h hgd e
    go_enter Try.func33, Try.ntmps33
    go_wp2_with (go_at_call 28; refine (hg _).mono ?_; rintro e w' ⟨rfl, rfl⟩)
    refine bodyPost_ret (results_none rfl _ _ _) rfl ?_
    exact ⟨rfl, HK.out.same (Rt.Below.more (Rt.below1 _ _) _)⟩
  | true =>
    have HG : Hid (gd b s = true) := hgd
    obtain ⟨n, hn⟩ : ∃ n, st.T.length = n := ⟨_, rfl⟩
    obtain ⟨aT, cT, hvt, -⟩ := own_spell h.told
    have HVT : Hid (vt = .slice aT st.T.length cT) := hvt
    have HNE : Hid (st.T.length = n) := hn
    have HRT : Hid (RdK w aT st.T) := rdK_of (hvt ▸ h.told)
    have c0 := h.c0
    rw [hvt, hn] at c0
    rw [hn] at hl
    rw [hgd] at hg
    have hpl := h.lt
    clear h hgd hvt hn
    go_enter Try.func33, Try.ntmps33
    go_wp2_with (go_at_call 28; refine (hg _).mono ?_; rintro e w' ⟨rfl, rfl⟩)
    obtain ⟨x0, x1⟩ : (w.alloc (.cells #[.int .i64 b, .int .i64 s] 33)).cell? ⟨w.heap.size, 0, none⟩ = some (.int .i64 b) ∧ (w.alloc (.cells #[.int .i64 b, .int .i64 s] 33)).cell? ⟨w.heap.size, 1, none⟩ = some (.int .i64 s) := boxed2 w (.int .i64 b) (.int .i64 s) 33 0
    have hb1 : Below w.heap.size w (w.alloc (.cells #[.int .i64 b, .int .i64 s] 33)) := Rt.below1 _ _
    have hq : w.heap.size < (w.alloc (.cells #[.int .i64 b, .int .i64 s] 33)).heap.size := by rw [World.size_alloc]; omega
    generalize w.alloc (.cells #[.int .i64 b, .int .i64 s] 33) = w0 at *
    have hb2 := Rt.Below.then hb1 (Rt.below1 w0 (.cells #[.int .i64 b, .int .i64 s] 33))
    have x0' := cell_later (Rt.below1 w0 (.cells #[.int .i64 b, .int .i64 s] 33)) x0
    have x1' := cell_later (Rt.below1 w0 (.cells #[.int .i64 b, .int .i64 s] 33)) x1
    have hq2 := Nat.lt_of_lt_of_le hq (Rt.below1 w0 (.cells #[.int .i64 b, .int .i64 s] 33)).size
    generalize w0.alloc (.cells #[.int .i64 b, .int .i64 s] 33) = w1 at *
    clear x0 x1 hb1 hq hg
    have c1 := cell_later hb2 c0
    have HB1 : Hid (Below w.heap.size w w1) := hb2
    obtain ⟨Q, hQ⟩ : ∃ Q, w.heap.size = Q := ⟨_, rfl⟩
    have HQ : Hid (w.heap.size = Q ∧ Q < w1.heap.size ∧ w1.cell? ⟨Q, 0, none⟩ = some (.int .i64 b) ∧ w1.cell? ⟨Q, 1, none⟩ = some (.int .i64 s)) := ⟨hQ, hQ ▸ hq2, hQ ▸ x0', hQ ▸ x1'⟩
    have HC0 : Hid (w.cell? ⟨p, 0, none⟩ = some (.slice aT n cT)) := c0
    rw [hQ] at x0' x1' ⊢
    clear hb2 c0 hq2 hQ
    go_wp2_with fail
    go_loopw [14] (fun i wx => ∃ k : Nat, k ≤ n ∧ i = .int .i64 (k : Int) ∧ Below w1.heap.size w1 wx ∧ ∀ j, j < k → st.T.getD j (0, 0) ≠ (b, s)) (fun i _ => n - (intOf i).toNat)
    case atStart => exact ⟨0, by omega, rfl, Below.refl _ _, fun j hj => by omega⟩
    case round =>
      obtain ⟨k, hk, rfl, hb, hne⟩ := hrel
      have HB2 : Hid (Below w.heap.size w wr) := Rt.Below.then HB1.out hb
      have HNQ : Hid (∀ j, j < k → st.T.getD j (0, 0) ≠ (b, s)) := hne
      have hbw : Below w1.heap.size w1 wr := hb
      have HBW : Hid (Below w1.heap.size w1 wr) := hb
      clear hne hb c1 x0' x1'
      by_cases hkn : k < n
      · have hkT : k < st.T.length := by rw [HNE.out]; exact hkn
        obtain ⟨a, o, ha, c0, c1⟩ := (HRT.out.later HB2.out) k hkT
        have HM : Hid (st.T.getD k (0, 0) ∈ st.T) := getD_of hkT
        obtain ⟨y, hy⟩ : ∃ y, st.T.getD k (0, 0) = y := ⟨_, rfl⟩
        have HY : Hid (st.T.getD k (0, 0) = y) := hy
        rw [hy] at c0 c1 HM
        subst ha
        obtain ⟨yb, ys⟩ := y
        dsimp only at c0 c1
        have x0 := cell_later hbw HQ.out.2.2.1
        have x1 := cell_later hbw HQ.out.2.2.2
        have hqlt : Q < wr.heap.size := Nat.lt_of_lt_of_le HQ.out.2.1 hbw.size
        have k1 : (0 : Int) ≤ (k : Int) := by omega
        have k2 : (k : Int) < (n : Int) := by omega
        have x0a := (World.cell?_alloc_some wr ⟨Q, 0, none⟩ (.cells #[.int .i64 yb, .int .i64 ys] 33) (by rw [x0]; rfl)).trans x0
        have x1a := (World.cell?_alloc_some wr ⟨Q, 1, none⟩ (.cells #[.int .i64 yb, .int .i64 ys] 33) (by rw [x1]; rfl)).trans x1
        clear hy hbw hqlt
        by_cases he : yb = b ∧ ys = s
        · obtain ⟨rfl, rfl⟩ := he
          go_wp2_with fail
          refine bodyPost_ret (results_none rfl _ _ _) rfl ?_
          have e : lrn st.T (yb, ys) = st.T := if_neg fun h => h.2 HM.out
          rw [e]
          exact ⟨rfl, HK.out.same (Rt.Below.more HB2.out _)⟩
        · have HNEQ : Hid ((yb, ys) ≠ (b, s)) := fun h => by injection h with h1 h2; exact he ⟨h1, h2⟩
          by_cases h1 : yb = b
          case' pos =>
            subst h1
            have e2 : (ys == s) = false := by simpa using fun h2 => he ⟨rfl, h2⟩
          case' neg => have e2 : (yb == b) = false := by simpa using h1
          all_goals
            clear he
            go_wp2_with fail
            go_roundw
            case rel =>
              refine ⟨k + 1, by omega, by go_num, HBW.out.trans ((Rt.below1 _ _).mono HBW.out.size), fun j hj => ?_⟩
              rcases Nat.lt_or_ge j k with h | h
              · exact HNQ.out j h
              · obtain rfl : j = k := by omega
                rw [HY.out]; exact HNEQ.out
            case measure => simp [intOf]; omega
      · obtain rfl : k = n := by omega
        have dkn : decide ((k : Int) < (k : Int)) = false := by simp
        have hp2 := cell_later HB2.out HC0.out
        have x0 := cell_later hbw HQ.out.2.2.1
        have x1 := cell_later hbw HQ.out.2.2.2
        have hNL : ¬ (b, s) ∈ st.T := fun hm => by
          obtain ⟨j, hj, e⟩ := List.mem_iff_getElem.1 hm
          exact HNQ.out j (by rw [← HNE.out]; exact hj) (by rw [List.getD_eq_getElem?_getD, List.getElem?_eq_getElem hj]; exact e)
        have HEL : Hid (lrn st.T (b, s) = st.T ++ [(b, s)]) := if_pos ⟨HG.out, hNL⟩
        have HN : Hid (N ≤ w.heap.size) := hN
        have HRW : Hid (w.ownsRow N 33 2 (.slice aT k cT) k (st.T.flatMap kC)) := by have := HK.out.told; rw [HVT.out, HNE.out] at this; exact this
        have HPV : Hid (¬ (Value.slice aT k cT).ownBlock = some p) := by have := HK.out.apart.1; rw [HVT.out, HNE.out] at this; exact this
        have HQV : Hid (¬ (Value.slice aT k cT).ownBlock = some Q) := fun e => by have := (HRW.out.lt Q e).2; have := HQ.out.1; omega
        have HFZ : Hid (∀ W, Kept (fun k_1 => (Value.slice aT k cT).ownBlock = some k_1) w W → W.frozen? ⟨p, 0, none⟩ = false) := fun W hW => by
          have := (hW.block p hpl HPV.out).trans HK.out.blk
          simp [World.frozen?, this]
        obtain ⟨w2, hw2⟩ : ∃ W, W = wr := ⟨_, rfl⟩
        rw [← hw2] at hp2 x0 x1 HB2 ⊢
        obtain ⟨i0, hi, hz0, hz1, hz2⟩ := info_parts infoKey
        clear hw2 hbw HBW hk hkn hNL HNQ
        go_upto_region 7 with (fail)
        refine Till.region [10] (fun W => W.cell? ⟨p, 0, none⟩ = some (Value.slice aT k cT) ∧ W.cell? ⟨Q, 0, none⟩ = some (.int .i64 b) ∧ W.cell? ⟨Q, 1, none⟩ = some (.int .i64 s)) (by kernel_rfl) ?_
        have KB : Hid (Below w.heap.size w w2.drew) := HB2.out.drew
        have hHeld : w2.drew.cell? ⟨p, 0, none⟩ = some (Value.slice aT k cT) ∧ w2.drew.cell? ⟨Q, 0, none⟩ = some (.int .i64 b) ∧ w2.drew.cell? ⟨Q, 1, none⟩ = some (.int .i64 s) := ⟨hp2, x0, x1⟩
        generalize w2.drew = W at *
        refine Till.takeFree (i := 0) (oi := { dst := some 22, op := Op.move (Operand.tmp 0), type := _, pos := _, after := _, guard := none }) (x := .pointer (some ⟨p, 0, none⟩)) rfl (by decide) (by kernel_rfl) (by kernel_rfl) (by kernel_rfl) (fun _ _ _ h => h) (Or.inl ⟨by rfl, fun w _ => by go_simp⟩) hHeld ?_
        simp only [Act.put, List.setIfInBounds_toArray, List.set_cons_zero, List.set_cons_succ]
        refine Till.takeFree (i := 1) (oi := { dst := some 23, op := Op.move (Operand.tmp 0), type := _, pos := _, after := _, guard := none }) (x := .pointer (some ⟨p, 0, none⟩)) rfl (by decide) (by kernel_rfl) (by kernel_rfl) (by kernel_rfl) (fun _ _ _ h => h) (Or.inl ⟨by rfl, fun w _ => by go_simp⟩) hHeld ?_
        simp only [Act.put, List.setIfInBounds_toArray, List.set_cons_zero, List.set_cons_succ]
        refine Till.takeFree (i := 2) (oi := { dst := some 24, op := Op.nilCheck (Operand.tmp 23), type := _, pos := _, after := _, guard := none }) (x := .pointer (some ⟨p, 0, none⟩)) rfl (by decide) (by kernel_rfl) (by kernel_rfl) (by kernel_rfl) (fun _ _ _ h => h) (Or.inl ⟨by rfl, fun w _ => by go_simp⟩) hHeld ?_
        simp only [Act.put, List.setIfInBounds_toArray, List.set_cons_zero, List.set_cons_succ]
        refine Till.takeFree (i := 3) (oi := { dst := some 25, op := Op.fieldAddr 31 (Operand.tmp 24) 0, type := _, pos := _, after := _, guard := none }) (x := .pointer (some ⟨p, 0, none⟩)) rfl (by decide) (by kernel_rfl) (by kernel_rfl) (by kernel_rfl) (fun _ _ _ h => h) (Or.inl ⟨by rfl, fun w _ => by go_simp⟩) hHeld ?_
        simp only [Act.put, List.setIfInBounds_toArray, List.set_cons_zero, List.set_cons_succ]
        refine Till.take (i := 4) 10 (oi := { dst := some 26, op := Op.load 27 (Operand.tmp 25), type := _, pos := _, after := _, guard := none }) (x := (Value.slice aT k cT)) rfl (by decide) (by kernel_rfl) (by decide) (by kernel_rfl) (by kernel_rfl) (by kernel_rfl) (by kernel_rfl) (fun _ _ _ h => h) (Or.inl ⟨by rfl, fun w hSw => by (obtain ⟨c0, e0, e1⟩ := hSw; go_simp)⟩) hHeld ?_
        simp only [Act.put, List.setIfInBounds_toArray, List.set_cons_zero, List.set_cons_succ]
        refine Till.take (i := 5) 10 (oi := { dst := some 27, op := Op.load 33 (Operand.tmp 3), type := _, pos := _, after := _, guard := none }) (x := (.agg #[.int .i64 b, .int .i64 s])) rfl (by decide) (by kernel_rfl) (by decide) (by kernel_rfl) (by kernel_rfl) (by kernel_rfl) (by kernel_rfl) (fun _ _ _ h => h) (Or.inl ⟨by rfl, fun w hSw => by (obtain ⟨c0, e0, e1⟩ := hSw; go_simp)⟩) hHeld ?_
        simp only [Act.put, List.setIfInBounds_toArray, List.set_cons_zero, List.set_cons_succ]
        refine Till.one (i := 6) (o := { dst := some 28, op := Op.buildSlice 27 1 #[(0, Operand.tmp 27)], type := _, pos := _, after := _, guard := none }) rfl (by kernel_rfl) (fun K9 hK => ?_)
        go_simp
        have KB1 : Hid (Below w.heap.size w (W.alloc (.cells #[.int .i64 b, .int .i64 s] 33))) := KB.out.alloc KB.out.size _
        have hh1 : (W.alloc (.cells #[.int .i64 b, .int .i64 s] 33)).cell? ⟨p, 0, none⟩ = some (Value.slice aT k cT) ∧ (W.alloc (.cells #[.int .i64 b, .int .i64 s] 33)).cell? ⟨Q, 0, none⟩ = some (.int .i64 b) ∧ (W.alloc (.cells #[.int .i64 b, .int .i64 s] 33)).cell? ⟨Q, 1, none⟩ = some (.int .i64 s) := by obtain ⟨c0, e0, e1⟩ := hHeld; exact ⟨cell_later (Rt.below1 _ _) c0, cell_later (Rt.below1 _ _) e0, cell_later (Rt.below1 _ _) e1⟩
        have hnw : (W.alloc (.cells #[.int .i64 b, .int .i64 s] 33)).heap[W.heap.size]? = some (.cells #[.int .i64 b, .int .i64 s] 33 (0, 0)) := _root_.Go.heap_alloc_last W _
        refine hK _ _ (fun _ => hh1) ?_
        clear hK K9 hHeld KB
        try simp only [Act.put, List.setIfInBounds_toArray, List.set_cons_zero, List.set_cons_succ]
        generalize (W.alloc (.cells #[.int .i64 b, .int .i64 s] 33)) = W1 at *
        generalize W.heap.size = g1 at *
        have hHeld := hh1
        clear hh1
        have hrow1 := own_later HRW.out KB1.out
        refine Till.one (i := 7) (o := { dst := some 29, op := Op.call { callee := Callee.builtin Builtin.append, args := #[Operand.tmp 26, Operand.tmp 28], argTypes := _ }, type := _, pos := _, after := _, guard := none }) rfl (by kernel_rfl) (fun K9 hK => ?_)
        refine step_append_lies W1 rfl _ _ _ rfl N 33 i0 _ 2 16 Try.underlying27 hi hz0 hz1 hz2 rfl (by omega) _ k (st.T.flatMap kC) rfl hrow1 ⟨g1, 0, none⟩ 1 1 [.int .i64 b, .int .i64 s] rfl rfl (news_of hnw) (by simp [Value.oneCell']) (by omega) (by unfold maxLen; omega) (by omega) (Nat.le_trans HN.out KB1.out.size) W1.heap.size rfl ?_
        intro g3 cap3 w3 hown3 hgrow3 hat3 hlt3
        have hk3 : Kept (fun j => (Value.slice aT k cT).ownBlock = some j) w w3 := (Kept.ofBelow KB1.out).grown hgrow3 (fun j e _ => e)
        have hg3 : (Value.slice aT k cT).ownBlock = some g3 ∨ w.heap.size ≤ g3 := hat3.imp id (fun e => by rw [e]; exact KB1.out.size)
        have hHeld3 : w3.cell? ⟨p, 0, none⟩ = some (Value.slice aT k cT) ∧ w3.cell? ⟨Q, 0, none⟩ = some (.int .i64 b) ∧ w3.cell? ⟨Q, 1, none⟩ = some (.int .i64 s) := by obtain ⟨c0, e0, e1⟩ := hHeld; have hkg := (Kept.refl (fun j => (Value.slice aT k cT).ownBlock = some j) W1).grown hgrow3 (fun j e _ => e); exact ⟨hkg.cell c0 HPV.out, hkg.cell e0 HQV.out, hkg.cell e1 HQV.out⟩
        refine hK _ _ (fun _ => hHeld3) ?_
        clear hK K9 hHeld
        try simp only [Act.put, List.setIfInBounds_toArray, List.set_cons_zero, List.set_cons_succ]
        have hHeld := hHeld3
        refine Till.takeFree (i := 8) (oi := { dst := some 30, op := Op.nilCheck (Operand.tmp 22), type := _, pos := _, after := _, guard := none }) (x := .pointer (some ⟨p, 0, none⟩)) rfl (by decide) (by kernel_rfl) (by kernel_rfl) (by kernel_rfl) (fun _ _ _ h => h) (Or.inl ⟨by rfl, fun w _ => by go_simp⟩) hHeld ?_
        simp only [Act.put, List.setIfInBounds_toArray, List.set_cons_zero, List.set_cons_succ]
        refine Till.takeFree (i := 9) (oi := { dst := some 31, op := Op.fieldAddr 31 (Operand.tmp 30) 0, type := _, pos := _, after := _, guard := none }) (x := .pointer (some ⟨p, 0, none⟩)) rfl (by decide) (by kernel_rfl) (by kernel_rfl) (by kernel_rfl) (fun _ _ _ h => h) (Or.inl ⟨by rfl, fun w _ => by go_simp⟩) hHeld ?_
        simp only [Act.put, List.setIfInBounds_toArray, List.set_cons_zero, List.set_cons_succ]
        clear hHeld
        obtain ⟨hc3, -, -⟩ := hHeld3
        have hf3 : w3.frozen? ⟨p, 0, none⟩ = false := HFZ.out w3 hk3
        refine Till.one (i := 10) (o := { dst := none, op := Op.store 27 (Operand.tmp 31) (Operand.tmp 29), type := _, pos := _, after := _, guard := none }) rfl (by kernel_rfl) (fun K9 hK => ?_)
        go_simp
        refine hK _ _ (by simp) ?_
        clear hK K9
        try simp only [Act.put, List.setIfInBounds_toArray, List.set_cons_zero, List.set_cons_succ]
        refine Till.rest (by kernel_rfl) ?_
        refine wpAny_done (by kernel_rfl) ?_ _
        go_wp2_with fail
        go_end0
        refine ⟨rfl, ?_⟩
        rw [HEL.out]
        have e1 := HNE.out
        have e2 := HVT.out
        subst e1
        subst e2
        exact HK.out.grewT (b, s) (gd_iff.1 HG.out) hk3 hown3 hg3
end Go.Proofs.Ytompgoaogomoaaa.Kn
