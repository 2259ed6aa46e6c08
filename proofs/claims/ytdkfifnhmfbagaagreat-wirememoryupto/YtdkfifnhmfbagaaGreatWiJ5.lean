/- WiSa, WiSb, WiSc, joined. -/
import Derived.Test.YtdkfifnhmfbagaaGreatWiPg
import Derived.Test.YtdkfifnhmfbagaaGreatBtJ3
/- Contracts of the document's reader: num, key, box. -/
namespace Go.Proofs.YtdkfifnhmfbagaaGreat.Wi
open Go.RowKit Go.Maps
open Bt (Kept Rm tb bys bv)
set_option linter.unusedVariables false
set_option linter.unusedSimpArgs false

structure SC (B : Nat) (w : World) (sc g c : Nat) (T : List Bool) (v : Value) : Prop where
  rm : Rm B w g c T v
  hs : w.heap[sc]? = some (.cells #[.pointer (some ⟨g, 0, none⟩)] 86 (0, 0))
section
variable {B : Nat} {w w' W : World} {sc g c c' D : Nat} {T : List Bool} {v : Value} {O : Obj}
theorem SC.ng (h : SC B w sc g c T v) : sc ≠ g := row_ne h.hs h.rm.blk (by decide)
theorem SC.later (h : SC B w sc g c T v) (hb : Below w.heap.size w w') : SC B w' sc g c T v := ⟨h.rm.kept (Kept.ofBelow (F := fun _ => False) hb) (fun h => h) (fun _ _ h => h), row_later h.hs hb⟩
theorem SC.far (h : SC B w sc g c T v) (hk : Kept (fun k => k = D) w w') (h1 : D ≠ g) (h2 : D ≠ sc) (h3 : ∀ k, v.ownBlock = some k → k ≠ D) : SC B w' sc g c T v :=
  ⟨h.rm.kept hk (fun e => h1 e.symm) h3, row_kept h.hs hk (fun e => h2 e.symm)⟩
theorem SC.new (h : SC B w sc g c T v) : w.heap.size ≠ g ∧ w.heap.size ≠ sc ∧ ∀ k, v.ownBlock = some k → k ≠ w.heap.size := by
  have h1 := row_lt h.rm.blk
  have h2 := row_lt h.hs
  refine ⟨by omega, by omega, fun k hk => ?_⟩
  have := (h.rm.row.lt k hk).2
  omega
theorem SC.cell (h : SC B w sc g c T v) : w.cell? ⟨sc, 0, none⟩ = some (.pointer (some ⟨g, 0, none⟩)) := cell_of_row w sc 0 _ _ _ h.hs
end
/- .. with a block of the function's own beside it. -/
structure SB (B : Nat) (sc g : Nat) (T : List Bool) (v : Value) (w W : World) (c D : Nat) (O : Obj) : Prop where
  st : SC B W sc g c T v
  hd : W.heap[D]? = some O
  kp : Kept (fun k => k = g) w W
  nd : D ≠ g ∧ D ≠ sc ∧ ∀ k, v.ownBlock = some k → k ≠ D
  le : w.heap.size ≤ D
section
variable {B : Nat} {w w' W W' : World} {sc g c c' D : Nat} {T : List Bool} {v : Value} {O : Obj} {cs : Array Value} {t : TypeId}
theorem SB.new (h : SC B w sc g c T v) (O : Obj) : SB B sc g T v w (w.alloc O) c w.heap.size O := ⟨h.later (below_alloc w O), heap_alloc_last w O, Kept.ofBelow (below_alloc w O), h.new, Nat.le_refl _⟩
theorem SB.next (h : SB B sc g T v w W c D O) (hs : SC B W' sc g c' T v) (hk : Kept (fun k => k = g) W W') : SB B sc g T v w W' c' D O :=
  ⟨hs, row_kept h.hd hk h.nd.1, h.kp.trans hk (fun _ _ e => e), h.nd, h.le⟩
theorem SB.later (h : SB B sc g T v w W c D O) (hb : Below W.heap.size W W') : SB B sc g T v w W' c D O :=
  ⟨h.st.later hb, row_later h.hd hb, h.kp.trans (Kept.ofBelow (F := fun _ => False) hb) (fun _ _ e => e.elim), h.nd, h.le⟩
theorem kept_setRow (w : World) (D : Nat) (cs : Array Value) : Kept (fun k => k = D) w (w.setRow D cs) :=
  ⟨by simp [World.setRow], by simp [World.setRow], by simp [World.setRow], by simp, fun k hk hn => setRow_other hn cs⟩
theorem SB.setRow (h : SB B sc g T v w W c D (.cells cs t (0, 0))) (ds : Array Value) : SB B sc g T v w (W.setRow D ds) c D (.cells ds t (0, 0)) :=
  ⟨h.st.far (kept_setRow W D ds) h.nd.1 h.nd.2.1 h.nd.2.2, setRow_heap W D _ ds _ _ h.hd, h.kp.trans (kept_setRow W D ds) (fun i hi e => by have := h.le; omega), h.nd, h.le⟩
end
theorem kept_drewN (F : Nat → Prop) (w : World) : ∀ n, Kept F w (w.drewN n)
  | 0 => Kept.refl _ _
  | n + 1 => (kept_drewN F w n).trans (Kept.ofBelow (F := fun _ => False) (drew_below _)) (fun _ _ e => e.elim)
set_option maxRecDepth 100000 in
set_option maxHeartbeats 1000000 in
theorem num_any (B sc g c q : Nat) (T : List Bool) (v : Value) (w : World) (h : SC B w sc g c T v) (hT : T.length < 4611686018427387904) (h1 : 1 ≤ q) (h2 : q ≤ 32) :
    Calls Tryz.prog 83 #[.pointer (some ⟨sc, 0, none⟩), .int .i64 (q : Int)] w fun e w' => e = .returned (.int .i64 ((tn q T c).1 : Int)) ∧ SC B w' sc g (tn q T c).2 T v ∧ Kept (fun k => k = g) w w' := by
  have c0 := h.cell
  have HS : Hid (SC B w sc g c T v) := h
  by_cases hc : c + q ≤ T.length
  · have hp := Bt.rTake_yes B g c q T v w h.rm hT h1 (by omega) hc
    have hx := tn_lt q T c
    have HE : Hid (tn q T c = (bv ((T.drop c).take q), c + q)) := by unfold Hid tn; rw [if_pos hc]
    rw [HE.out] at hx
    rw [HE.out]
    dsimp only at hx ⊢
    generalize bv ((T.drop c).take q) = x at *
    have hq32 : 2 ^ q ≤ 4294967296 := by have := Nat.pow_le_pow_right (n := 2) (by decide) h2; simpa using this
    have hwx : IntKind.i64.wrap (x : Int) = (x : Int) := Bt.wrap_fit _ (by omega) (by omega)
    clear hx h hT h1 h2 hc
    go_enter Tryz.func83, Tryz.ntmps83
    go_wp2_with fail
    refine hp.mono ?_
    rintro e w2 ⟨rfl, hr, hk⟩
    have HR : Hid (SC B w2 sc g (c + q) T v ∧ Kept (fun k => k = g) w w2) := ⟨⟨hr, row_kept HS.out.hs hk HS.out.ng⟩, hk⟩
    clear hr hk hp c0
    go_wp2_with fail
    go_ret
    exact ⟨rfl, HR.out.1, HR.out.2⟩
  · have hp := Bt.rTake_no B g c T v (q : Int) w h.rm hT (fun hh => hc (by have := h.rm.le; have := hh.2; omega))
    have HE : Hid (tn q T c = (0, c)) := by unfold Hid tn; rw [if_neg hc]
    rw [HE.out]
    dsimp only
    clear h hT h1 h2 hc
    go_enter Tryz.func83, Tryz.ntmps83
    go_wp2_with fail
    refine hp.mono ?_
    rintro e w2 ⟨rfl, n, rfl⟩
    have HR : Hid (SC B (w.drewN n) sc g c T v ∧ Kept (fun k => k = g) w (w.drewN n)) := ⟨⟨HS.out.rm.drewN n, HS.out.hs⟩, kept_drewN _ w n⟩
    clear hp c0
    go_wp2_with fail
    go_ret
    exact ⟨rfl, HR.out.1, HR.out.2⟩
set_option maxRecDepth 100000 in
set_option maxHeartbeats 1000000 in
theorem rKey_any (B sc g c : Nat) (T : List Bool) (v : Value) (w : World) (h : SC B w sc g c T v) (hT : T.length < 4611686018427387904) :
    Calls Tryz.prog 86 #[.pointer (some ⟨sc, 0, none⟩)] w fun e w' => e = .returned (.agg (stl (tK T c).1).toArray) ∧ SC B w' sc g (tK T c).2 T v ∧ Kept (fun k => k = g) w w' := by
  have HB : Hid _ := SB.new h (.cells #[.int .i64 0, .int .i64 0] 29)
  have HT : Hid (T.length < 4611686018427387904) := hT
  have HN : Hid (tK T c = (((((tn 16 T c).1 : Nat) : Int), (((tn 8 T (tn 16 T c).2).1 : Nat) : Int)), (tn 8 T (tn 16 T c).2).2)) := rfl
  rw [HN.out]
  obtain ⟨p1, hp1⟩ : ∃ p, tn 16 T c = p := ⟨_, rfl⟩
  have hn1 := num_any B sc g c 16 T v _ HB.out.st hT (by omega) (by omega)
  rw [hp1] at hn1 ⊢
  obtain ⟨x, c1⟩ := p1
  dsimp only at hn1 ⊢
  obtain ⟨p2, hp2⟩ : ∃ p, tn 8 T c1 = p := ⟨_, rfl⟩
  have HP2 : Hid (tn 8 T c1 = p2) := hp2
  rw [hp2]
  obtain ⟨y, c2⟩ := p2
  dsimp only [stl]
  clear h hT HN hp1 hp2
  go_enter Tryz.func86, Tryz.ntmps86
  go_wp2_with fail
  refine hn1.mono ?_
  rintro e w2 ⟨rfl, hs2, hk2⟩
  have HB2 : Hid _ := HB.out.next hs2 hk2
  clear hn1 hs2 hk2 HB
  have hn2 := num_any B sc g c1 8 T v w2 HB2.out.st HT.out (by omega) (by omega)
  rw [HP2.out] at hn2
  dsimp only at hn2
  go_wp2_with fail
  refine hn2.mono ?_
  rintro e w3 ⟨rfl, hs3, hk3⟩
  have HB3 : Hid _ := HB2.out.next hs3 hk3
  clear hn2 hs3 hk3 HB2
  go_wp2_with (refine stW szKey HB3.out.hd rfl [.int .i64 (x : Int), .int .i64 (y : Int)] rfl rfl rfl _ _ rfl rfl rfl ?_)
  have hb5 := HB3.out.setRow #[.int .i64 (x : Int), .int .i64 (y : Int)]
  refine bodyPost_ret (res1 (T := 29) (p := 2) rfl _ _ w.heap.size #[.int .i64 (x : Int), .int .i64 (y : Int)] rfl (run_loadVar_row _ w.heap.size _ 29 _ _ _ hb5.hd Tryz.underlying29 rfl szKey)) rfl ?_
  exact ⟨rfl, hb5.st, hb5.kp⟩
end Go.Proofs.YtdkfifnhmfbagaaGreat.Wi
/- Contracts of the document's reader: box, seats. -/
namespace Go.Proofs.YtdkfifnhmfbagaaGreat.Wi
open Go.RowKit Go.Maps
open Bt (Kept Rm tb bys bv)
set_option linter.unusedVariables false
set_option linter.unusedSimpArgs false

set_option maxRecDepth 100000 in
set_option maxHeartbeats 1000000 in
theorem rBox_any (B sc g c : Nat) (T : List Bool) (v : Value) (w : World) (h : SC B w sc g c T v) (hT : T.length < 4611686018427387904) :
    Calls Tryz.prog 85 #[.pointer (some ⟨sc, 0, none⟩)] w fun e w' => e = .returned (.agg (bxl (tB T c).1).toArray) ∧ SC B w' sc g (tB T c).2 T v ∧ Kept (fun k => k = g) w w' := by
  have hb := SB.new h (.cells #[.int .i64 0, .int .i64 0, .int .i64 0, .int .i64 0] 31)
  have HT : Hid (T.length < 4611686018427387904) := hT
  have HN : Hid (tB T c = (((tK T c).1, (tK T (tK T c).2).1), (tK T (tK T c).2).2)) := rfl
  rw [HN.out]
  have hp := rKey_any B sc g c T v _ hb.st hT
  obtain ⟨p1, hp1⟩ : ∃ p, tK T c = p := ⟨_, rfl⟩
  rw [hp1] at hp ⊢
  obtain ⟨⟨kb, ks⟩, c1⟩ := p1
  dsimp only [stl] at hp ⊢
  obtain ⟨p2, hp2⟩ : ∃ p, tK T c1 = p := ⟨_, rfl⟩
  have HP2 : Hid (tK T c1 = p2) := hp2
  rw [hp2]
  obtain ⟨⟨lb, ls⟩, c2⟩ := p2
  dsimp only [bxl]
  have HB : Hid _ := hb
  clear h hT HN hp1 hp2 hb
  go_enter Tryz.func85, Tryz.ntmps85
  go_wp2_with fail
  refine hp.mono ?_
  rintro e w2 ⟨rfl, hs2, hk2⟩
  have hb2 := HB.out.next hs2 hk2
  clear hp hs2 hk2 HB
  go_upto_region 2 with (fail)
  obtain ⟨D, hDe⟩ : ∃ D, w.heap.size = D := ⟨_, rfl⟩
  rw [hDe] at hb2 ⊢
  clear hDe
  have hb3 := hb2.later (below_alloc w2 (.cells #[.int .i64 kb, .int .i64 ks] 29))
  have hE := heap_alloc_last w2 (.cells #[.int .i64 kb, .int .i64 ks] 29)
  have hnw := hb2.st.new
  have HED : Hid (w2.heap.size ≠ D) := by have := row_lt hb2.hd; unfold Hid; omega
  generalize w2.alloc (.cells #[.int .i64 kb, .int .i64 ks] 29) = w3 at *
  generalize w2.heap.size = E at *
  have hb4 := hb3.later (drew_below w3)
  have hE4 : w3.drew.heap[E]? = some (.cells #[.int .i64 kb, .int .i64 ks] 29) := hE
  have HEg : Hid (E ≠ g) := hnw.1
  have hp := rKey_any B sc g c1 T v w3.drew hb4.st HT.out
  rw [HP2.out] at hp
  dsimp only [stl] at hp
  have HB4 : Hid (SB B sc g T v w w3.drew c1 D (.cells #[.int .i64 0, .int .i64 0, .int .i64 0, .int .i64 0] 31)) := hb4
  have k0 : w3.cell? ⟨E, 0, none⟩ = some (.int .i64 kb) := cell_of_row w3 E 0 _ _ _ hE
  have k1 : w3.cell? ⟨E, 1, none⟩ = some (.int .i64 ks) := cell_of_row w3 E 1 _ _ _ hE
  clear hb2 hb3 hb4 hE hnw
  refine wp_region_held_drew (S := fun W => W.cell? ⟨E, 0, none⟩ = some (.int .i64 kb) ∧ W.cell? ⟨E, 1, none⟩ = some (.int .i64 ks)) (by kernel_rfl) ⟨k0, k1⟩ (fun hHeld => ?_)
  refine wpAnyH_take (i := 0) (oi := { dst := some 6, op := Op.load 29 (Operand.tmp 3), type := _, pos := _, after := _, guard := none }) (v := .agg #[.int .i64 kb, .int .i64 ks]) rfl (by kernel_rfl) (by kernel_rfl) (by kernel_rfl) (fun _ _ _ h => h) (Or.inl ⟨by rfl, fun w hSw => by (try dsimp only at hSw); go_simp⟩) (by assumption) ?_
  simp only [Act.put, List.setIfInBounds_toArray, List.set_cons_zero, List.set_cons_succ]
  refine wpAnyH_take (i := 1) (oi := { dst := some 7, op := Op.move (Operand.tmp 0), type := _, pos := _, after := _, guard := none }) (v := .pointer (some ⟨sc, 0, none⟩)) rfl (by kernel_rfl) (by kernel_rfl) (by kernel_rfl) (fun _ _ _ h => h) (Or.inl ⟨by rfl, fun w hSw => by (try dsimp only at hSw); go_simp⟩) (by assumption) ?_
  simp only [Act.put, List.setIfInBounds_toArray, List.set_cons_zero, List.set_cons_succ]
  refine wpAnyH_ready (rs := [2]) (by kernel_rfl) (by simp) ?_
  refine AllReadyH.cons rfl (fun K hK => ?_) AllReadyH.nil
  go_simp
  refine hp.mono ?_
  rintro e w4 ⟨rfl, hs4, hk4⟩
  have hE5 := row_kept hE4 hk4 HEg.out
  have HB5 : Hid (SB B sc g T v w w4 c2 D (.cells #[.int .i64 0, .int .i64 0, .int .i64 0, .int .i64 0] 31)) := HB4.out.next hs4 hk4
  have HE5 : Hid (w4.heap[E]? = some (.cells #[.int .i64 kb, .int .i64 ks] 29)) := hE5
  have hS5 : w4.cell? ⟨E, 0, none⟩ = some (.int .i64 kb) ∧ w4.cell? ⟨E, 1, none⟩ = some (.int .i64 ks) := ⟨cell_of_row w4 E 0 _ _ _ hE5, cell_of_row w4 E 1 _ _ _ hE5⟩
  clear hp hs4 hk4 hE5
  go_wp2_with fail
  refine hK.out _ _ hS5 (fun hHeld2 => ?_)
  clear hHeld hS5
  clear hK K
  try simp only [Act.put, List.setIfInBounds_toArray, List.set_cons_zero, List.set_cons_succ]
  refine wpAnyH_take (i := 3) (oi := { dst := some 9, op := Op.build 31 #[(0, (Operand.tmp 6)), (1, (Operand.tmp 8))], type := _, pos := _, after := _, guard := none }) (v := .agg #[.int .i64 kb, .int .i64 ks, .int .i64 lb, .int .i64 ls]) rfl (by kernel_rfl) (by kernel_rfl) (by kernel_rfl) (fun _ _ _ h => h) (Or.inl ⟨by rfl, fun w hSw => by (try dsimp only at hSw); go_simp⟩) (by assumption) ?_
  simp only [Act.put, List.setIfInBounds_toArray, List.set_cons_zero, List.set_cons_succ]
  refine wpAnyH_ready (rs := [4]) (by kernel_rfl) (by simp) ?_
  refine AllReadyH.cons rfl (fun Kc hK => ?_) AllReadyH.nil
  have hE6 := (setRow_other HED.out #[.int .i64 kb, .int .i64 ks, .int .i64 lb, .int .i64 ls]).trans HE5.out
  have HB6 : Hid (SB B sc g T v w (w4.setRow D #[.int .i64 kb, .int .i64 ks, .int .i64 lb, .int .i64 ls]) c2 D (.cells #[.int .i64 kb, .int .i64 ks, .int .i64 lb, .int .i64 ls] 31)) := HB5.out.setRow _
  refine if_wp rfl (wp_stRow0 31 _ _ rfl D [.int .i64 kb, .int .i64 ks, .int .i64 lb, .int .i64 ls] rfl rfl _ HB5.out.hd szBox rfl rfl rfl ?_)
  refine hK.out _ _ ⟨cell_of_row _ E 0 _ _ _ hE6, cell_of_row _ E 1 _ _ _ hE6⟩ (fun hHeld3 => ?_)
  clear hHeld2 hE6
  clear hK Kc
  try simp only [Act.put, List.setIfInBounds_toArray, List.set_cons_zero, List.set_cons_succ]
  refine wpAnyH_done (by kernel_rfl) ?_ _
  go_wp2_with fail
  refine bodyPost_ret (res1 (T := 31) (p := 2) rfl _ _ D #[.int .i64 kb, .int .i64 ks, .int .i64 lb, .int .i64 ls] rfl (run_loadVar_row _ D _ 31 _ _ _ HB6.out.hd Tryz.underlying31 rfl szBox)) rfl ?_
  exact ⟨rfl, HB6.out.st, HB6.out.kp⟩
theorem infoSt : (Tryz.prog.info? 55).map (fun i => (i.zero, i.size, i.bytes)) = some (some (.agg #[.int .i64 0, .int .i64 0]), 2, 16) := by kernel_rfl
theorem infoSt_parts : ∃ i, Tryz.prog.info? 55 = some i ∧ i.zero = some (.agg #[.int .i64 0, .int .i64 0]) ∧ i.size = 2 ∧ i.bytes = 16 := by
  have h := infoSt
  cases hq : Tryz.prog.info? 55 with
  | none => rw [hq] at h; cases h
  | some i =>
    rw [hq] at h
    simp at h
    exact ⟨i, rfl, h.1, h.2.1, h.2.2⟩
/- An append to a list that is newer than the reader. -/
theorem grown_kept {B : Nat} {w w4 w5 : World} {sc g c c0 T2 k n : Nat} {T : List Bool} {v u : Value} {o : Obj} {xs : List Value} (hs : SC B w4 sc g c T v) (hg : (w4.alloc o).grownBy w5 u.ownBlock) (hr : w4.ownsRow w.heap.size T2 k u n xs) (h0 : SC B w sc g c0 T v) : SC B w5 sc g c T v ∧ Kept (fun k => u.ownBlock = some k) w4 w5 ∧ ∀ i, i < w.heap.size → u.ownBlock = some i → i = g := by
  have hk : Kept (fun k => u.ownBlock = some k) w4 w5 := by
    refine ⟨hg.os, hg.tape, hg.output, by have := hg.size; simp at this; omega, fun i hi hn => ?_⟩
    rw [hg.block i (by simp; omega) (fun e => hn e.symm)]
    exact (below_alloc w4 _).block i hi
  have hf : ∀ i, i < w.heap.size → ¬ u.ownBlock = some i := fun i hi e => by have := (hr.lt i e).1; omega
  refine ⟨⟨hs.rm.kept hk (hf g (row_lt h0.rm.blk)) (fun i hi => hf i (h0.rm.row.lt i hi).2), ?_⟩, hk, fun i hi e => absurd e (hf i hi)⟩
  exact (hk.block sc (row_lt hs.hs) (hf sc (row_lt h0.hs))).trans hs.hs
theorem tl_len {α : Type} (d : List Bool → Nat → α × Nat) (T : List Bool) (c : Nat) : ∀ n, (tl d T c n).1.length = n
  | 0 => rfl
  | n + 1 => by rw [tl, List.length_append, tl_len d T c n]; rfl
set_option maxRecDepth 100000 in
set_option maxHeartbeats 1000000 in
theorem rScanS_any (B sc g c : Nat) (T : List Bool) (v : Value) (w : World) (h : SC B w sc g c T v) (hT : T.length < 4611686018427387904) :
    Calls Tryz.prog 84 #[.pointer (some ⟨sc, 0, none⟩)] w fun e w' => ∃ x, e = .returned x ∧ w'.ownsRow w.heap.size 55 2 x (tc 7 tS T c).1.length ((tc 7 tS T c).1.flatMap stl) ∧ SC B w' sc g (tc 7 tS T c).2 T v ∧ Kept (fun k => k = g) w w' := by
  obtain ⟨i0, hi, hz0, hz1, hz2⟩ := infoSt_parts
  have HS : Hid (SC B w sc g c T v) := h
  have HT : Hid (T.length < 4611686018427387904) := hT
  have hp := num_any B sc g c 7 T v w h hT (by omega) (by omega)
  have HN : Hid (tc 7 tS T c = tl tS T (tn 7 T c).2 (tn 7 T c).1) := rfl
  have hlt := tn_lt 7 T c
  rw [HN.out]
  generalize tn 7 T c = p at *
  obtain ⟨n, c1⟩ := p
  dsimp only at hp hlt ⊢
  clear h hT HN
  go_enter Tryz.func84, Tryz.ntmps84
  go_wp2_with fail
  refine hp.mono ?_
  rintro e w2 ⟨rfl, hs2, hk2⟩
  have H2 : Hid (SC B w2 sc g c1 T v ∧ Kept (fun k => k = g) w w2) := ⟨hs2, hk2⟩
  clear hp hs2 hk2
  go_wp2_with fail
  go_loopw [3, 5] (fun x i wr => ∃ k : Nat, k ≤ n ∧ i = .int .i64 (k : Int) ∧ wr.ownsRow w.heap.size 55 2 x k ((tl tS T c1 k).1.flatMap stl) ∧ SC B wr sc g (tl tS T c1 k).2 T v ∧ Kept (fun k => k = g) w wr) (fun _ i _ => n - (intOf i).toNat)
  case atStart => exact ⟨0, by omega, rfl, World.ownsRow_nil _ _ _ _, H2.out.1, H2.out.2⟩
  case round =>
    obtain ⟨k, hk, rfl, hr, hs, hkp⟩ := hrel
    have HR : Hid (wr.ownsRow w.heap.size 55 2 u3 k ((tl tS T c1 k).1.flatMap stl)) := hr
    have HK : Hid (Kept (fun k => k = g) w wr) := hkp
    have HX : Hid (tl tS T c1 (k + 1) = ((tl tS T c1 k).1 ++ [(tS T (tl tS T c1 k).2).1], (tS T (tl tS T c1 k).2).2)) := rfl
    have HLN : Hid ((tl tS T c1 k).1.length = k) := tl_len _ _ _ _
    have HS2 : Hid (SC B wr sc g (tl tS T c1 k).2 T v) := hs
    clear hr hkp H2 hs
    by_cases hkn : k < n
    · have i1 : (k : Int) < (n : Int) := by omega
      generalize tl tS T c1 k = lc at *
      obtain ⟨l, c2⟩ := lc
      dsimp only at HR HX HLN HS2
      have hp := num_any B sc g c2 8 T v wr HS2.out HT.out (by omega) (by omega)
      have HTS : Hid (tS T c2 = (((((tn 8 T c2).1 : Nat) : Int), (((tn 6 T (tn 8 T c2).2).1 : Nat) : Int)), (tn 6 T (tn 8 T c2).2).2)) := rfl
      rw [HTS.out] at HX
      generalize tn 8 T c2 = p at *
      obtain ⟨x, c3⟩ := p
      dsimp only at hp HX
      go_wp2_with fail
      refine hp.mono ?_
      rintro e w3 ⟨rfl, hs3, hk3⟩
      have HS3 : Hid (SC B w3 sc g c3 T v) := hs3
      have hr3 := hk3.row HR.out (fun j hj e => by
        subst e
        have h1 := (HR.out.lt j hj).1
        have h2 := row_lt HS.out.rm.blk
        omega)
      have HK3 : Hid (Kept (fun k => k = g) w w3) := HK.out.trans hk3 (fun _ _ e => e)
      have HR3 : Hid (w3.ownsRow w.heap.size 55 2 u3 k (l.flatMap stl)) := hr3
      clear hp hs3 hk3 hr3 HR HK HS2
      have hp := num_any B sc g c3 6 T v w3 HS3.out HT.out (by omega) (by omega)
      generalize tn 6 T c3 = p at *
      obtain ⟨y, c4⟩ := p
      dsimp only at hp HX
      go_wp2_with fail
      refine hp.mono ?_
      rintro e w4 ⟨rfl, hs4, hk4⟩
      have HS4 : Hid (SC B w4 sc g c4 T v) := hs4
      have hr4 := hk4.row HR3.out (fun j hj e => by
        subst e
        have h1 := (HR3.out.lt j hj).1
        have h2 := row_lt HS.out.rm.blk
        omega)
      have HK4 : Hid (Kept (fun k => k = g) w w4) := HK3.out.trans hk4 (fun _ _ e => e)
      have hsz : w.heap.size ≤ w4.heap.size := HK4.out.size
      clear hp hs4 hk4 HR3 HK3 HS3
      go_wp2_with (at_builtin; (refine wpList_append_own _ rfl _ _ 22 rfl w.heap.size 55 i0 (.agg #[.int .i64 0, .int .i64 0]) 2 16 Tryz.underlying22 hi hz0 hz1 hz2 rfl (by decide) u3 k (l.flatMap stl) rfl (hr4.alloc _) ⟨w4.heap.size, 0, none⟩ 1 1 [.int .i64 (x : Int), .int .i64 (y : Int)] rfl rfl (cell_row_new _ _ _) (by simp [Value.oneCell']) (by unfold maxLen; omega) (by omega) (by simp; omega) ?_); intro v' w5 hown hg5 _; have HO : Hid (w5.ownsRow w.heap.size 55 2 v' (k + 1) (l.flatMap stl ++ [.int .i64 (x : Int), .int .i64 (y : Int)])) := hown; have HG5 : Hid ((w4.alloc (.cells #[.int .i64 (x : Int), .int .i64 (y : Int)] 55)).grownBy w5 u3.ownBlock) := hg5; clear hown hg5)
      have HR4 : Hid (w4.ownsRow w.heap.size 55 2 u3 k (l.flatMap stl)) := hr4
      go_roundw
      case rel =>
        obtain ⟨kA, kB, kC⟩ := grown_kept HS4.out HG5.out HR4.out HS.out
        refine ⟨k + 1, by omega, by go_num, ?_, ?_, HK4.out.trans kB kC⟩
        · rw [HX.out]; dsimp only; rw [List.flatMap_append]; simpa [stl] using HO.out
        · rw [HX.out]; exact kA
      case measure => simp [intOf]; omega
    · have hkn' : decide ((k : Int) < (n : Int)) = false := by simp; omega
      obtain rfl : k = n := by omega
      go_wp2_with fail
      go_ret
      refine ⟨_, rfl, ?_, HS2.out, HK.out⟩
      rw [HLN.out]
      exact HR.out
end Go.Proofs.YtdkfifnhmfbagaaGreat.Wi
/- Contract of the document's reader: message, at a request. -/
namespace Go.Proofs.YtdkfifnhmfbagaaGreat.Wi
open Go.RowKit Go.Maps
open Bt (Kept Rm tb bys bv tx u8s)
set_option linter.unusedVariables false
set_option linter.unusedSimpArgs false

/- A message whose lists are rows of their own, in blocks from n on. -/
def MO (n : Nat) (w : World) (m : Msg) (ct : List Value) : Prop := ∃ aL cL aJ cJ aI cI, ct = mgv m aL aJ aI cL cJ cI ∧ w.ownsRow n 55 2 (.slice aL m.rk.2.1.length cL) m.rk.2.1.length (m.rk.2.1.flatMap stl) ∧ w.ownsRow n 55 2 (.slice aJ m.rk.2.2.1.length cJ) m.rk.2.2.1.length (m.rk.2.2.1.flatMap stl) ∧ w.ownsRow n 53 6 (.slice aI m.rk.2.2.2.length cI) m.rk.2.2.2.length (m.rk.2.2.2.flatMap itl) ∧ (m.rk.2.1.length < 4611686018427387904 ∧ m.rk.2.2.1.length < 4611686018427387904 ∧ m.rk.2.2.2.length < 4611686018427387904 ∧ m.sd.2.2.size < 4611686018427387904)
/- The same, the seats' lists apart. -/
def MX (n : Nat) (w : World) (m : Msg) (ct : List Value) : Prop := ∃ aL cL aJ cJ aI cI, ct = mgv m aL aJ aI cL cJ cI ∧ w.ownsRow n 55 2 (.slice aL m.rk.2.1.length cL) m.rk.2.1.length (m.rk.2.1.flatMap stl) ∧ w.ownsRow n 55 2 (.slice aJ m.rk.2.2.1.length cJ) m.rk.2.2.1.length (m.rk.2.2.1.flatMap stl) ∧ w.ownsRow n 53 6 (.slice aI m.rk.2.2.2.length cI) m.rk.2.2.2.length (m.rk.2.2.2.flatMap itl) ∧ AP aL aJ ∧ (m.rk.2.1.length < 4611686018427387904 ∧ m.rk.2.2.1.length < 4611686018427387904 ∧ m.rk.2.2.2.length < 4611686018427387904 ∧ m.sd.2.2.size < 4611686018427387904)
section
variable {n n' : Nat} {w w' : World} {m : Msg} {ct : List Value}
theorem MO.mv (h : MO n w m ct) : MV w m ct := by
  obtain ⟨aL, cL, aJ, cJ, aI, cI, e, oL, oJ, oI, n1, n2, n3, n4⟩ := h
  exact ⟨aL, aJ, aI, cL, cJ, cI, e, ⟨rd_owns (f := stl) (fun _ => rfl) oL, rd_owns (f := stl) (fun _ => rfl) oJ, rd_owns (f := itl) (fun _ => rfl) oI, n1, n2, n3, n4⟩⟩
theorem MX.mo (h : MX n w m ct) : MO n w m ct := by
  obtain ⟨aL, cL, aJ, cJ, aI, cI, e, oL, oJ, oI, _, r⟩ := h
  exact ⟨aL, cL, aJ, cJ, aI, cI, e, oL, oJ, oI, r⟩
theorem MO.wide (h : MO n w m ct) (hn : n' ≤ n) : MO n' w m ct := by
  obtain ⟨aL, cL, aJ, cJ, aI, cI, e, oL, oJ, oI, r⟩ := h
  exact ⟨aL, cL, aJ, cJ, aI, cI, e, owns_wide oL hn, owns_wide oJ hn, owns_wide oI hn, r⟩
theorem MO.block (h : MO n w m ct) (hk : ∀ g, n ≤ g → g < w.heap.size → w'.heap[g]? = w.heap[g]?) : MO n w' m ct := by
  obtain ⟨aL, cL, aJ, cJ, aI, cI, e, oL, oJ, oI, r⟩ := h
  exact ⟨aL, cL, aJ, cJ, aI, cI, e, owns_block oL hk, owns_block oJ hk, owns_block oI hk, r⟩
theorem MO.later (h : MO n w m ct) (hb : Below w.heap.size w w') : MO n w' m ct := h.block fun g _ hg => hb.block g hg
theorem MO.nil (n : Nat) (w : World) (k : Int) (q : Int × Int) (p : (Int × Int) × (Int × (((Int × Int) × (Int × Int)) × (((Int × Int) × (Int × Int)) × ((Int × Int) × (Int × Int)))))) (d : Int × ((Int × Int) × ByteArray)) (hd : d.2.2.size < 4611686018427387904) : MO n w ⟨k, zR, q, p, d⟩ (mgl ⟨k, zR, q, p, d⟩ (.slice none 0 0) (.slice none 0 0) (.slice none 0 0)) :=
  ⟨none, 0, none, 0, none, 0, rfl, World.ownsRow_nil _ _ _ _, World.ownsRow_nil _ _ _ _, World.ownsRow_nil _ _ _ _, (show 0 < 4611686018427387904 by decide), (show 0 < 4611686018427387904 by decide), (show 0 < 4611686018427387904 by decide), hd⟩
end
theorem dec_mx (s : ByteArray) (w : World) (hs : s.size < 1125899906842624) : Calls Tryz.prog 10 #[.string s] w fun e w' => ∃ ct, e = .returned (.tuple #[.agg ct.toArray, .int .i64 (dcE (tb (bys s)))]) ∧ MX w.heap.size w' (dcM (tb (bys s))) ct ∧ Below w.heap.size w w' := by
  refine (decode_any s w hs).mono ?_
  rintro e w' ⟨aL, cL, aJ, cJ, aI, cI, rfl, oL, oJ, oI, hap, hb⟩
  exact ⟨_, rfl, ⟨aL, cL, aJ, cJ, aI, cI, rfl, oL, oJ, oI, hap, dc_len s⟩, hb⟩
structure SM (B sc g : Nat) (T : List Bool) (v : Value) (w W : World) (c D : Nat) (O : Obj) (M : Nat) (m : Msg) (vL vJ vI : Value) : Prop where
  sb : SB B sc g T v w W c D O
  hm : MgAt W M m vL vJ vI
  nm : (M ≠ g ∧ M ≠ sc ∧ ∀ k, v.ownBlock = some k → k ≠ M) ∧ M ≠ D
  lm : w.heap.size ≤ M
section
variable {B : Nat} {w w' W W' : World} {sc g c c' D M : Nat} {T : List Bool} {v vL vJ vI xL xJ xI : Value} {O : Obj} {m m' : Msg}
theorem SM.next (h : SM B sc g T v w W c D O M m vL vJ vI) (hs : SC B W' sc g c' T v) (hk : Kept (fun k => k = g) W W') : SM B sc g T v w W' c' D O M m vL vJ vI :=
  ⟨h.sb.next hs hk, row_kept h.hm hk h.nm.1.1, h.nm, h.lm⟩
theorem SM.later (h : SM B sc g T v w W c D O M m vL vJ vI) (hb : Below W.heap.size W W') : SM B sc g T v w W' c D O M m vL vJ vI :=
  ⟨h.sb.later hb, h.hm.later hb, h.nm, h.lm⟩
theorem SM.far (h : SM B sc g T v w W c D O M m vL vJ vI) (hk : Kept (fun k => k = M) W W') (hm : MgAt W' M m' xL xJ xI) : SM B sc g T v w W' c D O M m' xL xJ xI :=
  ⟨⟨h.sb.st.far hk h.nm.1.1 h.nm.1.2.1 h.nm.1.2.2, row_kept h.sb.hd hk (fun e => h.nm.2 e.symm), h.sb.kp.trans hk (fun i hi e => by have := h.lm; omega), h.sb.nd, h.sb.le⟩, hm, h.nm, h.lm⟩
theorem SM.set (h : SM B sc g T v w W c D O M m vL vJ vI) (o : Nat) (x : Value) (e : (mgl m vL vJ vI).toArray.setIfInBounds o x = (mgl m' xL xJ xI).toArray) : SM B sc g T v w (W.setCell ⟨M, o, none⟩ x) c D O M m' xL xJ xI :=
  h.far ((Kept.refl (fun k => k = M) W).setCell (p := ⟨M, o, none⟩) (fun _ => rfl) x) (by have := row_set h.hm o x; rw [e] at this; exact this)
theorem kept_setCells (w : World) (M : Nat) : ∀ (o : Nat) (cs : List Value), Kept (fun k => k = M) w (w.setCells M o cs)
  | o, [] => Kept.refl _ _
  | o, x :: cs => ((Kept.refl (fun k => k = M) w).setCell (p := ⟨M, o, none⟩) (fun _ => rfl) x).trans (kept_setCells (w.setCell ⟨M, o, none⟩ x) M (o + 1) cs) (fun _ _ e => e)
theorem SM.setP (h : SM B sc g T v w W c D O M m vL vJ vI) (o : Nat) (cs : List Value) (e : upd (mgl m vL vJ vI).toArray o cs = (mgl m' xL xJ xI).toArray) : SM B sc g T v w (W.setCells M o cs) c D O M m' xL xJ xI :=
  h.far (kept_setCells W M o cs) (by have := row_upd cs o h.hm; rw [e] at this; exact this)
theorem SM.cell (h : SM B sc g T v w W c D O M m vL vJ vI) (o : Nat) (x : Value) (e : (mgl m vL vJ vI)[o]? = some x) : W.cell? ⟨M, o, none⟩ = some x := h.hm.cell o x e
theorem SM.fr (h : SM B sc g T v w W c D O M m vL vJ vI) (o : Nat) : W.frozen? ⟨M, o, none⟩ = false := row_fr h.hm o
end
theorem stN {T : TypeId} {n : Nat} (hi : (Tryz.prog.info? T).map (·.size) = some n) {ops : Array Oper} {rest : List Oper} {o : Oper} {a : Act} {w0 : World} {Q : Exit → Act → World → Prop} {cs : Array Value} (hs : cs.size = n) (ds : List Value) (hd : ds.length = n) (h1 : ds.all (·.oneCell') = true) (hgd : o.guard = none) (x y : Operand) (ho : o.op = .store T x y)
    (hx : a.eval x = .pointer (some ⟨w0.heap.size, 0, none⟩)) (hy : a.eval y = .agg ds.toArray) (k : wpList Tryz.prog ops Q rest (a.put o.dst undef) (w0.alloc (.cells ds.toArray T))) : wpList Tryz.prog ops Q (o :: rest) a (w0.alloc (.cells cs T)) := by
  refine stW hi (heap_alloc_last w0 _) hs ds hd h1 hgd x y ho hx hy ?_
  rw [World.setRow_alloc_new]
  exact k
set_option maxRecDepth 100000 in
set_option maxHeartbeats 2000000 in
theorem rMsg_2 (B sc g : Nat) (T : List Bool) (v : Value) (w : World) (h : SC B w sc g 0 T v) (hT : T.length < 4611686018427387904) (hk : (tn 2 T 0).1 = 1) :
    Calls Tryz.prog 44 #[.pointer (some ⟨sc, 0, none⟩)] w fun e w' => ∃ ct, e = .returned (.agg ct.toArray) ∧ MO w.heap.size w' (tM T) ct ∧ Kept (fun k => k = g) w w' := by
  have hb := SB.new h (.cells #[.int .i64 0, .int .i64 0, .slice none 0 0, .slice none 0 0, .slice none 0 0, .int .i64 0, .int .i64 0, .int .i64 0, .int .i64 0, .int .i64 0, .int .i64 0, .int .i64 0, .int .i64 0, .int .i64 0, .int .i64 0, .int .i64 0, .int .i64 0, .int .i64 0, .int .i64 0, .int .i64 0, .int .i64 0, .int .i64 0, .int .i64 0, .int .i64 0, .int .i64 0, .string ⟨#[]⟩] 38)
  have HT : Hid (T.length < 4611686018427387904) := hT
  have HN : Hid (tM T = mQ (tQ T (tn 2 T 0).2).1) := by unfold Hid tM; rw [if_neg (by omega), if_pos hk]
  rw [HN.out]
  have hp := num_any B sc g 0 2 T v _ hb.st hT (by omega) (by omega)
  obtain ⟨p1, hp1⟩ : ∃ p, tn 2 T 0 = p := ⟨_, rfl⟩
  rw [hp1] at hp hk ⊢
  obtain ⟨x0, c1⟩ := p1
  dsimp only at hp hk ⊢
  subst hk
  have HW : Hid (SC B w sc g 0 T v) := h
  clear h hT HN hp1
  go_enter Tryz.func44, Tryz.ntmps44
  go_upto_region 1 with (fail)
  generalize w.alloc (.cells #[.int .i64 0, .int .i64 0, .slice none 0 0, .slice none 0 0, .slice none 0 0, .int .i64 0, .int .i64 0, .int .i64 0, .int .i64 0, .int .i64 0, .int .i64 0, .int .i64 0, .int .i64 0, .int .i64 0, .int .i64 0, .int .i64 0, .int .i64 0, .int .i64 0, .int .i64 0, .int .i64 0, .int .i64 0, .int .i64 0, .int .i64 0, .int .i64 0, .int .i64 0, .string ⟨#[]⟩] 38) = w1 at *
  obtain ⟨zc, hzc⟩ : ∃ z : Array Value, #[.int .i64 0, .int .i64 0, .slice none 0 0, .slice none 0 0, .slice none 0 0, .int .i64 0, .int .i64 0, .int .i64 0, .int .i64 0, .int .i64 0, .int .i64 0, .int .i64 0, .int .i64 0, .int .i64 0, .int .i64 0, .int .i64 0, .int .i64 0, .int .i64 0, .int .i64 0, .int .i64 0, .int .i64 0, .int .i64 0, .int .i64 0, .int .i64 0, .int .i64 0, .string ⟨#[]⟩] = z := ⟨_, rfl⟩
  have HZC : Hid (zc.size = 26) := by unfold Hid; rw [← hzc]; rfl
  rw [hzc] at hb
  clear hzc
  obtain ⟨D, hDe⟩ : ∃ D, w.heap.size = D := ⟨_, rfl⟩
  rw [hDe] at hb ⊢
  have HD : Hid (w.heap.size = D) := hDe
  clear hDe
  have HB1 : Hid (SB B sc g T v w w1 0 D (.cells zc 38)) := hb
  clear hb
  go_wp2_with fail
  refine hp.mono ?_
  rintro e w2 ⟨rfl, hs2, hk2⟩
  have HB2 : Hid (SB B sc g T v w w2 c1 D (.cells zc 38)) := HB1.out.next hs2 hk2
  clear hp hs2 hk2 HB1
  go_upto_region 2 with (refine stN szMg rfl (mgl ⟨2, zR, zQ, zP, zD⟩ (.slice none 0 0) (.slice none 0 0) (.slice none 0 0)) rfl rfl rfl _ _ rfl rfl rfl ?_)
  have hm : SM B sc g T v w (w2.alloc (.cells (mgl ⟨2, zR, zQ, zP, zD⟩ (.slice none 0 0) (.slice none 0 0) (.slice none 0 0)).toArray 38)) c1 D (.cells zc 38) w2.heap.size ⟨2, zR, zQ, zP, zD⟩ (.slice none 0 0) (.slice none 0 0) (.slice none 0 0) :=
    ⟨HB2.out.later (below_alloc _ _), heap_alloc_last w2 _, ⟨HB2.out.st.new, by have := row_lt HB2.out.hd; omega⟩, HB2.out.kp.size⟩
  generalize w2.alloc (.cells (mgl ⟨2, zR, zQ, zP, zD⟩ (.slice none 0 0) (.slice none 0 0) (.slice none 0 0)).toArray 38) = w3 at *
  generalize w2.heap.size = M at *
  have ck := hm.cell 0 _ rfl
  dsimp only at ck
  have HM : Hid (SM B sc g T v w w3 c1 D (.cells zc 38) M ⟨2, zR, zQ, zP, zD⟩ (.slice none 0 0) (.slice none 0 0) (.slice none 0 0)) := hm
  clear hm HB2
  have hp := num_any B sc g c1 8 T v w3 HM.out.sb.st HT.out (by omega) (by omega)
  obtain ⟨p1, hp1⟩ : ∃ p, tn 8 T c1 = p := ⟨_, rfl⟩
  have HP1 : Hid (tn 8 T c1 = p1) := hp1
  rw [hp1] at hp
  clear hp1
  obtain ⟨xa, d1⟩ := p1
  dsimp only at hp
  go_wp2_with fail
  refine hp.mono ?_
  rintro e a1 ⟨rfl, hs, hk⟩
  have HA1 : Hid (SM B sc g T v w a1 d1 D (.cells zc 38) M ⟨2, zR, zQ, zP, zD⟩ (.slice none 0 0) (.slice none 0 0) (.slice none 0 0)) := HM.out.next hs hk
  clear hp hs hk HM
  try clear ck
  have ck := HA1.out.cell 0 _ rfl
  dsimp only at ck
  have cx := HA1.out.cell 5 _ rfl
  have fx := HA1.out.fr 5
  try dsimp only at cx
  have HM1 : Hid (SM B sc g T v w (a1.setCell ⟨M, 5, none⟩ (.int .i64 (xa : Int))) d1 D (.cells zc 38) M ⟨2, zR, ((xa : Int), 0), zP, zD⟩ (.slice none 0 0) (.slice none 0 0) (.slice none 0 0)) := HA1.out.set 5 (.int .i64 (xa : Int)) rfl
  clear HA1
  have hp := num_any B sc g d1 8 T v (a1.setCell ⟨M, 5, none⟩ (.int .i64 (xa : Int))) HM1.out.sb.st HT.out (by omega) (by omega)
  obtain ⟨p2, hp2⟩ : ∃ p, tn 8 T d1 = p := ⟨_, rfl⟩
  have HP2 : Hid (tn 8 T d1 = p2) := hp2
  rw [hp2] at hp
  clear hp2
  obtain ⟨xb, d2⟩ := p2
  dsimp only at hp
  go_wp2_with fail
  refine hp.mono ?_
  rintro e a2 ⟨rfl, hs, hk⟩
  have HA2 : Hid (SM B sc g T v w a2 d2 D (.cells zc 38) M ⟨2, zR, ((xa : Int), 0), zP, zD⟩ (.slice none 0 0) (.slice none 0 0) (.slice none 0 0)) := HM1.out.next hs hk
  clear hp hs hk HM1
  try clear ck
  have ck := HA2.out.cell 0 _ rfl
  dsimp only at ck
  have cx := HA2.out.cell 6 _ rfl
  have fx := HA2.out.fr 6
  try dsimp only at cx
  have HM2 : Hid (SM B sc g T v w (a2.setCell ⟨M, 6, none⟩ (.int .i64 (xb : Int))) d2 D (.cells zc 38) M ⟨2, zR, ((xa : Int), (xb : Int)), zP, zD⟩ (.slice none 0 0) (.slice none 0 0) (.slice none 0 0)) := HA2.out.set 6 (.int .i64 (xb : Int)) rfl
  clear HA2
  have HRA : Hid ((a2.setCell ⟨M, 6, none⟩ (.int .i64 (xb : Int))).rangeAt M 0 (mgl ⟨2, zR, ((xa : Int), (xb : Int)), zP, zD⟩ (.slice none 0 0) (.slice none 0 0) (.slice none 0 0))) := ra_of HM2.out.hm 0 _ (by simp)
  go_wp2_with (first | (refine ldM HRA.out Tryz.underlying38 rfl szMg _ rfl rfl rfl ?_) | (refine stW szMg HM2.out.sb.hd HZC.out (mgl ⟨2, zR, ((xa : Int), (xb : Int)), zP, zD⟩ (.slice none 0 0) (.slice none 0 0) (.slice none 0 0)) rfl rfl rfl _ _ rfl rfl rfl ?_))
  have hb5 := HM2.out.sb.setRow (mgl ⟨2, zR, ((xa : Int), (xb : Int)), zP, zD⟩ (.slice none 0 0) (.slice none 0 0) (.slice none 0 0)).toArray
  refine bodyPost_ret (res1 (T := 38) (p := 2) rfl _ _ D (mgl ⟨2, zR, ((xa : Int), (xb : Int)), zP, zD⟩ (.slice none 0 0) (.slice none 0 0) (.slice none 0 0)).toArray rfl (run_loadVar_row _ D _ 38 _ _ _ hb5.hd Tryz.underlying38 rfl szMg)) rfl ?_
  refine ⟨_, rfl, ?_, hb5.kp⟩
  have e : (tQ T c1).1 = ((xa : Int), (xb : Int)) := by
    show (((tn 8 T c1).1 : Int), ((tn 8 T (tn 8 T c1).2).1 : Int)) = _
    rw [HP1.out]
    dsimp only
    rw [HP2.out]
  rw [e]
  exact MO.nil _ _ _ _ _ _ (show 0 < 4611686018427387904 by decide)
end Go.Proofs.YtdkfifnhmfbagaaGreat.Wi
