/- Contract: Play. -/
import Derived.Test.YteocfmimgoocnaaGreatDoorRcJ3
import Derived.Test.YteocfmimgoocnaaGreatDoorRcJ1
import Derived.Test.YteocfmimgoocnaaGreatDoorTrJ3
namespace Go.Proofs.YteocfmimgoocnaaGreatDoor.Rc
open Go.RowKit Go.Maps Go.Great
open Rs (RdI cell_later ps evl Tb i64s owns_later owns_slice owns_type)
set_option linter.unusedVariables false
set_option linter.unusedSimpArgs false

/- What Play answers. -/
def plyE (t : Tr) (e f : Int) (L : List Int) (J : List (Int × Int)) : Int :=
  if tck t then (if plE t L (ws J) = 0 then (if sam (pnT t L (ws J)).ep (pnT t L (ws J)).fr L (pnJ t L (ws J)) e f L J then 0 else 12) else 12) else 31
def plyT (t : Tr) (e f : Int) (L : List Int) (J : List (Int × Int)) : Tr := if plyE t e f L J = 0 then pnT t L (ws J) else tz 0
def plyP (t : Tr) (e f : Int) (L : List Int) (J : List (Int × Int)) : Int := if plyE t e f L J = 0 then pnP t L (ws J) else 0
def plyL (t : Tr) (e f : Int) (L : List Int) (J : List (Int × Int)) : List (Int × Int) := if plyE t e f L J = 0 then pnL t L (ws J) else []
def plyJ (t : Tr) (e f : Int) (L : List Int) (J : List (Int × Int)) : List (Int × Int) := if plyE t e f L J = 0 then pnJ t L (ws J) else []
def plyI (t : Tr) (e f : Int) (L : List Int) (J : List (Int × Int)) : List It := if plyE t e f L J = 0 then pnI t L (ws J) else []
structure PlayP (w w' : World) (ll lj : List (Int × Int)) (li : List It) (vl vj vi : Value) : Prop where
  left : w'.ownsRow w.heap.size 62 2 vl ll.length (ps ll)
  join : w'.ownsRow w.heap.size 62 2 vj lj.length (ps lj)
  item : w'.ownsRow w.heap.size 98 6 vi li.length (isl li)
def PlayA (w w' : World) (t : Tr) (e f : Int) (L : List Int) (J : List (Int × Int)) (r : Ending) : Prop := ∃ vl vj vi, r = .returned (.tuple #[.agg (tcs (plyT t e f L J)), .agg #[.int .i64 (plyP t e f L J), vl, vj, vi], .int .i64 (plyE t e f L J)]) ∧ PlayP w w' (plyL t e f L J) (plyJ t e f L J) (plyI t e f L J) vl vj vi
theorem PlayA.no {w w' : World} {t : Tr} {e f : Int} {L : List Int} {J : List (Int × Int)} {E : Int} (h : plyE t e f L J = E) (h0 : E ≠ 0) : PlayA w w' t e f L J (.returned (.tuple #[.agg (tcs (tz 0)), .agg rkz, .int .i64 E])) := by
  refine ⟨.slice none 0 0, .slice none 0 0, .slice none 0 0, ?_, ?_, ?_, ?_⟩
  · unfold plyT plyP; rw [h, if_neg h0, if_neg h0]; rfl
  · unfold plyL; rw [h, if_neg h0]; exact World.ownsRow_nil _ _ _ _
  · unfold plyJ; rw [h, if_neg h0]; exact World.ownsRow_nil _ _ _ _
  · unfold plyI; rw [h, if_neg h0]; exact World.ownsRow_nil _ _ _ _
theorem PlayA.yes {w w' : World} {t n : Tr} {e f : Int} {L : List Int} {J : List (Int × Int)} {vl vj vi : Value} (h : plyE t e f L J = 0) (hn : pnT t L (ws J) = n) (h1 : PlayP w w' (pnL t L (ws J)) (pnJ t L (ws J)) (pnI t L (ws J)) vl vj vi) : PlayA w w' t e f L J (.returned (.tuple #[.agg (tcs n), .agg #[.int .i64 (pnP t L (ws J)), vl, vj, vi], .int .i64 0])) := by
  refine ⟨vl, vj, vi, ?_, ?_⟩
  · unfold plyT plyP; rw [h, if_pos rfl, if_pos rfl, hn]
  · unfold plyL plyJ plyI; rw [h, if_pos rfl, if_pos rfl, if_pos rfl]; exact h1
/- The arguments, boxed, and the answer's places; what comes later lies from s0 on. -/
structure PX (w X : World) (s0 B C K D : Nat) (t : Tr) (rc : Array Value) : Prop where
  tr : TrAt X B t
  rc : RcAt X C rc
  ze : TrAt X K (tz 0)
  rk : RkAt X D rkz
  bel : Below w.heap.size w X
  gK : w.heap.size ≤ K
  gD : w.heap.size ≤ D
  gs : w.heap.size ≤ s0
  lt : B < s0 ∧ C < s0 ∧ K < s0 ∧ D < s0
  sz : s0 ≤ X.heap.size
theorem PX.later {w X Y : World} {s0 B C K D : Nat} {t : Tr} {rc : Array Value} (h : PX w X s0 B C K D t rc) (hb : Below X.heap.size X Y) : PX w Y s0 B C K D t rc :=
  ⟨h.tr.later hb, h.rc.later hb, h.ze.later hb, RkLater h.rk hb, h.bel.trans (hb.mono h.bel.size), h.gK, h.gD, h.gs, h.lt, Nat.le_trans h.sz hb.size⟩
theorem PX.set {w X : World} {s0 B C K D : Nat} {t : Tr} {rc : Array Value} (h : PX w X s0 B C K D t rc) {M : Nat} (hM : s0 ≤ M) (ds : Array Value) : PX w (X.setRow M ds) s0 B C K D t rc := by
  obtain ⟨l1, l2, l3, l4⟩ := h.lt
  have hgs := h.gs
  exact ⟨(Rt.row_other (by omega) _).trans h.tr, (Rt.row_other (by omega) _).trans h.rc, (Rt.row_other (by omega) _).trans h.ze, (Rt.row_other (by omega) _).trans h.rk, Rt.setRow_below (by omega) h.bel _, h.gK, h.gD, h.gs, h.lt, by have := h.sz; simpa [World.setRow] using this⟩
theorem PX.new (w : World) (t : Tr) (rc : Array Value) : PX w ((((w.alloc (.cells (tcs t) 31)).alloc (.cells rc 38)).alloc (.cells (tcs (tz 0)) 31)).alloc (.cells rkz 45)) (w.heap.size + 4) w.heap.size (w.heap.size + 1) (w.heap.size + 2) (w.heap.size + 3) t rc := by
  have a1 := TrAt.new w t
  have b1 := alloc_tr w t
  have s1 : (w.alloc (.cells (tcs t) 31)).heap.size = w.heap.size + 1 := World.size_alloc _ _
  generalize w.alloc (.cells (tcs t) 31) = w1 at *
  have a2 := RcAt.new w1 rc
  have b2 := below_alloc w1 (.cells rc 38)
  have s2 : (w1.alloc (.cells rc 38)).heap.size = w1.heap.size + 1 := World.size_alloc _ _
  rw [s1] at a2
  generalize w1.alloc (.cells rc 38) = w2 at *
  have a3 := TrAt.new w2 (tz 0)
  have b3 := alloc_tr w2 (tz 0)
  have s3 : (w2.alloc (.cells (tcs (tz 0)) 31)).heap.size = w2.heap.size + 1 := World.size_alloc _ _
  rw [show w2.heap.size = w.heap.size + 2 by omega] at a3
  generalize w2.alloc (.cells (tcs (tz 0)) 31) = w3 at *
  have a4 : RkAt (w3.alloc (.cells rkz 45)) w3.heap.size rkz := heap_alloc_last w3 _
  have b4 := below_alloc w3 (.cells rkz 45)
  have s4 : (w3.alloc (.cells rkz 45)).heap.size = w3.heap.size + 1 := World.size_alloc _ _
  rw [show w3.heap.size = w.heap.size + 3 by omega] at a4
  exact ⟨((a1.later b2).later b3).later b4, (a2.later b3).later b4, a3.later b4, a4, ((b1.trans (b2.mono (by omega))).trans (b3.mono (by omega))).trans (b4.mono (by omega)), by omega, by omega, by omega, by omega, by omega⟩
theorem letG {P : Program} {md : Region.Mode} {ops : Array Oper} {Q : Exit → Act → World → Prop} {S : World → Prop} {n : Nat} {l : Array Bool} {a : Act} {w : World}
    (h : ∀ G : Nat → Array Bool → Act → World → Prop, G = wpAnyH P md ops Q S → ∀ A0, A0 = a → G n l A0 w) : wpAnyH P md ops Q S n l a w := h _ rfl _ rfl
/- Region 7. -/
structure PY (w W : World) (N G K D : Nat) (n : Tr) (rk : Array Value) (vl vj vi : Value) (ll lj : List (Int × Int)) (li : List It) : Prop where
  n : TrAt W N n
  m : RkAt W G rk
  ze : ∃ u, TrAt W K u
  rk : ∃ cs, cs.size = 4 ∧ RkAt W D cs
  rows : PlayP w W ll lj li vl vj vi
  bel : Below w.heap.size w W
  nK : N ≠ K
  nD : G ≠ D
  gK : w.heap.size ≤ K
  gD : w.heap.size ≤ D
section
variable {w W W' : World} {N G K D : Nat} {n u : Tr} {rk cs ds c : Array Value} {vl vj vi : Value} {ll lj : List (Int × Int)} {li : List It}
theorem PlayP.row (h : PlayP w W ll lj li vl vj vi) {B : Nat} {T : TypeId} (hB : W.heap[B]? = some (.cells cs T (0, 0))) (h1 : 62 ≠ T) (h2 : 98 ≠ T) (ds : Array Value) : PlayP w (W.setRow B ds) ll lj li vl vj vi :=
  ⟨owns_type h.left hB h1 ds, owns_type h.join hB h1 ds, owns_type h.item hB h2 ds⟩
theorem PY.later (h : PY w W N G K D n rk vl vj vi ll lj li) (hb : Below W.heap.size W W') : PY w W' N G K D n rk vl vj vi ll lj li :=
  ⟨h.n.later hb, RkLater h.m hb, h.ze.elim fun u hu => ⟨u, hu.later hb⟩, h.rk.elim fun cs hc => ⟨cs, hc.1, RkLater hc.2 hb⟩, ⟨owns_later h.rows.left hb, owns_later h.rows.join hb, owns_later h.rows.item hb⟩, h.bel.trans (hb.mono h.bel.size), h.nK, h.nD, h.gK, h.gD⟩
theorem PY.setT (h : PY w W N G K D n rk vl vj vi ll lj li) (hc : tcs n = c) : PY w (W.setRow K c) N G K D n rk vl vj vi ll lj li ∧ TrAt (W.setRow K c) K n := by
  subst hc
  obtain ⟨u, hu⟩ := h.ze
  have h1 := hu.row n
  exact ⟨⟨(Rt.row_other h.nK _).trans h.n, (Rt.row_other (block_ne h.m hu (by decide)) _).trans h.m, ⟨n, h1⟩, h.rk.elim fun cs hc => ⟨cs, hc.1, (Rt.row_other (block_ne hc.2 hu (by decide)) _).trans hc.2⟩, h.rows.row hu (by decide) (by decide) _, Rt.setRow_below h.gK h.bel _, h.nK, h.nD, h.gK, h.gD⟩, h1⟩
theorem PY.setD (h : PY w W N G K D n rk vl vj vi ll lj li) (hu : TrAt W K u) (hd : RkAt W D cs) (h4 : ds.size = 4) : PY w (W.setRow D ds) N G K D n rk vl vj vi ll lj li ∧ TrAt (W.setRow D ds) K u ∧ RkAt (W.setRow D ds) D ds :=
  ⟨⟨(Rt.row_other (block_ne h.n hd (by decide)) _).trans h.n, (Rt.row_other h.nD _).trans h.m, ⟨u, (Rt.row_other (block_ne hu hd (by decide)) _).trans hu⟩, ⟨ds, h4, Rt.heap_setRow_same hd _⟩, h.rows.row hd (by decide) (by decide) _, Rt.setRow_below h.gD h.bel _, h.nK, h.nD, h.gK, h.gD⟩, (Rt.row_other (block_ne hu hd (by decide)) _).trans hu, Rt.heap_setRow_same hd _⟩
end
set_option maxRecDepth 100000 in
set_option maxHeartbeats 8000000 in
theorem play_any (t : Tr) (e f : Int) (aL aJ : Option Addr) (cL cJ : Nat) (L : List Int) (J : List (Int × Int)) (w : World) (hTb : Tb w) (rL : RdI w aL L) (rJ : RdP w aJ J) (lL : L.length * 8 ≤ 140737488351232) (lJ : J.length * 16 ≤ 140737488351232) :
    Calls Tryz.prog 11 #[.agg (tcs t), .agg #[.int .i64 e, .int .i64 f, .slice aL L.length cL, .slice aJ J.length cJ] ] w fun r w' => PlayA w w' t e f L J r ∧ Below w.heap.size w w' := by
  have HRL : Hid (RdI w aL L ∧ RdP w aJ J) := ⟨rL, rJ⟩
  have HBO : Hid (∀ X, Below w.heap.size w X → Calls Tryz.prog 22 #[.agg #[.int .i64 e, .int .i64 f, .slice aL L.length cL, .slice aJ J.length cJ] ] X fun r w' => ∃ v, r = .returned (.agg #[.slice aL L.length cL, v]) ∧ w'.ownsRow X.heap.size 3 1 v J.length (i64s (ws J)) ∧ Below X.heap.size X w') := fun X hX => batchOf_any e f aL aJ cL cJ L J X (rJ.later hX) lJ
  have HJL : Hid (∀ (X : World) (a : Option Addr) (c : Nat), (∃ b, X.ownsRow b 3 1 (.slice a J.length c) J.length (i64s (ws J))) → RdI X a (ws J)) := fun X a c ⟨b, h⟩ => by
    have e := ws_length J
    rw [← e] at h
    exact rdI_of h
  have HST : Hid (∀ (X : World) (aW : Option Addr) (cW : Nat), Below w.heap.size w X → RdI X aW (ws J) → Calls Tryz.prog 20 #[.agg (tcs t), .agg #[.slice aL L.length cL, .slice aW J.length cW] ] X fun r Y => ∃ a1 k1 a2 k2 a3 k3 a4 k4 a5 k5, r = .returned (.tuple #[.agg (tcs (pnT t L (ws J))), .agg #[.int .i64 (pnP t L (ws J)), .slice a1 (pnL t L (ws J)).length k1, .slice a2 (pnJ t L (ws J)).length k2, .slice a3 (pnI t L (ws J)).length k3], .agg #[.int .i64 (pnT t L (ws J)).ep, .int .i64 (pnT t L (ws J)).fr, .slice a4 (oLv t L (ws J)).length k4, .slice a5 (pnJ t L (ws J)).length k5], .int .i64 (plE t L (ws J))]) ∧ Rw w Y (.slice a1 (pnL t L (ws J)).length k1) (.slice a2 (pnJ t L (ws J)).length k2) (.slice a3 (pnI t L (ws J)).length k3) (.slice a4 (oLv t L (ws J)).length k4) (.slice a5 (pnJ t L (ws J)).length k5) (pnL t L (ws J)) (pnJ t L (ws J)) (pnI t L (ws J)) (oLv t L (ws J)) (pnJ t L (ws J)) ∧ Below X.heap.size X Y) := fun X aW cW hX hW => by
    have h := step_any t aL aW cL cW L (ws J) X (hTb.later hX) (by omega) (by rw [ws_length]; omega) (rL.later hX) hW
    rw [ws_length] at h
    refine h.mono ?_
    rintro r Y ⟨⟨vl, vj, vi, vL, vJ, rfl, hNP, hRP⟩, hb⟩
    obtain ⟨a1, k1, rfl⟩ := owns_slice hNP.left
    obtain ⟨a2, k2, rfl⟩ := owns_slice hNP.join
    obtain ⟨a3, k3, rfl⟩ := owns_slice hNP.item
    obtain ⟨a4, k4, rfl⟩ := owns_slice hRP.lv
    obtain ⟨a5, k5, rfl⟩ := owns_slice hRP.jn
    exact ⟨a1, k1, a2, k2, a3, k3, a4, k4, a5, k5, rfl, ⟨Rs.owns_wide hNP.left hX.size, Rs.owns_wide hNP.join hX.size, Rs.owns_wide hNP.item hX.size, Rs.owns_wide hRP.lv hX.size, Rs.owns_wide hRP.jn hX.size⟩, hb⟩
  have HLO : Hid (plE t L (ws J) = 0 → oLv t L (ws J) = L) := fun h => by unfold oLv; rw [if_pos h]
  have HLJ : Hid ((pnJ t L (ws J)).length ≤ 8796093022208) := by
    unfold Hid pnJ
    split
    · rename_i h
      unfold jns
      rw [Rs.adl_length]
      have := (plE_stp h).fit.lenJ
      omega
    · simp
  have hck := check_any t
  cases htk : tck t with
  | false =>
    have HE : Hid (plyE t e f L J = 31) := by unfold Hid plyE; rw [htk]; rfl
    have HNE : Hid ((31 : Int) ≠ 0) := by unfold Hid; decide
    rw [tckE_ff htk] at hck
    clear htk HBO HJL HST HLO HLJ
    have hX := PX.new w t #[.int .i64 e, .int .i64 f, .slice aL L.length cL, .slice aJ J.length cJ]
    unfold rkz at hX
    obtain ⟨ct, hct⟩ : ∃ c, tcs t = c := ⟨_, rfl⟩
    have HT : Hid (tcs t = ct) := hct
    clear hct
    go_enter Tryz.func11, Tryz.ntmps11
    go_upto_region 1 with (fail)
    rw [zero236]
    generalize (((w.alloc (.cells (tcs t) 31)).alloc (.cells #[.int .i64 e, .int .i64 f, .slice aL L.length cL, .slice aJ J.length cJ] 38)).alloc (.cells (tcs (tz 0)) 31)).alloc (.cells #[.int .i64 0, .slice none 0 0, .slice none 0 0, .slice none 0 0] 45) = w1 at *
    rw [HT.out]
    obtain ⟨s0, hs0⟩ : ∃ D, w.heap.size + 4 = D := ⟨_, rfl⟩
    obtain ⟨D, hD⟩ : ∃ D, w.heap.size + 3 = D := ⟨_, rfl⟩
    obtain ⟨K, hK⟩ : ∃ D, w.heap.size + 2 = D := ⟨_, rfl⟩
    obtain ⟨C, hC⟩ : ∃ D, w.heap.size + 1 = D := ⟨_, rfl⟩
    obtain ⟨B, hB⟩ : ∃ D, w.heap.size = D := ⟨_, rfl⟩
    rw [hs0, hD, hK, hC, hB] at hX
    rw [hD, hK, hC, hB]
    clear hs0 hD hK hC hB
    have hT1 := hX.tr
    have h1 := hck w1
    rw [HT.out] at h1
    clear hck
    go_wp2_with (refine rdT hT1 HT.out _ rfl rfl rfl ?_)
    refine h1.mono ?_
    rintro r W9 ⟨rfl, hb2⟩
    have hX9 := hX.later hb2
    clear h1 hX hT1 hb2
    have hZ := hX9.ze
    obtain ⟨cz, hcz⟩ : ∃ c, tcs (tz 0) = c := ⟨_, rfl⟩
    have HZ : Hid (tcs (tz 0) = cz) := hcz
    have hZ1 : TrAt (W9.setRow K cz) K (tz 0) := by rw [← hcz]; exact hZ.row _
    have hZ2 : RkAt (W9.setRow K cz) D rkz := (Rt.row_other (block_ne hX9.rk hZ (by decide)) _).trans hX9.rk
    have HK3 : Hid (TrAt ((W9.setRow K cz).setRow D rkz) K (tz 0)) := (Rt.row_other (block_ne hZ1 hZ2 (by decide)) _).trans hZ1
    have HBZ : Hid (Below w.heap.size w ((W9.setRow K cz).setRow D rkz)) := Rt.setRow_below hX9.gD (Rt.setRow_below hX9.gK hX9.bel _) _
    clear hcz hX9 hZ1
    go_wp2_with (first | (refine bzc HZ.out rfl rfl ?_) | (show wpList _ _ _ ({ dst := _, op := Op.store 31 _ _, type := _, pos := _, after := _, guard := _ } :: _) _ _; refine stTc hZ HZ.out rfl _ _ rfl rfl rfl ?_) | (show wpList _ _ _ ({ dst := _, op := Op.store 45 _ _, type := _, pos := _, after := _, guard := _ } :: _) _ _; refine stRw infoRk (cs := rkz) rkz_size hZ2 rkz rkz_size rkz_one rfl _ _ rfl rfl rfl ?_))
    refine bodyPost_ret (results_nx (p := 4) (q := 5) (t := 6) rfl _ _ K D (tz 0) rkz rfl rfl HK3.out (Rt.heap_setRow_same hZ2 _) rfl) rfl ?_
    exact ⟨PlayA.no HE.out HNE.out, HBZ.out⟩
  | true =>
    rw [tckE_tt htk] at hck
    obtain ⟨nL, hnl⟩ : ∃ n, L.length = n := ⟨_, rfl⟩
    obtain ⟨nJ, hnj⟩ : ∃ n, J.length = n := ⟨_, rfl⟩
    have HNJ : Hid (L.length = nL ∧ J.length = nJ ∧ L.length ≤ 17592186044416 ∧ J.length ≤ 8796093022208) := ⟨hnl, hnj, by omega, by omega⟩
    have HPE : Hid ((plE t L (ws J) = 0) → (sam (pnT t L (ws J)).ep (pnT t L (ws J)).fr L (pnJ t L (ws J)) e f L J = false → plyE t e f L J = 12) ∧ (sam (pnT t L (ws J)).ep (pnT t L (ws J)).fr L (pnJ t L (ws J)) e f L J = true → plyE t e f L J = 0)) := fun h0 => ⟨fun h => by unfold plyE; rw [htk, if_pos rfl, if_pos h0, h]; rfl, fun h => by unfold plyE; rw [htk, if_pos rfl, if_pos h0, h]; rfl⟩
    have HPN : Hid (plE t L (ws J) ≠ 0 → plyE t e f L J = 12) := fun h => by unfold plyE; rw [htk, if_pos rfl, if_neg h]
    have HFIN : Hid (∀ W vl vj vi, plyE t e f L J = 0 → PlayP w W (pnL t L (ws J)) (pnJ t L (ws J)) (pnI t L (ws J)) vl vj vi → PlayA w W t e f L J (.returned (.tuple #[.agg (tcs (pnT t L (ws J))), .agg #[.int .i64 (pnP t L (ws J)), vl, vj, vi], .int .i64 0]))) := fun _ _ _ _ h hp => PlayA.yes h rfl hp
    have hX := PX.new w t #[.int .i64 e, .int .i64 f, .slice aL L.length cL, .slice aJ J.length cJ]
    unfold rkz at hX
    rw [hnl, hnj] at hX
    rw [hnl, hnj] at HBO
    simp only [hnl, hnj] at HST HJL
    rw [hnl, hnj]
    obtain ⟨Jw, hJw⟩ : ∃ l, ws J = l := ⟨_, rfl⟩
    rw [hJw] at HBO HJL HLO HLJ HPE HPN HFIN
    simp only [hJw] at HST
    clear hnl hnj hJw htk hTb rL rJ lL lJ
    obtain ⟨n, hn⟩ : ∃ n, pnT t L Jw = n := ⟨_, rfl⟩
    obtain ⟨cn, hcn⟩ : ∃ c, tcs n = c := ⟨_, rfl⟩
    have HC : Hid (tcs n = cn) := hcn
    obtain ⟨e0, he⟩ : ∃ e, plE t L Jw = e := ⟨_, rfl⟩
    obtain ⟨pP, hpP⟩ : ∃ e, pnP t L Jw = e := ⟨_, rfl⟩
    obtain ⟨ll, hll⟩ : ∃ l, pnL t L Jw = l := ⟨_, rfl⟩
    obtain ⟨lj, hlj⟩ : ∃ l, pnJ t L Jw = l := ⟨_, rfl⟩
    obtain ⟨li, hli⟩ : ∃ l, pnI t L Jw = l := ⟨_, rfl⟩
    obtain ⟨lo, hlo⟩ : ∃ l, oLv t L Jw = l := ⟨_, rfl⟩
    rw [he, hlo] at HLO
    rw [hlj] at HLJ
    rw [he, hn, hlj] at HPE
    rw [he] at HPN
    obtain ⟨ct, hct⟩ : ∃ c, tcs t = c := ⟨_, rfl⟩
    simp only [hn, hcn, he, hpP, hll, hlj, hli, hlo, hct] at HST
    have HFIN2 : Hid (∀ W vl vj vi, plyE t e f L J = 0 → PlayP w W ll lj li vl vj vi → PlayA w W t e f L J (.returned (.tuple #[.agg (tcs n), .agg #[.int .i64 pP, vl, vj, vi], .int .i64 0]))) := by
      have h := HFIN.out
      unfold Hid
      rw [hn, hpP, hll, hlj, hli] at h
      exact h
    clear HFIN
    have HFIN := HFIN2
    clear HFIN2
    have HT : Hid (tcs t = ct) := hct
    clear hn hcn he hpP hll hlj hli hlo hct
    go_enter Tryz.func11, Tryz.ntmps11
    go_upto_region 1 with (fail)
    rw [zero236]
    generalize (((w.alloc (.cells (tcs t) 31)).alloc (.cells #[.int .i64 e, .int .i64 f, .slice aL nL cL, .slice aJ nJ cJ] 38)).alloc (.cells (tcs (tz 0)) 31)).alloc (.cells #[.int .i64 0, .slice none 0 0, .slice none 0 0, .slice none 0 0] 45) = w1 at *
    rw [HT.out]
    obtain ⟨s0, hs0⟩ : ∃ D, w.heap.size + 4 = D := ⟨_, rfl⟩
    obtain ⟨D, hD⟩ : ∃ D, w.heap.size + 3 = D := ⟨_, rfl⟩
    obtain ⟨K, hK⟩ : ∃ D, w.heap.size + 2 = D := ⟨_, rfl⟩
    obtain ⟨C, hC⟩ : ∃ D, w.heap.size + 1 = D := ⟨_, rfl⟩
    obtain ⟨B, hB⟩ : ∃ D, w.heap.size = D := ⟨_, rfl⟩
    rw [hs0, hD, hK, hC, hB] at hX
    rw [hD, hK, hC, hB]
    clear hs0 hD hK hC hB
    have hT1 := hX.tr
    have h1 := hck w1
    rw [HT.out] at h1
    clear hck
    go_wp2_with (refine rdT hT1 HT.out _ rfl rfl rfl ?_)
    refine h1.mono ?_
    rintro r w2 ⟨rfl, hb2⟩
    have hX2 := hX.later hb2
    clear h1 hX hT1 hb2
    go_upto_region 4 with (fail)
    have hS0 : PX w w2.drew s0 B C K D t #[.int .i64 e, .int .i64 f, .slice aL nL cL, .slice aJ nJ cJ] := hX2.later (drew_below _)
    clear hX2
    refine wp_region_held_drew (S := fun X => PX w X s0 B C K D t #[.int .i64 e, .int .i64 f, .slice aL nL cL, .slice aJ nJ cJ]) (by kernel_rfl) hS0 (fun hHeld => ?_)
    refine wpAnyH_take (i := 0) (oi := { dst := some 20, op := Op.load 31 (Operand.tmp 2), type := _, pos := _, after := _, guard := none }) (v := .agg ct) rfl (by kernel_rfl) (by kernel_rfl) (by kernel_rfl) (fun _ _ _ h => h) (Or.inl ⟨by rfl, fun w hSw => ld_exec (HT.out ▸ hSw.tr.whole) rfl rfl⟩) (by assumption) ?_
    simp only [Act.put, List.setIfInBounds_toArray, List.set_cons_zero, List.set_cons_succ]
    refine wpAnyH_take (i := 1) (oi := { dst := some 21, op := Op.load 38 (Operand.tmp 3), type := _, pos := _, after := _, guard := none }) (v := .agg #[.int .i64 e, .int .i64 f, .slice aL nL cL, .slice aJ nJ cJ]) rfl (by kernel_rfl) (by kernel_rfl) (by kernel_rfl) (fun _ _ _ h => h) (Or.inl ⟨by rfl, fun w hSw => ld_exec (RcW hSw.rc rfl) rfl rfl⟩) (by assumption) ?_
    simp only [Act.put, List.setIfInBounds_toArray, List.set_cons_zero, List.set_cons_succ]
    generalize w2.drew = X0 at *
    clear hHeld
    refine letG (fun Gw hGw A0 hA0 => ?_)
    have HT111 : ∀ X, PX w X s0 B C K D t #[.int .i64 e, .int .i64 f, .slice aL nL cL, .slice aJ nJ cJ] → ∀ N, TrAt X N (tz 0) → s0 ≤ N → ∀ G, RkAt X G rkz → s0 ≤ G → ∀ A, RcAt X A rz → s0 ≤ A → ∀ aW cW a1 k1 a2 k2 a3 k3 a4 k4 a5 k5, Rw w X (.slice a1 ll.length k1) (.slice a2 lj.length k2) (.slice a3 li.length k3) (.slice a4 lo.length k4) (.slice a5 lj.length k5) ll lj li lo lj → Gw 4 #[true, true, true, true, true, true, true, true, true, true, true, true, false, false, false, false] ((((((((((A0.put (some 8) (.pointer (some ⟨N, 0, none⟩))).put (some 9) (.pointer (some ⟨G, 0, none⟩))).put (some 10) (.pointer (some ⟨A, 0, none⟩))).put (some 22) (.agg #[.slice aL nL cL, .slice aW nJ cW])).put (some 23) (.tuple #[.agg cn, .agg #[.int .i64 pP, .slice a1 ll.length k1, .slice a2 lj.length k2, .slice a3 li.length k3], .agg #[.int .i64 n.ep, .int .i64 n.fr, .slice a4 lo.length k4, .slice a5 lj.length k5], .int .i64 e0])).put (some 19) (.tuple #[.agg cn, .agg #[.int .i64 pP, .slice a1 ll.length k1, .slice a2 lj.length k2, .slice a3 li.length k3], .agg #[.int .i64 n.ep, .int .i64 n.fr, .slice a4 lo.length k4, .slice a5 lj.length k5], .int .i64 e0])).put (some 24) (.agg cn)).put (some 25) (.agg #[.int .i64 pP, .slice a1 ll.length k1, .slice a2 lj.length k2, .slice a3 li.length k3])).put (some 26) (.agg #[.int .i64 n.ep, .int .i64 n.fr, .slice a4 lo.length k4, .slice a5 lj.length k5])).put (some 27) (.int .i64 e0)) X := by
      intro X hS N h9 g9 G h10 g10 A h11 g11 aW cW a1 k1 a2 k2 a3 k3 a4 k4 a5 k5 h3
      subst hGw
      subst hA0
      simp only [Act.put, List.setIfInBounds_toArray, List.set_cons_zero, List.set_cons_succ]
      refine wpAnyH_ready (rs := [12]) (by kernel_rfl) (by simp) ?_
      refine AllReadyH.cons rfl (fun Kc hK => ?_) AllReadyH.nil
      have hS1 := hS.set g9 cn
      have n1 : TrAt (X.setRow N cn) N n := by rw [← HC.out]; exact h9.row n
      have n2 : RkAt (X.setRow N cn) G rkz := (Rt.row_other (block_ne h10 h9 (by decide)) _).trans h10
      have n3 : RcAt (X.setRow N cn) A rz := (Rt.row_other (block_ne h11 h9 (by decide)) _).trans h11
      have r1 := h3.row h9 (by decide) (by decide) (by decide) cn
      refine if_wp rfl (wp_stRow0 31 _ _ rfl N cn rfl rfl 31 (tcs (tz 0)) h9 (by rw [← HC.out, tcs_size]; exact infoT) (by rw [← HC.out, tcs_size, tcs_size]) (by rw [← HC.out]; exact tcs_one n) rfl ?_)
      refine hK.out _ _ hS1 (fun _ => ?_)
      clear hK Kc hS h9 h10 h11 h3
      try simp only [Act.put, List.setIfInBounds_toArray, List.set_cons_zero, List.set_cons_succ]
      generalize X.setRow N cn = X1 at *
      refine wpAnyH_ready (rs := [13]) (by kernel_rfl) (by simp) ?_
      refine AllReadyH.cons rfl (fun Kc hK => ?_) AllReadyH.nil
      have hS2 := hS1.set g10 #[.int .i64 pP, .slice a1 ll.length k1, .slice a2 lj.length k2, .slice a3 li.length k3]
      have m1 : TrAt (X1.setRow G #[.int .i64 pP, .slice a1 ll.length k1, .slice a2 lj.length k2, .slice a3 li.length k3]) N n := (Rt.row_other (block_ne n1 n2 (by decide)) _).trans n1
      have m2 : RkAt (X1.setRow G #[.int .i64 pP, .slice a1 ll.length k1, .slice a2 lj.length k2, .slice a3 li.length k3]) G #[.int .i64 pP, .slice a1 ll.length k1, .slice a2 lj.length k2, .slice a3 li.length k3] := Rt.heap_setRow_same n2 _
      have m3 : RcAt (X1.setRow G #[.int .i64 pP, .slice a1 ll.length k1, .slice a2 lj.length k2, .slice a3 li.length k3]) A rz := (Rt.row_other (block_ne n3 n2 (by decide)) _).trans n3
      have r2 := r1.row n2 (by decide) (by decide) (by decide) #[.int .i64 pP, .slice a1 ll.length k1, .slice a2 lj.length k2, .slice a3 li.length k3]
      refine if_wp rfl (wp_stRow0 45 _ _ rfl G _ rfl rfl 45 rkz n2 infoRk rfl (rk_one _ _ _ _ _ _ _ _ _ _) rfl ?_)
      refine hK.out _ _ hS2 (fun _ => ?_)
      clear hK Kc hS1 n1 n2 n3 r1
      try simp only [Act.put, List.setIfInBounds_toArray, List.set_cons_zero, List.set_cons_succ]
      generalize X1.setRow G #[.int .i64 pP, .slice a1 ll.length k1, .slice a2 lj.length k2, .slice a3 li.length k3] = X2 at *
      refine wpAnyH_ready (rs := [14]) (by kernel_rfl) (by simp) ?_
      refine AllReadyH.cons rfl (fun Kc hK => ?_) AllReadyH.nil
      have hS3 := hS2.set g11 #[.int .i64 n.ep, .int .i64 n.fr, .slice a4 lo.length k4, .slice a5 lj.length k5]
      have o1 : TrAt (X2.setRow A #[.int .i64 n.ep, .int .i64 n.fr, .slice a4 lo.length k4, .slice a5 lj.length k5]) N n := (Rt.row_other (block_ne m1 m3 (by decide)) _).trans m1
      have o2 : RkAt (X2.setRow A #[.int .i64 n.ep, .int .i64 n.fr, .slice a4 lo.length k4, .slice a5 lj.length k5]) G #[.int .i64 pP, .slice a1 ll.length k1, .slice a2 lj.length k2, .slice a3 li.length k3] := (Rt.row_other (block_ne m2 m3 (by decide)) _).trans m2
      have o3 : RcAt (X2.setRow A #[.int .i64 n.ep, .int .i64 n.fr, .slice a4 lo.length k4, .slice a5 lj.length k5]) A #[.int .i64 n.ep, .int .i64 n.fr, .slice a4 lo.length k4, .slice a5 lj.length k5] := Rt.heap_setRow_same m3 _
      have r3 := r2.row m3 (by decide) (by decide) (by decide) #[.int .i64 n.ep, .int .i64 n.fr, .slice a4 lo.length k4, .slice a5 lj.length k5]
      refine if_wp rfl (wp_stRow0 38 _ _ rfl A _ rfl rfl 38 rz m3 infoRc rfl (rc_one _ _ _ _ _ _ _ _) rfl ?_)
      refine hK.out _ _ hS3 (fun _ => ?_)
      clear hK Kc hS2 m1 m2 m3 r2
      try simp only [Act.put, List.setIfInBounds_toArray, List.set_cons_zero, List.set_cons_succ]
      generalize X2.setRow A #[.int .i64 n.ep, .int .i64 n.fr, .slice a4 lo.length k4, .slice a5 lj.length k5] = X3 at *
      refine wpAnyH_take (i := 15) (oi := { dst := some 11, op := Op.assign (Operand.tmp 27), type := _, pos := _, after := _, guard := none }) (v := .int .i64 e0) rfl (by kernel_rfl) (by kernel_rfl) (by kernel_rfl) (fun _ _ _ h => h) (Or.inl ⟨by rfl, fun w hSw => by clear hSw; go_simp⟩) (by assumption) ?_
      simp only [Act.put, List.setIfInBounds_toArray, List.set_cons_zero, List.set_cons_succ]
      refine wpAnyH_done (by kernel_rfl) ?_ _
      by_cases he0 : e0 = 0
      · subst he0
        have hlo : lo = L := HLO.out rfl
        subst hlo
        obtain ⟨c0, c1, c2, c3⟩ := o3.cells
        obtain ⟨d0, d1, d2, d3⟩ := hS3.rc.cells
        have hsm := sr1_any n.ep n.fr e f a4 a5 aL aJ k4 k5 cL cJ lo lo lj J X3 (by have := HNJ.out; omega) (by have := HNJ.out; omega) (by have := HLJ.out; omega) (by have := HNJ.out; omega) (rdI_of r3.lv) (rdP_of r3.jn) (HRL.out.1.later hS3.bel) (HRL.out.2.later hS3.bel)
        rw [HNJ.out.1, HNJ.out.2.1] at hsm
        cases hb : sam n.ep n.fr lo lj e f lo J with
        | false =>
          rw [hb] at hsm
          have HE : Hid (plyE t e f lo J = 12) := (HPE.out rfl).1 hb
          have HNE : Hid ((12 : Int) ≠ 0) := by unfold Hid; decide
          rw [HNJ.out.1] at c2 ⊢
          clear hb
          go_wp2_with fail
          refine hsm.mono ?_
          rintro r W9 ⟨rfl, hb9⟩
          have hX9 := hS3.later hb9
          clear hsm hS3 o1 o2 o3 r3 c0 c1 c2 c3 d0 d1 d2 d3 hb9
          have hZ := hX9.ze
          obtain ⟨cz, hcz⟩ : ∃ c, tcs (tz 0) = c := ⟨_, rfl⟩
          have HZ : Hid (tcs (tz 0) = cz) := hcz
          have hZ1 : TrAt (W9.setRow K cz) K (tz 0) := by rw [← hcz]; exact hZ.row _
          have hZ2 : RkAt (W9.setRow K cz) D rkz := (Rt.row_other (block_ne hX9.rk hZ (by decide)) _).trans hX9.rk
          have HK3 : Hid (TrAt ((W9.setRow K cz).setRow D rkz) K (tz 0)) := (Rt.row_other (block_ne hZ1 hZ2 (by decide)) _).trans hZ1
          have HBZ : Hid (Below w.heap.size w ((W9.setRow K cz).setRow D rkz)) := Rt.setRow_below hX9.gD (Rt.setRow_below hX9.gK hX9.bel _) _
          clear hcz hX9 hZ1
          go_wp2_with (first | (refine bzc HZ.out rfl rfl ?_) | (show wpList _ _ _ ({ dst := _, op := Op.store 31 _ _, type := _, pos := _, after := _, guard := _ } :: _) _ _; refine stTc hZ HZ.out rfl _ _ rfl rfl rfl ?_) | (show wpList _ _ _ ({ dst := _, op := Op.store 45 _ _, type := _, pos := _, after := _, guard := _ } :: _) _ _; refine stRw infoRk (cs := rkz) rkz_size hZ2 rkz rkz_size rkz_one rfl _ _ rfl rfl rfl ?_))
          refine bodyPost_ret (results_nx (p := 4) (q := 5) (t := 6) rfl _ _ K D (tz 0) rkz rfl rfl HK3.out (Rt.heap_setRow_same hZ2 _) rfl) rfl ?_
          exact ⟨PlayA.no HE.out HNE.out, HBZ.out⟩
        | true =>
          rw [hb] at hsm
          have HE : Hid (plyE t e f lo J = 0) := (HPE.out rfl).2 hb
          rw [HNJ.out.1] at c2 ⊢
          clear hb
          go_wp2_with fail
          refine hsm.mono ?_
          rintro r W9 ⟨rfl, hb9⟩
          have hX9 := hS3.later hb9
          have q1 := o1.later hb9
          have q2 := RkLater o2 hb9
          have q3 := r3.later hb9
          have HNK : Hid (N ≠ K ∧ G ≠ D) := ⟨by have := hX9.lt; omega, by have := hX9.lt; omega⟩
          clear hsm hS3 o1 o2 o3 r3 c0 c1 c2 c3 d0 d1 d2 d3 hb9
          go_upto_region 7 with (fail)
          have hS0 : PY w W9.drew N G K D n #[.int .i64 pP, .slice a1 ll.length k1, .slice a2 lj.length k2, .slice a3 li.length k3] (.slice a1 ll.length k1) (.slice a2 lj.length k2) (.slice a3 li.length k3) ll lj li := PY.later ⟨q1, q2, ⟨_, hX9.ze⟩, ⟨rkz, rfl, hX9.rk⟩, ⟨q3.left, q3.join, q3.item⟩, hX9.bel, HNK.out.1, HNK.out.2, hX9.gK, hX9.gD⟩ (drew_below _)
          clear hX9 q1 q2 q3
          refine wp_region_held_drew (S := fun Z => PY w Z N G K D n #[.int .i64 pP, .slice a1 ll.length k1, .slice a2 lj.length k2, .slice a3 li.length k3] (.slice a1 ll.length k1) (.slice a2 lj.length k2) (.slice a3 li.length k3) ll lj li) (by kernel_rfl) hS0 (fun hHeld => ?_)
          refine wpAnyH_take (i := 0) (oi := { dst := some 38, op := Op.load 31 (Operand.tmp 8), type := _, pos := _, after := _, guard := none }) (v := .agg cn) rfl (by kernel_rfl) (by kernel_rfl) (by kernel_rfl) (fun _ _ _ h => h) (Or.inl ⟨by rfl, fun w hSw => ld_exec (HC.out ▸ hSw.n.whole) rfl rfl⟩) (by assumption) ?_
          simp only [Act.put, List.setIfInBounds_toArray, List.set_cons_zero, List.set_cons_succ]
          refine wpAnyH_take (i := 1) (oi := { dst := some 39, op := Op.load 45 (Operand.tmp 9), type := _, pos := _, after := _, guard := none }) (v := .agg #[.int .i64 pP, .slice a1 ll.length k1, .slice a2 lj.length k2, .slice a3 li.length k3]) rfl (by kernel_rfl) (by kernel_rfl) (by kernel_rfl) (fun _ _ _ h => h) (Or.inl ⟨by rfl, fun w hSw => ld_exec (RkW hSw.m rfl) rfl rfl⟩) (by assumption) ?_
          simp only [Act.put, List.setIfInBounds_toArray, List.set_cons_zero, List.set_cons_succ]
          refine wpAnyH_ready (rs := [2]) (by kernel_rfl) (by simp) ?_
          refine AllReadyH.cons rfl (fun Kc hK => ?_) AllReadyH.nil
          obtain ⟨u, hu⟩ := hHeld.ze
          obtain ⟨hN3, hT3⟩ := hHeld.setT HC.out
          refine if_wp rfl (wp_stRow0 31 _ _ rfl K cn rfl rfl 31 (tcs u) hu (by rw [← HC.out, tcs_size]; exact infoT) (by rw [← HC.out, tcs_size, tcs_size]) (by rw [← HC.out]; exact tcs_one n) rfl ?_)
          refine hK.out _ _ hN3 (fun hHeld2 => ?_)
          clear hHeld hu hN3
          clear hK Kc
          try simp only [Act.put, List.setIfInBounds_toArray, List.set_cons_zero, List.set_cons_succ]
          refine wpAnyH_ready (rs := [3]) (by kernel_rfl) (by simp) ?_
          refine AllReadyH.cons rfl (fun Kc hK => ?_) AllReadyH.nil
          obtain ⟨cs4, hc4, hRk⟩ := hHeld2.rk
          obtain ⟨hN4, hT4, hR4⟩ := hHeld2.setD (ds := #[.int .i64 pP, .slice a1 ll.length k1, .slice a2 lj.length k2, .slice a3 li.length k3]) hT3 hRk rfl
          refine if_wp rfl (wp_stRow0 45 _ _ rfl D _ rfl rfl 45 cs4 hRk infoRk hc4 (rk_one _ _ _ _ _ _ _ _ _ _) rfl ?_)
          refine hK.out _ _ hN4 (fun hHeld3 => ?_)
          clear hHeld2 hRk hN4
          clear hK Kc
          try simp only [Act.put, List.setIfInBounds_toArray, List.set_cons_zero, List.set_cons_succ]
          refine wpAnyH_take (i := 4) (oi := { dst := some 6, op := Op.assign (Operand.const (Value.int IntKind.i64 0)), type := _, pos := _, after := _, guard := none }) (v := .int .i64 0) rfl (by kernel_rfl) (by kernel_rfl) (by kernel_rfl) (fun _ _ _ h => h) (Or.inl ⟨by rfl, fun w hSw => by (try dsimp only at hSw); go_simp⟩) (by assumption) ?_
          simp only [Act.put, List.setIfInBounds_toArray, List.set_cons_zero, List.set_cons_succ]
          refine wpAnyH_done (by kernel_rfl) ?_ _
          obtain ⟨Z9, hZ9⟩ : ∃ Z, ((W9.drew.setRow K cn).setRow D #[.int .i64 pP, .slice a1 ll.length k1, .slice a2 lj.length k2, .slice a3 li.length k3]) = Z := ⟨_, rfl⟩
          rw [hZ9] at hT4 hR4 hHeld3 ⊢
          clear hZ9 hT3
          go_wp2_with fail
          refine bodyPost_ret (results_nx (p := 4) (q := 5) (t := 6) rfl _ _ K D n _ rfl rfl hT4 hR4 rfl) rfl ?_
          exact ⟨HFIN.out _ _ _ _ HE.out hHeld3.rows, hHeld3.bel⟩
      · have hd2 : (e0 != 0) = true := by simpa using he0
        have HE : Hid (plyE t e f L J = 12) := HPN.out he0
        have HNE : Hid ((12 : Int) ≠ 0) := by unfold Hid; decide
        obtain ⟨W9, rfl⟩ : ∃ W9, W9 = X3 := ⟨_, rfl⟩
        have hX9 := hS3
        clear he0 hS3 o1 o2 o3 r3
        have hZ := hX9.ze
        obtain ⟨cz, hcz⟩ : ∃ c, tcs (tz 0) = c := ⟨_, rfl⟩
        have HZ : Hid (tcs (tz 0) = cz) := hcz
        have hZ1 : TrAt (W9.setRow K cz) K (tz 0) := by rw [← hcz]; exact hZ.row _
        have hZ2 : RkAt (W9.setRow K cz) D rkz := (Rt.row_other (block_ne hX9.rk hZ (by decide)) _).trans hX9.rk
        have HK3 : Hid (TrAt ((W9.setRow K cz).setRow D rkz) K (tz 0)) := (Rt.row_other (block_ne hZ1 hZ2 (by decide)) _).trans hZ1
        have HBZ : Hid (Below w.heap.size w ((W9.setRow K cz).setRow D rkz)) := Rt.setRow_below hX9.gD (Rt.setRow_below hX9.gK hX9.bel _) _
        clear hcz hX9 hZ1
        go_wp2_with (first | (refine bzc HZ.out rfl rfl ?_) | (show wpList _ _ _ ({ dst := _, op := Op.store 31 _ _, type := _, pos := _, after := _, guard := _ } :: _) _ _; refine stTc hZ HZ.out rfl _ _ rfl rfl rfl ?_) | (show wpList _ _ _ ({ dst := _, op := Op.store 45 _ _, type := _, pos := _, after := _, guard := _ } :: _) _ _; refine stRw infoRk (cs := rkz) rkz_size hZ2 rkz rkz_size rkz_one rfl _ _ rfl rfl rfl ?_))
        refine bodyPost_ret (results_nx (p := 4) (q := 5) (t := 6) rfl _ _ K D (tz 0) rkz rfl rfl HK3.out (Rt.heap_setRow_same hZ2 _) rfl) rfl ?_
        exact ⟨PlayA.no HE.out HNE.out, HBZ.out⟩
    have HT011 : ∀ X, PX w X s0 B C K D t #[.int .i64 e, .int .i64 f, .slice aL nL cL, .slice aJ nJ cJ] → ∀ G, RkAt X G rkz → s0 ≤ G → ∀ A, RcAt X A rz → s0 ≤ A → ∀ aW cW a1 k1 a2 k2 a3 k3 a4 k4 a5 k5, Rw w X (.slice a1 ll.length k1) (.slice a2 lj.length k2) (.slice a3 li.length k3) (.slice a4 lo.length k4) (.slice a5 lj.length k5) ll lj li lo lj → Gw 5 #[true, true, true, true, true, true, true, true, true, false, true, true, false, false, false, false] (((((((((A0.put (some 9) (.pointer (some ⟨G, 0, none⟩))).put (some 10) (.pointer (some ⟨A, 0, none⟩))).put (some 22) (.agg #[.slice aL nL cL, .slice aW nJ cW])).put (some 23) (.tuple #[.agg cn, .agg #[.int .i64 pP, .slice a1 ll.length k1, .slice a2 lj.length k2, .slice a3 li.length k3], .agg #[.int .i64 n.ep, .int .i64 n.fr, .slice a4 lo.length k4, .slice a5 lj.length k5], .int .i64 e0])).put (some 19) (.tuple #[.agg cn, .agg #[.int .i64 pP, .slice a1 ll.length k1, .slice a2 lj.length k2, .slice a3 li.length k3], .agg #[.int .i64 n.ep, .int .i64 n.fr, .slice a4 lo.length k4, .slice a5 lj.length k5], .int .i64 e0])).put (some 24) (.agg cn)).put (some 25) (.agg #[.int .i64 pP, .slice a1 ll.length k1, .slice a2 lj.length k2, .slice a3 li.length k3])).put (some 26) (.agg #[.int .i64 n.ep, .int .i64 n.fr, .slice a4 lo.length k4, .slice a5 lj.length k5])).put (some 27) (.int .i64 e0)) X := by
      intro X hS G h10 g10 A h11 g11 aW cW a1 k1 a2 k2 a3 k3 a4 k4 a5 k5 h3
      subst hGw
      subst hA0
      simp only [Act.put, List.setIfInBounds_toArray, List.set_cons_zero, List.set_cons_succ] at HT111 ⊢
      refine wpAnyH_ready (rs := [9]) (by kernel_rfl) (by simp) ?_
      refine (AllReadyH.cons (o := { dst := some 8, op := Op.alloc 31, type := _, pos := _, after := _, guard := none }) rfl (fun K9 hK9 => ?_) AllReadyH.nil)
      · go_simp
        refine hK9.out _ _ (hS.later (below_alloc _ _)) (fun _ => ?_)
        exact HT111 _ (hS.later (below_alloc _ _)) X.heap.size (TrAt.zero X) hS.sz G (RkLater h10 (below_alloc _ _)) g10 A (h11.later (below_alloc _ _)) g11 aW cW a1 k1 a2 k2 a3 k3 a4 k4 a5 k5 (h3.later (below_alloc _ _))
    have HT101 : ∀ X, PX w X s0 B C K D t #[.int .i64 e, .int .i64 f, .slice aL nL cL, .slice aJ nJ cJ] → ∀ N, TrAt X N (tz 0) → s0 ≤ N → ∀ A, RcAt X A rz → s0 ≤ A → ∀ aW cW a1 k1 a2 k2 a3 k3 a4 k4 a5 k5, Rw w X (.slice a1 ll.length k1) (.slice a2 lj.length k2) (.slice a3 li.length k3) (.slice a4 lo.length k4) (.slice a5 lj.length k5) ll lj li lo lj → Gw 5 #[true, true, true, true, true, true, true, true, true, true, false, true, false, false, false, false] (((((((((A0.put (some 8) (.pointer (some ⟨N, 0, none⟩))).put (some 10) (.pointer (some ⟨A, 0, none⟩))).put (some 22) (.agg #[.slice aL nL cL, .slice aW nJ cW])).put (some 23) (.tuple #[.agg cn, .agg #[.int .i64 pP, .slice a1 ll.length k1, .slice a2 lj.length k2, .slice a3 li.length k3], .agg #[.int .i64 n.ep, .int .i64 n.fr, .slice a4 lo.length k4, .slice a5 lj.length k5], .int .i64 e0])).put (some 19) (.tuple #[.agg cn, .agg #[.int .i64 pP, .slice a1 ll.length k1, .slice a2 lj.length k2, .slice a3 li.length k3], .agg #[.int .i64 n.ep, .int .i64 n.fr, .slice a4 lo.length k4, .slice a5 lj.length k5], .int .i64 e0])).put (some 24) (.agg cn)).put (some 25) (.agg #[.int .i64 pP, .slice a1 ll.length k1, .slice a2 lj.length k2, .slice a3 li.length k3])).put (some 26) (.agg #[.int .i64 n.ep, .int .i64 n.fr, .slice a4 lo.length k4, .slice a5 lj.length k5])).put (some 27) (.int .i64 e0)) X := by
      clear HT011
      intro X hS N h9 g9 A h11 g11 aW cW a1 k1 a2 k2 a3 k3 a4 k4 a5 k5 h3
      subst hGw
      subst hA0
      simp only [Act.put, List.setIfInBounds_toArray, List.set_cons_zero, List.set_cons_succ] at HT111 ⊢
      refine wpAnyH_ready (rs := [10]) (by kernel_rfl) (by simp) ?_
      refine (AllReadyH.cons (o := { dst := some 9, op := Op.alloc 45, type := _, pos := _, after := _, guard := none }) rfl (fun K9 hK9 => ?_) AllReadyH.nil)
      · go_simp
        refine hK9.out _ _ (hS.later (below_alloc _ _)) (fun _ => ?_)
        exact HT111 _ (hS.later (below_alloc _ _)) N (h9.later (below_alloc _ _)) g9 X.heap.size (heap_alloc_last X _) hS.sz A (h11.later (below_alloc _ _)) g11 aW cW a1 k1 a2 k2 a3 k3 a4 k4 a5 k5 (h3.later (below_alloc _ _))
    have HT110 : ∀ X, PX w X s0 B C K D t #[.int .i64 e, .int .i64 f, .slice aL nL cL, .slice aJ nJ cJ] → ∀ N, TrAt X N (tz 0) → s0 ≤ N → ∀ G, RkAt X G rkz → s0 ≤ G → ∀ aW cW a1 k1 a2 k2 a3 k3 a4 k4 a5 k5, Rw w X (.slice a1 ll.length k1) (.slice a2 lj.length k2) (.slice a3 li.length k3) (.slice a4 lo.length k4) (.slice a5 lj.length k5) ll lj li lo lj → Gw 5 #[true, true, true, true, true, true, true, true, true, true, true, false, false, false, false, false] (((((((((A0.put (some 8) (.pointer (some ⟨N, 0, none⟩))).put (some 9) (.pointer (some ⟨G, 0, none⟩))).put (some 22) (.agg #[.slice aL nL cL, .slice aW nJ cW])).put (some 23) (.tuple #[.agg cn, .agg #[.int .i64 pP, .slice a1 ll.length k1, .slice a2 lj.length k2, .slice a3 li.length k3], .agg #[.int .i64 n.ep, .int .i64 n.fr, .slice a4 lo.length k4, .slice a5 lj.length k5], .int .i64 e0])).put (some 19) (.tuple #[.agg cn, .agg #[.int .i64 pP, .slice a1 ll.length k1, .slice a2 lj.length k2, .slice a3 li.length k3], .agg #[.int .i64 n.ep, .int .i64 n.fr, .slice a4 lo.length k4, .slice a5 lj.length k5], .int .i64 e0])).put (some 24) (.agg cn)).put (some 25) (.agg #[.int .i64 pP, .slice a1 ll.length k1, .slice a2 lj.length k2, .slice a3 li.length k3])).put (some 26) (.agg #[.int .i64 n.ep, .int .i64 n.fr, .slice a4 lo.length k4, .slice a5 lj.length k5])).put (some 27) (.int .i64 e0)) X := by
      clear HT011 HT101
      intro X hS N h9 g9 G h10 g10 aW cW a1 k1 a2 k2 a3 k3 a4 k4 a5 k5 h3
      subst hGw
      subst hA0
      simp only [Act.put, List.setIfInBounds_toArray, List.set_cons_zero, List.set_cons_succ] at HT111 ⊢
      refine wpAnyH_ready (rs := [11]) (by kernel_rfl) (by simp) ?_
      refine (AllReadyH.cons (o := { dst := some 10, op := Op.alloc 38, type := _, pos := _, after := _, guard := none }) rfl (fun K9 hK9 => ?_) AllReadyH.nil)
      · go_simp
        refine hK9.out _ _ (hS.later (below_alloc _ _)) (fun _ => ?_)
        exact HT111 _ (hS.later (below_alloc _ _)) N (h9.later (below_alloc _ _)) g9 G (RkLater h10 (below_alloc _ _)) g10 X.heap.size (heap_alloc_last X _) hS.sz aW cW a1 k1 a2 k2 a3 k3 a4 k4 a5 k5 (h3.later (below_alloc _ _))
    have HT001 : ∀ X, PX w X s0 B C K D t #[.int .i64 e, .int .i64 f, .slice aL nL cL, .slice aJ nJ cJ] → ∀ A, RcAt X A rz → s0 ≤ A → ∀ aW cW a1 k1 a2 k2 a3 k3 a4 k4 a5 k5, Rw w X (.slice a1 ll.length k1) (.slice a2 lj.length k2) (.slice a3 li.length k3) (.slice a4 lo.length k4) (.slice a5 lj.length k5) ll lj li lo lj → Gw 6 #[true, true, true, true, true, true, true, true, true, false, false, true, false, false, false, false] ((((((((A0.put (some 10) (.pointer (some ⟨A, 0, none⟩))).put (some 22) (.agg #[.slice aL nL cL, .slice aW nJ cW])).put (some 23) (.tuple #[.agg cn, .agg #[.int .i64 pP, .slice a1 ll.length k1, .slice a2 lj.length k2, .slice a3 li.length k3], .agg #[.int .i64 n.ep, .int .i64 n.fr, .slice a4 lo.length k4, .slice a5 lj.length k5], .int .i64 e0])).put (some 19) (.tuple #[.agg cn, .agg #[.int .i64 pP, .slice a1 ll.length k1, .slice a2 lj.length k2, .slice a3 li.length k3], .agg #[.int .i64 n.ep, .int .i64 n.fr, .slice a4 lo.length k4, .slice a5 lj.length k5], .int .i64 e0])).put (some 24) (.agg cn)).put (some 25) (.agg #[.int .i64 pP, .slice a1 ll.length k1, .slice a2 lj.length k2, .slice a3 li.length k3])).put (some 26) (.agg #[.int .i64 n.ep, .int .i64 n.fr, .slice a4 lo.length k4, .slice a5 lj.length k5])).put (some 27) (.int .i64 e0)) X := by
      clear HT111 HT110
      intro X hS A h11 g11 aW cW a1 k1 a2 k2 a3 k3 a4 k4 a5 k5 h3
      subst hGw
      subst hA0
      simp only [Act.put, List.setIfInBounds_toArray, List.set_cons_zero, List.set_cons_succ] at HT011 HT101 ⊢
      refine wpAnyH_ready (rs := [9, 10]) (by kernel_rfl) (by simp) ?_
      refine (AllReadyH.cons (o := { dst := some 8, op := Op.alloc 31, type := _, pos := _, after := _, guard := none }) rfl (fun K9 hK9 => ?_) (AllReadyH.cons (o := { dst := some 9, op := Op.alloc 45, type := _, pos := _, after := _, guard := none }) rfl (fun K9 hK9 => ?_) AllReadyH.nil))
      · go_simp
        refine hK9.out _ _ (hS.later (below_alloc _ _)) (fun _ => ?_)
        exact HT101 _ (hS.later (below_alloc _ _)) X.heap.size (TrAt.zero X) hS.sz A (h11.later (below_alloc _ _)) g11 aW cW a1 k1 a2 k2 a3 k3 a4 k4 a5 k5 (h3.later (below_alloc _ _))
      · go_simp
        refine hK9.out _ _ (hS.later (below_alloc _ _)) (fun _ => ?_)
        exact HT011 _ (hS.later (below_alloc _ _)) X.heap.size (heap_alloc_last X _) hS.sz A (h11.later (below_alloc _ _)) g11 aW cW a1 k1 a2 k2 a3 k3 a4 k4 a5 k5 (h3.later (below_alloc _ _))
    have HT010 : ∀ X, PX w X s0 B C K D t #[.int .i64 e, .int .i64 f, .slice aL nL cL, .slice aJ nJ cJ] → ∀ G, RkAt X G rkz → s0 ≤ G → ∀ aW cW a1 k1 a2 k2 a3 k3 a4 k4 a5 k5, Rw w X (.slice a1 ll.length k1) (.slice a2 lj.length k2) (.slice a3 li.length k3) (.slice a4 lo.length k4) (.slice a5 lj.length k5) ll lj li lo lj → Gw 6 #[true, true, true, true, true, true, true, true, true, false, true, false, false, false, false, false] ((((((((A0.put (some 9) (.pointer (some ⟨G, 0, none⟩))).put (some 22) (.agg #[.slice aL nL cL, .slice aW nJ cW])).put (some 23) (.tuple #[.agg cn, .agg #[.int .i64 pP, .slice a1 ll.length k1, .slice a2 lj.length k2, .slice a3 li.length k3], .agg #[.int .i64 n.ep, .int .i64 n.fr, .slice a4 lo.length k4, .slice a5 lj.length k5], .int .i64 e0])).put (some 19) (.tuple #[.agg cn, .agg #[.int .i64 pP, .slice a1 ll.length k1, .slice a2 lj.length k2, .slice a3 li.length k3], .agg #[.int .i64 n.ep, .int .i64 n.fr, .slice a4 lo.length k4, .slice a5 lj.length k5], .int .i64 e0])).put (some 24) (.agg cn)).put (some 25) (.agg #[.int .i64 pP, .slice a1 ll.length k1, .slice a2 lj.length k2, .slice a3 li.length k3])).put (some 26) (.agg #[.int .i64 n.ep, .int .i64 n.fr, .slice a4 lo.length k4, .slice a5 lj.length k5])).put (some 27) (.int .i64 e0)) X := by
      clear HT111 HT101 HT001
      intro X hS G h10 g10 aW cW a1 k1 a2 k2 a3 k3 a4 k4 a5 k5 h3
      subst hGw
      subst hA0
      simp only [Act.put, List.setIfInBounds_toArray, List.set_cons_zero, List.set_cons_succ] at HT011 HT110 ⊢
      refine wpAnyH_ready (rs := [9, 11]) (by kernel_rfl) (by simp) ?_
      refine (AllReadyH.cons (o := { dst := some 8, op := Op.alloc 31, type := _, pos := _, after := _, guard := none }) rfl (fun K9 hK9 => ?_) (AllReadyH.cons (o := { dst := some 10, op := Op.alloc 38, type := _, pos := _, after := _, guard := none }) rfl (fun K9 hK9 => ?_) AllReadyH.nil))
      · go_simp
        refine hK9.out _ _ (hS.later (below_alloc _ _)) (fun _ => ?_)
        exact HT110 _ (hS.later (below_alloc _ _)) X.heap.size (TrAt.zero X) hS.sz G (RkLater h10 (below_alloc _ _)) g10 aW cW a1 k1 a2 k2 a3 k3 a4 k4 a5 k5 (h3.later (below_alloc _ _))
      · go_simp
        refine hK9.out _ _ (hS.later (below_alloc _ _)) (fun _ => ?_)
        exact HT011 _ (hS.later (below_alloc _ _)) G (RkLater h10 (below_alloc _ _)) g10 X.heap.size (heap_alloc_last X _) hS.sz aW cW a1 k1 a2 k2 a3 k3 a4 k4 a5 k5 (h3.later (below_alloc _ _))
    have HT100 : ∀ X, PX w X s0 B C K D t #[.int .i64 e, .int .i64 f, .slice aL nL cL, .slice aJ nJ cJ] → ∀ N, TrAt X N (tz 0) → s0 ≤ N → ∀ aW cW a1 k1 a2 k2 a3 k3 a4 k4 a5 k5, Rw w X (.slice a1 ll.length k1) (.slice a2 lj.length k2) (.slice a3 li.length k3) (.slice a4 lo.length k4) (.slice a5 lj.length k5) ll lj li lo lj → Gw 6 #[true, true, true, true, true, true, true, true, true, true, false, false, false, false, false, false] ((((((((A0.put (some 8) (.pointer (some ⟨N, 0, none⟩))).put (some 22) (.agg #[.slice aL nL cL, .slice aW nJ cW])).put (some 23) (.tuple #[.agg cn, .agg #[.int .i64 pP, .slice a1 ll.length k1, .slice a2 lj.length k2, .slice a3 li.length k3], .agg #[.int .i64 n.ep, .int .i64 n.fr, .slice a4 lo.length k4, .slice a5 lj.length k5], .int .i64 e0])).put (some 19) (.tuple #[.agg cn, .agg #[.int .i64 pP, .slice a1 ll.length k1, .slice a2 lj.length k2, .slice a3 li.length k3], .agg #[.int .i64 n.ep, .int .i64 n.fr, .slice a4 lo.length k4, .slice a5 lj.length k5], .int .i64 e0])).put (some 24) (.agg cn)).put (some 25) (.agg #[.int .i64 pP, .slice a1 ll.length k1, .slice a2 lj.length k2, .slice a3 li.length k3])).put (some 26) (.agg #[.int .i64 n.ep, .int .i64 n.fr, .slice a4 lo.length k4, .slice a5 lj.length k5])).put (some 27) (.int .i64 e0)) X := by
      clear HT111 HT011 HT001 HT010
      intro X hS N h9 g9 aW cW a1 k1 a2 k2 a3 k3 a4 k4 a5 k5 h3
      subst hGw
      subst hA0
      simp only [Act.put, List.setIfInBounds_toArray, List.set_cons_zero, List.set_cons_succ] at HT101 HT110 ⊢
      refine wpAnyH_ready (rs := [10, 11]) (by kernel_rfl) (by simp) ?_
      refine (AllReadyH.cons (o := { dst := some 9, op := Op.alloc 45, type := _, pos := _, after := _, guard := none }) rfl (fun K9 hK9 => ?_) (AllReadyH.cons (o := { dst := some 10, op := Op.alloc 38, type := _, pos := _, after := _, guard := none }) rfl (fun K9 hK9 => ?_) AllReadyH.nil))
      · go_simp
        refine hK9.out _ _ (hS.later (below_alloc _ _)) (fun _ => ?_)
        exact HT110 _ (hS.later (below_alloc _ _)) N (h9.later (below_alloc _ _)) g9 X.heap.size (heap_alloc_last X _) hS.sz aW cW a1 k1 a2 k2 a3 k3 a4 k4 a5 k5 (h3.later (below_alloc _ _))
      · go_simp
        refine hK9.out _ _ (hS.later (below_alloc _ _)) (fun _ => ?_)
        exact HT101 _ (hS.later (below_alloc _ _)) N (h9.later (below_alloc _ _)) g9 X.heap.size (heap_alloc_last X _) hS.sz aW cW a1 k1 a2 k2 a3 k3 a4 k4 a5 k5 (h3.later (below_alloc _ _))
    have HT000 : ∀ X, PX w X s0 B C K D t #[.int .i64 e, .int .i64 f, .slice aL nL cL, .slice aJ nJ cJ] → ∀ aW cW a1 k1 a2 k2 a3 k3 a4 k4 a5 k5, Rw w X (.slice a1 ll.length k1) (.slice a2 lj.length k2) (.slice a3 li.length k3) (.slice a4 lo.length k4) (.slice a5 lj.length k5) ll lj li lo lj → Gw 7 #[true, true, true, true, true, true, true, true, true, false, false, false, false, false, false, false] (((((((A0.put (some 22) (.agg #[.slice aL nL cL, .slice aW nJ cW])).put (some 23) (.tuple #[.agg cn, .agg #[.int .i64 pP, .slice a1 ll.length k1, .slice a2 lj.length k2, .slice a3 li.length k3], .agg #[.int .i64 n.ep, .int .i64 n.fr, .slice a4 lo.length k4, .slice a5 lj.length k5], .int .i64 e0])).put (some 19) (.tuple #[.agg cn, .agg #[.int .i64 pP, .slice a1 ll.length k1, .slice a2 lj.length k2, .slice a3 li.length k3], .agg #[.int .i64 n.ep, .int .i64 n.fr, .slice a4 lo.length k4, .slice a5 lj.length k5], .int .i64 e0])).put (some 24) (.agg cn)).put (some 25) (.agg #[.int .i64 pP, .slice a1 ll.length k1, .slice a2 lj.length k2, .slice a3 li.length k3])).put (some 26) (.agg #[.int .i64 n.ep, .int .i64 n.fr, .slice a4 lo.length k4, .slice a5 lj.length k5])).put (some 27) (.int .i64 e0)) X := by
      clear HT111 HT011 HT101 HT110
      intro X hS aW cW a1 k1 a2 k2 a3 k3 a4 k4 a5 k5 h3
      subst hGw
      subst hA0
      simp only [Act.put, List.setIfInBounds_toArray, List.set_cons_zero, List.set_cons_succ] at HT001 HT010 HT100 ⊢
      refine wpAnyH_ready (rs := [9, 10, 11]) (by kernel_rfl) (by simp) ?_
      refine (AllReadyH.cons (o := { dst := some 8, op := Op.alloc 31, type := _, pos := _, after := _, guard := none }) rfl (fun K9 hK9 => ?_) (AllReadyH.cons (o := { dst := some 9, op := Op.alloc 45, type := _, pos := _, after := _, guard := none }) rfl (fun K9 hK9 => ?_) (AllReadyH.cons (o := { dst := some 10, op := Op.alloc 38, type := _, pos := _, after := _, guard := none }) rfl (fun K9 hK9 => ?_) AllReadyH.nil)))
      · go_simp
        refine hK9.out _ _ (hS.later (below_alloc _ _)) (fun _ => ?_)
        exact HT100 _ (hS.later (below_alloc _ _)) X.heap.size (TrAt.zero X) hS.sz aW cW a1 k1 a2 k2 a3 k3 a4 k4 a5 k5 (h3.later (below_alloc _ _))
      · go_simp
        refine hK9.out _ _ (hS.later (below_alloc _ _)) (fun _ => ?_)
        exact HT010 _ (hS.later (below_alloc _ _)) X.heap.size (heap_alloc_last X _) hS.sz aW cW a1 k1 a2 k2 a3 k3 a4 k4 a5 k5 (h3.later (below_alloc _ _))
      · go_simp
        refine hK9.out _ _ (hS.later (below_alloc _ _)) (fun _ => ?_)
        exact HT001 _ (hS.later (below_alloc _ _)) X.heap.size (heap_alloc_last X _) hS.sz aW cW a1 k1 a2 k2 a3 k3 a4 k4 a5 k5 (h3.later (below_alloc _ _))
    have HE111 : ∀ X, PX w X s0 B C K D t #[.int .i64 e, .int .i64 f, .slice aL nL cL, .slice aJ nJ cJ] → ∀ N, TrAt X N (tz 0) → s0 ≤ N → ∀ G, RkAt X G rkz → s0 ≤ G → ∀ A, RcAt X A rz → s0 ≤ A → ∀ aW cW a1 k1 a2 k2 a3 k3 a4 k4 a5 k5, Rw w X (.slice a1 ll.length k1) (.slice a2 lj.length k2) (.slice a3 li.length k3) (.slice a4 lo.length k4) (.slice a5 lj.length k5) ll lj li lo lj → Gw 9 #[true, true, true, true, false, false, false, false, false, true, true, true, false, false, false, false] (((((A0.put (some 8) (.pointer (some ⟨N, 0, none⟩))).put (some 9) (.pointer (some ⟨G, 0, none⟩))).put (some 10) (.pointer (some ⟨A, 0, none⟩))).put (some 22) (.agg #[.slice aL nL cL, .slice aW nJ cW])).put (some 23) (.tuple #[.agg cn, .agg #[.int .i64 pP, .slice a1 ll.length k1, .slice a2 lj.length k2, .slice a3 li.length k3], .agg #[.int .i64 n.ep, .int .i64 n.fr, .slice a4 lo.length k4, .slice a5 lj.length k5], .int .i64 e0])) X := by
      clear HT011 HT101 HT110 HT001 HT010 HT100 HT000
      intro X hS N h9 g9 G h10 g10 A h11 g11 aW cW a1 k1 a2 k2 a3 k3 a4 k4 a5 k5 h3
      subst hGw
      subst hA0
      simp only [Act.put, List.setIfInBounds_toArray, List.set_cons_zero, List.set_cons_succ] at HT111 ⊢
      refine wpAnyH_take (i := 4) (oi := { dst := some 19, op := Op.move (Operand.tmp 23), type := _, pos := _, after := _, guard := none }) (v := .tuple #[.agg cn, .agg #[.int .i64 pP, .slice a1 ll.length k1, .slice a2 lj.length k2, .slice a3 li.length k3], .agg #[.int .i64 n.ep, .int .i64 n.fr, .slice a4 lo.length k4, .slice a5 lj.length k5], .int .i64 e0]) rfl (by kernel_rfl) (by kernel_rfl) (by kernel_rfl) (fun _ _ _ h => h) (Or.inl ⟨by rfl, fun w hSw => by clear hSw; go_simp⟩) (by assumption) ?_
      simp only [Act.put, List.setIfInBounds_toArray, List.set_cons_zero, List.set_cons_succ]
      refine wpAnyH_take (i := 5) (oi := { dst := some 24, op := Op.extract (Operand.tmp 19) 0, type := _, pos := _, after := _, guard := none }) (v := .agg cn) rfl (by kernel_rfl) (by kernel_rfl) (by kernel_rfl) (fun _ _ _ h => h) (Or.inl ⟨by rfl, fun w hSw => by clear hSw; go_simp⟩) (by assumption) ?_
      simp only [Act.put, List.setIfInBounds_toArray, List.set_cons_zero, List.set_cons_succ]
      refine wpAnyH_take (i := 6) (oi := { dst := some 25, op := Op.extract (Operand.tmp 19) 1, type := _, pos := _, after := _, guard := none }) (v := .agg #[.int .i64 pP, .slice a1 ll.length k1, .slice a2 lj.length k2, .slice a3 li.length k3]) rfl (by kernel_rfl) (by kernel_rfl) (by kernel_rfl) (fun _ _ _ h => h) (Or.inl ⟨by rfl, fun w hSw => by clear hSw; go_simp⟩) (by assumption) ?_
      simp only [Act.put, List.setIfInBounds_toArray, List.set_cons_zero, List.set_cons_succ]
      refine wpAnyH_take (i := 7) (oi := { dst := some 26, op := Op.extract (Operand.tmp 19) 2, type := _, pos := _, after := _, guard := none }) (v := .agg #[.int .i64 n.ep, .int .i64 n.fr, .slice a4 lo.length k4, .slice a5 lj.length k5]) rfl (by kernel_rfl) (by kernel_rfl) (by kernel_rfl) (fun _ _ _ h => h) (Or.inl ⟨by rfl, fun w hSw => by clear hSw; go_simp⟩) (by assumption) ?_
      simp only [Act.put, List.setIfInBounds_toArray, List.set_cons_zero, List.set_cons_succ]
      refine wpAnyH_take (i := 8) (oi := { dst := some 27, op := Op.extract (Operand.tmp 19) 3, type := _, pos := _, after := _, guard := none }) (v := .int .i64 e0) rfl (by kernel_rfl) (by kernel_rfl) (by kernel_rfl) (fun _ _ _ h => h) (Or.inl ⟨by rfl, fun w hSw => by clear hSw; go_simp⟩) (by assumption) ?_
      simp only [Act.put, List.setIfInBounds_toArray, List.set_cons_zero, List.set_cons_succ]
      exact HT111 X hS N h9 g9 G h10 g10 A h11 g11 aW cW a1 k1 a2 k2 a3 k3 a4 k4 a5 k5 h3
    have HE011 : ∀ X, PX w X s0 B C K D t #[.int .i64 e, .int .i64 f, .slice aL nL cL, .slice aJ nJ cJ] → ∀ G, RkAt X G rkz → s0 ≤ G → ∀ A, RcAt X A rz → s0 ≤ A → ∀ aW cW a1 k1 a2 k2 a3 k3 a4 k4 a5 k5, Rw w X (.slice a1 ll.length k1) (.slice a2 lj.length k2) (.slice a3 li.length k3) (.slice a4 lo.length k4) (.slice a5 lj.length k5) ll lj li lo lj → Gw 10 #[true, true, true, true, false, false, false, false, false, false, true, true, false, false, false, false] ((((A0.put (some 9) (.pointer (some ⟨G, 0, none⟩))).put (some 10) (.pointer (some ⟨A, 0, none⟩))).put (some 22) (.agg #[.slice aL nL cL, .slice aW nJ cW])).put (some 23) (.tuple #[.agg cn, .agg #[.int .i64 pP, .slice a1 ll.length k1, .slice a2 lj.length k2, .slice a3 li.length k3], .agg #[.int .i64 n.ep, .int .i64 n.fr, .slice a4 lo.length k4, .slice a5 lj.length k5], .int .i64 e0])) X := by
      clear HT111 HT101 HT110 HT001 HT010 HT100 HT000 HE111
      intro X hS G h10 g10 A h11 g11 aW cW a1 k1 a2 k2 a3 k3 a4 k4 a5 k5 h3
      subst hGw
      subst hA0
      simp only [Act.put, List.setIfInBounds_toArray, List.set_cons_zero, List.set_cons_succ] at HT011 ⊢
      refine wpAnyH_take (i := 4) (oi := { dst := some 19, op := Op.move (Operand.tmp 23), type := _, pos := _, after := _, guard := none }) (v := .tuple #[.agg cn, .agg #[.int .i64 pP, .slice a1 ll.length k1, .slice a2 lj.length k2, .slice a3 li.length k3], .agg #[.int .i64 n.ep, .int .i64 n.fr, .slice a4 lo.length k4, .slice a5 lj.length k5], .int .i64 e0]) rfl (by kernel_rfl) (by kernel_rfl) (by kernel_rfl) (fun _ _ _ h => h) (Or.inl ⟨by rfl, fun w hSw => by clear hSw; go_simp⟩) (by assumption) ?_
      simp only [Act.put, List.setIfInBounds_toArray, List.set_cons_zero, List.set_cons_succ]
      refine wpAnyH_take (i := 5) (oi := { dst := some 24, op := Op.extract (Operand.tmp 19) 0, type := _, pos := _, after := _, guard := none }) (v := .agg cn) rfl (by kernel_rfl) (by kernel_rfl) (by kernel_rfl) (fun _ _ _ h => h) (Or.inl ⟨by rfl, fun w hSw => by clear hSw; go_simp⟩) (by assumption) ?_
      simp only [Act.put, List.setIfInBounds_toArray, List.set_cons_zero, List.set_cons_succ]
      refine wpAnyH_take (i := 6) (oi := { dst := some 25, op := Op.extract (Operand.tmp 19) 1, type := _, pos := _, after := _, guard := none }) (v := .agg #[.int .i64 pP, .slice a1 ll.length k1, .slice a2 lj.length k2, .slice a3 li.length k3]) rfl (by kernel_rfl) (by kernel_rfl) (by kernel_rfl) (fun _ _ _ h => h) (Or.inl ⟨by rfl, fun w hSw => by clear hSw; go_simp⟩) (by assumption) ?_
      simp only [Act.put, List.setIfInBounds_toArray, List.set_cons_zero, List.set_cons_succ]
      refine wpAnyH_take (i := 7) (oi := { dst := some 26, op := Op.extract (Operand.tmp 19) 2, type := _, pos := _, after := _, guard := none }) (v := .agg #[.int .i64 n.ep, .int .i64 n.fr, .slice a4 lo.length k4, .slice a5 lj.length k5]) rfl (by kernel_rfl) (by kernel_rfl) (by kernel_rfl) (fun _ _ _ h => h) (Or.inl ⟨by rfl, fun w hSw => by clear hSw; go_simp⟩) (by assumption) ?_
      simp only [Act.put, List.setIfInBounds_toArray, List.set_cons_zero, List.set_cons_succ]
      refine wpAnyH_take (i := 8) (oi := { dst := some 27, op := Op.extract (Operand.tmp 19) 3, type := _, pos := _, after := _, guard := none }) (v := .int .i64 e0) rfl (by kernel_rfl) (by kernel_rfl) (by kernel_rfl) (fun _ _ _ h => h) (Or.inl ⟨by rfl, fun w hSw => by clear hSw; go_simp⟩) (by assumption) ?_
      simp only [Act.put, List.setIfInBounds_toArray, List.set_cons_zero, List.set_cons_succ]
      exact HT011 X hS G h10 g10 A h11 g11 aW cW a1 k1 a2 k2 a3 k3 a4 k4 a5 k5 h3
    have HE101 : ∀ X, PX w X s0 B C K D t #[.int .i64 e, .int .i64 f, .slice aL nL cL, .slice aJ nJ cJ] → ∀ N, TrAt X N (tz 0) → s0 ≤ N → ∀ A, RcAt X A rz → s0 ≤ A → ∀ aW cW a1 k1 a2 k2 a3 k3 a4 k4 a5 k5, Rw w X (.slice a1 ll.length k1) (.slice a2 lj.length k2) (.slice a3 li.length k3) (.slice a4 lo.length k4) (.slice a5 lj.length k5) ll lj li lo lj → Gw 10 #[true, true, true, true, false, false, false, false, false, true, false, true, false, false, false, false] ((((A0.put (some 8) (.pointer (some ⟨N, 0, none⟩))).put (some 10) (.pointer (some ⟨A, 0, none⟩))).put (some 22) (.agg #[.slice aL nL cL, .slice aW nJ cW])).put (some 23) (.tuple #[.agg cn, .agg #[.int .i64 pP, .slice a1 ll.length k1, .slice a2 lj.length k2, .slice a3 li.length k3], .agg #[.int .i64 n.ep, .int .i64 n.fr, .slice a4 lo.length k4, .slice a5 lj.length k5], .int .i64 e0])) X := by
      clear HT111 HT011 HT110 HT001 HT010 HT100 HT000 HE111 HE011
      intro X hS N h9 g9 A h11 g11 aW cW a1 k1 a2 k2 a3 k3 a4 k4 a5 k5 h3
      subst hGw
      subst hA0
      simp only [Act.put, List.setIfInBounds_toArray, List.set_cons_zero, List.set_cons_succ] at HT101 ⊢
      refine wpAnyH_take (i := 4) (oi := { dst := some 19, op := Op.move (Operand.tmp 23), type := _, pos := _, after := _, guard := none }) (v := .tuple #[.agg cn, .agg #[.int .i64 pP, .slice a1 ll.length k1, .slice a2 lj.length k2, .slice a3 li.length k3], .agg #[.int .i64 n.ep, .int .i64 n.fr, .slice a4 lo.length k4, .slice a5 lj.length k5], .int .i64 e0]) rfl (by kernel_rfl) (by kernel_rfl) (by kernel_rfl) (fun _ _ _ h => h) (Or.inl ⟨by rfl, fun w hSw => by clear hSw; go_simp⟩) (by assumption) ?_
      simp only [Act.put, List.setIfInBounds_toArray, List.set_cons_zero, List.set_cons_succ]
      refine wpAnyH_take (i := 5) (oi := { dst := some 24, op := Op.extract (Operand.tmp 19) 0, type := _, pos := _, after := _, guard := none }) (v := .agg cn) rfl (by kernel_rfl) (by kernel_rfl) (by kernel_rfl) (fun _ _ _ h => h) (Or.inl ⟨by rfl, fun w hSw => by clear hSw; go_simp⟩) (by assumption) ?_
      simp only [Act.put, List.setIfInBounds_toArray, List.set_cons_zero, List.set_cons_succ]
      refine wpAnyH_take (i := 6) (oi := { dst := some 25, op := Op.extract (Operand.tmp 19) 1, type := _, pos := _, after := _, guard := none }) (v := .agg #[.int .i64 pP, .slice a1 ll.length k1, .slice a2 lj.length k2, .slice a3 li.length k3]) rfl (by kernel_rfl) (by kernel_rfl) (by kernel_rfl) (fun _ _ _ h => h) (Or.inl ⟨by rfl, fun w hSw => by clear hSw; go_simp⟩) (by assumption) ?_
      simp only [Act.put, List.setIfInBounds_toArray, List.set_cons_zero, List.set_cons_succ]
      refine wpAnyH_take (i := 7) (oi := { dst := some 26, op := Op.extract (Operand.tmp 19) 2, type := _, pos := _, after := _, guard := none }) (v := .agg #[.int .i64 n.ep, .int .i64 n.fr, .slice a4 lo.length k4, .slice a5 lj.length k5]) rfl (by kernel_rfl) (by kernel_rfl) (by kernel_rfl) (fun _ _ _ h => h) (Or.inl ⟨by rfl, fun w hSw => by clear hSw; go_simp⟩) (by assumption) ?_
      simp only [Act.put, List.setIfInBounds_toArray, List.set_cons_zero, List.set_cons_succ]
      refine wpAnyH_take (i := 8) (oi := { dst := some 27, op := Op.extract (Operand.tmp 19) 3, type := _, pos := _, after := _, guard := none }) (v := .int .i64 e0) rfl (by kernel_rfl) (by kernel_rfl) (by kernel_rfl) (fun _ _ _ h => h) (Or.inl ⟨by rfl, fun w hSw => by clear hSw; go_simp⟩) (by assumption) ?_
      simp only [Act.put, List.setIfInBounds_toArray, List.set_cons_zero, List.set_cons_succ]
      exact HT101 X hS N h9 g9 A h11 g11 aW cW a1 k1 a2 k2 a3 k3 a4 k4 a5 k5 h3
    have HE110 : ∀ X, PX w X s0 B C K D t #[.int .i64 e, .int .i64 f, .slice aL nL cL, .slice aJ nJ cJ] → ∀ N, TrAt X N (tz 0) → s0 ≤ N → ∀ G, RkAt X G rkz → s0 ≤ G → ∀ aW cW a1 k1 a2 k2 a3 k3 a4 k4 a5 k5, Rw w X (.slice a1 ll.length k1) (.slice a2 lj.length k2) (.slice a3 li.length k3) (.slice a4 lo.length k4) (.slice a5 lj.length k5) ll lj li lo lj → Gw 10 #[true, true, true, true, false, false, false, false, false, true, true, false, false, false, false, false] ((((A0.put (some 8) (.pointer (some ⟨N, 0, none⟩))).put (some 9) (.pointer (some ⟨G, 0, none⟩))).put (some 22) (.agg #[.slice aL nL cL, .slice aW nJ cW])).put (some 23) (.tuple #[.agg cn, .agg #[.int .i64 pP, .slice a1 ll.length k1, .slice a2 lj.length k2, .slice a3 li.length k3], .agg #[.int .i64 n.ep, .int .i64 n.fr, .slice a4 lo.length k4, .slice a5 lj.length k5], .int .i64 e0])) X := by
      clear HT111 HT011 HT101 HT001 HT010 HT100 HT000 HE111 HE011 HE101
      intro X hS N h9 g9 G h10 g10 aW cW a1 k1 a2 k2 a3 k3 a4 k4 a5 k5 h3
      subst hGw
      subst hA0
      simp only [Act.put, List.setIfInBounds_toArray, List.set_cons_zero, List.set_cons_succ] at HT110 ⊢
      refine wpAnyH_take (i := 4) (oi := { dst := some 19, op := Op.move (Operand.tmp 23), type := _, pos := _, after := _, guard := none }) (v := .tuple #[.agg cn, .agg #[.int .i64 pP, .slice a1 ll.length k1, .slice a2 lj.length k2, .slice a3 li.length k3], .agg #[.int .i64 n.ep, .int .i64 n.fr, .slice a4 lo.length k4, .slice a5 lj.length k5], .int .i64 e0]) rfl (by kernel_rfl) (by kernel_rfl) (by kernel_rfl) (fun _ _ _ h => h) (Or.inl ⟨by rfl, fun w hSw => by clear hSw; go_simp⟩) (by assumption) ?_
      simp only [Act.put, List.setIfInBounds_toArray, List.set_cons_zero, List.set_cons_succ]
      refine wpAnyH_take (i := 5) (oi := { dst := some 24, op := Op.extract (Operand.tmp 19) 0, type := _, pos := _, after := _, guard := none }) (v := .agg cn) rfl (by kernel_rfl) (by kernel_rfl) (by kernel_rfl) (fun _ _ _ h => h) (Or.inl ⟨by rfl, fun w hSw => by clear hSw; go_simp⟩) (by assumption) ?_
      simp only [Act.put, List.setIfInBounds_toArray, List.set_cons_zero, List.set_cons_succ]
      refine wpAnyH_take (i := 6) (oi := { dst := some 25, op := Op.extract (Operand.tmp 19) 1, type := _, pos := _, after := _, guard := none }) (v := .agg #[.int .i64 pP, .slice a1 ll.length k1, .slice a2 lj.length k2, .slice a3 li.length k3]) rfl (by kernel_rfl) (by kernel_rfl) (by kernel_rfl) (fun _ _ _ h => h) (Or.inl ⟨by rfl, fun w hSw => by clear hSw; go_simp⟩) (by assumption) ?_
      simp only [Act.put, List.setIfInBounds_toArray, List.set_cons_zero, List.set_cons_succ]
      refine wpAnyH_take (i := 7) (oi := { dst := some 26, op := Op.extract (Operand.tmp 19) 2, type := _, pos := _, after := _, guard := none }) (v := .agg #[.int .i64 n.ep, .int .i64 n.fr, .slice a4 lo.length k4, .slice a5 lj.length k5]) rfl (by kernel_rfl) (by kernel_rfl) (by kernel_rfl) (fun _ _ _ h => h) (Or.inl ⟨by rfl, fun w hSw => by clear hSw; go_simp⟩) (by assumption) ?_
      simp only [Act.put, List.setIfInBounds_toArray, List.set_cons_zero, List.set_cons_succ]
      refine wpAnyH_take (i := 8) (oi := { dst := some 27, op := Op.extract (Operand.tmp 19) 3, type := _, pos := _, after := _, guard := none }) (v := .int .i64 e0) rfl (by kernel_rfl) (by kernel_rfl) (by kernel_rfl) (fun _ _ _ h => h) (Or.inl ⟨by rfl, fun w hSw => by clear hSw; go_simp⟩) (by assumption) ?_
      simp only [Act.put, List.setIfInBounds_toArray, List.set_cons_zero, List.set_cons_succ]
      exact HT110 X hS N h9 g9 G h10 g10 aW cW a1 k1 a2 k2 a3 k3 a4 k4 a5 k5 h3
    have HE001 : ∀ X, PX w X s0 B C K D t #[.int .i64 e, .int .i64 f, .slice aL nL cL, .slice aJ nJ cJ] → ∀ A, RcAt X A rz → s0 ≤ A → ∀ aW cW a1 k1 a2 k2 a3 k3 a4 k4 a5 k5, Rw w X (.slice a1 ll.length k1) (.slice a2 lj.length k2) (.slice a3 li.length k3) (.slice a4 lo.length k4) (.slice a5 lj.length k5) ll lj li lo lj → Gw 11 #[true, true, true, true, false, false, false, false, false, false, false, true, false, false, false, false] (((A0.put (some 10) (.pointer (some ⟨A, 0, none⟩))).put (some 22) (.agg #[.slice aL nL cL, .slice aW nJ cW])).put (some 23) (.tuple #[.agg cn, .agg #[.int .i64 pP, .slice a1 ll.length k1, .slice a2 lj.length k2, .slice a3 li.length k3], .agg #[.int .i64 n.ep, .int .i64 n.fr, .slice a4 lo.length k4, .slice a5 lj.length k5], .int .i64 e0])) X := by
      clear HT111 HT011 HT101 HT110 HT010 HT100 HT000 HE111 HE011 HE101 HE110
      intro X hS A h11 g11 aW cW a1 k1 a2 k2 a3 k3 a4 k4 a5 k5 h3
      subst hGw
      subst hA0
      simp only [Act.put, List.setIfInBounds_toArray, List.set_cons_zero, List.set_cons_succ] at HT001 ⊢
      refine wpAnyH_take (i := 4) (oi := { dst := some 19, op := Op.move (Operand.tmp 23), type := _, pos := _, after := _, guard := none }) (v := .tuple #[.agg cn, .agg #[.int .i64 pP, .slice a1 ll.length k1, .slice a2 lj.length k2, .slice a3 li.length k3], .agg #[.int .i64 n.ep, .int .i64 n.fr, .slice a4 lo.length k4, .slice a5 lj.length k5], .int .i64 e0]) rfl (by kernel_rfl) (by kernel_rfl) (by kernel_rfl) (fun _ _ _ h => h) (Or.inl ⟨by rfl, fun w hSw => by clear hSw; go_simp⟩) (by assumption) ?_
      simp only [Act.put, List.setIfInBounds_toArray, List.set_cons_zero, List.set_cons_succ]
      refine wpAnyH_take (i := 5) (oi := { dst := some 24, op := Op.extract (Operand.tmp 19) 0, type := _, pos := _, after := _, guard := none }) (v := .agg cn) rfl (by kernel_rfl) (by kernel_rfl) (by kernel_rfl) (fun _ _ _ h => h) (Or.inl ⟨by rfl, fun w hSw => by clear hSw; go_simp⟩) (by assumption) ?_
      simp only [Act.put, List.setIfInBounds_toArray, List.set_cons_zero, List.set_cons_succ]
      refine wpAnyH_take (i := 6) (oi := { dst := some 25, op := Op.extract (Operand.tmp 19) 1, type := _, pos := _, after := _, guard := none }) (v := .agg #[.int .i64 pP, .slice a1 ll.length k1, .slice a2 lj.length k2, .slice a3 li.length k3]) rfl (by kernel_rfl) (by kernel_rfl) (by kernel_rfl) (fun _ _ _ h => h) (Or.inl ⟨by rfl, fun w hSw => by clear hSw; go_simp⟩) (by assumption) ?_
      simp only [Act.put, List.setIfInBounds_toArray, List.set_cons_zero, List.set_cons_succ]
      refine wpAnyH_take (i := 7) (oi := { dst := some 26, op := Op.extract (Operand.tmp 19) 2, type := _, pos := _, after := _, guard := none }) (v := .agg #[.int .i64 n.ep, .int .i64 n.fr, .slice a4 lo.length k4, .slice a5 lj.length k5]) rfl (by kernel_rfl) (by kernel_rfl) (by kernel_rfl) (fun _ _ _ h => h) (Or.inl ⟨by rfl, fun w hSw => by clear hSw; go_simp⟩) (by assumption) ?_
      simp only [Act.put, List.setIfInBounds_toArray, List.set_cons_zero, List.set_cons_succ]
      refine wpAnyH_take (i := 8) (oi := { dst := some 27, op := Op.extract (Operand.tmp 19) 3, type := _, pos := _, after := _, guard := none }) (v := .int .i64 e0) rfl (by kernel_rfl) (by kernel_rfl) (by kernel_rfl) (fun _ _ _ h => h) (Or.inl ⟨by rfl, fun w hSw => by clear hSw; go_simp⟩) (by assumption) ?_
      simp only [Act.put, List.setIfInBounds_toArray, List.set_cons_zero, List.set_cons_succ]
      exact HT001 X hS A h11 g11 aW cW a1 k1 a2 k2 a3 k3 a4 k4 a5 k5 h3
    have HE010 : ∀ X, PX w X s0 B C K D t #[.int .i64 e, .int .i64 f, .slice aL nL cL, .slice aJ nJ cJ] → ∀ G, RkAt X G rkz → s0 ≤ G → ∀ aW cW a1 k1 a2 k2 a3 k3 a4 k4 a5 k5, Rw w X (.slice a1 ll.length k1) (.slice a2 lj.length k2) (.slice a3 li.length k3) (.slice a4 lo.length k4) (.slice a5 lj.length k5) ll lj li lo lj → Gw 11 #[true, true, true, true, false, false, false, false, false, false, true, false, false, false, false, false] (((A0.put (some 9) (.pointer (some ⟨G, 0, none⟩))).put (some 22) (.agg #[.slice aL nL cL, .slice aW nJ cW])).put (some 23) (.tuple #[.agg cn, .agg #[.int .i64 pP, .slice a1 ll.length k1, .slice a2 lj.length k2, .slice a3 li.length k3], .agg #[.int .i64 n.ep, .int .i64 n.fr, .slice a4 lo.length k4, .slice a5 lj.length k5], .int .i64 e0])) X := by
      clear HT111 HT011 HT101 HT110 HT001 HT100 HT000 HE111 HE011 HE101 HE110 HE001
      intro X hS G h10 g10 aW cW a1 k1 a2 k2 a3 k3 a4 k4 a5 k5 h3
      subst hGw
      subst hA0
      simp only [Act.put, List.setIfInBounds_toArray, List.set_cons_zero, List.set_cons_succ] at HT010 ⊢
      refine wpAnyH_take (i := 4) (oi := { dst := some 19, op := Op.move (Operand.tmp 23), type := _, pos := _, after := _, guard := none }) (v := .tuple #[.agg cn, .agg #[.int .i64 pP, .slice a1 ll.length k1, .slice a2 lj.length k2, .slice a3 li.length k3], .agg #[.int .i64 n.ep, .int .i64 n.fr, .slice a4 lo.length k4, .slice a5 lj.length k5], .int .i64 e0]) rfl (by kernel_rfl) (by kernel_rfl) (by kernel_rfl) (fun _ _ _ h => h) (Or.inl ⟨by rfl, fun w hSw => by clear hSw; go_simp⟩) (by assumption) ?_
      simp only [Act.put, List.setIfInBounds_toArray, List.set_cons_zero, List.set_cons_succ]
      refine wpAnyH_take (i := 5) (oi := { dst := some 24, op := Op.extract (Operand.tmp 19) 0, type := _, pos := _, after := _, guard := none }) (v := .agg cn) rfl (by kernel_rfl) (by kernel_rfl) (by kernel_rfl) (fun _ _ _ h => h) (Or.inl ⟨by rfl, fun w hSw => by clear hSw; go_simp⟩) (by assumption) ?_
      simp only [Act.put, List.setIfInBounds_toArray, List.set_cons_zero, List.set_cons_succ]
      refine wpAnyH_take (i := 6) (oi := { dst := some 25, op := Op.extract (Operand.tmp 19) 1, type := _, pos := _, after := _, guard := none }) (v := .agg #[.int .i64 pP, .slice a1 ll.length k1, .slice a2 lj.length k2, .slice a3 li.length k3]) rfl (by kernel_rfl) (by kernel_rfl) (by kernel_rfl) (fun _ _ _ h => h) (Or.inl ⟨by rfl, fun w hSw => by clear hSw; go_simp⟩) (by assumption) ?_
      simp only [Act.put, List.setIfInBounds_toArray, List.set_cons_zero, List.set_cons_succ]
      refine wpAnyH_take (i := 7) (oi := { dst := some 26, op := Op.extract (Operand.tmp 19) 2, type := _, pos := _, after := _, guard := none }) (v := .agg #[.int .i64 n.ep, .int .i64 n.fr, .slice a4 lo.length k4, .slice a5 lj.length k5]) rfl (by kernel_rfl) (by kernel_rfl) (by kernel_rfl) (fun _ _ _ h => h) (Or.inl ⟨by rfl, fun w hSw => by clear hSw; go_simp⟩) (by assumption) ?_
      simp only [Act.put, List.setIfInBounds_toArray, List.set_cons_zero, List.set_cons_succ]
      refine wpAnyH_take (i := 8) (oi := { dst := some 27, op := Op.extract (Operand.tmp 19) 3, type := _, pos := _, after := _, guard := none }) (v := .int .i64 e0) rfl (by kernel_rfl) (by kernel_rfl) (by kernel_rfl) (fun _ _ _ h => h) (Or.inl ⟨by rfl, fun w hSw => by clear hSw; go_simp⟩) (by assumption) ?_
      simp only [Act.put, List.setIfInBounds_toArray, List.set_cons_zero, List.set_cons_succ]
      exact HT010 X hS G h10 g10 aW cW a1 k1 a2 k2 a3 k3 a4 k4 a5 k5 h3
    have HE100 : ∀ X, PX w X s0 B C K D t #[.int .i64 e, .int .i64 f, .slice aL nL cL, .slice aJ nJ cJ] → ∀ N, TrAt X N (tz 0) → s0 ≤ N → ∀ aW cW a1 k1 a2 k2 a3 k3 a4 k4 a5 k5, Rw w X (.slice a1 ll.length k1) (.slice a2 lj.length k2) (.slice a3 li.length k3) (.slice a4 lo.length k4) (.slice a5 lj.length k5) ll lj li lo lj → Gw 11 #[true, true, true, true, false, false, false, false, false, true, false, false, false, false, false, false] (((A0.put (some 8) (.pointer (some ⟨N, 0, none⟩))).put (some 22) (.agg #[.slice aL nL cL, .slice aW nJ cW])).put (some 23) (.tuple #[.agg cn, .agg #[.int .i64 pP, .slice a1 ll.length k1, .slice a2 lj.length k2, .slice a3 li.length k3], .agg #[.int .i64 n.ep, .int .i64 n.fr, .slice a4 lo.length k4, .slice a5 lj.length k5], .int .i64 e0])) X := by
      clear HT111 HT011 HT101 HT110 HT001 HT010 HT000 HE111 HE011 HE101 HE110 HE001 HE010
      intro X hS N h9 g9 aW cW a1 k1 a2 k2 a3 k3 a4 k4 a5 k5 h3
      subst hGw
      subst hA0
      simp only [Act.put, List.setIfInBounds_toArray, List.set_cons_zero, List.set_cons_succ] at HT100 ⊢
      refine wpAnyH_take (i := 4) (oi := { dst := some 19, op := Op.move (Operand.tmp 23), type := _, pos := _, after := _, guard := none }) (v := .tuple #[.agg cn, .agg #[.int .i64 pP, .slice a1 ll.length k1, .slice a2 lj.length k2, .slice a3 li.length k3], .agg #[.int .i64 n.ep, .int .i64 n.fr, .slice a4 lo.length k4, .slice a5 lj.length k5], .int .i64 e0]) rfl (by kernel_rfl) (by kernel_rfl) (by kernel_rfl) (fun _ _ _ h => h) (Or.inl ⟨by rfl, fun w hSw => by clear hSw; go_simp⟩) (by assumption) ?_
      simp only [Act.put, List.setIfInBounds_toArray, List.set_cons_zero, List.set_cons_succ]
      refine wpAnyH_take (i := 5) (oi := { dst := some 24, op := Op.extract (Operand.tmp 19) 0, type := _, pos := _, after := _, guard := none }) (v := .agg cn) rfl (by kernel_rfl) (by kernel_rfl) (by kernel_rfl) (fun _ _ _ h => h) (Or.inl ⟨by rfl, fun w hSw => by clear hSw; go_simp⟩) (by assumption) ?_
      simp only [Act.put, List.setIfInBounds_toArray, List.set_cons_zero, List.set_cons_succ]
      refine wpAnyH_take (i := 6) (oi := { dst := some 25, op := Op.extract (Operand.tmp 19) 1, type := _, pos := _, after := _, guard := none }) (v := .agg #[.int .i64 pP, .slice a1 ll.length k1, .slice a2 lj.length k2, .slice a3 li.length k3]) rfl (by kernel_rfl) (by kernel_rfl) (by kernel_rfl) (fun _ _ _ h => h) (Or.inl ⟨by rfl, fun w hSw => by clear hSw; go_simp⟩) (by assumption) ?_
      simp only [Act.put, List.setIfInBounds_toArray, List.set_cons_zero, List.set_cons_succ]
      refine wpAnyH_take (i := 7) (oi := { dst := some 26, op := Op.extract (Operand.tmp 19) 2, type := _, pos := _, after := _, guard := none }) (v := .agg #[.int .i64 n.ep, .int .i64 n.fr, .slice a4 lo.length k4, .slice a5 lj.length k5]) rfl (by kernel_rfl) (by kernel_rfl) (by kernel_rfl) (fun _ _ _ h => h) (Or.inl ⟨by rfl, fun w hSw => by clear hSw; go_simp⟩) (by assumption) ?_
      simp only [Act.put, List.setIfInBounds_toArray, List.set_cons_zero, List.set_cons_succ]
      refine wpAnyH_take (i := 8) (oi := { dst := some 27, op := Op.extract (Operand.tmp 19) 3, type := _, pos := _, after := _, guard := none }) (v := .int .i64 e0) rfl (by kernel_rfl) (by kernel_rfl) (by kernel_rfl) (fun _ _ _ h => h) (Or.inl ⟨by rfl, fun w hSw => by clear hSw; go_simp⟩) (by assumption) ?_
      simp only [Act.put, List.setIfInBounds_toArray, List.set_cons_zero, List.set_cons_succ]
      exact HT100 X hS N h9 g9 aW cW a1 k1 a2 k2 a3 k3 a4 k4 a5 k5 h3
    have HE000 : ∀ X, PX w X s0 B C K D t #[.int .i64 e, .int .i64 f, .slice aL nL cL, .slice aJ nJ cJ] → ∀ aW cW a1 k1 a2 k2 a3 k3 a4 k4 a5 k5, Rw w X (.slice a1 ll.length k1) (.slice a2 lj.length k2) (.slice a3 li.length k3) (.slice a4 lo.length k4) (.slice a5 lj.length k5) ll lj li lo lj → Gw 12 #[true, true, true, true, false, false, false, false, false, false, false, false, false, false, false, false] ((A0.put (some 22) (.agg #[.slice aL nL cL, .slice aW nJ cW])).put (some 23) (.tuple #[.agg cn, .agg #[.int .i64 pP, .slice a1 ll.length k1, .slice a2 lj.length k2, .slice a3 li.length k3], .agg #[.int .i64 n.ep, .int .i64 n.fr, .slice a4 lo.length k4, .slice a5 lj.length k5], .int .i64 e0])) X := by
      clear HT111 HT011 HT101 HT110 HT001 HT010 HT100 HE111 HE011 HE101 HE110 HE001 HE010 HE100
      intro X hS aW cW a1 k1 a2 k2 a3 k3 a4 k4 a5 k5 h3
      subst hGw
      subst hA0
      simp only [Act.put, List.setIfInBounds_toArray, List.set_cons_zero, List.set_cons_succ] at HT000 ⊢
      refine wpAnyH_take (i := 4) (oi := { dst := some 19, op := Op.move (Operand.tmp 23), type := _, pos := _, after := _, guard := none }) (v := .tuple #[.agg cn, .agg #[.int .i64 pP, .slice a1 ll.length k1, .slice a2 lj.length k2, .slice a3 li.length k3], .agg #[.int .i64 n.ep, .int .i64 n.fr, .slice a4 lo.length k4, .slice a5 lj.length k5], .int .i64 e0]) rfl (by kernel_rfl) (by kernel_rfl) (by kernel_rfl) (fun _ _ _ h => h) (Or.inl ⟨by rfl, fun w hSw => by clear hSw; go_simp⟩) (by assumption) ?_
      simp only [Act.put, List.setIfInBounds_toArray, List.set_cons_zero, List.set_cons_succ]
      refine wpAnyH_take (i := 5) (oi := { dst := some 24, op := Op.extract (Operand.tmp 19) 0, type := _, pos := _, after := _, guard := none }) (v := .agg cn) rfl (by kernel_rfl) (by kernel_rfl) (by kernel_rfl) (fun _ _ _ h => h) (Or.inl ⟨by rfl, fun w hSw => by clear hSw; go_simp⟩) (by assumption) ?_
      simp only [Act.put, List.setIfInBounds_toArray, List.set_cons_zero, List.set_cons_succ]
      refine wpAnyH_take (i := 6) (oi := { dst := some 25, op := Op.extract (Operand.tmp 19) 1, type := _, pos := _, after := _, guard := none }) (v := .agg #[.int .i64 pP, .slice a1 ll.length k1, .slice a2 lj.length k2, .slice a3 li.length k3]) rfl (by kernel_rfl) (by kernel_rfl) (by kernel_rfl) (fun _ _ _ h => h) (Or.inl ⟨by rfl, fun w hSw => by clear hSw; go_simp⟩) (by assumption) ?_
      simp only [Act.put, List.setIfInBounds_toArray, List.set_cons_zero, List.set_cons_succ]
      refine wpAnyH_take (i := 7) (oi := { dst := some 26, op := Op.extract (Operand.tmp 19) 2, type := _, pos := _, after := _, guard := none }) (v := .agg #[.int .i64 n.ep, .int .i64 n.fr, .slice a4 lo.length k4, .slice a5 lj.length k5]) rfl (by kernel_rfl) (by kernel_rfl) (by kernel_rfl) (fun _ _ _ h => h) (Or.inl ⟨by rfl, fun w hSw => by clear hSw; go_simp⟩) (by assumption) ?_
      simp only [Act.put, List.setIfInBounds_toArray, List.set_cons_zero, List.set_cons_succ]
      refine wpAnyH_take (i := 8) (oi := { dst := some 27, op := Op.extract (Operand.tmp 19) 3, type := _, pos := _, after := _, guard := none }) (v := .int .i64 e0) rfl (by kernel_rfl) (by kernel_rfl) (by kernel_rfl) (fun _ _ _ h => h) (Or.inl ⟨by rfl, fun w hSw => by clear hSw; go_simp⟩) (by assumption) ?_
      simp only [Act.put, List.setIfInBounds_toArray, List.set_cons_zero, List.set_cons_succ]
      exact HT000 X hS aW cW a1 k1 a2 k2 a3 k3 a4 k4 a5 k5 h3
    have H1111 : ∀ X, PX w X s0 B C K D t #[.int .i64 e, .int .i64 f, .slice aL nL cL, .slice aJ nJ cJ] → ∀ N, TrAt X N (tz 0) → s0 ≤ N → ∀ G, RkAt X G rkz → s0 ≤ G → ∀ A, RcAt X A rz → s0 ≤ A → ∀ aW cW, RdI X aW Jw → Gw 10 #[true, true, true, false, false, false, false, false, false, true, true, true, false, false, false, false] ((((A0.put (some 8) (.pointer (some ⟨N, 0, none⟩))).put (some 9) (.pointer (some ⟨G, 0, none⟩))).put (some 10) (.pointer (some ⟨A, 0, none⟩))).put (some 22) (.agg #[.slice aL nL cL, .slice aW nJ cW])) X := by
      clear HT111 HT011 HT101 HT110 HT001 HT010 HT100 HT000 HE011 HE101 HE110 HE001 HE010 HE100 HE000
      intro X hS N h9 g9 G h10 g10 A h11 g11 aW cW h2
      subst hGw
      subst hA0
      simp only [Act.put, List.setIfInBounds_toArray, List.set_cons_zero, List.set_cons_succ] at HE111 ⊢
      refine wpAnyH_ready (rs := [3]) (by kernel_rfl) (by simp) ?_
      refine (AllReadyH.cons (o := { dst := some 23, op := Op.call { callee := Callee.value (Operand.func 20), args := #[Operand.tmp 20, Operand.tmp 22], argTypes := _ }, type := _, pos := _, after := _, guard := none }) rfl (fun K9 hK9 => ?_) AllReadyH.nil)
      · go_simp
        refine (HST.out X aW cW hS.bel h2).mono ?_
        rintro r Y ⟨a1, k1, a2, k2, a3, k3, a4, k4, a5, k5, rfl, hrw, hb⟩
        go_wp2_with fail
        refine hK9.out _ _ (hS.later hb) (fun _ => ?_)
        exact HE111 Y (hS.later hb) N (h9.later hb) g9 G (RkLater h10 hb) g10 A (h11.later hb) g11 aW cW a1 k1 a2 k2 a3 k3 a4 k4 a5 k5 hrw
    have H1011 : ∀ X, PX w X s0 B C K D t #[.int .i64 e, .int .i64 f, .slice aL nL cL, .slice aJ nJ cJ] → ∀ G, RkAt X G rkz → s0 ≤ G → ∀ A, RcAt X A rz → s0 ≤ A → ∀ aW cW, RdI X aW Jw → Gw 11 #[true, true, true, false, false, false, false, false, false, false, true, true, false, false, false, false] (((A0.put (some 9) (.pointer (some ⟨G, 0, none⟩))).put (some 10) (.pointer (some ⟨A, 0, none⟩))).put (some 22) (.agg #[.slice aL nL cL, .slice aW nJ cW])) X := by
      clear HT111 HT011 HT101 HT110 HT001 HT010 HT100 HT000 HE111 HE101 HE110 HE001 HE010 HE100 HE000
      intro X hS G h10 g10 A h11 g11 aW cW h2
      subst hGw
      subst hA0
      simp only [Act.put, List.setIfInBounds_toArray, List.set_cons_zero, List.set_cons_succ] at H1111 HE011 ⊢
      refine wpAnyH_ready (rs := [3, 9]) (by kernel_rfl) (by simp) ?_
      refine (AllReadyH.cons (o := { dst := some 23, op := Op.call { callee := Callee.value (Operand.func 20), args := #[Operand.tmp 20, Operand.tmp 22], argTypes := _ }, type := _, pos := _, after := _, guard := none }) rfl (fun K9 hK9 => ?_) (AllReadyH.cons (o := { dst := some 8, op := Op.alloc 31, type := _, pos := _, after := _, guard := none }) rfl (fun K9 hK9 => ?_) AllReadyH.nil))
      · go_simp
        refine (HST.out X aW cW hS.bel h2).mono ?_
        rintro r Y ⟨a1, k1, a2, k2, a3, k3, a4, k4, a5, k5, rfl, hrw, hb⟩
        go_wp2_with fail
        refine hK9.out _ _ (hS.later hb) (fun _ => ?_)
        exact HE011 Y (hS.later hb) G (RkLater h10 hb) g10 A (h11.later hb) g11 aW cW a1 k1 a2 k2 a3 k3 a4 k4 a5 k5 hrw
      · go_simp
        refine hK9.out _ _ (hS.later (below_alloc _ _)) (fun _ => ?_)
        exact H1111 _ (hS.later (below_alloc _ _)) X.heap.size (TrAt.zero X) hS.sz G (RkLater h10 (below_alloc _ _)) g10 A (h11.later (below_alloc _ _)) g11 aW cW (h2.later (below_alloc _ _))
    have H1101 : ∀ X, PX w X s0 B C K D t #[.int .i64 e, .int .i64 f, .slice aL nL cL, .slice aJ nJ cJ] → ∀ N, TrAt X N (tz 0) → s0 ≤ N → ∀ A, RcAt X A rz → s0 ≤ A → ∀ aW cW, RdI X aW Jw → Gw 11 #[true, true, true, false, false, false, false, false, false, true, false, true, false, false, false, false] (((A0.put (some 8) (.pointer (some ⟨N, 0, none⟩))).put (some 10) (.pointer (some ⟨A, 0, none⟩))).put (some 22) (.agg #[.slice aL nL cL, .slice aW nJ cW])) X := by
      clear HT111 HT011 HT101 HT110 HT001 HT010 HT100 HT000 HE111 HE011 HE110 HE001 HE010 HE100 HE000 H1011
      intro X hS N h9 g9 A h11 g11 aW cW h2
      subst hGw
      subst hA0
      simp only [Act.put, List.setIfInBounds_toArray, List.set_cons_zero, List.set_cons_succ] at H1111 HE101 ⊢
      refine wpAnyH_ready (rs := [3, 10]) (by kernel_rfl) (by simp) ?_
      refine (AllReadyH.cons (o := { dst := some 23, op := Op.call { callee := Callee.value (Operand.func 20), args := #[Operand.tmp 20, Operand.tmp 22], argTypes := _ }, type := _, pos := _, after := _, guard := none }) rfl (fun K9 hK9 => ?_) (AllReadyH.cons (o := { dst := some 9, op := Op.alloc 45, type := _, pos := _, after := _, guard := none }) rfl (fun K9 hK9 => ?_) AllReadyH.nil))
      · go_simp
        refine (HST.out X aW cW hS.bel h2).mono ?_
        rintro r Y ⟨a1, k1, a2, k2, a3, k3, a4, k4, a5, k5, rfl, hrw, hb⟩
        go_wp2_with fail
        refine hK9.out _ _ (hS.later hb) (fun _ => ?_)
        exact HE101 Y (hS.later hb) N (h9.later hb) g9 A (h11.later hb) g11 aW cW a1 k1 a2 k2 a3 k3 a4 k4 a5 k5 hrw
      · go_simp
        refine hK9.out _ _ (hS.later (below_alloc _ _)) (fun _ => ?_)
        exact H1111 _ (hS.later (below_alloc _ _)) N (h9.later (below_alloc _ _)) g9 X.heap.size (heap_alloc_last X _) hS.sz A (h11.later (below_alloc _ _)) g11 aW cW (h2.later (below_alloc _ _))
    have H1110 : ∀ X, PX w X s0 B C K D t #[.int .i64 e, .int .i64 f, .slice aL nL cL, .slice aJ nJ cJ] → ∀ N, TrAt X N (tz 0) → s0 ≤ N → ∀ G, RkAt X G rkz → s0 ≤ G → ∀ aW cW, RdI X aW Jw → Gw 11 #[true, true, true, false, false, false, false, false, false, true, true, false, false, false, false, false] (((A0.put (some 8) (.pointer (some ⟨N, 0, none⟩))).put (some 9) (.pointer (some ⟨G, 0, none⟩))).put (some 22) (.agg #[.slice aL nL cL, .slice aW nJ cW])) X := by
      clear HT111 HT011 HT101 HT110 HT001 HT010 HT100 HT000 HE111 HE011 HE101 HE001 HE010 HE100 HE000 H1011 H1101
      intro X hS N h9 g9 G h10 g10 aW cW h2
      subst hGw
      subst hA0
      simp only [Act.put, List.setIfInBounds_toArray, List.set_cons_zero, List.set_cons_succ] at H1111 HE110 ⊢
      refine wpAnyH_ready (rs := [3, 11]) (by kernel_rfl) (by simp) ?_
      refine (AllReadyH.cons (o := { dst := some 23, op := Op.call { callee := Callee.value (Operand.func 20), args := #[Operand.tmp 20, Operand.tmp 22], argTypes := _ }, type := _, pos := _, after := _, guard := none }) rfl (fun K9 hK9 => ?_) (AllReadyH.cons (o := { dst := some 10, op := Op.alloc 38, type := _, pos := _, after := _, guard := none }) rfl (fun K9 hK9 => ?_) AllReadyH.nil))
      · go_simp
        refine (HST.out X aW cW hS.bel h2).mono ?_
        rintro r Y ⟨a1, k1, a2, k2, a3, k3, a4, k4, a5, k5, rfl, hrw, hb⟩
        go_wp2_with fail
        refine hK9.out _ _ (hS.later hb) (fun _ => ?_)
        exact HE110 Y (hS.later hb) N (h9.later hb) g9 G (RkLater h10 hb) g10 aW cW a1 k1 a2 k2 a3 k3 a4 k4 a5 k5 hrw
      · go_simp
        refine hK9.out _ _ (hS.later (below_alloc _ _)) (fun _ => ?_)
        exact H1111 _ (hS.later (below_alloc _ _)) N (h9.later (below_alloc _ _)) g9 G (RkLater h10 (below_alloc _ _)) g10 X.heap.size (heap_alloc_last X _) hS.sz aW cW (h2.later (below_alloc _ _))
    have H1001 : ∀ X, PX w X s0 B C K D t #[.int .i64 e, .int .i64 f, .slice aL nL cL, .slice aJ nJ cJ] → ∀ A, RcAt X A rz → s0 ≤ A → ∀ aW cW, RdI X aW Jw → Gw 12 #[true, true, true, false, false, false, false, false, false, false, false, true, false, false, false, false] ((A0.put (some 10) (.pointer (some ⟨A, 0, none⟩))).put (some 22) (.agg #[.slice aL nL cL, .slice aW nJ cW])) X := by
      clear HT111 HT011 HT101 HT110 HT001 HT010 HT100 HT000 HE111 HE011 HE101 HE110 HE010 HE100 HE000 H1111 H1110
      intro X hS A h11 g11 aW cW h2
      subst hGw
      subst hA0
      simp only [Act.put, List.setIfInBounds_toArray, List.set_cons_zero, List.set_cons_succ] at H1011 H1101 HE001 ⊢
      refine wpAnyH_ready (rs := [3, 9, 10]) (by kernel_rfl) (by simp) ?_
      refine (AllReadyH.cons (o := { dst := some 23, op := Op.call { callee := Callee.value (Operand.func 20), args := #[Operand.tmp 20, Operand.tmp 22], argTypes := _ }, type := _, pos := _, after := _, guard := none }) rfl (fun K9 hK9 => ?_) (AllReadyH.cons (o := { dst := some 8, op := Op.alloc 31, type := _, pos := _, after := _, guard := none }) rfl (fun K9 hK9 => ?_) (AllReadyH.cons (o := { dst := some 9, op := Op.alloc 45, type := _, pos := _, after := _, guard := none }) rfl (fun K9 hK9 => ?_) AllReadyH.nil)))
      · go_simp
        refine (HST.out X aW cW hS.bel h2).mono ?_
        rintro r Y ⟨a1, k1, a2, k2, a3, k3, a4, k4, a5, k5, rfl, hrw, hb⟩
        go_wp2_with fail
        refine hK9.out _ _ (hS.later hb) (fun _ => ?_)
        exact HE001 Y (hS.later hb) A (h11.later hb) g11 aW cW a1 k1 a2 k2 a3 k3 a4 k4 a5 k5 hrw
      · go_simp
        refine hK9.out _ _ (hS.later (below_alloc _ _)) (fun _ => ?_)
        exact H1101 _ (hS.later (below_alloc _ _)) X.heap.size (TrAt.zero X) hS.sz A (h11.later (below_alloc _ _)) g11 aW cW (h2.later (below_alloc _ _))
      · go_simp
        refine hK9.out _ _ (hS.later (below_alloc _ _)) (fun _ => ?_)
        exact H1011 _ (hS.later (below_alloc _ _)) X.heap.size (heap_alloc_last X _) hS.sz A (h11.later (below_alloc _ _)) g11 aW cW (h2.later (below_alloc _ _))
    have H1010 : ∀ X, PX w X s0 B C K D t #[.int .i64 e, .int .i64 f, .slice aL nL cL, .slice aJ nJ cJ] → ∀ G, RkAt X G rkz → s0 ≤ G → ∀ aW cW, RdI X aW Jw → Gw 12 #[true, true, true, false, false, false, false, false, false, false, true, false, false, false, false, false] ((A0.put (some 9) (.pointer (some ⟨G, 0, none⟩))).put (some 22) (.agg #[.slice aL nL cL, .slice aW nJ cW])) X := by
      clear HT111 HT011 HT101 HT110 HT001 HT010 HT100 HT000 HE111 HE011 HE101 HE110 HE001 HE100 HE000 H1111 H1101 H1001
      intro X hS G h10 g10 aW cW h2
      subst hGw
      subst hA0
      simp only [Act.put, List.setIfInBounds_toArray, List.set_cons_zero, List.set_cons_succ] at H1011 H1110 HE010 ⊢
      refine wpAnyH_ready (rs := [3, 9, 11]) (by kernel_rfl) (by simp) ?_
      refine (AllReadyH.cons (o := { dst := some 23, op := Op.call { callee := Callee.value (Operand.func 20), args := #[Operand.tmp 20, Operand.tmp 22], argTypes := _ }, type := _, pos := _, after := _, guard := none }) rfl (fun K9 hK9 => ?_) (AllReadyH.cons (o := { dst := some 8, op := Op.alloc 31, type := _, pos := _, after := _, guard := none }) rfl (fun K9 hK9 => ?_) (AllReadyH.cons (o := { dst := some 10, op := Op.alloc 38, type := _, pos := _, after := _, guard := none }) rfl (fun K9 hK9 => ?_) AllReadyH.nil)))
      · go_simp
        refine (HST.out X aW cW hS.bel h2).mono ?_
        rintro r Y ⟨a1, k1, a2, k2, a3, k3, a4, k4, a5, k5, rfl, hrw, hb⟩
        go_wp2_with fail
        refine hK9.out _ _ (hS.later hb) (fun _ => ?_)
        exact HE010 Y (hS.later hb) G (RkLater h10 hb) g10 aW cW a1 k1 a2 k2 a3 k3 a4 k4 a5 k5 hrw
      · go_simp
        refine hK9.out _ _ (hS.later (below_alloc _ _)) (fun _ => ?_)
        exact H1110 _ (hS.later (below_alloc _ _)) X.heap.size (TrAt.zero X) hS.sz G (RkLater h10 (below_alloc _ _)) g10 aW cW (h2.later (below_alloc _ _))
      · go_simp
        refine hK9.out _ _ (hS.later (below_alloc _ _)) (fun _ => ?_)
        exact H1011 _ (hS.later (below_alloc _ _)) G (RkLater h10 (below_alloc _ _)) g10 X.heap.size (heap_alloc_last X _) hS.sz aW cW (h2.later (below_alloc _ _))
    have H1100 : ∀ X, PX w X s0 B C K D t #[.int .i64 e, .int .i64 f, .slice aL nL cL, .slice aJ nJ cJ] → ∀ N, TrAt X N (tz 0) → s0 ≤ N → ∀ aW cW, RdI X aW Jw → Gw 12 #[true, true, true, false, false, false, false, false, false, true, false, false, false, false, false, false] ((A0.put (some 8) (.pointer (some ⟨N, 0, none⟩))).put (some 22) (.agg #[.slice aL nL cL, .slice aW nJ cW])) X := by
      clear HT111 HT011 HT101 HT110 HT001 HT010 HT100 HT000 HE111 HE011 HE101 HE110 HE001 HE010 HE000 H1111 H1011 H1001 H1010
      intro X hS N h9 g9 aW cW h2
      subst hGw
      subst hA0
      simp only [Act.put, List.setIfInBounds_toArray, List.set_cons_zero, List.set_cons_succ] at H1101 H1110 HE100 ⊢
      refine wpAnyH_ready (rs := [3, 10, 11]) (by kernel_rfl) (by simp) ?_
      refine (AllReadyH.cons (o := { dst := some 23, op := Op.call { callee := Callee.value (Operand.func 20), args := #[Operand.tmp 20, Operand.tmp 22], argTypes := _ }, type := _, pos := _, after := _, guard := none }) rfl (fun K9 hK9 => ?_) (AllReadyH.cons (o := { dst := some 9, op := Op.alloc 45, type := _, pos := _, after := _, guard := none }) rfl (fun K9 hK9 => ?_) (AllReadyH.cons (o := { dst := some 10, op := Op.alloc 38, type := _, pos := _, after := _, guard := none }) rfl (fun K9 hK9 => ?_) AllReadyH.nil)))
      · go_simp
        refine (HST.out X aW cW hS.bel h2).mono ?_
        rintro r Y ⟨a1, k1, a2, k2, a3, k3, a4, k4, a5, k5, rfl, hrw, hb⟩
        go_wp2_with fail
        refine hK9.out _ _ (hS.later hb) (fun _ => ?_)
        exact HE100 Y (hS.later hb) N (h9.later hb) g9 aW cW a1 k1 a2 k2 a3 k3 a4 k4 a5 k5 hrw
      · go_simp
        refine hK9.out _ _ (hS.later (below_alloc _ _)) (fun _ => ?_)
        exact H1110 _ (hS.later (below_alloc _ _)) N (h9.later (below_alloc _ _)) g9 X.heap.size (heap_alloc_last X _) hS.sz aW cW (h2.later (below_alloc _ _))
      · go_simp
        refine hK9.out _ _ (hS.later (below_alloc _ _)) (fun _ => ?_)
        exact H1101 _ (hS.later (below_alloc _ _)) N (h9.later (below_alloc _ _)) g9 X.heap.size (heap_alloc_last X _) hS.sz aW cW (h2.later (below_alloc _ _))
    have H1000 : ∀ X, PX w X s0 B C K D t #[.int .i64 e, .int .i64 f, .slice aL nL cL, .slice aJ nJ cJ] → ∀ aW cW, RdI X aW Jw → Gw 13 #[true, true, true, false, false, false, false, false, false, false, false, false, false, false, false, false] (A0.put (some 22) (.agg #[.slice aL nL cL, .slice aW nJ cW])) X := by
      clear HT111 HT011 HT101 HT110 HT001 HT010 HT100 HT000 HE111 HE011 HE101 HE110 HE001 HE010 HE100 H1111 H1011 H1101 H1110
      intro X hS aW cW h2
      subst hGw
      subst hA0
      simp only [Act.put, List.setIfInBounds_toArray, List.set_cons_zero, List.set_cons_succ] at H1001 H1010 H1100 HE000 ⊢
      refine wpAnyH_ready (rs := [3, 9, 10, 11]) (by kernel_rfl) (by simp) ?_
      refine (AllReadyH.cons (o := { dst := some 23, op := Op.call { callee := Callee.value (Operand.func 20), args := #[Operand.tmp 20, Operand.tmp 22], argTypes := _ }, type := _, pos := _, after := _, guard := none }) rfl (fun K9 hK9 => ?_) (AllReadyH.cons (o := { dst := some 8, op := Op.alloc 31, type := _, pos := _, after := _, guard := none }) rfl (fun K9 hK9 => ?_) (AllReadyH.cons (o := { dst := some 9, op := Op.alloc 45, type := _, pos := _, after := _, guard := none }) rfl (fun K9 hK9 => ?_) (AllReadyH.cons (o := { dst := some 10, op := Op.alloc 38, type := _, pos := _, after := _, guard := none }) rfl (fun K9 hK9 => ?_) AllReadyH.nil))))
      · go_simp
        refine (HST.out X aW cW hS.bel h2).mono ?_
        rintro r Y ⟨a1, k1, a2, k2, a3, k3, a4, k4, a5, k5, rfl, hrw, hb⟩
        go_wp2_with fail
        refine hK9.out _ _ (hS.later hb) (fun _ => ?_)
        exact HE000 Y (hS.later hb) aW cW a1 k1 a2 k2 a3 k3 a4 k4 a5 k5 hrw
      · go_simp
        refine hK9.out _ _ (hS.later (below_alloc _ _)) (fun _ => ?_)
        exact H1100 _ (hS.later (below_alloc _ _)) X.heap.size (TrAt.zero X) hS.sz aW cW (h2.later (below_alloc _ _))
      · go_simp
        refine hK9.out _ _ (hS.later (below_alloc _ _)) (fun _ => ?_)
        exact H1010 _ (hS.later (below_alloc _ _)) X.heap.size (heap_alloc_last X _) hS.sz aW cW (h2.later (below_alloc _ _))
      · go_simp
        refine hK9.out _ _ (hS.later (below_alloc _ _)) (fun _ => ?_)
        exact H1001 _ (hS.later (below_alloc _ _)) X.heap.size (heap_alloc_last X _) hS.sz aW cW (h2.later (below_alloc _ _))
    have H0111 : ∀ X, PX w X s0 B C K D t #[.int .i64 e, .int .i64 f, .slice aL nL cL, .slice aJ nJ cJ] → ∀ N, TrAt X N (tz 0) → s0 ≤ N → ∀ G, RkAt X G rkz → s0 ≤ G → ∀ A, RcAt X A rz → s0 ≤ A → Gw 11 #[true, true, false, false, false, false, false, false, false, true, true, true, false, false, false, false] (((A0.put (some 8) (.pointer (some ⟨N, 0, none⟩))).put (some 9) (.pointer (some ⟨G, 0, none⟩))).put (some 10) (.pointer (some ⟨A, 0, none⟩))) X := by
      clear HT111 HT011 HT101 HT110 HT001 HT010 HT100 HT000 HE111 HE011 HE101 HE110 HE001 HE010 HE100 HE000 H1011 H1101 H1110 H1001 H1010 H1100 H1000
      intro X hS N h9 g9 G h10 g10 A h11 g11
      subst hGw
      subst hA0
      simp only [Act.put, List.setIfInBounds_toArray, List.set_cons_zero, List.set_cons_succ] at H1111 ⊢
      refine wpAnyH_ready (rs := [2]) (by kernel_rfl) (by simp) ?_
      refine (AllReadyH.cons (o := { dst := some 22, op := Op.call { callee := Callee.value (Operand.func 22), args := #[Operand.tmp 21], argTypes := _ }, type := _, pos := _, after := _, guard := none }) rfl (fun K9 hK9 => ?_) AllReadyH.nil)
      · go_simp
        refine (HBO.out X hS.bel).mono ?_
        rintro r Y ⟨vW, rfl, hrow, hb⟩
        obtain ⟨aW, cW, rfl⟩ := owns_slice hrow
        go_wp2_with fail
        refine hK9.out _ _ (hS.later hb) (fun _ => ?_)
        exact H1111 Y (hS.later hb) N (h9.later hb) g9 G (RkLater h10 hb) g10 A (h11.later hb) g11 aW cW (HJL.out _ _ _ ⟨_, hrow⟩)
    have H0011 : ∀ X, PX w X s0 B C K D t #[.int .i64 e, .int .i64 f, .slice aL nL cL, .slice aJ nJ cJ] → ∀ G, RkAt X G rkz → s0 ≤ G → ∀ A, RcAt X A rz → s0 ≤ A → Gw 12 #[true, true, false, false, false, false, false, false, false, false, true, true, false, false, false, false] ((A0.put (some 9) (.pointer (some ⟨G, 0, none⟩))).put (some 10) (.pointer (some ⟨A, 0, none⟩))) X := by
      clear HT111 HT011 HT101 HT110 HT001 HT010 HT100 HT000 HE111 HE011 HE101 HE110 HE001 HE010 HE100 HE000 H1111 H1101 H1110 H1001 H1010 H1100 H1000
      intro X hS G h10 g10 A h11 g11
      subst hGw
      subst hA0
      simp only [Act.put, List.setIfInBounds_toArray, List.set_cons_zero, List.set_cons_succ] at H0111 H1011 ⊢
      refine wpAnyH_ready (rs := [2, 9]) (by kernel_rfl) (by simp) ?_
      refine (AllReadyH.cons (o := { dst := some 22, op := Op.call { callee := Callee.value (Operand.func 22), args := #[Operand.tmp 21], argTypes := _ }, type := _, pos := _, after := _, guard := none }) rfl (fun K9 hK9 => ?_) (AllReadyH.cons (o := { dst := some 8, op := Op.alloc 31, type := _, pos := _, after := _, guard := none }) rfl (fun K9 hK9 => ?_) AllReadyH.nil))
      · go_simp
        refine (HBO.out X hS.bel).mono ?_
        rintro r Y ⟨vW, rfl, hrow, hb⟩
        obtain ⟨aW, cW, rfl⟩ := owns_slice hrow
        go_wp2_with fail
        refine hK9.out _ _ (hS.later hb) (fun _ => ?_)
        exact H1011 Y (hS.later hb) G (RkLater h10 hb) g10 A (h11.later hb) g11 aW cW (HJL.out _ _ _ ⟨_, hrow⟩)
      · go_simp
        refine hK9.out _ _ (hS.later (below_alloc _ _)) (fun _ => ?_)
        exact H0111 _ (hS.later (below_alloc _ _)) X.heap.size (TrAt.zero X) hS.sz G (RkLater h10 (below_alloc _ _)) g10 A (h11.later (below_alloc _ _)) g11
    have H0101 : ∀ X, PX w X s0 B C K D t #[.int .i64 e, .int .i64 f, .slice aL nL cL, .slice aJ nJ cJ] → ∀ N, TrAt X N (tz 0) → s0 ≤ N → ∀ A, RcAt X A rz → s0 ≤ A → Gw 12 #[true, true, false, false, false, false, false, false, false, true, false, true, false, false, false, false] ((A0.put (some 8) (.pointer (some ⟨N, 0, none⟩))).put (some 10) (.pointer (some ⟨A, 0, none⟩))) X := by
      clear HT111 HT011 HT101 HT110 HT001 HT010 HT100 HT000 HE111 HE011 HE101 HE110 HE001 HE010 HE100 HE000 H1111 H1011 H1110 H1001 H1010 H1100 H1000 H0011
      intro X hS N h9 g9 A h11 g11
      subst hGw
      subst hA0
      simp only [Act.put, List.setIfInBounds_toArray, List.set_cons_zero, List.set_cons_succ] at H0111 H1101 ⊢
      refine wpAnyH_ready (rs := [2, 10]) (by kernel_rfl) (by simp) ?_
      refine (AllReadyH.cons (o := { dst := some 22, op := Op.call { callee := Callee.value (Operand.func 22), args := #[Operand.tmp 21], argTypes := _ }, type := _, pos := _, after := _, guard := none }) rfl (fun K9 hK9 => ?_) (AllReadyH.cons (o := { dst := some 9, op := Op.alloc 45, type := _, pos := _, after := _, guard := none }) rfl (fun K9 hK9 => ?_) AllReadyH.nil))
      · go_simp
        refine (HBO.out X hS.bel).mono ?_
        rintro r Y ⟨vW, rfl, hrow, hb⟩
        obtain ⟨aW, cW, rfl⟩ := owns_slice hrow
        go_wp2_with fail
        refine hK9.out _ _ (hS.later hb) (fun _ => ?_)
        exact H1101 Y (hS.later hb) N (h9.later hb) g9 A (h11.later hb) g11 aW cW (HJL.out _ _ _ ⟨_, hrow⟩)
      · go_simp
        refine hK9.out _ _ (hS.later (below_alloc _ _)) (fun _ => ?_)
        exact H0111 _ (hS.later (below_alloc _ _)) N (h9.later (below_alloc _ _)) g9 X.heap.size (heap_alloc_last X _) hS.sz A (h11.later (below_alloc _ _)) g11
    have H0110 : ∀ X, PX w X s0 B C K D t #[.int .i64 e, .int .i64 f, .slice aL nL cL, .slice aJ nJ cJ] → ∀ N, TrAt X N (tz 0) → s0 ≤ N → ∀ G, RkAt X G rkz → s0 ≤ G → Gw 12 #[true, true, false, false, false, false, false, false, false, true, true, false, false, false, false, false] ((A0.put (some 8) (.pointer (some ⟨N, 0, none⟩))).put (some 9) (.pointer (some ⟨G, 0, none⟩))) X := by
      clear HT111 HT011 HT101 HT110 HT001 HT010 HT100 HT000 HE111 HE011 HE101 HE110 HE001 HE010 HE100 HE000 H1111 H1011 H1101 H1001 H1010 H1100 H1000 H0011 H0101
      intro X hS N h9 g9 G h10 g10
      subst hGw
      subst hA0
      simp only [Act.put, List.setIfInBounds_toArray, List.set_cons_zero, List.set_cons_succ] at H0111 H1110 ⊢
      refine wpAnyH_ready (rs := [2, 11]) (by kernel_rfl) (by simp) ?_
      refine (AllReadyH.cons (o := { dst := some 22, op := Op.call { callee := Callee.value (Operand.func 22), args := #[Operand.tmp 21], argTypes := _ }, type := _, pos := _, after := _, guard := none }) rfl (fun K9 hK9 => ?_) (AllReadyH.cons (o := { dst := some 10, op := Op.alloc 38, type := _, pos := _, after := _, guard := none }) rfl (fun K9 hK9 => ?_) AllReadyH.nil))
      · go_simp
        refine (HBO.out X hS.bel).mono ?_
        rintro r Y ⟨vW, rfl, hrow, hb⟩
        obtain ⟨aW, cW, rfl⟩ := owns_slice hrow
        go_wp2_with fail
        refine hK9.out _ _ (hS.later hb) (fun _ => ?_)
        exact H1110 Y (hS.later hb) N (h9.later hb) g9 G (RkLater h10 hb) g10 aW cW (HJL.out _ _ _ ⟨_, hrow⟩)
      · go_simp
        refine hK9.out _ _ (hS.later (below_alloc _ _)) (fun _ => ?_)
        exact H0111 _ (hS.later (below_alloc _ _)) N (h9.later (below_alloc _ _)) g9 G (RkLater h10 (below_alloc _ _)) g10 X.heap.size (heap_alloc_last X _) hS.sz
    have H0001 : ∀ X, PX w X s0 B C K D t #[.int .i64 e, .int .i64 f, .slice aL nL cL, .slice aJ nJ cJ] → ∀ A, RcAt X A rz → s0 ≤ A → Gw 13 #[true, true, false, false, false, false, false, false, false, false, false, true, false, false, false, false] (A0.put (some 10) (.pointer (some ⟨A, 0, none⟩))) X := by
      clear HT111 HT011 HT101 HT110 HT001 HT010 HT100 HT000 HE111 HE011 HE101 HE110 HE001 HE010 HE100 HE000 H1111 H1011 H1101 H1110 H1010 H1100 H1000 H0111 H0110
      intro X hS A h11 g11
      subst hGw
      subst hA0
      simp only [Act.put, List.setIfInBounds_toArray, List.set_cons_zero, List.set_cons_succ] at H0011 H0101 H1001 ⊢
      refine wpAnyH_ready (rs := [2, 9, 10]) (by kernel_rfl) (by simp) ?_
      refine (AllReadyH.cons (o := { dst := some 22, op := Op.call { callee := Callee.value (Operand.func 22), args := #[Operand.tmp 21], argTypes := _ }, type := _, pos := _, after := _, guard := none }) rfl (fun K9 hK9 => ?_) (AllReadyH.cons (o := { dst := some 8, op := Op.alloc 31, type := _, pos := _, after := _, guard := none }) rfl (fun K9 hK9 => ?_) (AllReadyH.cons (o := { dst := some 9, op := Op.alloc 45, type := _, pos := _, after := _, guard := none }) rfl (fun K9 hK9 => ?_) AllReadyH.nil)))
      · go_simp
        refine (HBO.out X hS.bel).mono ?_
        rintro r Y ⟨vW, rfl, hrow, hb⟩
        obtain ⟨aW, cW, rfl⟩ := owns_slice hrow
        go_wp2_with fail
        refine hK9.out _ _ (hS.later hb) (fun _ => ?_)
        exact H1001 Y (hS.later hb) A (h11.later hb) g11 aW cW (HJL.out _ _ _ ⟨_, hrow⟩)
      · go_simp
        refine hK9.out _ _ (hS.later (below_alloc _ _)) (fun _ => ?_)
        exact H0101 _ (hS.later (below_alloc _ _)) X.heap.size (TrAt.zero X) hS.sz A (h11.later (below_alloc _ _)) g11
      · go_simp
        refine hK9.out _ _ (hS.later (below_alloc _ _)) (fun _ => ?_)
        exact H0011 _ (hS.later (below_alloc _ _)) X.heap.size (heap_alloc_last X _) hS.sz A (h11.later (below_alloc _ _)) g11
    have H0010 : ∀ X, PX w X s0 B C K D t #[.int .i64 e, .int .i64 f, .slice aL nL cL, .slice aJ nJ cJ] → ∀ G, RkAt X G rkz → s0 ≤ G → Gw 13 #[true, true, false, false, false, false, false, false, false, false, true, false, false, false, false, false] (A0.put (some 9) (.pointer (some ⟨G, 0, none⟩))) X := by
      clear HT111 HT011 HT101 HT110 HT001 HT010 HT100 HT000 HE111 HE011 HE101 HE110 HE001 HE010 HE100 HE000 H1111 H1011 H1101 H1110 H1001 H1100 H1000 H0111 H0101 H0001
      intro X hS G h10 g10
      subst hGw
      subst hA0
      simp only [Act.put, List.setIfInBounds_toArray, List.set_cons_zero, List.set_cons_succ] at H0011 H0110 H1010 ⊢
      refine wpAnyH_ready (rs := [2, 9, 11]) (by kernel_rfl) (by simp) ?_
      refine (AllReadyH.cons (o := { dst := some 22, op := Op.call { callee := Callee.value (Operand.func 22), args := #[Operand.tmp 21], argTypes := _ }, type := _, pos := _, after := _, guard := none }) rfl (fun K9 hK9 => ?_) (AllReadyH.cons (o := { dst := some 8, op := Op.alloc 31, type := _, pos := _, after := _, guard := none }) rfl (fun K9 hK9 => ?_) (AllReadyH.cons (o := { dst := some 10, op := Op.alloc 38, type := _, pos := _, after := _, guard := none }) rfl (fun K9 hK9 => ?_) AllReadyH.nil)))
      · go_simp
        refine (HBO.out X hS.bel).mono ?_
        rintro r Y ⟨vW, rfl, hrow, hb⟩
        obtain ⟨aW, cW, rfl⟩ := owns_slice hrow
        go_wp2_with fail
        refine hK9.out _ _ (hS.later hb) (fun _ => ?_)
        exact H1010 Y (hS.later hb) G (RkLater h10 hb) g10 aW cW (HJL.out _ _ _ ⟨_, hrow⟩)
      · go_simp
        refine hK9.out _ _ (hS.later (below_alloc _ _)) (fun _ => ?_)
        exact H0110 _ (hS.later (below_alloc _ _)) X.heap.size (TrAt.zero X) hS.sz G (RkLater h10 (below_alloc _ _)) g10
      · go_simp
        refine hK9.out _ _ (hS.later (below_alloc _ _)) (fun _ => ?_)
        exact H0011 _ (hS.later (below_alloc _ _)) G (RkLater h10 (below_alloc _ _)) g10 X.heap.size (heap_alloc_last X _) hS.sz
    have H0100 : ∀ X, PX w X s0 B C K D t #[.int .i64 e, .int .i64 f, .slice aL nL cL, .slice aJ nJ cJ] → ∀ N, TrAt X N (tz 0) → s0 ≤ N → Gw 13 #[true, true, false, false, false, false, false, false, false, true, false, false, false, false, false, false] (A0.put (some 8) (.pointer (some ⟨N, 0, none⟩))) X := by
      clear HT111 HT011 HT101 HT110 HT001 HT010 HT100 HT000 HE111 HE011 HE101 HE110 HE001 HE010 HE100 HE000 H1111 H1011 H1101 H1110 H1001 H1010 H1000 H0111 H0011 H0001 H0010
      intro X hS N h9 g9
      subst hGw
      subst hA0
      simp only [Act.put, List.setIfInBounds_toArray, List.set_cons_zero, List.set_cons_succ] at H0101 H0110 H1100 ⊢
      refine wpAnyH_ready (rs := [2, 10, 11]) (by kernel_rfl) (by simp) ?_
      refine (AllReadyH.cons (o := { dst := some 22, op := Op.call { callee := Callee.value (Operand.func 22), args := #[Operand.tmp 21], argTypes := _ }, type := _, pos := _, after := _, guard := none }) rfl (fun K9 hK9 => ?_) (AllReadyH.cons (o := { dst := some 9, op := Op.alloc 45, type := _, pos := _, after := _, guard := none }) rfl (fun K9 hK9 => ?_) (AllReadyH.cons (o := { dst := some 10, op := Op.alloc 38, type := _, pos := _, after := _, guard := none }) rfl (fun K9 hK9 => ?_) AllReadyH.nil)))
      · go_simp
        refine (HBO.out X hS.bel).mono ?_
        rintro r Y ⟨vW, rfl, hrow, hb⟩
        obtain ⟨aW, cW, rfl⟩ := owns_slice hrow
        go_wp2_with fail
        refine hK9.out _ _ (hS.later hb) (fun _ => ?_)
        exact H1100 Y (hS.later hb) N (h9.later hb) g9 aW cW (HJL.out _ _ _ ⟨_, hrow⟩)
      · go_simp
        refine hK9.out _ _ (hS.later (below_alloc _ _)) (fun _ => ?_)
        exact H0110 _ (hS.later (below_alloc _ _)) N (h9.later (below_alloc _ _)) g9 X.heap.size (heap_alloc_last X _) hS.sz
      · go_simp
        refine hK9.out _ _ (hS.later (below_alloc _ _)) (fun _ => ?_)
        exact H0101 _ (hS.later (below_alloc _ _)) N (h9.later (below_alloc _ _)) g9 X.heap.size (heap_alloc_last X _) hS.sz
    have H0000 : ∀ X, PX w X s0 B C K D t #[.int .i64 e, .int .i64 f, .slice aL nL cL, .slice aJ nJ cJ] → Gw 14 #[true, true, false, false, false, false, false, false, false, false, false, false, false, false, false, false] A0 X := by
      clear HT111 HT011 HT101 HT110 HT001 HT010 HT100 HT000 HE111 HE011 HE101 HE110 HE001 HE010 HE100 HE000 H1111 H1011 H1101 H1110 H1001 H1010 H1100 H0111 H0011 H0101 H0110
      intro X hS
      subst hGw
      subst hA0
      simp only [Act.put, List.setIfInBounds_toArray, List.set_cons_zero, List.set_cons_succ] at H0001 H0010 H0100 H1000 ⊢
      refine wpAnyH_ready (rs := [2, 9, 10, 11]) (by kernel_rfl) (by simp) ?_
      refine (AllReadyH.cons (o := { dst := some 22, op := Op.call { callee := Callee.value (Operand.func 22), args := #[Operand.tmp 21], argTypes := _ }, type := _, pos := _, after := _, guard := none }) rfl (fun K9 hK9 => ?_) (AllReadyH.cons (o := { dst := some 8, op := Op.alloc 31, type := _, pos := _, after := _, guard := none }) rfl (fun K9 hK9 => ?_) (AllReadyH.cons (o := { dst := some 9, op := Op.alloc 45, type := _, pos := _, after := _, guard := none }) rfl (fun K9 hK9 => ?_) (AllReadyH.cons (o := { dst := some 10, op := Op.alloc 38, type := _, pos := _, after := _, guard := none }) rfl (fun K9 hK9 => ?_) AllReadyH.nil))))
      · go_simp
        refine (HBO.out X hS.bel).mono ?_
        rintro r Y ⟨vW, rfl, hrow, hb⟩
        obtain ⟨aW, cW, rfl⟩ := owns_slice hrow
        go_wp2_with fail
        refine hK9.out _ _ (hS.later hb) (fun _ => ?_)
        exact H1000 Y (hS.later hb) aW cW (HJL.out _ _ _ ⟨_, hrow⟩)
      · go_simp
        refine hK9.out _ _ (hS.later (below_alloc _ _)) (fun _ => ?_)
        exact H0100 _ (hS.later (below_alloc _ _)) X.heap.size (TrAt.zero X) hS.sz
      · go_simp
        refine hK9.out _ _ (hS.later (below_alloc _ _)) (fun _ => ?_)
        exact H0010 _ (hS.later (below_alloc _ _)) X.heap.size (heap_alloc_last X _) hS.sz
      · go_simp
        refine hK9.out _ _ (hS.later (below_alloc _ _)) (fun _ => ?_)
        exact H0001 _ (hS.later (below_alloc _ _)) X.heap.size (heap_alloc_last X _) hS.sz
    exact H0000 X0 hS0
end Go.Proofs.YteocfmimgoocnaaGreatDoor.Rc
