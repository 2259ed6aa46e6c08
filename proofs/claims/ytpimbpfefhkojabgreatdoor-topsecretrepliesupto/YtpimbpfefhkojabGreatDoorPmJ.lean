/- PmD, PmE, PmF, PmG, joined. -/
import Derived.Test.YtpimbpfefhkojabGreatDoorPmJ2
import Derived.Test.YtpimbpfefhkojabGreatDoorPlJ5
import Derived.Test.YtpimbpfefhkojabGreatDoorPlJ3
namespace Go.Proofs.YtpimbpfefhkojabGreatDoor
open Go.RowKit Go.Maps
open Rt (Ky zK KyAt)
open Rs (En zE rcs tkn fnd RdS RdI ps Tb own_other own_ge owns_later owns_slice below_grown evl)
set_option linter.unusedVariables false
set_option linter.unusedSimpArgs false

theorem rkl_get : ∀ (ms : List (Array Value)) (i k : Nat), (∀ j, j < ms.length → (ms.getD j #[]).size = 4) → i < ms.length → k < 4 → (rkl ms)[i * 4 + k]? = (ms.getD i #[])[k]?
  | [], i, k, _, hi, _ => by cases hi
  | x :: l, 0, k, hs, _, hk => by
    have h0 := hs 0 (by simp)
    have e : rkl (x :: l) = x.toList ++ rkl l := rfl
    have hx : x.size = 4 := h0
    rw [e, Nat.zero_mul, Nat.zero_add, List.getElem?_append_left (by rw [Array.length_toList, hx]; exact hk)]
    simp
  | x :: l, i + 1, k, hs, hi, hk => by
    have h0 := hs 0 (by simp)
    have hx : x.size = 4 := h0
    have e : rkl (x :: l) = x.toList ++ rkl l := rfl
    rw [e, List.getElem?_append_right (by rw [Array.length_toList, hx]; omega), Array.length_toList, hx, show (i + 1) * 4 + k - 4 = i * 4 + k by omega, rkl_get l i k (fun j hj => hs (j + 1) (by simpa using hj)) (by simpa using hi) hk]
    rfl
section
variable {w W W' : World} {vr vs v' : Value} {ts : List Tr} {bs : List (List Int × List Int)} {ms : List (Array Value)}
theorem SS.msg {ax : Option Addr} {cs : Nat} (h : SS w W vr (.slice ax ms.length cs) ts bs ms) {i : Nat} (hi : i < ms.length) : ∃ g p a1 a2 a3 n1 n2 k1 k2 k3, ax = some ⟨g, 0, none⟩ ∧ W.cell? ⟨g, i * 4, none⟩ = some (.int .i64 p) ∧ W.cell? ⟨g, i * 4 + 1, none⟩ = some (.slice a1 n1 k1) ∧ W.cell? ⟨g, i * 4 + 2, none⟩ = some (.slice a2 n2 k2) ∧ W.cell? ⟨g, i * 4 + 3, none⟩ = some (.slice a3 (itB ts bs i).length k3) ∧ W.ownsRow w.heap.size 57 6 (.slice a3 (itB ts bs i).length k3) (itB ts bs i).length (isl (itB ts bs i)) := by
  obtain ⟨p, a1, a2, a3, n1, n2, k1, k2, k3, e, hr⟩ := h.it i hi
  have hsz : ∀ j, j < ms.length → (ms.getD j #[]).size = 4 := fun j hj => by
    obtain ⟨p, a1, a2, a3, n1, n2, k1, k2, k3, e, _⟩ := h.it j hj
    rw [e]
    rfl
  rcases h.rs.2 with ⟨_, h0⟩ | ⟨g, cap', cur, e2, h3, h4, h5, h6, h7, h8⟩
  · omega
  · simp at e2
    obtain ⟨rfl, rfl⟩ := e2
    have cell : ∀ k v, k < 4 → (ms.getD i #[])[k]? = some v → W.cell? ⟨g, i * 4 + k, none⟩ = some v := fun k v hk hv => by
      rw [cell_of_row W g _ _ _ _ h4, ← hv, ← rkl_get ms i k hsz hi hk, ← h8, List.getElem?_take_of_lt (by omega)]
      simp
    refine ⟨g, p, a1, a2, a3, n1, n2, k1, k2, k3, rfl, cell 0 _ (by omega) ?_, cell 1 _ (by omega) ?_, cell 2 _ (by omega) ?_, cell 3 _ (by omega) ?_, hr⟩
    all_goals rw [e]; rfl
theorem SS.grown (h : SS w W vr vs ts bs ms) {e : TypeId} {sz n : Nat} {v : Value} {xs : List Value} (row : W.ownsRow w.heap.size e sz v n xs) (hg : W.grownBy W' v.ownBlock) (h1 : e ≠ 47) (h2 : e ≠ 55) (h3 : e ≠ 57) : SS w W' vr vs ts bs ms :=
  ⟨below_grown h.bel hg h.bel.size (fun j hj => (own_ge row hj).1), own_other h.rr fun g hgj => hg.block g (own_ge h.rr hgj).2 (fun e => own_ne2 row h.rr h1 hgj e.symm), own_other h.rs fun g hgj => hg.block g (own_ge h.rs hgj).2 (fun e => own_ne2 row h.rs h2 hgj e.symm), fun i hi => (h.it i hi).grown row hg h3, h.ml⟩
end
theorem itB_short {ts : List Tr} {bs : List (List Int × List Int)} (h : RowB ts bs) {i : Nat} (hi : i < bs.length) : (itB ts bs i).length ≤ 4096 := by
  have h0 := h.ze i hi
  have h1 := pnI_short (ts.getD i (tz 0)) (bs.getD i ([], [])).1 (bs.getD i ([], [])).2
  unfold pnI at h1
  rw [if_pos h0] at h1
  exact h1
theorem live12 : plE stT [] [1, 2] = 0 ∧ (its (nx stT [] [1, 2]) (plR stT []) (jns stT [] [1, 2])).length = 6 := by decide +kernel
theorem live12_run : runS [([], [1, 2])] = ([stT, nx stT [] [1, 2]], [([], [1, 2])]) := by
  show run1 ([stT], []) ([], [1, 2]) = _
  unfold run1
  have e : lastT ([stT], ([] : List (List Int × List Int))).1 = stT := rfl
  rw [e, if_pos live12.1]
  rfl
open Rt (Ky zK)
open Rs (En zE tkn fnd)
open Sh (belB lef)

def Tf (ts : List Tr) (i : Nat) : Tr := ts.getD i (tz 0)
def Lf (bs : List (List Int × List Int)) (i : Nat) : List Int := (bs.getD i ([], [])).1
def Jf (bs : List (List Int × List Int)) (i : Nat) : List Int := (bs.getD i ([], [])).2
def bxs (ts : List Tr) (bs : List (List Int × List Int)) (k : Nat) : List It := (List.range k).flatMap (itB ts bs)
theorem bxs_succ (ts : List Tr) (bs : List (List Int × List Int)) (k : Nat) : bxs ts bs (k + 1) = bxs ts bs k ++ itB ts bs k := by
  unfold bxs
  rw [List.range_succ, List.flatMap_append]
  simp
theorem mem_bxs {ts : List Tr} {bs : List (List Int × List Int)} {k : Nat} {x : It} : x ∈ bxs ts bs k ↔ ∃ i, i < k ∧ x ∈ itB ts bs i := by
  unfold bxs
  rw [List.mem_flatMap]
  simp
section
variable {ts : List Tr} {bs : List (List Int × List Int)}
theorem RowB.row' (h : RowB ts bs) : Row (Tf ts) (Lf bs) (Jf bs) bs.length := h.row
theorem bxs_len (h : RowB ts bs) : ∀ k, k ≤ bs.length → (bxs ts bs k).length ≤ k * 4096
  | 0, _ => by simp [bxs]
  | k + 1, hk => by
    have ih := bxs_len h k (by omega)
    have h1 := itB_short h (i := k) (by omega)
    rw [bxs_succ, List.length_append]
    omega
theorem onB_on {x : Int × Int} {e : Nat} (hb : onB ts x.1 x.2 (e : Int) = true) : ∃ g : Nat, On (Tf ts) x g e := by
  unfold onB at hb
  rw [Bool.and_eq_true, Bool.and_eq_true, Bool.and_eq_true, Bool.not_eq_true', Bool.not_eq_true', Bool.not_eq_true'] at hb
  obtain ⟨h1, h2, h3, h4⟩ := hb
  have h1 := of_decide_eq_false h1
  have h3 := of_decide_eq_false h3
  obtain ⟨g, hg⟩ : ∃ g : Nat, x.2 = (g : Int) := ⟨x.2.toNat, by omega⟩
  refine ⟨g, hg, by omega, fun i i1 i2 => ?_⟩
  unfold onT at h4
  rw [List.all_eq_true] at h4
  have := h4 (i - g) (List.mem_range.2 (by omega))
  have := of_decide_eq_true this
  rw [show x.2.toNat + (i - g) = i by omega] at this
  show fnd (ts.getD i (tz 0)).ro x.1 ≠ -1
  omega
theorem on_onB {x : Int × Int} {e g : Nat} (he : e < ts.length) (h : On (Tf ts) x g e) : onB ts x.1 x.2 (e : Int) = true := by
  have hg := h.at'
  have hle := h.le
  unfold onB
  rw [decide_eq_false (by omega), decide_eq_false (by omega), decide_eq_false (by omega), Bool.not_false, Bool.true_and, Bool.true_and, Bool.true_and]
  refine onT_yes fun i hi => ?_
  have := h.on (x.2.toNat + i) (by omega) (by omega)
  rcases fnd_at (ts.getD (x.2.toNat + i) (tz 0)).ro x.1 with hf | ⟨s, hs, hf, _⟩
  · exact absurd hf this
  · rw [hf]; omega
theorem excB_exc {met : List (Int × Int)} {e c : Nat} (hb : excB ts met (e : Int) (c : Int) = true) : Exc (Tf ts) met e c := by
  unfold excB at hb
  rw [List.any_eq_true] at hb
  obtain ⟨x, hx, h1⟩ := hb
  unfold exc1 at h1
  rw [Bool.and_eq_true, Int.toNat_natCast] at h1
  obtain ⟨g, hon⟩ := onB_on h1.1
  rcases fnd_at (Tf ts e).ro x.1 with hf | ⟨s, hs, hf, _⟩
  · exact absurd hf (hon.on e hon.le (Nat.le_refl _))
  · refine ⟨x, hx, g, s, hon, hs, hf, ?_⟩
    have h2 := h1.2
    have hf' : fnd (ts.getD e (tz 0)).ro x.1 = (s : Int) := hf
    rw [hf'] at h2
    unfold Sh.lef at h2
    rw [if_pos ⟨by omega, by omega⟩] at h2
    exact h2
theorem exc_excB {met : List (Int × Int)} {e c : Nat} (he : e < ts.length) (hx : Exc (Tf ts) met e c) : excB ts met (e : Int) (c : Int) = true := by
  obtain ⟨x, hx, g, s, hon, hs, hf, hbl⟩ := hx
  unfold excB
  rw [List.any_eq_true]
  refine ⟨x, hx, ?_⟩
  unfold exc1
  have hf' : fnd (ts.getD e (tz 0)).ro x.1 = (s : Int) := hf
  rw [on_onB he hon, Bool.true_and, Int.toNat_natCast, hf']
  unfold Sh.lef
  rw [if_pos ⟨by omega, by omega⟩]
  exact hbl
/- Who was opened where it stood. -/
theorem inE_at {x : Int × Int} (h : inE ts x = true) : ∃ g s : Nat, x.2 = (g : Int) ∧ g < ts.length ∧ s < 64 ∧ fnd (Tf ts g).ro x.1 = (s : Int) ∧ tkn ((Tf ts g).ro s) = true ∧ opK ts x = [kpr (koK (Tf ts g) ((21 + s : Nat) : Int)), kpr ((Tf ts g).ks (pn s 0)), kpr ((Tf ts g).ks (pn s 1)), kpr ((Tf ts g).ks (pn s 2))] := by
  have h0 := h
  unfold inE at h
  rw [Bool.and_eq_true, Bool.and_eq_true, Bool.not_eq_true', Bool.not_eq_true'] at h
  obtain ⟨h1, h2, h3⟩ := h
  have h1 := of_decide_eq_false h1
  have h2 := of_decide_eq_false h2
  have h3 := of_decide_eq_true h3
  obtain ⟨g, hg⟩ : ∃ g : Nat, x.2 = (g : Int) := ⟨x.2.toNat, by omega⟩
  have eg : x.2.toNat = g := by omega
  rw [eg] at h3
  have h4 := h3
  unfold caE at h4
  have hk : tck (ts.getD g (tz 0)) = true := by
    cases hk : tck (ts.getD g (tz 0)) with
    | true => rfl
    | false => rw [hk] at h4; cases h4
  rcases fnd_at (ts.getD g (tz 0)).ro x.1 with hf | ⟨s, hs, hf, ht, _⟩
  · rw [caE_off hk hf] at h3; cases h3
  · refine ⟨g, s, hg, by omega, hs, hf, ht, ?_⟩
    unfold opK
    rw [if_pos h0, eg]
    unfold caK caQ Tf
    rw [if_pos h3, if_pos h3, if_pos h3, if_pos h3, hf, Int.toNat_natCast, show ((21 + s : Nat) : Int) = 21 + (s : Int) by push_cast; rfl]
theorem mem_opM {seen : List (Int × Int)} {x : Int × Int} : x ∈ seen.flatMap (opM ts) ↔ x ∈ seen ∧ inE ts x = true := by
  rw [List.mem_flatMap]
  constructor
  · rintro ⟨y, hy, h⟩
    unfold opM at h
    split at h
    · rename_i hc
      simp at h
      subst h
      exact ⟨hy, hc⟩
    · cases h
  · rintro ⟨h1, h2⟩
    exact ⟨x, h1, by unfold opM; rw [if_pos h2]; simp⟩
theorem mem_opK {seen : List (Int × Int)} {k : Int × Int} (h : k ∈ seen.flatMap (opK ts)) : ∃ x ∈ seen, inE ts x = true ∧ k ∈ opK ts x := by
  rw [List.mem_flatMap] at h
  obtain ⟨x, hx, hk⟩ := h
  refine ⟨x, hx, ?_, hk⟩
  cases hc : inE ts x with
  | true => rfl
  | false => unfold opK at hk; rw [hc] at hk; cases hk
theorem opK_wi (h : RowB ts bs) {seen : List (Int × Int)} : ∀ k ∈ seen.flatMap (opK ts), Wi k.1 ∧ Wi k.2 := fun k hk => by
  obtain ⟨x, hx, hin, hk⟩ := mem_opK hk
  obtain ⟨g, s, hg, hgl, hs, hf, ht, e⟩ := inE_at hin
  have hlen := h.len
  have hok := h.row'.ok g (by omega)
  rw [e] at hk
  simp only [List.mem_cons, List.not_mem_nil, or_false] at hk
  have hks : ∀ i, Wi (kpr ((Tf ts g).ks (pn s i))).1 ∧ Wi (kpr ((Tf ts g).ks (pn s i))).2 := fun i => wi_gd (ks_gd hok (pn_lt hs i))
  rcases hk with rfl | rfl | rfl | rfl
  · obtain ⟨k0, _⟩ := koK_leaf hok hs ht
    have := wi_gd (ko_gd hok (c := 21 + s) (by omega) k0)
    rw [kyA_ko hok (by omega) k0] at this
    exact this
  · exact hks 0
  · exact hks 1
  · exact hks 2
theorem bxs_wi (h : RowB ts bs) : ∀ x ∈ bxs ts bs bs.length, Wi x.un.bas ∧ Wi x.ld.bas ∧ Wi x.ld.stp := fun x hx => by
  obtain ⟨i, hi, hx⟩ := mem_bxs.1 hx
  exact its_wi (h.stp i hi).1 x hx
theorem row_wi (h : RowB ts bs) : ∀ e v, e < ts.length → v < 21 → Wi ((ts.getD e (tz 0)).ks v).bas := fun e v he hv => by
  have hlen := h.len
  exact (wi_gd (ks_gd (h.row'.ok e (by omega)) hv)).1
/- The other way: what is excused follows. -/
theorem given (h : RowB ts bs) {seen : List (Int × Int)} {H : Int → Option Int} (hc : Clos (seen.flatMap (opK ts)) (bxs ts bs bs.length) H) : ∀ e v : Nat, e < ts.length → v < 21 → excB ts (seen.flatMap (opM ts)) (e : Int) (v : Int) = true → le1 H ((ts.getD e (tz 0)).ks v).bas ((ts.getD e (tz 0)).ks v).stp = true := fun e v he hv hx => by
  have hlen := h.len
  have hrow := h.row'
  have hg : Gives (Tf ts) (Lf bs) (Jf bs) bs.length (fun b s => le1 H b s = true) := ⟨fun b s s' h1 h2 => by
    obtain ⟨u, hu, hus⟩ := le1_iff.1 h1
    exact le1_iff.2 ⟨u, hu, by omega⟩, fun e he x hx hk => hc.shut x (mem_bxs.2 ⟨e, he, hx⟩) hk⟩
  refine gives_exc hrow hg (fun x hx g hxg hgl s hs hf => ?_) (e := e) (by omega) hv (excB_exc hx)
  obtain ⟨hxs, hin⟩ := mem_opM.1 hx
  obtain ⟨g', s', hg', hgl', hs', hf', ht', ek⟩ := inE_at hin
  obtain rfl : g = g' := by omega
  obtain rfl : s = s' := by rw [hf] at hf'; omega
  have hok := hrow.ok g hgl
  have key : ∀ k ∈ opK ts x, le1 H k.1 k.2 = true := fun k hk => hc.has k (List.mem_flatMap.2 ⟨x, hxs, hk⟩)
  rw [ek] at key
  refine ⟨?_, fun i hi => ?_⟩
  · obtain ⟨k0, _⟩ := koK_leaf hok hs ht'
    rw [kyA_ko hok (by omega) k0]
    exact key (kpr (koK (Tf ts g) ((21 + s : Nat) : Int))) (by simp)
  · have : i = 0 ∨ i = 1 ∨ i = 2 := by omega
    rcases this with rfl | rfl | rfl
    · exact key (kpr ((Tf ts g).ks (pn s 0))) (by simp)
    · exact key (kpr ((Tf ts g).ks (pn s 1))) (by simp)
    · exact key (kpr ((Tf ts g).ks (pn s 2))) (by simp)
end
set_option maxRecDepth 100000 in
set_option maxHeartbeats 1000000 in
theorem lives12_any (w : World) (hTb : Tb w) : Calls Tryz.prog 4 #[] w fun e w' => e = .returned (.bool true) ∧ Below w.heap.size w w' := by
  have hst : Calls Tryz.prog 5 #[.slice (some ⟨w.heap.size + 1, 0, none⟩) 1 1] ((w.alloc (.cells #[.int .i64 1, .int .i64 2] 3)).alloc (.cells #[.slice none 0 0, .slice (some ⟨w.heap.size, 0, none⟩) 2 2] 66)) fun e w' => StepsP ((w.alloc (.cells #[.int .i64 1, .int .i64 2] 3)).alloc (.cells #[.slice none 0 0, .slice (some ⟨w.heap.size, 0, none⟩) 2 2] 66)) w' [([], [1, 2])] e := by
    have b1 := below_alloc w (.cells #[.int .i64 1, .int .i64 2] 3)
    have b2 := below_alloc (w.alloc (.cells #[.int .i64 1, .int .i64 2] 3)) (.cells #[.slice none 0 0, .slice (some ⟨w.heap.size, 0, none⟩) 2 2] 66)
    have c1 : (w.alloc (.cells #[.int .i64 1, .int .i64 2] 3)).heap[w.heap.size]? = some (.cells #[.int .i64 1, .int .i64 2] 3 (0, 0)) := heap_alloc_last w _
    have c2 := heap_alloc_last (w.alloc (.cells #[.int .i64 1, .int .i64 2] 3)) (.cells #[.slice none 0 0, .slice (some ⟨w.heap.size, 0, none⟩) 2 2] 66)
    have c3 := (b2.block w.heap.size (Array.getElem?_eq_some_iff.1 c1).1).trans c1
    rw [World.size_alloc] at c2
    refine steps_any (some ⟨w.heap.size + 1, 0, none⟩) 1 [([], [1, 2])] _ ((hTb.later b1).later b2) (by simp) (fun i hi => ?_) (fun i hi => ?_)
    · obtain rfl : i = 0 := by simp at hi; omega
      simp
    · obtain rfl : i = 0 := by simp at hi; omega
      refine ⟨w.heap.size + 1, 0, none, 0, some ⟨w.heap.size, 0, none⟩, 2, rfl, (cell_of_row _ _ _ _ _ _ c2).trans rfl, (cell_of_row _ _ _ _ _ _ c2).trans rfl, fun j hj => (by cases hj), fun j hj => ?_⟩
      have : j = 0 ∨ j = 1 := by simp at hj; omega
      rcases this with rfl | rfl
      · exact ⟨_, _, rfl, (cell_of_row _ _ _ _ _ _ c3).trans rfl⟩
      · exact ⟨_, _, rfl, (cell_of_row _ _ _ _ _ _ c3).trans rfl⟩
  have HB0 : Hid (Below w.heap.size w ((w.alloc (.cells #[.int .i64 1, .int .i64 2] 3)).alloc (.cells #[.slice none 0 0, .slice (some ⟨w.heap.size, 0, none⟩) 2 2] 66))) := (below_alloc _ _).trans ((below_alloc _ _).mono (below_alloc _ _).size)
  go_enter Tryz.func4, Tryz.ntmps4
  go_wp2_with fail
  refine hst.mono ?_
  rintro e w3 ⟨vr, vs, ms, rfl, hss⟩
  rw [live12_run] at hss
  have hml := hss.ml
  obtain ⟨ar, cr, rfl⟩ := owns_slice hss.rr
  obtain ⟨ax, cs, rfl⟩ := owns_slice hss.rs
  obtain ⟨g, p, a1, a2, a3, n1, n2, k1, k2, k3, rfl, x0, x1, x2, x3, hrow⟩ := hss.msg (i := 0) (by rw [hml]; simp)
  have e6 : (itB [stT, nx stT [] [1, 2] ] [([], [1, 2])] 0).length = 6 := live12.2
  rw [e6] at x3
  have HB3 : Hid (Below w.heap.size w w3) := HB0.out.trans (hss.bel.mono HB0.out.size)
  have e1 : ms.length = 1 := hml
  have e2 : [stT, nx stT [] [1, 2] ].length = 2 := rfl
  rw [e1, e2]
  clear hss hst HB0 hml hrow e6
  go_wp2_with fail
  go_ret
  exact ⟨rfl, HB3.out⟩
structure GBx (w W : World) (vr vs vb : Value) (ts : List Tr) (bs : List (List Int × List Int)) (ms : List (Array Value)) (bx : List It) : Prop where
  ss : SS w W vr vs ts bs ms
  rb : W.ownsRow w.heap.size 33 4 vb bx.length (bsl bx)
section
variable {w W W' : World} {vr vs vb v' : Value} {ts : List Tr} {bs : List (List Int × List Int)} {ms : List (Array Value)} {bx : List It}
theorem GBx.later (h : GBx w W vr vs vb ts bs ms bx) (hb : Below W.heap.size W W') : GBx w W' vr vs vb ts bs ms bx := ⟨h.ss.later hb, owns_later h.rb hb⟩
theorem GBx.app (h : GBx w W vr vs vb ts bs ms bx) {x : It} (hown : W'.ownsRow w.heap.size 33 4 v' (bx.length + 1) (bsl bx ++ bcs x)) (hg : W.grownBy W' vb.ownBlock) : GBx w W' vr vs v' ts bs ms (bx ++ [x]) := by
  refine ⟨h.ss.grown h.rb hg (by decide) (by decide) (by decide), ?_⟩
  rw [bsl_snoc, List.length_append]
  exact hown
theorem GBx.item (h : GBx w W vr vs vb ts bs ms bx) (hg : W.grownBy W' vb.ownBlock) {v : Value} {n : Nat} {xs : List Value} {b : Nat} (hi : W.ownsRow b 57 6 v n xs) : W'.ownsRow b 57 6 v n xs :=
  own_other hi fun g hgj => hg.block g (own_ge hi hgj).2 (fun e => own_ne2 h.rb hi (by decide) hgj e.symm)
end
theorem info_bx : ∃ i, Tryz.prog.info? 33 = some i ∧ i.zero = some (.agg #[.int .i64 0, .int .i64 0, .int .i64 0, .int .i64 0]) ∧ i.size = 4 ∧ i.bytes = 32 := by
  have h : (Tryz.prog.info? 33).map (fun i => (i.zero, i.size, i.bytes)) = some (some (.agg #[.int .i64 0, .int .i64 0, .int .i64 0, .int .i64 0]), 4, 32) := by kernel_rfl
  cases hq : Tryz.prog.info? 33 with
  | none => rw [hq] at h; cases h
  | some i =>
    rw [hq] at h
    simp at h
    exact ⟨i, rfl, h.1, h.2.1, h.2.2⟩
theorem take_it {l : List It} {k : Nat} (h : k < l.length) : l.take (k + 1) = l.take k ++ [l.getD k ⟨0, 0, zK, zK⟩] := by
  rw [List.take_add_one, List.getD_eq_getElem?_getD, List.getElem?_eq_getElem h]
  rfl
end Go.Proofs.YtpimbpfefhkojabGreatDoor
