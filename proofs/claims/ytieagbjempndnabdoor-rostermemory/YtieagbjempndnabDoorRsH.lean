/- Contracts: evict, admit. -/
import Derived.Test.YtieagbjempndnabDoorRsG
import Derived.Test.YtieagbjempndnabDoorStF
namespace Go.Proofs.YtieagbjempndnabDoor
open Go.RowKit Go.Maps
set_option linter.unusedVariables false
set_option linter.unusedSimpArgs false

/- What stands while a roster is written and seats are gathered. -/
structure EV (w W : World) (g : Nat → En) (v : Value) (l : List (Int × Int)) : Prop where
  ro : RoAt W w.heap.size g
  ze : RoAt W (w.heap.size + 1) (fun _ => zE)
  bel : Below w.heap.size w W
  row : W.ownsRow (w.heap.size + 2) 38 2 v l.length (ps l)
theorem EV.size {w W : World} {g : Nat → En} {v : Value} {l : List (Int × Int)} (h : EV w W g v l) : w.heap.size + 2 ≤ W.heap.size := h.ze.lt
theorem EV.later {w W W' : World} {g : Nat → En} {v : Value} {l : List (Int × Int)} (h : EV w W g v l) (hb : Below W.heap.size W W') : EV w W' g v l :=
  ⟨h.ro.later hb, h.ze.later hb, h.bel.trans (hb.mono h.bel.size), owns_later h.row hb⟩
theorem row_far {W : World} {b : Nat} {e : TypeId} {sz : Nat} {v : Value} {n : Nat} {xs : List Value} (h : W.ownsRow b e sz v n xs) {k : Nat} (hk : k < b) : some k ≠ v.ownBlock := by
  intro he
  rcases h.2 with ⟨rfl, _⟩ | ⟨g, cap, cur, rfl, h3, _⟩
  · simp [Value.ownBlock] at he
  · simp [Value.ownBlock] at he
    omega
theorem EV.app {w W W1 : World} {g : Nat → En} {v v' : Value} {l : List (Int × Int)} {o : Obj} {p : Int × Int} (h : EV w W g v l) (hown : W1.ownsRow (w.heap.size + 2) 38 2 v' (l.length + 1) (ps l ++ [.int .i64 p.1, .int .i64 p.2])) (hg : (W.alloc o).grownBy W1 v.ownBlock) : EV w W1 g v' (l ++ [p]) := by
  have hs := h.size
  have blk : ∀ k, k < w.heap.size + 2 → W1.heap[k]? = W.heap[k]? := fun k hk => by
    rw [hg.block k (by simp; omega) (row_far h.row hk)]
    exact ((Below.refl _ W).alloc (Nat.le_refl _) o).block k (by omega)
  refine ⟨(blk _ (by omega)).trans h.ro, (blk _ (by omega)).trans h.ze, ?_, ?_⟩
  · have b1 := h.bel.alloc h.bel.size o
    exact below_grown b1 hg (by have := h.bel.size; simp; omega) fun j hj => by
      rcases Nat.lt_or_ge j (w.heap.size + 2) with hlt | hge
      · exact absurd hj.symm (row_far h.row hlt)
      · omega
  · rw [ps_snoc, List.length_append]
    exact hown
theorem EV.set {w W : World} {g : Nat → En} {v : Value} {l : List (Int × Int)} (h : EV w W g v l) (k : Nat) (hk : k < 64) (a b c : Int) :
    EV w (((W.setCell ⟨w.heap.size, k * 3, none⟩ (.int .i64 a)).setCell ⟨w.heap.size, k * 3 + 1, none⟩ (.int .i64 b)).setCell ⟨w.heap.size, k * 3 + 2, none⟩ (.int .i64 c)) (upd g k ⟨a, b, c⟩) v l :=
  ⟨h.ro.set3 k hk a b c, (set3_other (by omega) _ _ _ _ _ _).trans h.ze, set3_below h.bel (Nat.le_refl _) _ _ _ _ _ _, owns_block h.row fun j hj _ => set3_other (by omega) _ _ _ _ _ _⟩
theorem EV.new (w : World) (f : Nat → En) : EV w ((w.alloc (.cells (rcs f) 25)).alloc (.cells (rcs fun _ => zE) 25)) f (.slice none 0 0) [] := by
  have b2 := alloc_ro (w.alloc (.cells (rcs f) 25)) (fun _ => zE)
  have h2 := RoAt.new (w.alloc (.cells (rcs f) 25)) (fun _ => zE)
  rw [World.size_alloc] at h2
  exact ⟨(RoAt.new w f).later b2, h2, (alloc_ro w f).trans (b2.mono (by simp)), World.ownsRow_nil _ _ _ _⟩
theorem st25 {ops : Array Oper} {rest : List Oper} {o : Oper} {a : Act} {w : World} {Q : Exit → Act → World → Prop} {B : Nat} {f g : Nat → En} (h : RoAt w B f) (hgd : o.guard = none) (x y : Operand) (ho : o.op = .store 25 x y)
    (hx : a.eval x = .pointer (some ⟨B, 0, none⟩)) (hy : a.eval y = .agg (rcs g)) (k : wpList Tryd.prog ops Q rest (a.put o.dst undef) (w.setRow B (rcs g))) : wpList Tryd.prog ops Q (o :: rest) a w :=
  wpList_store_row hgd 25 x y ho B (rcs g) hx hy 25 (rcs f) h (by rw [rcs_size]; exact info25) (by rw [rcs_size, rcs_size]) (rcs_one g) k
theorem RoAt.row {w : World} {B : Nat} {f : Nat → En} (h : RoAt w B f) (g : Nat → En) : RoAt (w.setRow B (rcs g)) B g := heap_setRow_same h _
theorem row_other {w : World} {B C : Nat} (h : C ≠ B) (cs : Array Value) : (w.setRow B cs).heap[C]? = w.heap[C]? := by
  simp only [World.setRow, Array.getElem?_modify]
  rw [if_neg (fun e => h e.symm)]
set_option maxRecDepth 100000 in
set_option maxHeartbeats 2000000 in
theorem evict_any (f : Nat → En) (a : Option Addr) (c : Nat) (L : List Int) (w : World) (lL : L.length ≤ 4096) (hL : RdI w a L) (hon : ∀ k, k < L.length → on (evs f (L.take k)) (L.getD k 0) = true) :
    Calls Tryd.prog 14 #[.agg (rcs f), .slice a L.length c] w fun e w' => (∃ v, e = .returned (.tuple #[.agg (rcs (evs f L)), v]) ∧ w'.ownsRow (w.heap.size + 2) 38 2 v L.length (ps (evl f L))) ∧ Below w.heap.size w w' := by
  have hE0 := EV.new w f
  obtain ⟨i0, hi, hz0, hz1, hz2⟩ := infoSeat_parts
  go_enter Tryd.func14, Tryd.ntmps14
  go_upto_region 2 with (fail)
  rw [zero25]
  generalize (w.alloc (.cells (rcs f) 25)).alloc (.cells (rcs fun _ => zE) 25) = w1 at *
  have HE0 : Hid (EV w w1 f (.slice none 0 0) []) := hE0
  clear hE0
  obtain ⟨cf, hc⟩ : ∃ cf, rcs f = cf := ⟨_, rfl⟩
  rw [hc]
  clear hc
  go_wp2_with fail
  go_loopw [6, 12] (fun v i wx => ∃ (k : Nat) (vl : Value), k ≤ L.length ∧ i = .int .i64 (k : Int) ∧ vl = v ∧ EV w wx (evs f (L.take k)) vl (evl f (L.take k))) (fun _ i _ => L.length - (intOf i).toNat)
  case atStart => exact ⟨0, _, by omega, rfl, rfl, HE0.out⟩
  case round =>
    obtain ⟨k, vl, hk, rfl, rfl, hev⟩ := hrel
    have HE : Hid (EV w wr (evs f (L.take k)) vl (evl f (L.take k))) := hev
    clear hev HE0
    by_cases hkN : k < L.length
    · have i1 : (0 : Int) ≤ (k : Int) := by omega
      have i2 : (k : Int) < (L.length : Int) := by omega
      obtain ⟨b, o, hal, hcell⟩ := (hL.later HE.out.bel) k hkN
      have HT : Hid (L.take (k + 1) = L.take k ++ [L.getD k 0]) := take_getD hkN
      have hok := hon k hkN
      have hlen : (evl f (L.take k)).length = k := by simp; omega
      obtain ⟨x, hx⟩ : ∃ x, L.getD k 0 = x := ⟨_, rfl⟩
      rw [hx] at hcell HT hok
      obtain ⟨g, hg⟩ : ∃ g, evs f (L.take k) = g := ⟨_, rfl⟩
      obtain ⟨l, hl⟩ : ∃ l, evl f (L.take k) = l := ⟨_, rfl⟩
      rw [hg, hl] at HE
      rw [hg] at hok
      rw [hl] at hlen
      have HG : Hid (evs f (L.take k) = g) := hg
      have HL : Hid (evl f (L.take k) = l) := hl
      obtain ⟨j, hj, hj64⟩ := fnd_on hok
      have hfi := find_any g x
      rw [hj] at hfi
      have HJ : Hid (fnd g x = (j : Int)) := hj
      clear hx hg hl hok hj hon
      subst hal
      obtain ⟨a1, cap1, rfl⟩ := owns_slice HE.out.row
      rw [hlen]
      have HLEN : Hid (l.length = k) := hlen
      clear hlen
      go_upto_region 5 with (fail)
      refine wp_region_lit ?_
      refine ld25 HE.out.ro rfl _ rfl rfl ?_
      have hfi2 := hfi wr
      obtain ⟨cg, hcg⟩ : ∃ cg, rcs g = cg := ⟨_, rfl⟩
      rw [hcg] at hfi2 ⊢
      clear hcg hfi
      go_wp2_with fail
      refine hfi2.mono ?_
      rintro r w2 ⟨rfl, hb2⟩
      have HE2 : Hid (EV w w2 g (.slice a1 l.length cap1) l) := HE.out.later hb2
      clear hfi2 hb2 HE
      have hrow : w2.ownsRow (w.heap.size + 2) 38 2 (.slice a1 k cap1) k (ps l) := by have h := HE2.out.row; rw [HLEN.out] at h; exact h
      have hsz := HE2.out.size
      go_upto_region 7 with (at_builtin; (refine wpList_append_own _ rfl _ _ 32 rfl (w.heap.size + 2) 38 i0 (.agg #[.int .i64 0, .int .i64 0]) 2 16 Tryd.underlying32 hi hz0 hz1 hz2 rfl (by decide) (.slice a1 k cap1) k (ps l) rfl (hrow.alloc _) ⟨w2.heap.size, 0, none⟩ 1 1 [.int .i64 x, .int .i64 (j : Int)] rfl rfl (cell_two_new _ _ _ _) (by simp [Value.oneCell']) (by unfold maxLen; omega) (by omega) (by simp; omega) ?_); intro v' w3 hown' hg3 _)
      have HE3 : Hid (EV w w3 g v' (l ++ [(x, (j : Int))])) := HE2.out.app (by rw [HLEN.out]; exact hown') (by rw [HLEN.out]; exact hg3)
      clear hown' hg3 hrow hsz HE2
      have j1 : (j : Int) < 64 := by omega
      obtain ⟨c0, c1, c2⟩ := HE3.out.ro.cells j hj64
      have f0 := row_frozen HE3.out.ro (j * 3)
      have f1 := row_frozen HE3.out.ro (j * 3 + 1)
      have f2 := row_frozen HE3.out.ro (j * 3 + 2)
      have HE4 : Hid (EV w (((w3.setCell ⟨w.heap.size, j * 3, none⟩ (.int .i64 0)).setCell ⟨w.heap.size, j * 3 + 1, none⟩ (.int .i64 0)).setCell ⟨w.heap.size, j * 3 + 2, none⟩ (.int .i64 0)) (upd g j ⟨0, 0, 0⟩) v' (l ++ [(x, (j : Int))])) := HE3.out.set j hj64 0 0 0
      go_wp2_with fail
      go_roundw
      case rel =>
        refine ⟨k + 1, _, by omega, by go_num, rfl, ?_⟩
        have e1 : evs f (L.take (k + 1)) = upd g j ⟨0, 0, 0⟩ := by rw [HT.out, evs_snoc, HG.out, ev1_on HJ.out]; rfl
        have e2 : evl f (L.take (k + 1)) = l ++ [(x, (j : Int))] := by rw [HT.out, evl_snoc, HG.out, HL.out, HJ.out]
        rw [e1, e2]
        exact HE4.out
      case measure => simp [intOf]; omega
    · obtain rfl : k = L.length := by omega
      have hdk : decide ((L.length : Int) < (L.length : Int)) = false := by simp
      have HE1 : Hid (EV w wr (evs f L) vl (evl f L)) := by have h := HE.out; rw [List.take_length] at h; exact h
      clear HE hon
      go_upto_region 9 with (fail)
      refine wp_region_lit ?_
      refine ld25 HE1.out.ro rfl _ rfl rfl ?_
      go_wp2_with (refine st25 HE1.out.ze rfl _ _ rfl rfl rfl ?_)
      refine bodyPost_ret (results_ro2 (p := 4) (t := 5) rfl _ _ (w.heap.size + 1) (evs f L) rfl (HE1.out.ze.row _)) rfl ?_
      refine ⟨⟨vl, rfl, ?_⟩, ?_⟩
      · have h := HE1.out.row
        rw [evl_length] at h
        exact owns_block h fun j hj _ => row_other (by omega) _
      · exact setRow_below (by omega) HE1.out.bel _
end Go.Proofs.YtieagbjempndnabDoor
