/- Contract: See of the program's know. -/
import Derived.Test.YtompgoaogomoaaaHd
import Derived.Test.YtompgoaogomoaaaKnY
namespace Go.Proofs.Ytompgoaogomoaaa.Kn
open Go.RowKit Go.Maps
open Rt (Gd gd gd_yes gd_no good_any gives_any gv)
set_option linter.unusedVariables false
set_option linter.unusedSimpArgs false

theorem Sm.mono {w : World} {N b n m : Nat} {pd : List B2} {vs : K2 → Value} (h : Sm w N b n pd vs) (hm : n ≤ m) : Sm w N b m pd vs := by
  obtain ⟨D, h1, h2⟩ := h.own
  exact ⟨⟨D, h1.mono hm, h2⟩, h.row, h.nil, h.apart⟩
/- A box that is passed over, or was seen. -/
theorem Pk.seenIn {w : World} {N p : Nat} {f : Nat → Int} {pd B : List B2} {X : List Sd} {bl bb bt bs : Nat} {vs : K2 → Value} (h : Pk w N p f pd B X bl bb bt bs vs) {b : B2} (hb : gb b = false ∨ b ∈ B) : Pk w N p f pd (B ++ [b]) X bl bb bt bs vs := by
  refine ⟨h.blk, h.lst, h.box.mono (by simp) (fun c => ?_), h.txt, h.shm.mono (by simp), h.ne, h.ge⟩
  rw [List.mem_append, List.mem_singleton]
  constructor
  · rintro ⟨q, r⟩; exact ⟨.inl q, r⟩
  · rintro ⟨q | q, r⟩
    · exact ⟨q, r⟩
    · subst q
      rcases hb with e | e
      · rw [e] at r; cases r
      · exact ⟨e, r⟩
/- While an entry is open: the list under the key is still to be stored. -/
structure En (wd W : World) (N bs n Z : Nat) (pd : List B2) (vs : K2 → Value) (u l : K2) (st : Int) : Prop where
  lit : KAt W Z l
  kept : Kept (fun k => k = bs) wd W
  fin : ∀ (w2 : World) (x : Value), w2.heap[bs]? = W.heap[bs]? → (∀ v, v ≠ u → w2.ownsRow N 33 2 (vs v) (sh pd v).length ((sh pd v).flatMap kC)) → w2.ownsRow N 33 2 x ((sh pd u).length + 1) ((sh pd u ++ [l]).flatMap kC) → (∀ k, x.ownBlock = some k → (vs u).ownBlock = some k ∨ W.heap.size ≤ k) →
    ∃ w3, (Instr.entryStore 67 (.map (some bs)) (goInt st) x).run Try.prog w2 = .ok () w3 ∧ Sm w3 N bs (n + 1) (pd ++ [(u, l)]) (setV vs u x) ∧ w2.grownBy w3 (some bs)
section
variable {wd W : World} {N bs n Z : Nat} {pd : List B2} {vs : K2 → Value} {u l : K2} {st : Int}
/- The literal, then the entry; the entry, then the literal. -/
theorem En.first (h : Sm wd N bs n pd vs) (hu : Gd u.1 u.2) (hn : n < 4611686018427387904) (hZ : wd.heap.size = Z) : ∃ st w1, (Instr.mapEntry 67 (.map (some bs)) (.agg #[.int .i64 u.1, .int .i64 u.2])).run Try.prog (wd.alloc (.cells #[.int .i64 l.1, .int .i64 l.2] 33)) = .ok (.tuple #[vs u, goInt st]) w1 ∧
    En wd w1 N bs n Z pd vs u l st := by
  have hb := Rt.below1 wd (.cells #[.int .i64 l.1, .int .i64 l.2] 33)
  obtain ⟨st, w1, hrun, hg, hs, hf⟩ := (h.later hb).entry hu hn
  have hk : Kept (fun k => k = bs) (wd.alloc (.cells #[.int .i64 l.1, .int .i64 l.2] 33)) w1 := (Kept.refl _ _).grown hg fun k e _ => by cases e; rfl
  have hlt := h.lt
  refine ⟨st, w1, hrun, (hZ ▸ KAt.new wd l : KAt _ Z l).kept hk (by omega), (Kept.ofBelow hb).trans hk fun _ _ e => e, fun w2 x q1 q2 q3 q4 => hf l w2 x q1 q2 q3 fun k hk => ?_⟩
  rcases q4 k hk with e | e
  · exact .inl e
  · exact .inr (by omega)
theorem En.push (h : En wd W N bs n Z pd vs u l st) (hS : Sm wd N bs n pd vs) {w8 : World} {x : Value} (hr : w8.ownsRow N 33 2 x ((sh pd u).length + 1) ((sh pd u).flatMap kC ++ [.int .i64 l.1, .int .i64 l.2])) (hg : W.grownBy w8 (vs u).ownBlock) (hx : ∀ k, x.ownBlock = some k → (vs u).ownBlock = some k ∨ W.heap.size ≤ k) :
    ∃ w9, (Instr.entryStore 67 (.map (some bs)) (goInt st) x).run Try.prog w8 = .ok () w9 ∧ Sm w9 N bs (n + 1) (pd ++ [(u, l)]) (setV vs u x) ∧ Kept (fun k => k = bs ∨ (vs u).ownBlock = some k) wd w9 := by
  have hlt := Nat.lt_of_lt_of_le hS.lt h.kept.size
  have hk8 : Kept (fun k => (vs u).ownBlock = some k) W w8 := (Kept.refl _ _).grown hg fun k e _ => e
  obtain ⟨w9, q1, q2, q3⟩ := h.fin w8 x (hk8.block bs hlt fun e => (hS.at e).2.2 rfl) (fun v hv => hk8.row (h.kept.row (hS.row v) fun k e => (hS.at e).2.2) fun k e e' => hv (hS.apart v u k e e')) (by rw [kC_snoc]; exact hr) hx
  refine ⟨w9, q1, q2, ((h.kept.mono (F' := fun k => k = bs ∨ (vs u).ownBlock = some k) fun _ _ e => .inl e).trans hk8 fun _ _ e => .inr e).grown q3 fun k e _ => by cases e; exact .inl rfl⟩
theorem KAt.row1 {w : World} {Z : Nat} {k : K2} (h : KAt w Z k) : w.ownsRow 0 33 2 (.slice (some ⟨Z, 0, none⟩) 1 1) 1 [.int .i64 k.1, .int .i64 k.2] :=
  ⟨rfl, .inr ⟨Z, 1, _, rfl, Nat.zero_le _, h, Nat.le_refl _, by unfold maxLen; omega, rfl, rfl⟩⟩
end
set_option maxRecDepth 100000 in
set_option maxHeartbeats 4000000 in
theorem see_p (w : World) (N p : Nat) (T : List K2) (B : List B2) (X : List Sd) (F : Nat → Prop) (b0 b1 b2 b3 : Int) (h : PAt w N p T B X F) (hR : Rm T B X) (hw : wfB ((b0, b1), (b2, b3))) :
    Calls Try.prog 31 #[.pointer (some ⟨p, 0, none⟩), .agg #[.int .i64 b0, .int .i64 b1, .int .i64 b2, .int .i64 b3] ] w fun e w' => e = .returned (.tuple #[]) ∧ PP PAt w w' N p T (B ++ [((b0, b1), (b2, b3))]) X F := by
  obtain ⟨f, pd, bl, bb, bt, bs, vs, h1, h2, rfl⟩ := h
  have hpd := pd_len h1 hR
  have hgb := goodBox_any b0 b1 b2 b3
  have hb1 : Below w.heap.size w (w.alloc (.cells #[.int .i64 b0, .int .i64 b1, .int .i64 b2, .int .i64 b3] 35)) := Rt.below1 _ _
  have hX1 : (w.alloc (.cells #[.int .i64 b0, .int .i64 b1, .int .i64 b2, .int .i64 b3] 35)).heap[w.heap.size]? = some (.cells #[.int .i64 b0, .int .i64 b1, .int .i64 b2, .int .i64 b3] 35) := (MapKept.heap_alloc w _).1
  obtain ⟨g, hg⟩ : ∃ g, gb ((b0, b1), (b2, b3)) = g := ⟨_, rfl⟩
  have HG : Hid (gb ((b0, b1), (b2, b3)) = g) := hg
  have H12 : Hid (Wk T B f pd [] ∧ Pk w N p f pd B X bl bb bt bs vs ∧ Rm T B X ∧ wfB ((b0, b1), (b2, b3)) ∧ pd.length < 2748779069440) := ⟨h1, h2, hR, hw, hpd⟩
  rw [hg] at hgb
  clear h1 h2 hR hpd hg hw
  go_enter Try.func31, Try.ntmps31
  go_upto_region 1 with (fail)
  generalize w.alloc (.cells #[.int .i64 b0, .int .i64 b1, .int .i64 b2, .int .i64 b3] 35) = w1 at *
  obtain ⟨Q, hQ⟩ : ∃ Q, w.heap.size = Q := ⟨_, rfl⟩
  have HQ : Hid (w.heap.size = Q) := hQ
  rw [hQ] at hX1 ⊢
  clear hQ
  have x0 : w1.cell? ⟨Q, 0, none⟩ = some (.int .i64 b0) := cell_of_row _ _ 0 _ _ _ hX1
  have x1 : w1.cell? ⟨Q, 1, none⟩ = some (.int .i64 b1) := cell_of_row _ _ 1 _ _ _ hX1
  have x2 : w1.cell? ⟨Q, 2, none⟩ = some (.int .i64 b2) := cell_of_row _ _ 2 _ _ _ hX1
  have x3 : w1.cell? ⟨Q, 3, none⟩ = some (.int .i64 b3) := cell_of_row _ _ 3 _ _ _ hX1
  have HX1 : Hid _ := hX1
  clear hX1
  cases g with
  | false =>
    go_wp2_with (go_at_call 53; refine (hgb _).mono ?_; rintro r w2 ⟨rfl, hb2⟩)
    first | go_end0 | refine bodyPost_ret (results_none rfl _ _ _) rfl ?_
    have hb := Rt.Below.then hb1 hb2
    exact ⟨rfl, PAt.same (H12.out.1.seeIn (.inl HG.out)) ((H12.out.2.1.later hb).seenIn (.inl HG.out)) (Kept.ofBelow hb)⟩
  | true =>
    by_cases hin : ((b0, b1), (b2, b3)) ∈ B
    · have hse := fun W (hW : Below w.heap.size w W) => hasSeen_any W N p f pd B X bl bb bt bs vs (H12.out.2.1.later hW) b0 b1 b2 b3 H12.out.2.2.2.1 (v := true) ⟨fun _ => ⟨hin, HG.out⟩, fun _ => rfl⟩
      have HI : Hid _ := hin
      clear hin
      go_wp2_with (first | (go_at_call 53; refine (hgb _).mono ?_; rintro r w2 ⟨rfl, hb2⟩; have x0 := cell_later hb2 x0; have x1 := cell_later hb2 x1; have x2 := cell_later hb2 x2; have x3 := cell_later hb2 x3) | (go_at_call 39; refine (hse _ (Rt.Below.then hb1 hb2)).mono ?_; rintro r w3 ⟨rfl, hb3⟩))
      first | go_end0 | refine bodyPost_ret (results_none rfl _ _ _) rfl ?_
      have hb := Rt.Below.then (Rt.Below.then hb1 hb2) hb3
      exact ⟨rfl, PAt.same (H12.out.1.seeIn (.inr HI.out)) ((H12.out.2.1.later hb).seenIn (.inr HI.out)) (Kept.ofBelow hb)⟩
    · have hse := fun W (hW : Below w.heap.size w W) => hasSeen_any W N p f pd B X bl bb bt bs vs (H12.out.2.1.later hW) b0 b1 b2 b3 H12.out.2.2.2.1 (v := false) ⟨fun e => (by cases e), fun e => absurd e.1 hin⟩
      have HI : Hid (((b0, b1), (b2, b3)) ∉ B) := hin
      clear hin
      go_upto_region 2 with (first | (go_at_call 53; refine (hgb _).mono ?_; rintro r w2 ⟨rfl, hb2⟩; have x0 := cell_later hb2 x0; have x1 := cell_later hb2 x1; have x2 := cell_later hb2 x2; have x3 := cell_later hb2 x3) | (go_at_call 39; refine (hse _ (Rt.Below.then hb1 hb2)).mono ?_; rintro r w3 ⟨rfl, hb3⟩))
      have HB3 : Hid (Below w.heap.size w w3) := Rt.Below.then (Rt.Below.then hb1 hb2) hb3
      have hX3 : w3.heap[Q]? = some (.cells #[.int .i64 b0, .int .i64 b1, .int .i64 b2, .int .i64 b3] 35) := by
        have q1 : Q < w1.heap.size := (Array.getElem?_eq_some_iff.1 HX1.out).1
        have q2 := Rt.Below.then hb2 hb3
        exact (q2.block Q q1).trans HX1.out
      clear hse hgb x0 x1 x2 x3 hb1 hb2 hb3 HX1
      have hdr : Below w3.heap.size w3 w3.drew := Below.drew (Below.refl _ _)
      have hP3 := H12.out.2.1.later (HB3.out.trans (hdr.mono HB3.out.size))
      have hXd : w3.drew.heap[Q]? = some (.cells #[.int .i64 b0, .int .i64 b1, .int .i64 b2, .int .i64 b3] 35) := hX3
      obtain ⟨w4, hrun, hU4, hgr⟩ := hP3.box.put boxT Try.underlying65 H12.out.2.2.2.1 (by have := H12.out.2.2.1.2.1; omega)
      have hk4 : Kept (fun k => k = bb) w3.drew w4 := (Kept.refl _ _).grown hgr fun k e _ => by cases e; rfl
      have hQb : Q ≠ bb := no_map hXd hP3.box.isMap
      have hX4 : w4.heap[Q]? = some (.cells #[.int .i64 b0, .int .i64 b1, .int .i64 b2, .int .i64 b3] 35) := (hk4.block Q (Array.getElem?_eq_some_iff.1 hXd).1 hQb).trans hXd
      have hS4 : Sm w4 N bs B.length pd vs := hP3.shm.kept hk4 (fun e => hP3.ne.2.2.2.2.1 e.symm) (fun u k q => (hP3.rne q).2.2.1)
      have hP4 : Pk w4 N p f pd (B ++ [((b0, b1), (b2, b3))]) X bl bb bt bs vs := by
        obtain ⟨n1, n2, n3, n4, n5, n6⟩ := hP3.ne
        refine ⟨(hk4.block p hP3.lt hP3.pne.2.1).trans hP3.blk, hP3.lst.kept hk4 n1, hU4.mono (by simp) (fun c => ?_), hP3.txt.kept hk4 (fun e => n4 e.symm), hS4.mono (by simp), hP3.ne, hP3.ge⟩
        rw [List.mem_append, List.mem_singleton]
        constructor
        · rintro (⟨q, r⟩ | q)
          · exact ⟨.inl q, r⟩
          · subst q; exact ⟨.inr rfl, HG.out⟩
        · rintro ⟨q | q, r⟩
          · exact .inl ⟨q, r⟩
          · exact .inr q
      have qc := fun W (hW : Kept (fun k => k = bb) w3.drew W) => hW.cell hP3.c1 hP3.pne.2.1
      have qX := fun W (hW : Kept (fun k => k = bb) w3.drew W) => (hW.block Q (Array.getElem?_eq_some_iff.1 hXd).1 hQb).trans hXd
      have y0 := fun W (hW : Kept (fun k => k = bb) w3.drew W) => cell_of_row W Q 0 _ _ _ (qX W hW)
      have y1 := fun W (hW : Kept (fun k => k = bb) w3.drew W) => cell_of_row W Q 1 _ _ _ (qX W hW)
      have y2 := fun W (hW : Kept (fun k => k = bb) w3.drew W) => cell_of_row W Q 2 _ _ _ (qX W hW)
      have y3 := fun W (hW : Kept (fun k => k = bb) w3.drew W) => cell_of_row W Q 3 _ _ _ (qX W hW)
      have hS0 : Kept (fun k => k = bb) w3.drew w3.drew := Kept.refl _ _
      have HK4 : Hid (Kept (fun k => k = bb) w w4) := (Kept.ofBelow (HB3.out.trans (hdr.mono HB3.out.size))).trans hk4 fun _ _ e => e
      have HP4 : Hid (Pk w4 N p f pd (B ++ [((b0, b1), (b2, b3))]) X bl bb bt bs vs ∧ Sm w4 N bs B.length pd vs) := ⟨hP4, hS4⟩
      have HR : Hid (_ = _) := hrun
      have HX4 : Hid _ := hX4
      have HKB : Hid _ := hk4
      have HLQ : Hid (∀ k, Fp p bl bb bt bs vs k → k < Q) := fun k hk => HQ.out ▸ (H12.out.2.1.inHeap k hk).2
      clear qX hP3 hU4 hgr hX3 hXd hX4 hS4 hP4 hdr hrun hk4 hQb
      refine wp_region_held_drew (S := fun W => Kept (fun k => k = bb) w3.drew W) (by kernel_rfl) hS0 (fun hHeld => ?_)
      refine opT 0 12 (.move (.tmp 0)) (.pointer (some ⟨p, 0, none⟩)) rfl ?_
      go_frame
      refine opT 1 13 (.nilCheck (.tmp 12)) (.pointer (some ⟨p, 0, none⟩)) rfl ?_
      go_frame
      refine opT 2 14 (.fieldAddr 69 (.tmp 13) 1) (.pointer (some ⟨p, 1, none⟩)) rfl ?_
      go_frame
      refine opR 3 15 (.load 65 (.tmp 14)) (.map (some bb)) rfl (fun w hSw => by have c := qc w hSw; go_simp) ?_
      go_frame
      refine opR 4 16 (.load 35 (.tmp 3)) (.agg #[.int .i64 b0, .int .i64 b1, .int .i64 b2, .int .i64 b3]) rfl (fun w hSw => by have c0 := y0 w hSw; have c1 := y1 w hSw; have c2 := y2 w hSw; have c3 := y3 w hSw; go_simp) ?_
      go_frame
      refine opT 5 17 (.build 72 #[]) (.agg #[]) rfl ?_
      go_frame
      refine wpAnyH_ready (rs := [6]) (by kernel_rfl) (by simp) ?_
      refine AllReadyH.cons rfl (fun Kc hK => ?_) AllReadyH.nil
      refine if_wpK rfl (wp_mapUpd 65 _ _ _ rfl rfl rfl rfl rfl HR.out ?_)
      refine hK.out _ _ HKB.out (fun hHeld2 => ?_)
      clear hK Kc
      try go_frame
      refine wpAnyH_done (by kernel_rfl) ?_ _
      clear hHeld hHeld2 hS0 y0 y1 y2 y3 qc HR HKB
      have x0 : w4.cell? ⟨Q, 0, none⟩ = some (.int .i64 b0) := cell_of_row _ _ 0 _ _ _ HX4.out
      have x1 : w4.cell? ⟨Q, 1, none⟩ = some (.int .i64 b1) := cell_of_row _ _ 1 _ _ _ HX4.out
      have x2 : w4.cell? ⟨Q, 2, none⟩ = some (.int .i64 b2) := cell_of_row _ _ 2 _ _ _ HX4.out
      have x3 : w4.cell? ⟨Q, 3, none⟩ = some (.int .i64 b3) := cell_of_row _ _ 3 _ _ _ HX4.out
      have hhas := has_p w4 N p f pd (B ++ [((b0, b1), (b2, b3))]) X bl bb bt bs vs HP4.out.1 H12.out.1.snd b0 b1 H12.out.2.2.2.1.1
      cases hi : inT f (b0, b1) with
      | true =>
        rw [hi] at hhas
        have hW : Wk T (B ++ [((b0, b1), (b2, b3))]) f pd ([] ++ [(b2, b3)]) := H12.out.1.seeOpen HG.out hi
        have hga := fun W (hW2 : Below w4.heap.size w4 W) => gain_p W N p T f pd (B ++ [((b0, b1), (b2, b3))]) X bl bb bt bs vs (HP4.out.1.later hW2) b2 b3 hW (by have := H12.out.2.2.2.2; omega)
        clear hi hW
        go_wp2_with (first | (go_at_call 14; refine hhas.mono ?_; rintro r w5 ⟨rfl, hb5⟩; have x2 := cell_later hb5 x2; have x3 := cell_later hb5 x3) | (go_at_call 48; refine (hga _ hb5).mono ?_; rintro r w6 ⟨rfl, hgp⟩))
        first | go_end0 | refine bodyPost_ret (results_none rfl _ _ _) rfl ?_
        exact ⟨rfl, hgp.pp ((HK4.out.mono fun _ _ e => .inr (.inr (.inl e))).trans (Kept.ofBelow (F := Fp p bl bb bt bs vs) hb5) fun _ _ e => e)⟩
      | false =>
        rw [hi] at hhas
        have HIN : Hid _ := hi
        clear hi
        go_upto_region 5 with (go_at_call 14; refine hhas.mono ?_; rintro r w5 ⟨rfl, hb5⟩)
        have hdr : Below w5.heap.size w5 w5.drew := Below.drew (Below.refl _ _)
        have hbd := Rt.Below.then hb5 hdr
        have hgu : Gd b0 b1 := ((gb_iff2 (u := (b0, b1)) (l := (b2, b3))).1 HG.out).1
        have hPd := HP4.out.1.later hbd
        have hSd := HP4.out.2.later hbd
        have hXd : w5.drew.heap[Q]? = some (.cells #[.int .i64 b0, .int .i64 b1, .int .i64 b2, .int .i64 b3] 35) := (hbd.block Q (Array.getElem?_eq_some_iff.1 HX4.out).1).trans HX4.out
        obtain ⟨st, w6, hrun, hEn⟩ := En.first (u := (b0, b1)) (l := (b2, b3)) (Z := w5.heap.size) hSd hgu (by have := H12.out.2.2.1.2.1; omega) rfl
        obtain ⟨y, hy⟩ : ∃ y, vs (b0, b1) = y := ⟨_, rfl⟩
        have HY : Hid (vs (b0, b1) = y) := hy
        have hQs : ¬ (Q = bs ∨ y.ownBlock = some Q) := fun e => by
          rcases e with e | e
          · exact no_map hXd hPd.shm.isMap e
          · have := HLQ.out Q (.inr (.inr (.inr (.inr (.inr ⟨(b0, b1), by rw [hy]; exact e⟩)))))
            omega
        have hps : ¬ (p = bs ∨ y.ownBlock = some p) := fun e => by
          rcases e with e | e
          · exact hPd.pne.2.2.2 e
          · exact (hPd.rne (u := (b0, b1)) (by rw [hy]; exact e)).1 rfl
        have qc := fun W (hW : Kept (fun k => k = bs ∨ y.ownBlock = some k) w5.drew W) => hW.cell hPd.c3 hps
        have qX := fun W (hW : Kept (fun k => k = bs ∨ y.ownBlock = some k) w5.drew W) => (hW.block Q (Array.getElem?_eq_some_iff.1 hXd).1 hQs).trans hXd
        have y0 := fun W (hW : Kept (fun k => k = bs ∨ y.ownBlock = some k) w5.drew W) => cell_of_row W Q 0 _ _ _ (qX W hW)
        have y1 := fun W (hW : Kept (fun k => k = bs ∨ y.ownBlock = some k) w5.drew W) => cell_of_row W Q 1 _ _ _ (qX W hW)
        have y2 := fun W (hW : Kept (fun k => k = bs ∨ y.ownBlock = some k) w5.drew W) => cell_of_row W Q 2 _ _ _ (qX W hW)
        have y3 := fun W (hW : Kept (fun k => k = bs ∨ y.ownBlock = some k) w5.drew W) => cell_of_row W Q 3 _ _ _ (qX W hW)
        have hS0 : Kept (fun k => k = bs ∨ y.ownBlock = some k) w5.drew w5.drew := Kept.refl _ _
        have hrow6 := hEn.kept.row (hSd.row (b0, b1)) (fun k e => (hSd.at e).2.2)
        rw [hy] at hrow6 hrun
        have hlen := sh_len pd (b0, b1)
        have hpl := H12.out.2.2.2.2
        have hNs : N ≤ w6.heap.size := by
          have h1 := hPd.ge.1
          have h2 := hPd.lt
          have h3 := hEn.kept.size
          omega
        obtain ⟨i0, hi, hz0, hz1, hz2⟩ := info_parts infoKey
        have HEN : Hid (En w5.drew w6 N bs B.length w5.heap.size pd vs (b0, b1) (b2, b3) st ∧ Sm w5.drew N bs B.length pd vs ∧ Pk w5.drew N p f pd (B ++ [((b0, b1), (b2, b3))]) X bl bb bt bs vs) := ⟨hEn, hSd, hPd⟩
        have HRO : Hid (_ ∧ _) := ⟨hrow6, hNs⟩
        have HRU : Hid (_ = _) := hrun
        have HBD : Hid (Below w4.heap.size w4 w5.drew) := hbd
        have HLE : Hid (_ ∧ _) := ⟨hlen, hpl⟩
        clear qX hPd hSd hXd hEn hy hQs hps hrow6 hNs hrun hdr hbd hb5 hlen hpl x0 x1 x2 x3 hhas
        refine wp_region_held_drew (S := fun W => Kept (fun k => k = bs ∨ y.ownBlock = some k) w5.drew W) (by kernel_rfl) hS0 (fun hHeld => ?_)
        refine opT 0 26 (.move (.tmp 0)) (.pointer (some ⟨p, 0, none⟩)) rfl ?_
        go_frame
        refine opT 1 27 (.nilCheck (.tmp 26)) (.pointer (some ⟨p, 0, none⟩)) rfl ?_
        go_frame
        refine opT 2 28 (.fieldAddr 69 (.tmp 27) 3) (.pointer (some ⟨p, 3, none⟩)) rfl ?_
        go_frame
        refine opR 3 29 (.load 67 (.tmp 28)) (.map (some bs)) rfl (fun w hSw => by have c := qc w hSw; go_simp) ?_
        go_frame
        refine opT 4 30 (.fieldAddr 35 (.tmp 3) 0) (.pointer (some ⟨Q, 0, none⟩)) rfl ?_
        go_frame
        refine opR 5 31 (.load 33 (.tmp 30)) (.agg #[.int .i64 b0, .int .i64 b1]) rfl (fun w hSw => by have c0 := y0 w hSw; have c1 := y1 w hSw; go_simp) ?_
        go_frame
        refine opT 6 33 (.fieldAddr 35 (.tmp 3) 1) (.pointer (some ⟨Q, 2, none⟩)) rfl ?_
        go_frame
        refine opR 7 34 (.load 33 (.tmp 33)) (.agg #[.int .i64 b2, .int .i64 b3]) rfl (fun w hSw => by have c2 := y2 w hSw; have c3 := y3 w hSw; go_simp) ?_
        go_frame
        refine wpAnyH_ready (rs := [8]) (by kernel_rfl) (by simp) ?_
        refine AllReadyH.cons rfl (fun K hK => ?_) AllReadyH.nil
        go_simp
        refine hK.out _ _ (hHeld.alloc _) (fun hHeld2 => ?_)
        clear hK K
        try go_frame
        refine wpAnyH_ready (rs := [9]) (by kernel_rfl) (by simp) ?_
        refine AllReadyH.cons rfl (fun Kc hK => ?_) AllReadyH.nil
        refine if_wpK rfl (wp_entry 67 _ _ rfl rfl rfl HRU.out ?_)
        refine hK.out _ _ (HEN.out.1.kept.mono fun _ _ e => .inl e) (fun hHeld3 => ?_)
        clear hK Kc
        try go_frame
        refine opT 10 32 (.extract (.tmp 36) 0) (y) rfl ?_
        go_frame
        refine opT 12 38 (.extract (.tmp 36) 1) (goInt st) rfl ?_
        go_frame
        refine wpAnyH_ready (rs := [11]) (by kernel_rfl) (by simp) ?_
        refine AllReadyH.cons rfl (fun Kc hK => ?_) AllReadyH.nil
        refine if_wpK rfl (wp_app _ _ 27 rfl N 0 33 i0 _ 2 16 Try.underlying27 hi hz0 hz1 hz2 rfl (by decide) y (.slice (some ⟨w5.heap.size, 0, none⟩) 1 1) (sh pd (b0, b1)).length 1 _ _ rfl rfl HRO.out.1 HEN.out.1.lit.row1 (fun e => by cases e) (by simp [Value.oneCell']) (by have := HLE.out; unfold maxLen; omega) (by have := HLE.out; omega) HRO.out.2 (fun x8 w8 r1 r2 r3 _ => ?_))
        have hg8 : w6.grownBy w8 (vs (b0, b1)).ownBlock := by rw [HY.out]; exact r2
        obtain ⟨w9, hrun9, hS9, hk9⟩ := HEN.out.1.push HEN.out.2.1 r1 hg8 (by rw [HY.out]; exact r3)
        have hk8 : Kept (fun k => k = bs ∨ y.ownBlock = some k) w5.drew w8 := (HEN.out.1.kept.mono fun _ _ e => .inl e).grown r2 fun k e _ => .inr e
        rw [HY.out] at hk9
        refine hK.out _ _ hk8 (fun hHeld4 => ?_)
        clear hK Kc
        try go_frame
        refine wpAnyH_ready (rs := [13]) (by kernel_rfl) (by simp) ?_
        refine AllReadyH.cons rfl (fun Kc hK => ?_) AllReadyH.nil
        refine if_wpK rfl (wp_estore 67 _ _ _ rfl rfl rfl rfl rfl hrun9 ?_)
        refine hK.out _ _ hk9 (fun hHeld5 => ?_)
        clear hK Kc
        try go_frame
        refine wpAnyH_done (by kernel_rfl) ?_ _
        go_wp2_with fail
        first | go_end0 | refine bodyPost_ret (results_none rfl _ _ _) rfl ?_
        have hPd := HEN.out.2.2
        obtain ⟨n1, n2, n3, n4, n5, n6⟩ := hPd.ne
        have ry : ∀ {k : Nat}, y.ownBlock = some k → k ≠ p ∧ k ≠ bl ∧ k ≠ bb ∧ k ≠ bt ∧ k ≠ bs ∧ N ≤ k ∧ k < w5.drew.heap.size := fun hk => hPd.rne (u := (b0, b1)) (by rw [HY.out]; exact hk)
        refine ⟨rfl, Fp p bl bb bt bs (setV vs (b0, b1) x8), ⟨f, pd ++ [((b0, b1), (b2, b3))], bl, bb, bt, bs, setV vs (b0, b1) x8, H12.out.1.seeShut HG.out HI.out HIN.out, ⟨?_, hPd.lst.kept hk9 ?_, hPd.box.kept hk9 ?_, hPd.txt.kept hk9 ?_, ?_, hPd.ne, hPd.ge⟩, rfl⟩, ?_, fun k hk => ?_⟩
        · exact (hk9.block p hPd.lt (fun e => e.elim (fun e => hPd.pne.2.2.2 e) fun e => (ry e).1 rfl)).trans hPd.blk
        · exact fun e => e.elim (fun e => n3 e) fun e => (ry e).2.1 rfl
        · exact fun e => e.elim (fun e => n5 e) fun e => (ry e).2.2.1 rfl
        · exact fun e => e.elim (fun e => n6 e) fun e => (ry e).2.2.2.1 rfl
        · rw [List.length_append]
          exact hS9
        · refine ((HK4.out.mono (F' := Fp p bl bb bt bs vs) fun _ _ e => .inr (.inr (.inl e))).trans (Kept.ofBelow (F := Fp p bl bb bt bs vs) HBD.out) fun _ _ e => e).trans hk9 fun i _ e => ?_
          rcases e with e | e
          · exact .inr (.inr (.inr (.inr (.inl e))))
          · exact .inr (.inr (.inr (.inr (.inr ⟨(b0, b1), by rw [HY.out]; exact e⟩))))
        · rcases hk with e | e | e | e | e | ⟨u, e⟩
          · exact .inl (.inl e)
          · exact .inl (.inr (.inl e))
          · exact .inl (.inr (.inr (.inl e)))
          · exact .inl (.inr (.inr (.inr (.inl e))))
          · exact .inl (.inr (.inr (.inr (.inr (.inl e)))))
          · unfold setV at e
            by_cases hu : u = (b0, b1)
            · rw [if_pos hu] at e
              rcases r3 k e with q | q
              · exact .inl (.inr (.inr (.inr (.inr (.inr ⟨(b0, b1), by rw [HY.out]; exact q⟩)))))
              · refine .inr ?_
                have h1 := HEN.out.1.kept.size
                have h2 := HBD.out.size
                have h3 := HK4.out.size
                omega
            · rw [if_neg hu] at e
              exact .inl (.inr (.inr (.inr (.inr (.inr ⟨u, e⟩)))))
end Go.Proofs.Ytompgoaogomoaaa.Kn
