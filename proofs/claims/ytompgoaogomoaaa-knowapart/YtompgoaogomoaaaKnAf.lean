/- Contract: Copy of the document's know. -/
import Derived.Test.YtompgoaogomoaaaHd
import Derived.Test.YtompgoaogomoaaaKnAe
namespace Go.Proofs.Ytompgoaogomoaaa.Kn
open Go.RowKit Go.Maps
set_option linter.unusedVariables false
set_option linter.unusedSimpArgs false

theorem bC_one (l : List B2) : ∀ u ∈ l.flatMap bC, u.oneCell' = true := by
  intro u hu
  obtain ⟨a, _, h⟩ := List.mem_flatMap.1 hu
  simp [bC] at h
  rcases h with rfl | rfl | rfl | rfl <;> rfl
theorem sC_one (l : List Sd) : ∀ u ∈ l.flatMap sC, u.oneCell' = true := by
  intro u hu
  obtain ⟨a, _, h⟩ := List.mem_flatMap.1 hu
  simp [sC] at h
  rcases h with rfl | rfl | rfl | rfl <;> rfl
section
variable {P : Program} {o : Oper} {a : Act} {w : World} {K : Act → World → Prop} {Q : Exit → Act → World → Prop}
/- 'append(T{}, y...)': a row of its own. -/
theorem wp_cpy (s x : Operand) (t : TypeId) (ho : o.op = .call { callee := .builtin .append, args := #[s, x], argTypes := #[t, t] })
    (base base2 : Nat) (e : TypeId) (i : TypeInfo) (z : Value) (size bytes : Nat) (ht : P.underlying t = some (.slice e)) (hi : P.info? e = some i) (hz : i.zero = some z) (hsize : i.size = size) (hby : i.bytes = bytes) (hzs : z.cells.size = size) (hsz : 0 < size)
    (g : Nat) (y : Value) (m : Nat) (ys : List Value) (hs : a.eval s = .slice (some ⟨g, 0, none⟩) 0 0) (hx : a.eval x = y) (hown : w.ownsRow base e size (.slice (some ⟨g, 0, none⟩) 0 0) 0 []) (hy : w.ownsRow base2 e size y m ys) (h1 : ∀ u ∈ ys, u.oneCell' = true)
    (h63 : m ≤ maxLen) (hbytes : m * bytes ≤ 140737488355328) (hbase : base ≤ w.heap.size)
    (h : ∀ v' w', w'.ownsRow base e size v' m ys → w.grownBy w' (some g) → K (a.put o.dst v') w') : o.wp P a w K Q := by
  by_cases hm : m = 0
  · subst hm
    have hl : ys = [] := by have := hy.1; simpa using this
    subst hl
    rcases hy.2 with ⟨rfl, _⟩ | ⟨g2, cap, cur, rfl, _⟩
    · have hr := run_append_owned_none (P := P) (w := w) base t o.type e i size ht hi _ 0 [] hown
      unfold Oper.wp execOp
      simp only [ho, resolve, invoke, builtin, Sem.run_bind, Sem.run_pure, Result.andThen_ok, List.map_toArray, List.map_cons, List.map_nil, hs, hx, hr]
      exact h _ w hown ⟨rfl, rfl, rfl, Nat.le_refl _, fun _ _ _ => rfl⟩
    · obtain ⟨w', hr, q1, q2⟩ := run_append_fits (P := P) w base t o.type e i size ht hi hsize g 0 0 [] hown ⟨g2, 0, none⟩ 0 cap [] (by simp) (fun j u hj => by simp at hj) (by simp) (Nat.le_refl _)
      unfold Oper.wp execOp
      simp only [ho, resolve, invoke, builtin, Sem.run_bind, Sem.run_pure, Result.andThen_ok, List.map_toArray, List.map_cons, List.map_nil, hs, hx, hr]
      exact h _ w' q1 q2
  · refine wp_app s x t ho base base2 e i z size bytes ht hi hz hsize hby hzs hsz _ y 0 m [] ys hs hx hown hy (fun q => absurd q hm) h1 (by omega) (by rw [Nat.zero_add]; exact hbytes) hbase fun v' w' q1 q2 _ _ => ?_
    rw [Nat.zero_add, List.nil_append] at q1
    exact h v' w' q1 q2
end
theorem row0K {w W : World} (h : Below w.heap.size w W) (T : TypeId) (k : Nat) : (W.alloc (.cells #[] T)).ownsRow w.heap.size T k (.slice (some ⟨W.heap.size, 0, none⟩) 0 0) 0 [] :=
  ⟨by simp, .inr ⟨W.heap.size, 0, #[], rfl, h.size, (MapKept.heap_alloc W _).1, Nat.le_refl _, Nat.zero_le _, by simp, by simp⟩⟩
theorem row_step {W w' : World} {B B' e e' z z' n n' : Nat} {v v' : Value} {xs xs' : List Value} (hr : W.ownsRow B e z v n xs) (hr' : W.ownsRow B' e' z' v' n' xs') (he : e ≠ e') (hg : W.grownBy w' v'.ownBlock) : w'.ownsRow B e z v n xs := by
  refine hr.kept hg ?_
  cases hv : v.ownBlock with
  | none => exact .inl rfl
  | some k => exact .inr fun q => own_apart hr hr' he k hv q.symm
theorem rcopy_end {w W : World} {s : Kst} {v5 v11 v17 : Value} (hg : (∀ k ∈ s.T, Rt.Gd k.1 k.2) ∧ ∀ b ∈ s.B, Rt.Gd b.1.1 b.1.2 ∧ Rt.Gd b.2.1 b.2.2) (rT : W.ownsRow w.heap.size 33 2 v5 s.T.length (s.T.flatMap kC)) (rB : W.ownsRow w.heap.size 35 4 v11 s.B.length (s.B.flatMap bC)) (rX : W.ownsRow w.heap.size 37 4 v17 s.X.length (s.X.flatMap sC)) (hb : Below w.heap.size w W) :
    KnAt (W.alloc (.cells #[v5, v11, v17] 31)) w.heap.size W.heap.size s v5 v11 v17 ∧ Below w.heap.size w (W.alloc (.cells #[v5, v11, v17] 31)) :=
  ⟨⟨(MapKept.heap_alloc W _).1, rT.alloc _, rB.alloc _, rX.alloc _, hb.size, hg.1, hg.2⟩, hb.trans ((Rt.below1 _ _).mono hb.size)⟩
set_option maxRecDepth 100000 in
set_option maxHeartbeats 4000000 in
theorem rcopy_any (w : World) (N p : Nat) (s : Kst) (vt vb vx : Value) (h : KnAt w N p s vt vb vx) (lT : s.T.length < 2748779069440) (lB : s.B.length < 2748779069440) (lX : s.X.length < 2748779069440) :
    Calls Try.prog 30 #[.pointer (some ⟨p, 0, none⟩)] w fun e w' => ∃ p' vt' vb' vx', e = .returned (.pointer (some ⟨p', 0, none⟩)) ∧ KnAt w' w.heap.size p' s vt' vb' vx' ∧ Below w.heap.size w w' := by
  obtain ⟨iK, hiK, hK0, hK1, hK2⟩ := info_parts infoKey
  obtain ⟨iB, hiB, hB0, hB1, hB2⟩ := info_parts infoBox
  obtain ⟨iX, hiX, hX0, hX1, hX2⟩ := info_parts infoSld
  have q0 := fun W (hW : Below w.heap.size w W) => cell_later hW h.c0
  have q1 := fun W (hW : Below w.heap.size w W) => cell_later hW h.c1
  have q2 := fun W (hW : Below w.heap.size w W) => cell_later hW h.c2
  have HT : Hid (∀ W, Below w.heap.size w W → W.ownsRow N 33 2 vt s.T.length (s.T.flatMap kC)) := fun W hW => own_later h.told hW
  have HB : Hid (∀ W, Below w.heap.size w W → W.ownsRow N 35 4 vb s.B.length (s.B.flatMap bC)) := fun W hW => own_later h.box hW
  have HX : Hid (∀ W, Below w.heap.size w W → W.ownsRow N 37 4 vx s.X.length (s.X.flatMap sC)) := fun W hW => own_later h.txt hW
  have HG : Hid ((∀ k ∈ s.T, Rt.Gd k.1 k.2) ∧ ∀ b ∈ s.B, Rt.Gd b.1.1 b.1.2 ∧ Rt.Gd b.2.1 b.2.2) := ⟨h.gt, h.gb⟩
  clear h
  go_enter Try.func30, Try.ntmps30
  go_upto_region 1 with (fail)
  have hS0 : Below w.heap.size w w.drew := Below.drew (Below.refl _ _)
  refine wp_region_held_drew (S := fun W => Below w.heap.size w W) (by kernel_rfl) hS0 (fun hHeld => ?_)
  refine opT 1 4 (.move (.tmp 0)) (.pointer (some ⟨p, 0, none⟩)) rfl ?_
  go_frame
  refine opT 2 5 (.nilCheck (.tmp 4)) (.pointer (some ⟨p, 0, none⟩)) rfl ?_
  go_frame
  refine opT 3 6 (.fieldAddr 31 (.tmp 5) 0) (.pointer (some ⟨p, 0, none⟩)) rfl ?_
  go_frame
  refine opR 4 7 (.load 27 (.tmp 6)) (vt) rfl (fun w hSw => by have c := q0 w hSw; go_simp) ?_
  go_frame
  refine opT 7 10 (.move (.tmp 0)) (.pointer (some ⟨p, 0, none⟩)) rfl ?_
  go_frame
  refine opT 8 11 (.nilCheck (.tmp 10)) (.pointer (some ⟨p, 0, none⟩)) rfl ?_
  go_frame
  refine opT 9 12 (.fieldAddr 31 (.tmp 11) 1) (.pointer (some ⟨p, 1, none⟩)) rfl ?_
  go_frame
  refine opR 10 13 (.load 28 (.tmp 12)) (vb) rfl (fun w hSw => by have c := q1 w hSw; go_simp) ?_
  go_frame
  refine opT 13 16 (.move (.tmp 0)) (.pointer (some ⟨p, 0, none⟩)) rfl ?_
  go_frame
  refine opT 14 17 (.nilCheck (.tmp 16)) (.pointer (some ⟨p, 0, none⟩)) rfl ?_
  go_frame
  refine opT 15 18 (.fieldAddr 31 (.tmp 17) 2) (.pointer (some ⟨p, 2, none⟩)) rfl ?_
  go_frame
  refine opR 16 19 (.load 29 (.tmp 18)) (vx) rfl (fun w hSw => by have c := q2 w hSw; go_simp) ?_
  go_frame
  refine wpAnyH_ready (rs := [0, 6, 12]) (by kernel_rfl) (by simp) ?_
  refine (AllReadyH.cons rfl (fun K hK => ?_) (AllReadyH.cons rfl (fun K hK => ?_) (AllReadyH.cons rfl (fun K hK => ?_) AllReadyH.nil)))
  · go_simp
    have rT := row0K hHeld 33 2
    try simp only [show ∀ W : World, W.drew.heap = W.heap from fun _ => rfl, World.size_alloc] at rT
    try (have rB := rB.alloc (.cells #[] 33))
    try (have rX := rX.alloc (.cells #[] 33))
    refine hK.out _ _ (hHeld.trans ((Rt.below1 _ _).mono hHeld.size)) (fun hHd1 => ?_)
    clear hHeld
    clear hK K
    try go_frame
    refine wpAnyH_ready (rs := [5, 6, 12]) (by kernel_rfl) (by simp) ?_
    refine (AllReadyH.cons rfl (fun K hK => ?_) (AllReadyH.cons rfl (fun K hK => ?_) (AllReadyH.cons rfl (fun K hK => ?_) AllReadyH.nil)))
    · refine if_wpK rfl (wp_cpy _ _ 27 rfl w.heap.size N 33 iK _ 2 16 Try.underlying27 hiK hK0 hK1 hK2 rfl (by decide) _ vt _ _ rfl rfl rT (HT.out _ hHd1) (kC_one _) (by unfold maxLen; omega) (by omega) hHd1.size (fun v5 v5w r1 r2 => ?_))
      try (have rB := row_step rB rT (by decide) r2)
      try (have rX := row_step rX rT (by decide) r2)
      have hbn := hHd1.grown r2 hHd1.size (fun j hj => (rT.lt j hj).1)
      obtain ⟨a5, c5, rfl, _⟩ := own_spell r1
      have rT := r1
      refine hK.out _ _ hbn (fun hHd2 => ?_)
      clear hHd1 hbn r1 r2
      clear hK K
      try go_frame
      refine wpAnyH_ready (rs := [6, 12]) (by kernel_rfl) (by simp) ?_
      refine (AllReadyH.cons rfl (fun K hK => ?_) (AllReadyH.cons rfl (fun K hK => ?_) AllReadyH.nil))
      · go_simp
        have rB := row0K hHd2 35 4
        try simp only [show ∀ W : World, W.drew.heap = W.heap from fun _ => rfl, World.size_alloc] at rB
        try (have rT := rT.alloc (.cells #[] 35))
        try (have rX := rX.alloc (.cells #[] 35))
        refine hK.out _ _ (hHd2.trans ((Rt.below1 _ _).mono hHd2.size)) (fun hHd3 => ?_)
        clear hHd2
        clear hK K
        try go_frame
        refine wpAnyH_ready (rs := [11, 12]) (by kernel_rfl) (by simp) ?_
        refine (AllReadyH.cons rfl (fun K hK => ?_) (AllReadyH.cons rfl (fun K hK => ?_) AllReadyH.nil))
        · refine if_wpK rfl (wp_cpy _ _ 28 rfl w.heap.size N 35 iB _ 4 32 Try.underlying28 hiB hB0 hB1 hB2 rfl (by decide) _ vb _ _ rfl rfl rB (HB.out _ hHd3) (bC_one _) (by unfold maxLen; omega) (by omega) hHd3.size (fun v11 v11w r1 r2 => ?_))
          try (have rT := row_step rT rB (by decide) r2)
          try (have rX := row_step rX rB (by decide) r2)
          have hbn := hHd3.grown r2 hHd3.size (fun j hj => (rB.lt j hj).1)
          obtain ⟨a11, c11, rfl, _⟩ := own_spell r1
          have rB := r1
          refine hK.out _ _ hbn (fun hHd4 => ?_)
          clear hHd3 hbn r1 r2
          clear hK K
          try go_frame
          refine wpAnyH_ready (rs := [12]) (by kernel_rfl) (by simp) ?_
          refine AllReadyH.cons rfl (fun K hK => ?_) AllReadyH.nil
          go_simp
          have rX := row0K hHd4 37 4
          try simp only [show ∀ W : World, W.drew.heap = W.heap from fun _ => rfl, World.size_alloc] at rX
          try (have rT := rT.alloc (.cells #[] 37))
          try (have rB := rB.alloc (.cells #[] 37))
          refine hK.out _ _ (hHd4.trans ((Rt.below1 _ _).mono hHd4.size)) (fun hHd5 => ?_)
          clear hHd4
          clear hK K
          try go_frame
          refine wpAnyH_ready (rs := [17]) (by kernel_rfl) (by simp) ?_
          refine AllReadyH.cons rfl (fun Kc hK => ?_) AllReadyH.nil
          refine if_wpK rfl (wp_cpy _ _ 29 rfl w.heap.size N 37 iX _ 4 40 Try.underlying29 hiX hX0 hX1 hX2 rfl (by decide) _ vx _ _ rfl rfl rX (HX.out _ hHd5) (sC_one _) (by unfold maxLen; omega) (by omega) hHd5.size (fun v17 v17w r1 r2 => ?_))
          try (have rT := row_step rT rX (by decide) r2)
          try (have rB := row_step rB rX (by decide) r2)
          have hbn := hHd5.grown r2 hHd5.size (fun j hj => (rX.lt j hj).1)
          obtain ⟨a17, c17, rfl, _⟩ := own_spell r1
          have rX := r1
          refine hK.out _ _ hbn (fun hHd6 => ?_)
          clear hHd5 hbn r1 r2
          clear hK Kc
          try go_frame
          refine opT 18 21 (.build 31 #[(0, (.tmp 8)), (1, (.tmp 14)), (2, (.tmp 20))]) (.agg #[.slice a5 s.T.length c5, .slice a11 s.B.length c11, .slice a17 s.X.length c17]) rfl ?_
          go_frame
          refine wpAnyH_ready (rs := [19]) (by kernel_rfl) (by simp) ?_
          refine AllReadyH.cons rfl (fun K hK => ?_) AllReadyH.nil
          go_simp
          have hZ := rcopy_end HG.out rT rB rX hHd6
          have HZ : Hid (_ ∧ _) := hZ
          refine hK.out _ _ (hHd6.trans ((Rt.below1 _ _).mono hHd6.size)) (fun hHd7 => ?_)
          clear hHd6 hZ rT rB rX
          clear hK K
          try go_frame
          refine opT 20 2 (.assign (.tmp 22)) (.pointer (some ⟨v17w.heap.size, 0, none⟩)) rfl ?_
          go_frame
          refine wpAnyH_done (by kernel_rfl) ?_ _
          go_wp2_with fail
          go_ret
          exact ⟨_, _, _, _, rfl, HZ.out.1, HZ.out.2⟩
        · go_simp
          have rX := row0K hHd3 37 4
          try simp only [show ∀ W : World, W.drew.heap = W.heap from fun _ => rfl, World.size_alloc] at rX
          try (have rT := rT.alloc (.cells #[] 37))
          try (have rB := rB.alloc (.cells #[] 37))
          refine hK.out _ _ (hHd3.trans ((Rt.below1 _ _).mono hHd3.size)) (fun hHd4 => ?_)
          clear hHd3
          clear hK K
          try go_frame
          refine wpAnyH_ready (rs := [11]) (by kernel_rfl) (by simp) ?_
          refine AllReadyH.cons rfl (fun Kc hK => ?_) AllReadyH.nil
          refine if_wpK rfl (wp_cpy _ _ 28 rfl w.heap.size N 35 iB _ 4 32 Try.underlying28 hiB hB0 hB1 hB2 rfl (by decide) _ vb _ _ rfl rfl rB (HB.out _ hHd4) (bC_one _) (by unfold maxLen; omega) (by omega) hHd4.size (fun v11 v11w r1 r2 => ?_))
          try (have rT := row_step rT rB (by decide) r2)
          try (have rX := row_step rX rB (by decide) r2)
          have hbn := hHd4.grown r2 hHd4.size (fun j hj => (rB.lt j hj).1)
          obtain ⟨a11, c11, rfl, _⟩ := own_spell r1
          have rB := r1
          refine hK.out _ _ hbn (fun hHd5 => ?_)
          clear hHd4 hbn r1 r2
          clear hK Kc
          try go_frame
          refine wpAnyH_ready (rs := [17]) (by kernel_rfl) (by simp) ?_
          refine AllReadyH.cons rfl (fun Kc hK => ?_) AllReadyH.nil
          refine if_wpK rfl (wp_cpy _ _ 29 rfl w.heap.size N 37 iX _ 4 40 Try.underlying29 hiX hX0 hX1 hX2 rfl (by decide) _ vx _ _ rfl rfl rX (HX.out _ hHd5) (sC_one _) (by unfold maxLen; omega) (by omega) hHd5.size (fun v17 v17w r1 r2 => ?_))
          try (have rT := row_step rT rX (by decide) r2)
          try (have rB := row_step rB rX (by decide) r2)
          have hbn := hHd5.grown r2 hHd5.size (fun j hj => (rX.lt j hj).1)
          obtain ⟨a17, c17, rfl, _⟩ := own_spell r1
          have rX := r1
          refine hK.out _ _ hbn (fun hHd6 => ?_)
          clear hHd5 hbn r1 r2
          clear hK Kc
          try go_frame
          refine opT 18 21 (.build 31 #[(0, (.tmp 8)), (1, (.tmp 14)), (2, (.tmp 20))]) (.agg #[.slice a5 s.T.length c5, .slice a11 s.B.length c11, .slice a17 s.X.length c17]) rfl ?_
          go_frame
          refine wpAnyH_ready (rs := [19]) (by kernel_rfl) (by simp) ?_
          refine AllReadyH.cons rfl (fun K hK => ?_) AllReadyH.nil
          go_simp
          have hZ := rcopy_end HG.out rT rB rX hHd6
          have HZ : Hid (_ ∧ _) := hZ
          refine hK.out _ _ (hHd6.trans ((Rt.below1 _ _).mono hHd6.size)) (fun hHd7 => ?_)
          clear hHd6 hZ rT rB rX
          clear hK K
          try go_frame
          refine opT 20 2 (.assign (.tmp 22)) (.pointer (some ⟨v17w.heap.size, 0, none⟩)) rfl ?_
          go_frame
          refine wpAnyH_done (by kernel_rfl) ?_ _
          go_wp2_with fail
          go_ret
          exact ⟨_, _, _, _, rfl, HZ.out.1, HZ.out.2⟩
      · go_simp
        have rX := row0K hHd2 37 4
        try simp only [show ∀ W : World, W.drew.heap = W.heap from fun _ => rfl, World.size_alloc] at rX
        try (have rT := rT.alloc (.cells #[] 37))
        try (have rB := rB.alloc (.cells #[] 37))
        refine hK.out _ _ (hHd2.trans ((Rt.below1 _ _).mono hHd2.size)) (fun hHd3 => ?_)
        clear hHd2
        clear hK K
        try go_frame
        refine wpAnyH_ready (rs := [6]) (by kernel_rfl) (by simp) ?_
        refine AllReadyH.cons rfl (fun K hK => ?_) AllReadyH.nil
        go_simp
        have rB := row0K hHd3 35 4
        try simp only [show ∀ W : World, W.drew.heap = W.heap from fun _ => rfl, World.size_alloc] at rB
        try (have rT := rT.alloc (.cells #[] 35))
        try (have rX := rX.alloc (.cells #[] 35))
        refine hK.out _ _ (hHd3.trans ((Rt.below1 _ _).mono hHd3.size)) (fun hHd4 => ?_)
        clear hHd3
        clear hK K
        try go_frame
        refine wpAnyH_ready (rs := [11]) (by kernel_rfl) (by simp) ?_
        refine AllReadyH.cons rfl (fun Kc hK => ?_) AllReadyH.nil
        refine if_wpK rfl (wp_cpy _ _ 28 rfl w.heap.size N 35 iB _ 4 32 Try.underlying28 hiB hB0 hB1 hB2 rfl (by decide) _ vb _ _ rfl rfl rB (HB.out _ hHd4) (bC_one _) (by unfold maxLen; omega) (by omega) hHd4.size (fun v11 v11w r1 r2 => ?_))
        try (have rT := row_step rT rB (by decide) r2)
        try (have rX := row_step rX rB (by decide) r2)
        have hbn := hHd4.grown r2 hHd4.size (fun j hj => (rB.lt j hj).1)
        obtain ⟨a11, c11, rfl, _⟩ := own_spell r1
        have rB := r1
        refine hK.out _ _ hbn (fun hHd5 => ?_)
        clear hHd4 hbn r1 r2
        clear hK Kc
        try go_frame
        refine wpAnyH_ready (rs := [17]) (by kernel_rfl) (by simp) ?_
        refine AllReadyH.cons rfl (fun Kc hK => ?_) AllReadyH.nil
        refine if_wpK rfl (wp_cpy _ _ 29 rfl w.heap.size N 37 iX _ 4 40 Try.underlying29 hiX hX0 hX1 hX2 rfl (by decide) _ vx _ _ rfl rfl rX (HX.out _ hHd5) (sC_one _) (by unfold maxLen; omega) (by omega) hHd5.size (fun v17 v17w r1 r2 => ?_))
        try (have rT := row_step rT rX (by decide) r2)
        try (have rB := row_step rB rX (by decide) r2)
        have hbn := hHd5.grown r2 hHd5.size (fun j hj => (rX.lt j hj).1)
        obtain ⟨a17, c17, rfl, _⟩ := own_spell r1
        have rX := r1
        refine hK.out _ _ hbn (fun hHd6 => ?_)
        clear hHd5 hbn r1 r2
        clear hK Kc
        try go_frame
        refine opT 18 21 (.build 31 #[(0, (.tmp 8)), (1, (.tmp 14)), (2, (.tmp 20))]) (.agg #[.slice a5 s.T.length c5, .slice a11 s.B.length c11, .slice a17 s.X.length c17]) rfl ?_
        go_frame
        refine wpAnyH_ready (rs := [19]) (by kernel_rfl) (by simp) ?_
        refine AllReadyH.cons rfl (fun K hK => ?_) AllReadyH.nil
        go_simp
        have hZ := rcopy_end HG.out rT rB rX hHd6
        have HZ : Hid (_ ∧ _) := hZ
        refine hK.out _ _ (hHd6.trans ((Rt.below1 _ _).mono hHd6.size)) (fun hHd7 => ?_)
        clear hHd6 hZ rT rB rX
        clear hK K
        try go_frame
        refine opT 20 2 (.assign (.tmp 22)) (.pointer (some ⟨v17w.heap.size, 0, none⟩)) rfl ?_
        go_frame
        refine wpAnyH_done (by kernel_rfl) ?_ _
        go_wp2_with fail
        go_ret
        exact ⟨_, _, _, _, rfl, HZ.out.1, HZ.out.2⟩
    · go_simp
      have rB := row0K hHd1 35 4
      try simp only [show ∀ W : World, W.drew.heap = W.heap from fun _ => rfl, World.size_alloc] at rB
      try (have rT := rT.alloc (.cells #[] 35))
      try (have rX := rX.alloc (.cells #[] 35))
      refine hK.out _ _ (hHd1.trans ((Rt.below1 _ _).mono hHd1.size)) (fun hHd2 => ?_)
      clear hHd1
      clear hK K
      try go_frame
      refine wpAnyH_ready (rs := [5, 12]) (by kernel_rfl) (by simp) ?_
      refine (AllReadyH.cons rfl (fun K hK => ?_) (AllReadyH.cons rfl (fun K hK => ?_) AllReadyH.nil))
      · refine if_wpK rfl (wp_cpy _ _ 27 rfl w.heap.size N 33 iK _ 2 16 Try.underlying27 hiK hK0 hK1 hK2 rfl (by decide) _ vt _ _ rfl rfl rT (HT.out _ hHd2) (kC_one _) (by unfold maxLen; omega) (by omega) hHd2.size (fun v5 v5w r1 r2 => ?_))
        try (have rB := row_step rB rT (by decide) r2)
        try (have rX := row_step rX rT (by decide) r2)
        have hbn := hHd2.grown r2 hHd2.size (fun j hj => (rT.lt j hj).1)
        obtain ⟨a5, c5, rfl, _⟩ := own_spell r1
        have rT := r1
        refine hK.out _ _ hbn (fun hHd3 => ?_)
        clear hHd2 hbn r1 r2
        clear hK K
        try go_frame
        refine wpAnyH_ready (rs := [11, 12]) (by kernel_rfl) (by simp) ?_
        refine (AllReadyH.cons rfl (fun K hK => ?_) (AllReadyH.cons rfl (fun K hK => ?_) AllReadyH.nil))
        · refine if_wpK rfl (wp_cpy _ _ 28 rfl w.heap.size N 35 iB _ 4 32 Try.underlying28 hiB hB0 hB1 hB2 rfl (by decide) _ vb _ _ rfl rfl rB (HB.out _ hHd3) (bC_one _) (by unfold maxLen; omega) (by omega) hHd3.size (fun v11 v11w r1 r2 => ?_))
          try (have rT := row_step rT rB (by decide) r2)
          try (have rX := row_step rX rB (by decide) r2)
          have hbn := hHd3.grown r2 hHd3.size (fun j hj => (rB.lt j hj).1)
          obtain ⟨a11, c11, rfl, _⟩ := own_spell r1
          have rB := r1
          refine hK.out _ _ hbn (fun hHd4 => ?_)
          clear hHd3 hbn r1 r2
          clear hK K
          try go_frame
          refine wpAnyH_ready (rs := [12]) (by kernel_rfl) (by simp) ?_
          refine AllReadyH.cons rfl (fun K hK => ?_) AllReadyH.nil
          go_simp
          have rX := row0K hHd4 37 4
          try simp only [show ∀ W : World, W.drew.heap = W.heap from fun _ => rfl, World.size_alloc] at rX
          try (have rT := rT.alloc (.cells #[] 37))
          try (have rB := rB.alloc (.cells #[] 37))
          refine hK.out _ _ (hHd4.trans ((Rt.below1 _ _).mono hHd4.size)) (fun hHd5 => ?_)
          clear hHd4
          clear hK K
          try go_frame
          refine wpAnyH_ready (rs := [17]) (by kernel_rfl) (by simp) ?_
          refine AllReadyH.cons rfl (fun Kc hK => ?_) AllReadyH.nil
          refine if_wpK rfl (wp_cpy _ _ 29 rfl w.heap.size N 37 iX _ 4 40 Try.underlying29 hiX hX0 hX1 hX2 rfl (by decide) _ vx _ _ rfl rfl rX (HX.out _ hHd5) (sC_one _) (by unfold maxLen; omega) (by omega) hHd5.size (fun v17 v17w r1 r2 => ?_))
          try (have rT := row_step rT rX (by decide) r2)
          try (have rB := row_step rB rX (by decide) r2)
          have hbn := hHd5.grown r2 hHd5.size (fun j hj => (rX.lt j hj).1)
          obtain ⟨a17, c17, rfl, _⟩ := own_spell r1
          have rX := r1
          refine hK.out _ _ hbn (fun hHd6 => ?_)
          clear hHd5 hbn r1 r2
          clear hK Kc
          try go_frame
          refine opT 18 21 (.build 31 #[(0, (.tmp 8)), (1, (.tmp 14)), (2, (.tmp 20))]) (.agg #[.slice a5 s.T.length c5, .slice a11 s.B.length c11, .slice a17 s.X.length c17]) rfl ?_
          go_frame
          refine wpAnyH_ready (rs := [19]) (by kernel_rfl) (by simp) ?_
          refine AllReadyH.cons rfl (fun K hK => ?_) AllReadyH.nil
          go_simp
          have hZ := rcopy_end HG.out rT rB rX hHd6
          have HZ : Hid (_ ∧ _) := hZ
          refine hK.out _ _ (hHd6.trans ((Rt.below1 _ _).mono hHd6.size)) (fun hHd7 => ?_)
          clear hHd6 hZ rT rB rX
          clear hK K
          try go_frame
          refine opT 20 2 (.assign (.tmp 22)) (.pointer (some ⟨v17w.heap.size, 0, none⟩)) rfl ?_
          go_frame
          refine wpAnyH_done (by kernel_rfl) ?_ _
          go_wp2_with fail
          go_ret
          exact ⟨_, _, _, _, rfl, HZ.out.1, HZ.out.2⟩
        · go_simp
          have rX := row0K hHd3 37 4
          try simp only [show ∀ W : World, W.drew.heap = W.heap from fun _ => rfl, World.size_alloc] at rX
          try (have rT := rT.alloc (.cells #[] 37))
          try (have rB := rB.alloc (.cells #[] 37))
          refine hK.out _ _ (hHd3.trans ((Rt.below1 _ _).mono hHd3.size)) (fun hHd4 => ?_)
          clear hHd3
          clear hK K
          try go_frame
          refine wpAnyH_ready (rs := [11]) (by kernel_rfl) (by simp) ?_
          refine AllReadyH.cons rfl (fun Kc hK => ?_) AllReadyH.nil
          refine if_wpK rfl (wp_cpy _ _ 28 rfl w.heap.size N 35 iB _ 4 32 Try.underlying28 hiB hB0 hB1 hB2 rfl (by decide) _ vb _ _ rfl rfl rB (HB.out _ hHd4) (bC_one _) (by unfold maxLen; omega) (by omega) hHd4.size (fun v11 v11w r1 r2 => ?_))
          try (have rT := row_step rT rB (by decide) r2)
          try (have rX := row_step rX rB (by decide) r2)
          have hbn := hHd4.grown r2 hHd4.size (fun j hj => (rB.lt j hj).1)
          obtain ⟨a11, c11, rfl, _⟩ := own_spell r1
          have rB := r1
          refine hK.out _ _ hbn (fun hHd5 => ?_)
          clear hHd4 hbn r1 r2
          clear hK Kc
          try go_frame
          refine wpAnyH_ready (rs := [17]) (by kernel_rfl) (by simp) ?_
          refine AllReadyH.cons rfl (fun Kc hK => ?_) AllReadyH.nil
          refine if_wpK rfl (wp_cpy _ _ 29 rfl w.heap.size N 37 iX _ 4 40 Try.underlying29 hiX hX0 hX1 hX2 rfl (by decide) _ vx _ _ rfl rfl rX (HX.out _ hHd5) (sC_one _) (by unfold maxLen; omega) (by omega) hHd5.size (fun v17 v17w r1 r2 => ?_))
          try (have rT := row_step rT rX (by decide) r2)
          try (have rB := row_step rB rX (by decide) r2)
          have hbn := hHd5.grown r2 hHd5.size (fun j hj => (rX.lt j hj).1)
          obtain ⟨a17, c17, rfl, _⟩ := own_spell r1
          have rX := r1
          refine hK.out _ _ hbn (fun hHd6 => ?_)
          clear hHd5 hbn r1 r2
          clear hK Kc
          try go_frame
          refine opT 18 21 (.build 31 #[(0, (.tmp 8)), (1, (.tmp 14)), (2, (.tmp 20))]) (.agg #[.slice a5 s.T.length c5, .slice a11 s.B.length c11, .slice a17 s.X.length c17]) rfl ?_
          go_frame
          refine wpAnyH_ready (rs := [19]) (by kernel_rfl) (by simp) ?_
          refine AllReadyH.cons rfl (fun K hK => ?_) AllReadyH.nil
          go_simp
          have hZ := rcopy_end HG.out rT rB rX hHd6
          have HZ : Hid (_ ∧ _) := hZ
          refine hK.out _ _ (hHd6.trans ((Rt.below1 _ _).mono hHd6.size)) (fun hHd7 => ?_)
          clear hHd6 hZ rT rB rX
          clear hK K
          try go_frame
          refine opT 20 2 (.assign (.tmp 22)) (.pointer (some ⟨v17w.heap.size, 0, none⟩)) rfl ?_
          go_frame
          refine wpAnyH_done (by kernel_rfl) ?_ _
          go_wp2_with fail
          go_ret
          exact ⟨_, _, _, _, rfl, HZ.out.1, HZ.out.2⟩
      · go_simp
        have rX := row0K hHd2 37 4
        try simp only [show ∀ W : World, W.drew.heap = W.heap from fun _ => rfl, World.size_alloc] at rX
        try (have rT := rT.alloc (.cells #[] 37))
        try (have rB := rB.alloc (.cells #[] 37))
        refine hK.out _ _ (hHd2.trans ((Rt.below1 _ _).mono hHd2.size)) (fun hHd3 => ?_)
        clear hHd2
        clear hK K
        try go_frame
        refine wpAnyH_ready (rs := [5]) (by kernel_rfl) (by simp) ?_
        refine AllReadyH.cons rfl (fun Kc hK => ?_) AllReadyH.nil
        refine if_wpK rfl (wp_cpy _ _ 27 rfl w.heap.size N 33 iK _ 2 16 Try.underlying27 hiK hK0 hK1 hK2 rfl (by decide) _ vt _ _ rfl rfl rT (HT.out _ hHd3) (kC_one _) (by unfold maxLen; omega) (by omega) hHd3.size (fun v5 v5w r1 r2 => ?_))
        try (have rB := row_step rB rT (by decide) r2)
        try (have rX := row_step rX rT (by decide) r2)
        have hbn := hHd3.grown r2 hHd3.size (fun j hj => (rT.lt j hj).1)
        obtain ⟨a5, c5, rfl, _⟩ := own_spell r1
        have rT := r1
        refine hK.out _ _ hbn (fun hHd4 => ?_)
        clear hHd3 hbn r1 r2
        clear hK Kc
        try go_frame
        refine wpAnyH_ready (rs := [11]) (by kernel_rfl) (by simp) ?_
        refine AllReadyH.cons rfl (fun Kc hK => ?_) AllReadyH.nil
        refine if_wpK rfl (wp_cpy _ _ 28 rfl w.heap.size N 35 iB _ 4 32 Try.underlying28 hiB hB0 hB1 hB2 rfl (by decide) _ vb _ _ rfl rfl rB (HB.out _ hHd4) (bC_one _) (by unfold maxLen; omega) (by omega) hHd4.size (fun v11 v11w r1 r2 => ?_))
        try (have rT := row_step rT rB (by decide) r2)
        try (have rX := row_step rX rB (by decide) r2)
        have hbn := hHd4.grown r2 hHd4.size (fun j hj => (rB.lt j hj).1)
        obtain ⟨a11, c11, rfl, _⟩ := own_spell r1
        have rB := r1
        refine hK.out _ _ hbn (fun hHd5 => ?_)
        clear hHd4 hbn r1 r2
        clear hK Kc
        try go_frame
        refine wpAnyH_ready (rs := [17]) (by kernel_rfl) (by simp) ?_
        refine AllReadyH.cons rfl (fun Kc hK => ?_) AllReadyH.nil
        refine if_wpK rfl (wp_cpy _ _ 29 rfl w.heap.size N 37 iX _ 4 40 Try.underlying29 hiX hX0 hX1 hX2 rfl (by decide) _ vx _ _ rfl rfl rX (HX.out _ hHd5) (sC_one _) (by unfold maxLen; omega) (by omega) hHd5.size (fun v17 v17w r1 r2 => ?_))
        try (have rT := row_step rT rX (by decide) r2)
        try (have rB := row_step rB rX (by decide) r2)
        have hbn := hHd5.grown r2 hHd5.size (fun j hj => (rX.lt j hj).1)
        obtain ⟨a17, c17, rfl, _⟩ := own_spell r1
        have rX := r1
        refine hK.out _ _ hbn (fun hHd6 => ?_)
        clear hHd5 hbn r1 r2
        clear hK Kc
        try go_frame
        refine opT 18 21 (.build 31 #[(0, (.tmp 8)), (1, (.tmp 14)), (2, (.tmp 20))]) (.agg #[.slice a5 s.T.length c5, .slice a11 s.B.length c11, .slice a17 s.X.length c17]) rfl ?_
        go_frame
        refine wpAnyH_ready (rs := [19]) (by kernel_rfl) (by simp) ?_
        refine AllReadyH.cons rfl (fun K hK => ?_) AllReadyH.nil
        go_simp
        have hZ := rcopy_end HG.out rT rB rX hHd6
        have HZ : Hid (_ ∧ _) := hZ
        refine hK.out _ _ (hHd6.trans ((Rt.below1 _ _).mono hHd6.size)) (fun hHd7 => ?_)
        clear hHd6 hZ rT rB rX
        clear hK K
        try go_frame
        refine opT 20 2 (.assign (.tmp 22)) (.pointer (some ⟨v17w.heap.size, 0, none⟩)) rfl ?_
        go_frame
        refine wpAnyH_done (by kernel_rfl) ?_ _
        go_wp2_with fail
        go_ret
        exact ⟨_, _, _, _, rfl, HZ.out.1, HZ.out.2⟩
    · go_simp
      have rX := row0K hHd1 37 4
      try simp only [show ∀ W : World, W.drew.heap = W.heap from fun _ => rfl, World.size_alloc] at rX
      try (have rT := rT.alloc (.cells #[] 37))
      try (have rB := rB.alloc (.cells #[] 37))
      refine hK.out _ _ (hHd1.trans ((Rt.below1 _ _).mono hHd1.size)) (fun hHd2 => ?_)
      clear hHd1
      clear hK K
      try go_frame
      refine wpAnyH_ready (rs := [5, 6]) (by kernel_rfl) (by simp) ?_
      refine (AllReadyH.cons rfl (fun K hK => ?_) (AllReadyH.cons rfl (fun K hK => ?_) AllReadyH.nil))
      · refine if_wpK rfl (wp_cpy _ _ 27 rfl w.heap.size N 33 iK _ 2 16 Try.underlying27 hiK hK0 hK1 hK2 rfl (by decide) _ vt _ _ rfl rfl rT (HT.out _ hHd2) (kC_one _) (by unfold maxLen; omega) (by omega) hHd2.size (fun v5 v5w r1 r2 => ?_))
        try (have rB := row_step rB rT (by decide) r2)
        try (have rX := row_step rX rT (by decide) r2)
        have hbn := hHd2.grown r2 hHd2.size (fun j hj => (rT.lt j hj).1)
        obtain ⟨a5, c5, rfl, _⟩ := own_spell r1
        have rT := r1
        refine hK.out _ _ hbn (fun hHd3 => ?_)
        clear hHd2 hbn r1 r2
        clear hK K
        try go_frame
        refine wpAnyH_ready (rs := [6]) (by kernel_rfl) (by simp) ?_
        refine AllReadyH.cons rfl (fun K hK => ?_) AllReadyH.nil
        go_simp
        have rB := row0K hHd3 35 4
        try simp only [show ∀ W : World, W.drew.heap = W.heap from fun _ => rfl, World.size_alloc] at rB
        try (have rT := rT.alloc (.cells #[] 35))
        try (have rX := rX.alloc (.cells #[] 35))
        refine hK.out _ _ (hHd3.trans ((Rt.below1 _ _).mono hHd3.size)) (fun hHd4 => ?_)
        clear hHd3
        clear hK K
        try go_frame
        refine wpAnyH_ready (rs := [11]) (by kernel_rfl) (by simp) ?_
        refine AllReadyH.cons rfl (fun Kc hK => ?_) AllReadyH.nil
        refine if_wpK rfl (wp_cpy _ _ 28 rfl w.heap.size N 35 iB _ 4 32 Try.underlying28 hiB hB0 hB1 hB2 rfl (by decide) _ vb _ _ rfl rfl rB (HB.out _ hHd4) (bC_one _) (by unfold maxLen; omega) (by omega) hHd4.size (fun v11 v11w r1 r2 => ?_))
        try (have rT := row_step rT rB (by decide) r2)
        try (have rX := row_step rX rB (by decide) r2)
        have hbn := hHd4.grown r2 hHd4.size (fun j hj => (rB.lt j hj).1)
        obtain ⟨a11, c11, rfl, _⟩ := own_spell r1
        have rB := r1
        refine hK.out _ _ hbn (fun hHd5 => ?_)
        clear hHd4 hbn r1 r2
        clear hK Kc
        try go_frame
        refine wpAnyH_ready (rs := [17]) (by kernel_rfl) (by simp) ?_
        refine AllReadyH.cons rfl (fun Kc hK => ?_) AllReadyH.nil
        refine if_wpK rfl (wp_cpy _ _ 29 rfl w.heap.size N 37 iX _ 4 40 Try.underlying29 hiX hX0 hX1 hX2 rfl (by decide) _ vx _ _ rfl rfl rX (HX.out _ hHd5) (sC_one _) (by unfold maxLen; omega) (by omega) hHd5.size (fun v17 v17w r1 r2 => ?_))
        try (have rT := row_step rT rX (by decide) r2)
        try (have rB := row_step rB rX (by decide) r2)
        have hbn := hHd5.grown r2 hHd5.size (fun j hj => (rX.lt j hj).1)
        obtain ⟨a17, c17, rfl, _⟩ := own_spell r1
        have rX := r1
        refine hK.out _ _ hbn (fun hHd6 => ?_)
        clear hHd5 hbn r1 r2
        clear hK Kc
        try go_frame
        refine opT 18 21 (.build 31 #[(0, (.tmp 8)), (1, (.tmp 14)), (2, (.tmp 20))]) (.agg #[.slice a5 s.T.length c5, .slice a11 s.B.length c11, .slice a17 s.X.length c17]) rfl ?_
        go_frame
        refine wpAnyH_ready (rs := [19]) (by kernel_rfl) (by simp) ?_
        refine AllReadyH.cons rfl (fun K hK => ?_) AllReadyH.nil
        go_simp
        have hZ := rcopy_end HG.out rT rB rX hHd6
        have HZ : Hid (_ ∧ _) := hZ
        refine hK.out _ _ (hHd6.trans ((Rt.below1 _ _).mono hHd6.size)) (fun hHd7 => ?_)
        clear hHd6 hZ rT rB rX
        clear hK K
        try go_frame
        refine opT 20 2 (.assign (.tmp 22)) (.pointer (some ⟨v17w.heap.size, 0, none⟩)) rfl ?_
        go_frame
        refine wpAnyH_done (by kernel_rfl) ?_ _
        go_wp2_with fail
        go_ret
        exact ⟨_, _, _, _, rfl, HZ.out.1, HZ.out.2⟩
      · go_simp
        have rB := row0K hHd2 35 4
        try simp only [show ∀ W : World, W.drew.heap = W.heap from fun _ => rfl, World.size_alloc] at rB
        try (have rT := rT.alloc (.cells #[] 35))
        try (have rX := rX.alloc (.cells #[] 35))
        refine hK.out _ _ (hHd2.trans ((Rt.below1 _ _).mono hHd2.size)) (fun hHd3 => ?_)
        clear hHd2
        clear hK K
        try go_frame
        refine wpAnyH_ready (rs := [5]) (by kernel_rfl) (by simp) ?_
        refine AllReadyH.cons rfl (fun Kc hK => ?_) AllReadyH.nil
        refine if_wpK rfl (wp_cpy _ _ 27 rfl w.heap.size N 33 iK _ 2 16 Try.underlying27 hiK hK0 hK1 hK2 rfl (by decide) _ vt _ _ rfl rfl rT (HT.out _ hHd3) (kC_one _) (by unfold maxLen; omega) (by omega) hHd3.size (fun v5 v5w r1 r2 => ?_))
        try (have rB := row_step rB rT (by decide) r2)
        try (have rX := row_step rX rT (by decide) r2)
        have hbn := hHd3.grown r2 hHd3.size (fun j hj => (rT.lt j hj).1)
        obtain ⟨a5, c5, rfl, _⟩ := own_spell r1
        have rT := r1
        refine hK.out _ _ hbn (fun hHd4 => ?_)
        clear hHd3 hbn r1 r2
        clear hK Kc
        try go_frame
        refine wpAnyH_ready (rs := [11]) (by kernel_rfl) (by simp) ?_
        refine AllReadyH.cons rfl (fun Kc hK => ?_) AllReadyH.nil
        refine if_wpK rfl (wp_cpy _ _ 28 rfl w.heap.size N 35 iB _ 4 32 Try.underlying28 hiB hB0 hB1 hB2 rfl (by decide) _ vb _ _ rfl rfl rB (HB.out _ hHd4) (bC_one _) (by unfold maxLen; omega) (by omega) hHd4.size (fun v11 v11w r1 r2 => ?_))
        try (have rT := row_step rT rB (by decide) r2)
        try (have rX := row_step rX rB (by decide) r2)
        have hbn := hHd4.grown r2 hHd4.size (fun j hj => (rB.lt j hj).1)
        obtain ⟨a11, c11, rfl, _⟩ := own_spell r1
        have rB := r1
        refine hK.out _ _ hbn (fun hHd5 => ?_)
        clear hHd4 hbn r1 r2
        clear hK Kc
        try go_frame
        refine wpAnyH_ready (rs := [17]) (by kernel_rfl) (by simp) ?_
        refine AllReadyH.cons rfl (fun Kc hK => ?_) AllReadyH.nil
        refine if_wpK rfl (wp_cpy _ _ 29 rfl w.heap.size N 37 iX _ 4 40 Try.underlying29 hiX hX0 hX1 hX2 rfl (by decide) _ vx _ _ rfl rfl rX (HX.out _ hHd5) (sC_one _) (by unfold maxLen; omega) (by omega) hHd5.size (fun v17 v17w r1 r2 => ?_))
        try (have rT := row_step rT rX (by decide) r2)
        try (have rB := row_step rB rX (by decide) r2)
        have hbn := hHd5.grown r2 hHd5.size (fun j hj => (rX.lt j hj).1)
        obtain ⟨a17, c17, rfl, _⟩ := own_spell r1
        have rX := r1
        refine hK.out _ _ hbn (fun hHd6 => ?_)
        clear hHd5 hbn r1 r2
        clear hK Kc
        try go_frame
        refine opT 18 21 (.build 31 #[(0, (.tmp 8)), (1, (.tmp 14)), (2, (.tmp 20))]) (.agg #[.slice a5 s.T.length c5, .slice a11 s.B.length c11, .slice a17 s.X.length c17]) rfl ?_
        go_frame
        refine wpAnyH_ready (rs := [19]) (by kernel_rfl) (by simp) ?_
        refine AllReadyH.cons rfl (fun K hK => ?_) AllReadyH.nil
        go_simp
        have hZ := rcopy_end HG.out rT rB rX hHd6
        have HZ : Hid (_ ∧ _) := hZ
        refine hK.out _ _ (hHd6.trans ((Rt.below1 _ _).mono hHd6.size)) (fun hHd7 => ?_)
        clear hHd6 hZ rT rB rX
        clear hK K
        try go_frame
        refine opT 20 2 (.assign (.tmp 22)) (.pointer (some ⟨v17w.heap.size, 0, none⟩)) rfl ?_
        go_frame
        refine wpAnyH_done (by kernel_rfl) ?_ _
        go_wp2_with fail
        go_ret
        exact ⟨_, _, _, _, rfl, HZ.out.1, HZ.out.2⟩
  · go_simp
    have rB := row0K hHeld 35 4
    try simp only [show ∀ W : World, W.drew.heap = W.heap from fun _ => rfl, World.size_alloc] at rB
    try (have rT := rT.alloc (.cells #[] 35))
    try (have rX := rX.alloc (.cells #[] 35))
    refine hK.out _ _ (hHeld.trans ((Rt.below1 _ _).mono hHeld.size)) (fun hHd1 => ?_)
    clear hHeld
    clear hK K
    try go_frame
    refine wpAnyH_ready (rs := [0, 12]) (by kernel_rfl) (by simp) ?_
    refine (AllReadyH.cons rfl (fun K hK => ?_) (AllReadyH.cons rfl (fun K hK => ?_) AllReadyH.nil))
    · go_simp
      have rT := row0K hHd1 33 2
      try simp only [show ∀ W : World, W.drew.heap = W.heap from fun _ => rfl, World.size_alloc] at rT
      try (have rB := rB.alloc (.cells #[] 33))
      try (have rX := rX.alloc (.cells #[] 33))
      refine hK.out _ _ (hHd1.trans ((Rt.below1 _ _).mono hHd1.size)) (fun hHd2 => ?_)
      clear hHd1
      clear hK K
      try go_frame
      refine wpAnyH_ready (rs := [5, 12]) (by kernel_rfl) (by simp) ?_
      refine (AllReadyH.cons rfl (fun K hK => ?_) (AllReadyH.cons rfl (fun K hK => ?_) AllReadyH.nil))
      · refine if_wpK rfl (wp_cpy _ _ 27 rfl w.heap.size N 33 iK _ 2 16 Try.underlying27 hiK hK0 hK1 hK2 rfl (by decide) _ vt _ _ rfl rfl rT (HT.out _ hHd2) (kC_one _) (by unfold maxLen; omega) (by omega) hHd2.size (fun v5 v5w r1 r2 => ?_))
        try (have rB := row_step rB rT (by decide) r2)
        try (have rX := row_step rX rT (by decide) r2)
        have hbn := hHd2.grown r2 hHd2.size (fun j hj => (rT.lt j hj).1)
        obtain ⟨a5, c5, rfl, _⟩ := own_spell r1
        have rT := r1
        refine hK.out _ _ hbn (fun hHd3 => ?_)
        clear hHd2 hbn r1 r2
        clear hK K
        try go_frame
        refine wpAnyH_ready (rs := [11, 12]) (by kernel_rfl) (by simp) ?_
        refine (AllReadyH.cons rfl (fun K hK => ?_) (AllReadyH.cons rfl (fun K hK => ?_) AllReadyH.nil))
        · refine if_wpK rfl (wp_cpy _ _ 28 rfl w.heap.size N 35 iB _ 4 32 Try.underlying28 hiB hB0 hB1 hB2 rfl (by decide) _ vb _ _ rfl rfl rB (HB.out _ hHd3) (bC_one _) (by unfold maxLen; omega) (by omega) hHd3.size (fun v11 v11w r1 r2 => ?_))
          try (have rT := row_step rT rB (by decide) r2)
          try (have rX := row_step rX rB (by decide) r2)
          have hbn := hHd3.grown r2 hHd3.size (fun j hj => (rB.lt j hj).1)
          obtain ⟨a11, c11, rfl, _⟩ := own_spell r1
          have rB := r1
          refine hK.out _ _ hbn (fun hHd4 => ?_)
          clear hHd3 hbn r1 r2
          clear hK K
          try go_frame
          refine wpAnyH_ready (rs := [12]) (by kernel_rfl) (by simp) ?_
          refine AllReadyH.cons rfl (fun K hK => ?_) AllReadyH.nil
          go_simp
          have rX := row0K hHd4 37 4
          try simp only [show ∀ W : World, W.drew.heap = W.heap from fun _ => rfl, World.size_alloc] at rX
          try (have rT := rT.alloc (.cells #[] 37))
          try (have rB := rB.alloc (.cells #[] 37))
          refine hK.out _ _ (hHd4.trans ((Rt.below1 _ _).mono hHd4.size)) (fun hHd5 => ?_)
          clear hHd4
          clear hK K
          try go_frame
          refine wpAnyH_ready (rs := [17]) (by kernel_rfl) (by simp) ?_
          refine AllReadyH.cons rfl (fun Kc hK => ?_) AllReadyH.nil
          refine if_wpK rfl (wp_cpy _ _ 29 rfl w.heap.size N 37 iX _ 4 40 Try.underlying29 hiX hX0 hX1 hX2 rfl (by decide) _ vx _ _ rfl rfl rX (HX.out _ hHd5) (sC_one _) (by unfold maxLen; omega) (by omega) hHd5.size (fun v17 v17w r1 r2 => ?_))
          try (have rT := row_step rT rX (by decide) r2)
          try (have rB := row_step rB rX (by decide) r2)
          have hbn := hHd5.grown r2 hHd5.size (fun j hj => (rX.lt j hj).1)
          obtain ⟨a17, c17, rfl, _⟩ := own_spell r1
          have rX := r1
          refine hK.out _ _ hbn (fun hHd6 => ?_)
          clear hHd5 hbn r1 r2
          clear hK Kc
          try go_frame
          refine opT 18 21 (.build 31 #[(0, (.tmp 8)), (1, (.tmp 14)), (2, (.tmp 20))]) (.agg #[.slice a5 s.T.length c5, .slice a11 s.B.length c11, .slice a17 s.X.length c17]) rfl ?_
          go_frame
          refine wpAnyH_ready (rs := [19]) (by kernel_rfl) (by simp) ?_
          refine AllReadyH.cons rfl (fun K hK => ?_) AllReadyH.nil
          go_simp
          have hZ := rcopy_end HG.out rT rB rX hHd6
          have HZ : Hid (_ ∧ _) := hZ
          refine hK.out _ _ (hHd6.trans ((Rt.below1 _ _).mono hHd6.size)) (fun hHd7 => ?_)
          clear hHd6 hZ rT rB rX
          clear hK K
          try go_frame
          refine opT 20 2 (.assign (.tmp 22)) (.pointer (some ⟨v17w.heap.size, 0, none⟩)) rfl ?_
          go_frame
          refine wpAnyH_done (by kernel_rfl) ?_ _
          go_wp2_with fail
          go_ret
          exact ⟨_, _, _, _, rfl, HZ.out.1, HZ.out.2⟩
        · go_simp
          have rX := row0K hHd3 37 4
          try simp only [show ∀ W : World, W.drew.heap = W.heap from fun _ => rfl, World.size_alloc] at rX
          try (have rT := rT.alloc (.cells #[] 37))
          try (have rB := rB.alloc (.cells #[] 37))
          refine hK.out _ _ (hHd3.trans ((Rt.below1 _ _).mono hHd3.size)) (fun hHd4 => ?_)
          clear hHd3
          clear hK K
          try go_frame
          refine wpAnyH_ready (rs := [11]) (by kernel_rfl) (by simp) ?_
          refine AllReadyH.cons rfl (fun Kc hK => ?_) AllReadyH.nil
          refine if_wpK rfl (wp_cpy _ _ 28 rfl w.heap.size N 35 iB _ 4 32 Try.underlying28 hiB hB0 hB1 hB2 rfl (by decide) _ vb _ _ rfl rfl rB (HB.out _ hHd4) (bC_one _) (by unfold maxLen; omega) (by omega) hHd4.size (fun v11 v11w r1 r2 => ?_))
          try (have rT := row_step rT rB (by decide) r2)
          try (have rX := row_step rX rB (by decide) r2)
          have hbn := hHd4.grown r2 hHd4.size (fun j hj => (rB.lt j hj).1)
          obtain ⟨a11, c11, rfl, _⟩ := own_spell r1
          have rB := r1
          refine hK.out _ _ hbn (fun hHd5 => ?_)
          clear hHd4 hbn r1 r2
          clear hK Kc
          try go_frame
          refine wpAnyH_ready (rs := [17]) (by kernel_rfl) (by simp) ?_
          refine AllReadyH.cons rfl (fun Kc hK => ?_) AllReadyH.nil
          refine if_wpK rfl (wp_cpy _ _ 29 rfl w.heap.size N 37 iX _ 4 40 Try.underlying29 hiX hX0 hX1 hX2 rfl (by decide) _ vx _ _ rfl rfl rX (HX.out _ hHd5) (sC_one _) (by unfold maxLen; omega) (by omega) hHd5.size (fun v17 v17w r1 r2 => ?_))
          try (have rT := row_step rT rX (by decide) r2)
          try (have rB := row_step rB rX (by decide) r2)
          have hbn := hHd5.grown r2 hHd5.size (fun j hj => (rX.lt j hj).1)
          obtain ⟨a17, c17, rfl, _⟩ := own_spell r1
          have rX := r1
          refine hK.out _ _ hbn (fun hHd6 => ?_)
          clear hHd5 hbn r1 r2
          clear hK Kc
          try go_frame
          refine opT 18 21 (.build 31 #[(0, (.tmp 8)), (1, (.tmp 14)), (2, (.tmp 20))]) (.agg #[.slice a5 s.T.length c5, .slice a11 s.B.length c11, .slice a17 s.X.length c17]) rfl ?_
          go_frame
          refine wpAnyH_ready (rs := [19]) (by kernel_rfl) (by simp) ?_
          refine AllReadyH.cons rfl (fun K hK => ?_) AllReadyH.nil
          go_simp
          have hZ := rcopy_end HG.out rT rB rX hHd6
          have HZ : Hid (_ ∧ _) := hZ
          refine hK.out _ _ (hHd6.trans ((Rt.below1 _ _).mono hHd6.size)) (fun hHd7 => ?_)
          clear hHd6 hZ rT rB rX
          clear hK K
          try go_frame
          refine opT 20 2 (.assign (.tmp 22)) (.pointer (some ⟨v17w.heap.size, 0, none⟩)) rfl ?_
          go_frame
          refine wpAnyH_done (by kernel_rfl) ?_ _
          go_wp2_with fail
          go_ret
          exact ⟨_, _, _, _, rfl, HZ.out.1, HZ.out.2⟩
      · go_simp
        have rX := row0K hHd2 37 4
        try simp only [show ∀ W : World, W.drew.heap = W.heap from fun _ => rfl, World.size_alloc] at rX
        try (have rT := rT.alloc (.cells #[] 37))
        try (have rB := rB.alloc (.cells #[] 37))
        refine hK.out _ _ (hHd2.trans ((Rt.below1 _ _).mono hHd2.size)) (fun hHd3 => ?_)
        clear hHd2
        clear hK K
        try go_frame
        refine wpAnyH_ready (rs := [5]) (by kernel_rfl) (by simp) ?_
        refine AllReadyH.cons rfl (fun Kc hK => ?_) AllReadyH.nil
        refine if_wpK rfl (wp_cpy _ _ 27 rfl w.heap.size N 33 iK _ 2 16 Try.underlying27 hiK hK0 hK1 hK2 rfl (by decide) _ vt _ _ rfl rfl rT (HT.out _ hHd3) (kC_one _) (by unfold maxLen; omega) (by omega) hHd3.size (fun v5 v5w r1 r2 => ?_))
        try (have rB := row_step rB rT (by decide) r2)
        try (have rX := row_step rX rT (by decide) r2)
        have hbn := hHd3.grown r2 hHd3.size (fun j hj => (rT.lt j hj).1)
        obtain ⟨a5, c5, rfl, _⟩ := own_spell r1
        have rT := r1
        refine hK.out _ _ hbn (fun hHd4 => ?_)
        clear hHd3 hbn r1 r2
        clear hK Kc
        try go_frame
        refine wpAnyH_ready (rs := [11]) (by kernel_rfl) (by simp) ?_
        refine AllReadyH.cons rfl (fun Kc hK => ?_) AllReadyH.nil
        refine if_wpK rfl (wp_cpy _ _ 28 rfl w.heap.size N 35 iB _ 4 32 Try.underlying28 hiB hB0 hB1 hB2 rfl (by decide) _ vb _ _ rfl rfl rB (HB.out _ hHd4) (bC_one _) (by unfold maxLen; omega) (by omega) hHd4.size (fun v11 v11w r1 r2 => ?_))
        try (have rT := row_step rT rB (by decide) r2)
        try (have rX := row_step rX rB (by decide) r2)
        have hbn := hHd4.grown r2 hHd4.size (fun j hj => (rB.lt j hj).1)
        obtain ⟨a11, c11, rfl, _⟩ := own_spell r1
        have rB := r1
        refine hK.out _ _ hbn (fun hHd5 => ?_)
        clear hHd4 hbn r1 r2
        clear hK Kc
        try go_frame
        refine wpAnyH_ready (rs := [17]) (by kernel_rfl) (by simp) ?_
        refine AllReadyH.cons rfl (fun Kc hK => ?_) AllReadyH.nil
        refine if_wpK rfl (wp_cpy _ _ 29 rfl w.heap.size N 37 iX _ 4 40 Try.underlying29 hiX hX0 hX1 hX2 rfl (by decide) _ vx _ _ rfl rfl rX (HX.out _ hHd5) (sC_one _) (by unfold maxLen; omega) (by omega) hHd5.size (fun v17 v17w r1 r2 => ?_))
        try (have rT := row_step rT rX (by decide) r2)
        try (have rB := row_step rB rX (by decide) r2)
        have hbn := hHd5.grown r2 hHd5.size (fun j hj => (rX.lt j hj).1)
        obtain ⟨a17, c17, rfl, _⟩ := own_spell r1
        have rX := r1
        refine hK.out _ _ hbn (fun hHd6 => ?_)
        clear hHd5 hbn r1 r2
        clear hK Kc
        try go_frame
        refine opT 18 21 (.build 31 #[(0, (.tmp 8)), (1, (.tmp 14)), (2, (.tmp 20))]) (.agg #[.slice a5 s.T.length c5, .slice a11 s.B.length c11, .slice a17 s.X.length c17]) rfl ?_
        go_frame
        refine wpAnyH_ready (rs := [19]) (by kernel_rfl) (by simp) ?_
        refine AllReadyH.cons rfl (fun K hK => ?_) AllReadyH.nil
        go_simp
        have hZ := rcopy_end HG.out rT rB rX hHd6
        have HZ : Hid (_ ∧ _) := hZ
        refine hK.out _ _ (hHd6.trans ((Rt.below1 _ _).mono hHd6.size)) (fun hHd7 => ?_)
        clear hHd6 hZ rT rB rX
        clear hK K
        try go_frame
        refine opT 20 2 (.assign (.tmp 22)) (.pointer (some ⟨v17w.heap.size, 0, none⟩)) rfl ?_
        go_frame
        refine wpAnyH_done (by kernel_rfl) ?_ _
        go_wp2_with fail
        go_ret
        exact ⟨_, _, _, _, rfl, HZ.out.1, HZ.out.2⟩
    · go_simp
      have rX := row0K hHd1 37 4
      try simp only [show ∀ W : World, W.drew.heap = W.heap from fun _ => rfl, World.size_alloc] at rX
      try (have rT := rT.alloc (.cells #[] 37))
      try (have rB := rB.alloc (.cells #[] 37))
      refine hK.out _ _ (hHd1.trans ((Rt.below1 _ _).mono hHd1.size)) (fun hHd2 => ?_)
      clear hHd1
      clear hK K
      try go_frame
      refine wpAnyH_ready (rs := [0]) (by kernel_rfl) (by simp) ?_
      refine AllReadyH.cons rfl (fun K hK => ?_) AllReadyH.nil
      go_simp
      have rT := row0K hHd2 33 2
      try simp only [show ∀ W : World, W.drew.heap = W.heap from fun _ => rfl, World.size_alloc] at rT
      try (have rB := rB.alloc (.cells #[] 33))
      try (have rX := rX.alloc (.cells #[] 33))
      refine hK.out _ _ (hHd2.trans ((Rt.below1 _ _).mono hHd2.size)) (fun hHd3 => ?_)
      clear hHd2
      clear hK K
      try go_frame
      refine wpAnyH_ready (rs := [5]) (by kernel_rfl) (by simp) ?_
      refine AllReadyH.cons rfl (fun Kc hK => ?_) AllReadyH.nil
      refine if_wpK rfl (wp_cpy _ _ 27 rfl w.heap.size N 33 iK _ 2 16 Try.underlying27 hiK hK0 hK1 hK2 rfl (by decide) _ vt _ _ rfl rfl rT (HT.out _ hHd3) (kC_one _) (by unfold maxLen; omega) (by omega) hHd3.size (fun v5 v5w r1 r2 => ?_))
      try (have rB := row_step rB rT (by decide) r2)
      try (have rX := row_step rX rT (by decide) r2)
      have hbn := hHd3.grown r2 hHd3.size (fun j hj => (rT.lt j hj).1)
      obtain ⟨a5, c5, rfl, _⟩ := own_spell r1
      have rT := r1
      refine hK.out _ _ hbn (fun hHd4 => ?_)
      clear hHd3 hbn r1 r2
      clear hK Kc
      try go_frame
      refine wpAnyH_ready (rs := [11]) (by kernel_rfl) (by simp) ?_
      refine AllReadyH.cons rfl (fun Kc hK => ?_) AllReadyH.nil
      refine if_wpK rfl (wp_cpy _ _ 28 rfl w.heap.size N 35 iB _ 4 32 Try.underlying28 hiB hB0 hB1 hB2 rfl (by decide) _ vb _ _ rfl rfl rB (HB.out _ hHd4) (bC_one _) (by unfold maxLen; omega) (by omega) hHd4.size (fun v11 v11w r1 r2 => ?_))
      try (have rT := row_step rT rB (by decide) r2)
      try (have rX := row_step rX rB (by decide) r2)
      have hbn := hHd4.grown r2 hHd4.size (fun j hj => (rB.lt j hj).1)
      obtain ⟨a11, c11, rfl, _⟩ := own_spell r1
      have rB := r1
      refine hK.out _ _ hbn (fun hHd5 => ?_)
      clear hHd4 hbn r1 r2
      clear hK Kc
      try go_frame
      refine wpAnyH_ready (rs := [17]) (by kernel_rfl) (by simp) ?_
      refine AllReadyH.cons rfl (fun Kc hK => ?_) AllReadyH.nil
      refine if_wpK rfl (wp_cpy _ _ 29 rfl w.heap.size N 37 iX _ 4 40 Try.underlying29 hiX hX0 hX1 hX2 rfl (by decide) _ vx _ _ rfl rfl rX (HX.out _ hHd5) (sC_one _) (by unfold maxLen; omega) (by omega) hHd5.size (fun v17 v17w r1 r2 => ?_))
      try (have rT := row_step rT rX (by decide) r2)
      try (have rB := row_step rB rX (by decide) r2)
      have hbn := hHd5.grown r2 hHd5.size (fun j hj => (rX.lt j hj).1)
      obtain ⟨a17, c17, rfl, _⟩ := own_spell r1
      have rX := r1
      refine hK.out _ _ hbn (fun hHd6 => ?_)
      clear hHd5 hbn r1 r2
      clear hK Kc
      try go_frame
      refine opT 18 21 (.build 31 #[(0, (.tmp 8)), (1, (.tmp 14)), (2, (.tmp 20))]) (.agg #[.slice a5 s.T.length c5, .slice a11 s.B.length c11, .slice a17 s.X.length c17]) rfl ?_
      go_frame
      refine wpAnyH_ready (rs := [19]) (by kernel_rfl) (by simp) ?_
      refine AllReadyH.cons rfl (fun K hK => ?_) AllReadyH.nil
      go_simp
      have hZ := rcopy_end HG.out rT rB rX hHd6
      have HZ : Hid (_ ∧ _) := hZ
      refine hK.out _ _ (hHd6.trans ((Rt.below1 _ _).mono hHd6.size)) (fun hHd7 => ?_)
      clear hHd6 hZ rT rB rX
      clear hK K
      try go_frame
      refine opT 20 2 (.assign (.tmp 22)) (.pointer (some ⟨v17w.heap.size, 0, none⟩)) rfl ?_
      go_frame
      refine wpAnyH_done (by kernel_rfl) ?_ _
      go_wp2_with fail
      go_ret
      exact ⟨_, _, _, _, rfl, HZ.out.1, HZ.out.2⟩
  · go_simp
    have rX := row0K hHeld 37 4
    try simp only [show ∀ W : World, W.drew.heap = W.heap from fun _ => rfl, World.size_alloc] at rX
    try (have rT := rT.alloc (.cells #[] 37))
    try (have rB := rB.alloc (.cells #[] 37))
    refine hK.out _ _ (hHeld.trans ((Rt.below1 _ _).mono hHeld.size)) (fun hHd1 => ?_)
    clear hHeld
    clear hK K
    try go_frame
    refine wpAnyH_ready (rs := [0, 6]) (by kernel_rfl) (by simp) ?_
    refine (AllReadyH.cons rfl (fun K hK => ?_) (AllReadyH.cons rfl (fun K hK => ?_) AllReadyH.nil))
    · go_simp
      have rT := row0K hHd1 33 2
      try simp only [show ∀ W : World, W.drew.heap = W.heap from fun _ => rfl, World.size_alloc] at rT
      try (have rB := rB.alloc (.cells #[] 33))
      try (have rX := rX.alloc (.cells #[] 33))
      refine hK.out _ _ (hHd1.trans ((Rt.below1 _ _).mono hHd1.size)) (fun hHd2 => ?_)
      clear hHd1
      clear hK K
      try go_frame
      refine wpAnyH_ready (rs := [5, 6]) (by kernel_rfl) (by simp) ?_
      refine (AllReadyH.cons rfl (fun K hK => ?_) (AllReadyH.cons rfl (fun K hK => ?_) AllReadyH.nil))
      · refine if_wpK rfl (wp_cpy _ _ 27 rfl w.heap.size N 33 iK _ 2 16 Try.underlying27 hiK hK0 hK1 hK2 rfl (by decide) _ vt _ _ rfl rfl rT (HT.out _ hHd2) (kC_one _) (by unfold maxLen; omega) (by omega) hHd2.size (fun v5 v5w r1 r2 => ?_))
        try (have rB := row_step rB rT (by decide) r2)
        try (have rX := row_step rX rT (by decide) r2)
        have hbn := hHd2.grown r2 hHd2.size (fun j hj => (rT.lt j hj).1)
        obtain ⟨a5, c5, rfl, _⟩ := own_spell r1
        have rT := r1
        refine hK.out _ _ hbn (fun hHd3 => ?_)
        clear hHd2 hbn r1 r2
        clear hK K
        try go_frame
        refine wpAnyH_ready (rs := [6]) (by kernel_rfl) (by simp) ?_
        refine AllReadyH.cons rfl (fun K hK => ?_) AllReadyH.nil
        go_simp
        have rB := row0K hHd3 35 4
        try simp only [show ∀ W : World, W.drew.heap = W.heap from fun _ => rfl, World.size_alloc] at rB
        try (have rT := rT.alloc (.cells #[] 35))
        try (have rX := rX.alloc (.cells #[] 35))
        refine hK.out _ _ (hHd3.trans ((Rt.below1 _ _).mono hHd3.size)) (fun hHd4 => ?_)
        clear hHd3
        clear hK K
        try go_frame
        refine wpAnyH_ready (rs := [11]) (by kernel_rfl) (by simp) ?_
        refine AllReadyH.cons rfl (fun Kc hK => ?_) AllReadyH.nil
        refine if_wpK rfl (wp_cpy _ _ 28 rfl w.heap.size N 35 iB _ 4 32 Try.underlying28 hiB hB0 hB1 hB2 rfl (by decide) _ vb _ _ rfl rfl rB (HB.out _ hHd4) (bC_one _) (by unfold maxLen; omega) (by omega) hHd4.size (fun v11 v11w r1 r2 => ?_))
        try (have rT := row_step rT rB (by decide) r2)
        try (have rX := row_step rX rB (by decide) r2)
        have hbn := hHd4.grown r2 hHd4.size (fun j hj => (rB.lt j hj).1)
        obtain ⟨a11, c11, rfl, _⟩ := own_spell r1
        have rB := r1
        refine hK.out _ _ hbn (fun hHd5 => ?_)
        clear hHd4 hbn r1 r2
        clear hK Kc
        try go_frame
        refine wpAnyH_ready (rs := [17]) (by kernel_rfl) (by simp) ?_
        refine AllReadyH.cons rfl (fun Kc hK => ?_) AllReadyH.nil
        refine if_wpK rfl (wp_cpy _ _ 29 rfl w.heap.size N 37 iX _ 4 40 Try.underlying29 hiX hX0 hX1 hX2 rfl (by decide) _ vx _ _ rfl rfl rX (HX.out _ hHd5) (sC_one _) (by unfold maxLen; omega) (by omega) hHd5.size (fun v17 v17w r1 r2 => ?_))
        try (have rT := row_step rT rX (by decide) r2)
        try (have rB := row_step rB rX (by decide) r2)
        have hbn := hHd5.grown r2 hHd5.size (fun j hj => (rX.lt j hj).1)
        obtain ⟨a17, c17, rfl, _⟩ := own_spell r1
        have rX := r1
        refine hK.out _ _ hbn (fun hHd6 => ?_)
        clear hHd5 hbn r1 r2
        clear hK Kc
        try go_frame
        refine opT 18 21 (.build 31 #[(0, (.tmp 8)), (1, (.tmp 14)), (2, (.tmp 20))]) (.agg #[.slice a5 s.T.length c5, .slice a11 s.B.length c11, .slice a17 s.X.length c17]) rfl ?_
        go_frame
        refine wpAnyH_ready (rs := [19]) (by kernel_rfl) (by simp) ?_
        refine AllReadyH.cons rfl (fun K hK => ?_) AllReadyH.nil
        go_simp
        have hZ := rcopy_end HG.out rT rB rX hHd6
        have HZ : Hid (_ ∧ _) := hZ
        refine hK.out _ _ (hHd6.trans ((Rt.below1 _ _).mono hHd6.size)) (fun hHd7 => ?_)
        clear hHd6 hZ rT rB rX
        clear hK K
        try go_frame
        refine opT 20 2 (.assign (.tmp 22)) (.pointer (some ⟨v17w.heap.size, 0, none⟩)) rfl ?_
        go_frame
        refine wpAnyH_done (by kernel_rfl) ?_ _
        go_wp2_with fail
        go_ret
        exact ⟨_, _, _, _, rfl, HZ.out.1, HZ.out.2⟩
      · go_simp
        have rB := row0K hHd2 35 4
        try simp only [show ∀ W : World, W.drew.heap = W.heap from fun _ => rfl, World.size_alloc] at rB
        try (have rT := rT.alloc (.cells #[] 35))
        try (have rX := rX.alloc (.cells #[] 35))
        refine hK.out _ _ (hHd2.trans ((Rt.below1 _ _).mono hHd2.size)) (fun hHd3 => ?_)
        clear hHd2
        clear hK K
        try go_frame
        refine wpAnyH_ready (rs := [5]) (by kernel_rfl) (by simp) ?_
        refine AllReadyH.cons rfl (fun Kc hK => ?_) AllReadyH.nil
        refine if_wpK rfl (wp_cpy _ _ 27 rfl w.heap.size N 33 iK _ 2 16 Try.underlying27 hiK hK0 hK1 hK2 rfl (by decide) _ vt _ _ rfl rfl rT (HT.out _ hHd3) (kC_one _) (by unfold maxLen; omega) (by omega) hHd3.size (fun v5 v5w r1 r2 => ?_))
        try (have rB := row_step rB rT (by decide) r2)
        try (have rX := row_step rX rT (by decide) r2)
        have hbn := hHd3.grown r2 hHd3.size (fun j hj => (rT.lt j hj).1)
        obtain ⟨a5, c5, rfl, _⟩ := own_spell r1
        have rT := r1
        refine hK.out _ _ hbn (fun hHd4 => ?_)
        clear hHd3 hbn r1 r2
        clear hK Kc
        try go_frame
        refine wpAnyH_ready (rs := [11]) (by kernel_rfl) (by simp) ?_
        refine AllReadyH.cons rfl (fun Kc hK => ?_) AllReadyH.nil
        refine if_wpK rfl (wp_cpy _ _ 28 rfl w.heap.size N 35 iB _ 4 32 Try.underlying28 hiB hB0 hB1 hB2 rfl (by decide) _ vb _ _ rfl rfl rB (HB.out _ hHd4) (bC_one _) (by unfold maxLen; omega) (by omega) hHd4.size (fun v11 v11w r1 r2 => ?_))
        try (have rT := row_step rT rB (by decide) r2)
        try (have rX := row_step rX rB (by decide) r2)
        have hbn := hHd4.grown r2 hHd4.size (fun j hj => (rB.lt j hj).1)
        obtain ⟨a11, c11, rfl, _⟩ := own_spell r1
        have rB := r1
        refine hK.out _ _ hbn (fun hHd5 => ?_)
        clear hHd4 hbn r1 r2
        clear hK Kc
        try go_frame
        refine wpAnyH_ready (rs := [17]) (by kernel_rfl) (by simp) ?_
        refine AllReadyH.cons rfl (fun Kc hK => ?_) AllReadyH.nil
        refine if_wpK rfl (wp_cpy _ _ 29 rfl w.heap.size N 37 iX _ 4 40 Try.underlying29 hiX hX0 hX1 hX2 rfl (by decide) _ vx _ _ rfl rfl rX (HX.out _ hHd5) (sC_one _) (by unfold maxLen; omega) (by omega) hHd5.size (fun v17 v17w r1 r2 => ?_))
        try (have rT := row_step rT rX (by decide) r2)
        try (have rB := row_step rB rX (by decide) r2)
        have hbn := hHd5.grown r2 hHd5.size (fun j hj => (rX.lt j hj).1)
        obtain ⟨a17, c17, rfl, _⟩ := own_spell r1
        have rX := r1
        refine hK.out _ _ hbn (fun hHd6 => ?_)
        clear hHd5 hbn r1 r2
        clear hK Kc
        try go_frame
        refine opT 18 21 (.build 31 #[(0, (.tmp 8)), (1, (.tmp 14)), (2, (.tmp 20))]) (.agg #[.slice a5 s.T.length c5, .slice a11 s.B.length c11, .slice a17 s.X.length c17]) rfl ?_
        go_frame
        refine wpAnyH_ready (rs := [19]) (by kernel_rfl) (by simp) ?_
        refine AllReadyH.cons rfl (fun K hK => ?_) AllReadyH.nil
        go_simp
        have hZ := rcopy_end HG.out rT rB rX hHd6
        have HZ : Hid (_ ∧ _) := hZ
        refine hK.out _ _ (hHd6.trans ((Rt.below1 _ _).mono hHd6.size)) (fun hHd7 => ?_)
        clear hHd6 hZ rT rB rX
        clear hK K
        try go_frame
        refine opT 20 2 (.assign (.tmp 22)) (.pointer (some ⟨v17w.heap.size, 0, none⟩)) rfl ?_
        go_frame
        refine wpAnyH_done (by kernel_rfl) ?_ _
        go_wp2_with fail
        go_ret
        exact ⟨_, _, _, _, rfl, HZ.out.1, HZ.out.2⟩
    · go_simp
      have rB := row0K hHd1 35 4
      try simp only [show ∀ W : World, W.drew.heap = W.heap from fun _ => rfl, World.size_alloc] at rB
      try (have rT := rT.alloc (.cells #[] 35))
      try (have rX := rX.alloc (.cells #[] 35))
      refine hK.out _ _ (hHd1.trans ((Rt.below1 _ _).mono hHd1.size)) (fun hHd2 => ?_)
      clear hHd1
      clear hK K
      try go_frame
      refine wpAnyH_ready (rs := [0]) (by kernel_rfl) (by simp) ?_
      refine AllReadyH.cons rfl (fun K hK => ?_) AllReadyH.nil
      go_simp
      have rT := row0K hHd2 33 2
      try simp only [show ∀ W : World, W.drew.heap = W.heap from fun _ => rfl, World.size_alloc] at rT
      try (have rB := rB.alloc (.cells #[] 33))
      try (have rX := rX.alloc (.cells #[] 33))
      refine hK.out _ _ (hHd2.trans ((Rt.below1 _ _).mono hHd2.size)) (fun hHd3 => ?_)
      clear hHd2
      clear hK K
      try go_frame
      refine wpAnyH_ready (rs := [5]) (by kernel_rfl) (by simp) ?_
      refine AllReadyH.cons rfl (fun Kc hK => ?_) AllReadyH.nil
      refine if_wpK rfl (wp_cpy _ _ 27 rfl w.heap.size N 33 iK _ 2 16 Try.underlying27 hiK hK0 hK1 hK2 rfl (by decide) _ vt _ _ rfl rfl rT (HT.out _ hHd3) (kC_one _) (by unfold maxLen; omega) (by omega) hHd3.size (fun v5 v5w r1 r2 => ?_))
      try (have rB := row_step rB rT (by decide) r2)
      try (have rX := row_step rX rT (by decide) r2)
      have hbn := hHd3.grown r2 hHd3.size (fun j hj => (rT.lt j hj).1)
      obtain ⟨a5, c5, rfl, _⟩ := own_spell r1
      have rT := r1
      refine hK.out _ _ hbn (fun hHd4 => ?_)
      clear hHd3 hbn r1 r2
      clear hK Kc
      try go_frame
      refine wpAnyH_ready (rs := [11]) (by kernel_rfl) (by simp) ?_
      refine AllReadyH.cons rfl (fun Kc hK => ?_) AllReadyH.nil
      refine if_wpK rfl (wp_cpy _ _ 28 rfl w.heap.size N 35 iB _ 4 32 Try.underlying28 hiB hB0 hB1 hB2 rfl (by decide) _ vb _ _ rfl rfl rB (HB.out _ hHd4) (bC_one _) (by unfold maxLen; omega) (by omega) hHd4.size (fun v11 v11w r1 r2 => ?_))
      try (have rT := row_step rT rB (by decide) r2)
      try (have rX := row_step rX rB (by decide) r2)
      have hbn := hHd4.grown r2 hHd4.size (fun j hj => (rB.lt j hj).1)
      obtain ⟨a11, c11, rfl, _⟩ := own_spell r1
      have rB := r1
      refine hK.out _ _ hbn (fun hHd5 => ?_)
      clear hHd4 hbn r1 r2
      clear hK Kc
      try go_frame
      refine wpAnyH_ready (rs := [17]) (by kernel_rfl) (by simp) ?_
      refine AllReadyH.cons rfl (fun Kc hK => ?_) AllReadyH.nil
      refine if_wpK rfl (wp_cpy _ _ 29 rfl w.heap.size N 37 iX _ 4 40 Try.underlying29 hiX hX0 hX1 hX2 rfl (by decide) _ vx _ _ rfl rfl rX (HX.out _ hHd5) (sC_one _) (by unfold maxLen; omega) (by omega) hHd5.size (fun v17 v17w r1 r2 => ?_))
      try (have rT := row_step rT rX (by decide) r2)
      try (have rB := row_step rB rX (by decide) r2)
      have hbn := hHd5.grown r2 hHd5.size (fun j hj => (rX.lt j hj).1)
      obtain ⟨a17, c17, rfl, _⟩ := own_spell r1
      have rX := r1
      refine hK.out _ _ hbn (fun hHd6 => ?_)
      clear hHd5 hbn r1 r2
      clear hK Kc
      try go_frame
      refine opT 18 21 (.build 31 #[(0, (.tmp 8)), (1, (.tmp 14)), (2, (.tmp 20))]) (.agg #[.slice a5 s.T.length c5, .slice a11 s.B.length c11, .slice a17 s.X.length c17]) rfl ?_
      go_frame
      refine wpAnyH_ready (rs := [19]) (by kernel_rfl) (by simp) ?_
      refine AllReadyH.cons rfl (fun K hK => ?_) AllReadyH.nil
      go_simp
      have hZ := rcopy_end HG.out rT rB rX hHd6
      have HZ : Hid (_ ∧ _) := hZ
      refine hK.out _ _ (hHd6.trans ((Rt.below1 _ _).mono hHd6.size)) (fun hHd7 => ?_)
      clear hHd6 hZ rT rB rX
      clear hK K
      try go_frame
      refine opT 20 2 (.assign (.tmp 22)) (.pointer (some ⟨v17w.heap.size, 0, none⟩)) rfl ?_
      go_frame
      refine wpAnyH_done (by kernel_rfl) ?_ _
      go_wp2_with fail
      go_ret
      exact ⟨_, _, _, _, rfl, HZ.out.1, HZ.out.2⟩
end Go.Proofs.Ytompgoaogomoaaa.Kn
