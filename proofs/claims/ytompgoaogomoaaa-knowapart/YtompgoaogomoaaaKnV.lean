/- Contract: SeeSealed of the program's know; an append of a row to a row. -/
import Derived.Test.YtompgoaogomoaaaHd
import Derived.Test.YtompgoaogomoaaaKnU
import Derived.Laws.OwnMore
import Derived.Deep.AppendLies
import Derived.Deep.DeepCutAuto
namespace Go.Proofs.Ytompgoaogomoaaa.Kn
open Go.RowKit Go.Maps
open Rt (Gd gd gd_yes gd_no good_any gives_any gv)
set_option linter.unusedVariables false
set_option linter.unusedSimpArgs false

section
variable {P : Program} {o : Oper} {a : Act} {w : World} {K : Act → World → Prop} {Q : Exit → Act → World → Prop}
theorem wp_app (s x : Operand) (t : TypeId) (ho : o.op = .call { callee := .builtin .append, args := #[s, x], argTypes := #[t, t] })
    (base base2 : Nat) (e : TypeId) (i : TypeInfo) (z : Value) (size bytes : Nat) (ht : P.underlying t = some (.slice e)) (hi : P.info? e = some i) (hz : i.zero = some z) (hsize : i.size = size) (hby : i.bytes = bytes) (hzs : z.cells.size = size) (hsz : 0 < size)
    (v y : Value) (n m : Nat) (xs ys : List Value) (hs : a.eval s = v) (hx : a.eval x = y) (hown : w.ownsRow base e size v n xs) (hy : w.ownsRow base2 e size y m ys) (h0 : m = 0 → y = .slice none 0 0) (h1 : ∀ u ∈ ys, u.oneCell' = true)
    (h63 : n + m ≤ maxLen) (hbytes : (n + m) * bytes ≤ 140737488355328) (hbase : base ≤ w.heap.size)
    (h : ∀ v' w', w'.ownsRow base e size v' (n + m) (xs ++ ys) → w.grownBy w' v.ownBlock → (∀ b, v'.ownBlock = some b → v.ownBlock = some b ∨ w.heap.size ≤ b) → (n + m = 0 → v = .slice none 0 0 → v' = .slice none 0 0) → K (a.put o.dst v') w') : o.wp P a w K Q := by
  by_cases hm : m = 0
  · have hy0 := h0 hm
    subst hm
    have hl : ys = [] := by have := hy.1; simpa using this
    subst hl
    subst hy0
    have hr := run_append_owned_none (P := P) (w := w) base t o.type e i size ht hi v n xs hown
    unfold Oper.wp execOp
    simp only [ho, resolve, invoke, builtin, Sem.run_bind, Sem.run_pure, Result.andThen_ok, List.map_toArray, List.map_cons, List.map_nil, hs, hx, hr]
    have hown' : w.ownsRow base e size v (n + 0) (xs ++ []) := by rw [List.append_nil]; exact hown
    exact h v w hown' ⟨rfl, rfl, rfl, Nat.le_refl _, fun _ _ _ => rfl⟩ (fun b hb => .inl hb) (fun _ e => e)
  · have hmp : 0 < m := by omega
    have hyo : w.ownsRow base2 e size y m ys := hy
    rcases hy.2 with ⟨_, q⟩ | ⟨g, cap, cur, rfl, _⟩
    · omega
    · refine wp_append_lies w s x t ho base e i z size bytes ht hi hz hsize hby hzs hsz v n xs hs hown ⟨g, 0, none⟩ m cap ys hx hyo.1 (fun j u hj => ?_) h1 hmp h63 hbytes hbase w.heap.size rfl (fun g' cap' w' q1 q2 q3 q4 => ?_)
      · have hjl : j < m * size := by rw [← hyo.1]; exact (List.getElem?_eq_some_iff.1 hj).1
        have := hyo.cellAt j hjl
        rw [Addr.add_mid, Nat.zero_add, this]
        exact hj
      · refine h _ w' q1 q2 (fun b hb => ?_) (fun q => by omega)
        cases hb
        rcases q3 with q | q
        · exact .inl q
        · exact .inr (by show w.heap.size ≤ g'; omega)
end
theorem own_short {w : World} {base e size n m cap : Nat} {a : Option Addr} {xs ys : List Value} (h : w.ownsRow base e size (.slice a (n + m) cap) (n + m) (xs ++ ys)) (hx : xs.length = n * size) (hp : 0 < n + m) : w.ownsRow base e size (.slice a n cap) n xs := by
  rcases h.2 with ⟨_, q⟩ | ⟨g, cap', cur, hv, h1, h2, h3, h4, h5, h6⟩
  · omega
  · simp only [Value.slice.injEq] at hv
    obtain ⟨rfl, _, rfl⟩ := hv
    refine ⟨hx, .inr ⟨g, cap, cur, rfl, h1, h2, by omega, h4, h5, ?_⟩⟩
    have : (cur.toList.take ((n + m) * size)).take (n * size) = (xs ++ ys).take (n * size) := by rw [h6]
    rw [List.take_take, Nat.min_eq_left (Nat.mul_le_mul_right _ (by omega)), ← hx, List.take_left] at this
    rw [← hx]
    exact this
set_option maxRecDepth 100000 in
set_option maxHeartbeats 1000000 in
theorem seeX_p (w : World) (N p : Nat) (f : Nat → Int) (pd B : List B2) (X : List Sd) (bl bb bt bs : Nat) (vs : K2 → Value) (h : Pk w N p f pd B X bl bb bt bs vs) (hX : X.length < 1152921504606846976) (e0 k0 k1 : Int) (t : ByteArray) (hw : wX (e0, ((k0, k1), t))) :
    Calls Try.prog 32 #[.pointer (some ⟨p, 0, none⟩), .agg #[.int .i64 e0, .int .i64 k0, .int .i64 k1, .string t] ] w fun e w' => e = .returned (.tuple #[]) ∧ Pk w' N p f pd B (X ++ [(e0, ((k0, k1), t))]) bl bb bt bs vs ∧ Kept (fun k => k = bt) w w' := by
  have hri := isRight_any e0 k0 k1 t
  have ht := hw.2.2.2
  dsimp only at ht
  have hri := fun W => hri W ht
  have hb1 : Below w.heap.size w (w.alloc (.cells #[.int .i64 e0, .int .i64 k0, .int .i64 k1, .string t] 37)) := Rt.below1 _ _
  obtain ⟨x0, x1, x2, x3⟩ := boxed4 w (.int .i64 e0) (.int .i64 k0) (.int .i64 k1) (.string t) 37
  have hc2 := h.c2
  have HU : Hid (∀ W, Below w.heap.size w W → Pk W N p f pd B X bl bb bt bs vs) := fun W hW => h.later hW
  obtain ⟨u, hu⟩ : ∃ u, gx (e0, ((k0, k1), t)) = u := ⟨_, rfl⟩
  have HG : Hid (gx (e0, ((k0, k1), t)) = u) := hu
  rw [hu] at hri
  have HW : Hid (wX (e0, ((k0, k1), t)) ∧ X.length < 1152921504606846976) := ⟨hw, hX⟩
  clear h hw hX ht hu
  cases u with
  | false =>
    have HF : Hid (∀ W, Below w.heap.size w W → Pk W N p f pd B (X ++ [(e0, ((k0, k1), t))]) bl bb bt bs vs) := fun W hW => by
      obtain ⟨q1, q2, q3, q4, q5, q6, q7⟩ := HU.out W hW
      refine ⟨q1, q2, q3, q4.mono (by simp) (fun c => ?_), q5, q6, q7⟩
      rw [List.mem_append, List.mem_singleton]
      constructor
      · rintro ⟨a, b⟩; exact ⟨.inl a, b⟩
      · rintro ⟨a | a, b⟩
        · exact ⟨a, b⟩
        · subst a; rw [HG.out] at b; cases b
    clear HU HG HW
    go_enter Try.func32, Try.ntmps32
    go_upto_region 1 with (fail)
    generalize w.alloc (.cells #[.int .i64 e0, .int .i64 k0, .int .i64 k1, .string t] 37) = w1 at *
    go_wp2_with (go_at_call 41; refine (hri _).mono ?_; rintro r ws ⟨rfl, hbs⟩)
    first | go_end0 | refine bodyPost_ret (results_none rfl _ _ _) rfl ?_
    exact ⟨rfl, HF.out _ (Rt.Below.then hb1 hbs), Kept.ofBelow (Rt.Below.then hb1 hbs)⟩
  | true =>
    go_enter Try.func32, Try.ntmps32
    go_upto_region 1 with (fail)
    generalize w.alloc (.cells #[.int .i64 e0, .int .i64 k0, .int .i64 k1, .string t] 37) = w1 at *
    obtain ⟨Q, hQ⟩ : ∃ Q, w.heap.size = Q := ⟨_, rfl⟩
    have hQw : Q < w1.heap.size := World.block_lt_of_cell? w1 _ (hQ ▸ x0)
    rw [hQ] at x0 x1 x2 x3 ⊢
    go_upto_region 2 with (go_at_call 41; refine (hri _).mono ?_; rintro r ws ⟨rfl, hbs⟩)
    have hP := HU.out _ (Rt.Below.then hb1 hbs)
    have HB2 : Hid (Below w.heap.size w ws) := Rt.Below.then hb1 hbs
    have x0 := cell_later hbs x0
    have x1 := cell_later hbs x1
    have x2 := cell_later hbs x2
    have x3 := cell_later hbs x3
    have hc2 := hP.c2
    have hdr : Below ws.heap.size ws ws.drew := Below.drew (Below.refl _ _)
    have hPd := hP.later hdr
    obtain ⟨w', hrun, hU', hgr⟩ := hPd.txt.put sldT Try.underlying66 HW.out.1 (by have := HW.out.2; omega)
    have hk : Kept (fun k => k = bt) ws.drew w' := (Kept.refl _ _).grown hgr fun k e _ => by cases e; rfl
    have HE : Hid (Pk w' N p f pd B (X ++ [(e0, ((k0, k1), t))]) bl bb bt bs vs ∧ Kept (fun k => k = bt) w w') := by
      obtain ⟨n1, n2, n3, n4, n5, n6⟩ := hPd.ne
      refine ⟨⟨(hk.block p hPd.lt (hPd.pne.2.2.1)).trans hPd.blk, hPd.lst.kept hk n2, hPd.box.kept hk n4, hU'.mono (by simp) (fun c => ?_), hPd.shm.kept hk (fun e => n6 e.symm) (fun u k q => (hPd.rne q).2.2.2.1), hPd.ne, hPd.ge⟩, ?_⟩
      · rw [List.mem_append, List.mem_singleton]
        constructor
        · rintro (⟨a, b⟩ | a)
          · exact ⟨.inl a, b⟩
          · subst a; exact ⟨.inr rfl, HG.out⟩
        · rintro ⟨a | a, b⟩
          · exact .inl ⟨a, b⟩
          · exact .inr a
      · exact (Kept.ofBelow (HB2.out.trans (hdr.mono HB2.out.size))).trans hk fun _ _ e => e
    have hne : Q ≠ bt ∧ p ≠ bt := by
      refine ⟨fun e => ?_, hPd.pne.2.2.1⟩
      obtain ⟨es, cl, q⟩ := hP.txt.isMap
      rw [← e] at q
      simp [World.cell?, q] at x0
    have hS0 : Kept (fun k => k = bt) ws.drew ws.drew := Kept.refl _ _
    have qc := fun W (hW : Kept (fun k => k = bt) ws.drew W) => hW.cell (hPd.c2) hne.2
    have y0 := fun W (hW : Kept (fun k => k = bt) ws.drew W) => hW.cell (cell_later hdr x0) hne.1
    have y1 := fun W (hW : Kept (fun k => k = bt) ws.drew W) => hW.cell (cell_later hdr x1) hne.1
    have y2 := fun W (hW : Kept (fun k => k = bt) ws.drew W) => hW.cell (cell_later hdr x2) hne.1
    have y3 := fun W (hW : Kept (fun k => k = bt) ws.drew W) => hW.cell (cell_later hdr x3) hne.1
    have HR : Hid (_ = _) := hrun
    clear hP hPd hU' hgr HB2 HG HW HU hdr x0 x1 x2 x3 hc2 hri hb1 hbs hrun
    refine wp_region_held_drew (S := fun W => Kept (fun k => k = bt) ws.drew W) (by kernel_rfl) hS0 (fun hHeld => ?_)
    refine opT 0 6 (.move (.tmp 0)) (.pointer (some ⟨p, 0, none⟩)) rfl ?_
    go_frame
    refine opT 1 7 (.nilCheck (.tmp 6)) (.pointer (some ⟨p, 0, none⟩)) rfl ?_
    go_frame
    refine opT 2 8 (.fieldAddr 69 (.tmp 7) 2) (.pointer (some ⟨p, 2, none⟩)) rfl ?_
    go_frame
    refine opR 3 9 (.load 66 (.tmp 8)) (.map (some bt)) rfl (fun w hSw => by have c := qc w hSw; go_simp) ?_
    go_frame
    refine opR 4 10 (.load 37 (.tmp 3)) (.agg #[.int .i64 e0, .int .i64 k0, .int .i64 k1, .string t]) rfl (fun w hSw => by have c0 := y0 w hSw; have c1 := y1 w hSw; have c2 := y2 w hSw; have c3 := y3 w hSw; go_simp) ?_
    go_frame
    refine opT 5 11 (.build 72 #[]) (.agg #[]) rfl ?_
    go_frame
    refine wpAnyH_ready (rs := [6]) (by kernel_rfl) (by simp) ?_
    refine AllReadyH.cons rfl (fun Kc hK => ?_) AllReadyH.nil
    refine if_wpK rfl (wp_mapUpd 66 _ _ _ rfl rfl rfl rfl rfl HR.out ?_)
    refine hK.out _ _ hk (fun hHeld2 => ?_)
    clear hK Kc
    try go_frame
    refine wpAnyH_done (by kernel_rfl) ?_ _
    go_wp2_with fail
    first | go_end0 | refine bodyPost_ret (results_none rfl _ _ _) rfl ?_
    exact ⟨rfl, HE.out.1, HE.out.2⟩
end Go.Proofs.Ytompgoaogomoaaa.Kn
