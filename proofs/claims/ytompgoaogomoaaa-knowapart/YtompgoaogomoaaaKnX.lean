/- Contract: gain of the program's know. -/
import Derived.Test.YtompgoaogomoaaaKnW
import Derived.Deep.LoopGhost
namespace Go.Proofs.Ytompgoaogomoaaa.Kn
open Go.RowKit Go.Maps
open Rt (Gd gd gd_yes gd_no good_any gives_any gv)
set_option linter.unusedVariables false
set_option linter.unusedSimpArgs false

theorem wpList_app {P : Program} {w : World} {ops : Array Oper} {rest : List Oper} {o : Oper} {a : Act} {Q : Exit → Act → World → Prop} (hgd : o.guard = none) (s x : Operand) (t : TypeId) (ho : o.op = .call { callee := .builtin .append, args := #[s, x], argTypes := #[t, t] })
    (base base2 : Nat) (e : TypeId) (i : TypeInfo) (z : Value) (size bytes : Nat) (ht : P.underlying t = some (.slice e)) (hi : P.info? e = some i) (hz : i.zero = some z) (hsize : i.size = size) (hby : i.bytes = bytes) (hzs : z.cells.size = size) (hsz : 0 < size)
    (v y : Value) (n m : Nat) (xs ys : List Value) (hs : a.eval s = v) (hx : a.eval x = y) (hown : w.ownsRow base e size v n xs) (hy : w.ownsRow base2 e size y m ys) (h0 : m = 0 → y = .slice none 0 0) (h1 : ∀ u ∈ ys, u.oneCell' = true)
    (h63 : n + m ≤ maxLen) (hbytes : (n + m) * bytes ≤ 140737488355328) (hbase : base ≤ w.heap.size)
    (h : ∀ v' w', w'.ownsRow base e size v' (n + m) (xs ++ ys) → w.grownBy w' v.ownBlock → (∀ b, v'.ownBlock = some b → v.ownBlock = some b ∨ w.heap.size ≤ b) → wpList P ops Q rest (a.put o.dst v') w') : wpList P ops Q (o :: rest) a w :=
  wpList_plain hgd fun _ hK => wp_app s x t ho base base2 e i z size bytes ht hi hz hsize hby hzs hsz v y n m xs ys hs hx hown hy h0 h1 h63 hbytes hbase fun v' w' q1 q2 q3 _ => hK _ _ (h v' w' q1 q2 q3)
/- The rounds' state. -/
structure Gj (w wr : World) (N p : Nat) (T : List K2) (B : List B2) (X : List Sd) (bl bb bt bs : Nat) (vs : K2 → Value) (f : Nat → Int) (pd : List B2) (ls : List K2) (vs' : K2 → Value) (v : Value) : Prop where
  wk : Wk T B f pd ls
  pk : Pk wr N p f pd B X bl bb bt bs vs'
  kept : Kept (fun x => x = bl ∨ x = bs) w wr
  own : ∀ u b, (vs' u).ownBlock = some b → (vs u).ownBlock = some b
  row : wr.ownsRow w.heap.size 33 2 v ls.length (ls.flatMap kC)
  sz : ls.length + pd.length ≤ 4398046511104
theorem Gj.later {w wr wr' : World} {N p : Nat} {T : List K2} {B : List B2} {X : List Sd} {bl bb bt bs : Nat} {vs vs' : K2 → Value} {f : Nat → Int} {pd : List B2} {ls : List K2} {v : Value} (h : Gj w wr N p T B X bl bb bt bs vs f pd ls vs' v) (hb : Below wr.heap.size wr wr') : Gj w wr' N p T B X bl bb bt bs vs f pd ls vs' v :=
  ⟨h.wk, h.pk.later hb, h.kept.trans (Kept.ofBelow (F := fun x => x = bl ∨ x = bs) hb) fun _ _ e => e, h.own, own_later h.row hb, h.sz⟩
/- What gain leaves. -/
def GainP (w : World) (N p : Nat) (T : List K2) (B : List B2) (X : List Sd) (bl bb bt bs : Nat) (vs : K2 → Value) (w' : World) : Prop :=
  ∃ f pd vs', Wk T B f pd [] ∧ Pk w' N p f pd B X bl bb bt bs vs' ∧ Kept (fun x => x = bl ∨ x = bs) w w' ∧ ∀ u b, (vs' u).ownBlock = some b → (vs u).ownBlock = some b
theorem snoc_of {α : Type} (l : List α) : l = [] ∨ ∃ m x, l = m ++ [x] := by
  rcases List.eq_nil_or_concat l with h | ⟨m, x, h⟩
  · exact .inl h
  · exact .inr ⟨m, x, by rw [h]; simp⟩
theorem kC_snoc (l : List K2) (k : K2) : (l ++ [k]).flatMap kC = l.flatMap kC ++ [.int .i64 k.1, .int .i64 k.2] := by simp [kC]
theorem kC_last (l : List K2) (k : K2) : ((l ++ [k]).flatMap kC)[l.length * 2]? = some (.int .i64 k.1) ∧ ((l ++ [k]).flatMap kC)[l.length * 2 + 1]? = some (.int .i64 k.2) := by
  have hl : (l.flatMap kC).length = l.length * 2 := by
    induction l with
    | nil => rfl
    | cons a r ih => simp [kC] at *; omega
  rw [kC_snoc]
  constructor
  · rw [List.getElem?_append_right (by omega), hl]; simp
  · rw [List.getElem?_append_right (by omega), hl]; simp
theorem fm_len (l : List K2) : (l.flatMap kC).length = l.length * 2 := by
  induction l with
  | nil => rfl
  | cons a r ih => simp [kC] at *; omega
/- The list's row stays while a key is taken: it lies beyond all that the know owned. -/
theorem gain_row {w w5 w6 : World} {N p n : Nat} {T : List K2} {B : List B2} {X : List Sd} {bl bb bt bs : Nat} {vs vs1 : K2 → Value} {f : Nat → Int} {pd : List B2} {ls : List K2} {v y : Value} {xs : List Value} (hlt : ∀ x, Fp p bl bb bt bs vs x → x < w.heap.size) (hG : Gj w w5 N p T B X bl bb bt bs vs f pd ls vs1 v) (hr : w5.ownsRow w.heap.size 33 2 y n xs) (hk : Kept (fun x => x = bl ∨ x = bs) w5 w6) : w6.ownsRow w.heap.size 33 2 y n xs :=
  hk.row hr fun k hk e => by
    have q := (own_type hr hk).1
    rcases e with e | e
    · have := hlt k (.inr (.inl e)); omega
    · have := hlt k (.inr (.inr (.inr (.inr (.inl e))))); omega
set_option maxRecDepth 100000 in
set_option maxHeartbeats 4000000 in
theorem gain_p (w : World) (N p : Nat) (T : List K2) (f : Nat → Int) (pd B : List B2) (X : List Sd) (bl bb bt bs : Nat) (vs : K2 → Value) (h : Pk w N p f pd B X bl bb bt bs vs) (k0 k1 : Int) (hwk : Wk T B f pd ([] ++ [(k0, k1)])) (hpd : pd.length < 4398046511104) :
    Calls Try.prog 48 #[.pointer (some ⟨p, 0, none⟩), .agg #[.int .i64 k0, .int .i64 k1] ] w fun e w' => e = .returned (.tuple #[]) ∧ GainP w N p T B X bl bb bt bs vs w' := by
  have hb1 : Below w.heap.size w (w.alloc (.cells #[.int .i64 k0, .int .i64 k1] 33)) := Rt.below1 _ _
  have hK1 : KAt (w.alloc (.cells #[.int .i64 k0, .int .i64 k1] 33)) w.heap.size (k0, k1) := KAt.new w (k0, k1)
  have x0 := hK1.cell.1
  have x1 := hK1.cell.2
  have HG0 : Hid (Gj w (w.alloc (.cells #[.int .i64 k0, .int .i64 k1] 33)) N p T B X bl bb bt bs vs f pd [] vs (.slice none 0 0) ∨ True) := .inr trivial
  have hP1 := h.later hb1
  have HLT0 : Hid (∀ x, Fp p bl bb bt bs vs x → x < w.heap.size) := fun x hx => (h.inHeap x hx).2
  have HWK : Hid (Wk T B f pd ([] ++ [(k0, k1)]) ∧ pd.length < 4398046511104) := ⟨hwk, hpd⟩
  clear h hwk hpd hK1 HG0
  go_enter Try.func48, Try.ntmps48
  go_upto_region 1 with (fail)
  generalize w.alloc (.cells #[.int .i64 k0, .int .i64 k1] 33) = w1 at *
  obtain ⟨Q, hQ⟩ : ∃ Q, w.heap.size = Q := ⟨_, rfl⟩
  have HQ : Hid (w.heap.size = Q) := hQ
  rw [hQ] at x0 x1 ⊢
  clear hQ
  have HB1 : Hid (Below w.heap.size w w1) := hb1
  have HP1 : Hid _ := hP1
  have HROW : Hid ((w1.alloc (.cells #[.int .i64 k0, .int .i64 k1] 33)).ownsRow w.heap.size 33 2 (.slice (some ⟨w1.heap.size, 0, none⟩) 1 1) 1 [.int .i64 k0, .int .i64 k1]) := World.ownsRow_lit (base := w.heap.size) (e := 33) (size := 2) w1 #[.int .i64 k0, .int .i64 k1] 1 hb1.size (by unfold maxLen; omega) rfl
  clear hb1 hP1
  go_wp2_with fail
  clear x0 x1
  go_loopg [4] (1 + pd.length) (fun gk v wr => ∃ f1 pd1 ls vs1, Gj w wr N p T B X bl bb bt bs vs f1 pd1 ls vs1 v ∧ gk = ls.length + pd1.length)
  case atStart =>
    have hb2 := Rt.below1 w1 (.cells #[.int .i64 k0, .int .i64 k1] 33)
    refine ⟨f, pd, [] ++ [(k0, k1)], vs, ⟨HWK.out.1, HP1.out.later hb2, Kept.ofBelow (Rt.Below.then HB1.out hb2), fun _ _ e => e, HROW.out, ?_⟩, rfl⟩
    have := HWK.out.2
    simp
    omega
  case round =>
    obtain ⟨f1, pd1, ls, vs1, hG, rfl⟩ := hrel
    rcases snoc_of ls with rfl | ⟨L, ⟨c0, c1⟩, rfl⟩
    · obtain ⟨va, vc, rfl, _⟩ := own_spell hG.row
      have HGG : Hid _ := hG
      clear hG
      go_wp2_with fail
      first | go_end0 | refine bodyPost_ret (results_none rfl _ _ _) rfl ?_
      exact ⟨rfl, f1, pd1, vs1, HGG.out.wk, HGG.out.pk, HGG.out.kept, HGG.out.own⟩
    · obtain ⟨va, vc, rfl, hva⟩ := own_spell hG.row
      obtain ⟨n, hn⟩ : ∃ n, L.length = n := ⟨_, rfl⟩
      have hLn : (L ++ [((c0, c1) : K2)]).length = n + 1 := by simp [hn]
      rw [hLn] at hva ⊢
      obtain ⟨g, rfl⟩ : ∃ g, va = some ⟨g, 0, none⟩ := by
        rcases hva with q | q
        · omega
        · exact q
      have hrow := hG.row
      rw [hLn] at hrow
      have y0 := hrow.cellAt (n * 2) (by omega)
      have y1 := hrow.cellAt (n * 2 + 1) (by omega)
      rw [← hn, (kC_last L (c0, c1)).1] at y0
      rw [← hn, (kC_last L (c0, c1)).2] at y1
      rw [hn] at y0 y1
      have hsz := hG.sz
      rw [hLn] at hsz
      have hcap : n + 1 ≤ vc := by
        rcases hrow.2 with ⟨q, _⟩ | ⟨g', cap', cur, q, _, _, q2, _⟩
        · cases q
        · cases q; exact q2
      have HGG : Hid _ := hG
      have HRW : Hid _ := hrow
      have HN : Hid (L.length = n) := hn
      have hn1 : n < 4398046511104 := by omega
      have HCAP : Hid _ := hcap
      have HSZ : Hid _ := hsz
      clear hG hrow hn hLn hva
      have i1 : (0 : Int) ≤ (n : Int) := by omega
      have i2 : (n : Int) < (n : Int) + 1 := by omega
      have i3 : (n : Int) ≤ (vc : Int) := by omega
      clear hsz hcap
      go_upto_region 6 with (fail)
      have hbu : Below wr.heap.size wr (wr.alloc (.cells #[.int .i64 c0, .int .i64 c1] 33)) := Rt.below1 _ _
      have hKu : KAt (wr.alloc (.cells #[.int .i64 c0, .int .i64 c1] 33)) wr.heap.size (c0, c1) := KAt.new wr (c0, c1)
      generalize wr.alloc (.cells #[.int .i64 c0, .int .i64 c1] 33) = wu at *
      obtain ⟨U, hU⟩ : ∃ U, wr.heap.size = U := ⟨_, rfl⟩
      have HU : Hid (wr.heap.size = U) := hU
      rw [hU] at hKu ⊢
      clear hU y0 y1
      have hGu := HGG.out.later hbu
      have HGU : Hid _ := hGu
      have hcut : ((L ++ [((c0, c1) : K2)]).flatMap kC) = L.flatMap kC ++ [.int .i64 c0, .int .i64 c1] := kC_snoc L (c0, c1)
      have hsh : wu.ownsRow w.heap.size 33 2 (.slice (some ⟨g, 0, none⟩) n vc) n (L.flatMap kC) := by
        have q := own_later HRW.out hbu
        rw [hcut] at q
        exact own_short q (by rw [fm_len, HN.out]) (by omega)
      have HSH : Hid _ := hsh
      have u0 := hKu.cell.1
      have u1 := hKu.cell.2
      have hgood := had_good (hGu.wk.lin (c0, c1) (List.mem_append.2 (.inr (List.mem_singleton.2 rfl))))
      have hhas := has_p wu N p f1 pd1 B X bl bb bt bs vs1 hGu.pk hGu.wk.snd c0 c1 (gd_wI hgood).1
      have HKU : Hid _ := hKu
      clear hbu hcut hsh hGu hKu hgood
      cases hin : inT f1 (c0, c1) with
      | true =>
        rw [hin] at hhas
        have HIN : Hid _ := hin
        clear hin
        go_wp2_with (go_at_call 14; refine hhas.mono ?_; rintro r w5 ⟨rfl, hb5⟩)
        go_roundg (n + pd1.length)
        case rel =>
          have q := HGU.out.later hb5
          refine ⟨f1, pd1, L, vs1, ⟨q.wk.drop HIN.out, q.pk, q.kept, q.own, ?_, by have := HSZ.out; rw [HN.out]; omega⟩, by rw [HN.out]⟩
          rw [HN.out]
          exact own_later HSH.out hb5
        case measure => first | omega | (simp [HN.out] <;> omega)
      | false =>
        rw [hin] at hhas
        have hgd := HGU.out.wk.good hin
        have htk := fun W (hW : Below wu.heap.size wu W) => take_p W N p f1 pd1 B X bl bb bt bs vs1 (HGU.out.pk.later hW) HGU.out.wk.snd c0 c1 hgd.1 hgd.2.1 hgd.2.2 (by have := HSZ.out; omega)
        have HIN : Hid _ := hin
        obtain ⟨i0, hi, hz0, hz1, hz2⟩ := info_parts infoKey
        clear hin hgd
        go_wp2_with (first
          | (go_at_call 14; refine hhas.mono ?_; rintro r w5 ⟨rfl, hb5⟩; have u0 := cell_later hb5 u0; have u1 := cell_later hb5 u1)
          | (go_at_call 58; refine (htk w5 hb5).mono ?_; rintro r w6 ⟨vt, n6, rfl, hn6, hrow6, hnil6, vs6, hT6, hown6⟩)
          | (at_builtin; refine wpList_app rfl _ _ 27 rfl w.heap.size w5.heap.size 33 i0 _ 2 16 Try.underlying27 hi hz0 hz1 hz2 rfl (by decide) (.slice (some ⟨g, 0, none⟩) n vc) vt n _ _ _ rfl rfl (gain_row HLT0.out (HGU.out.later hb5) (own_later HSH.out hb5) hT6.kept) hrow6 (fun e => hnil6 (List.length_eq_zero_iff.1 e)) (kC_one _) (by have := HSZ.out; have := rdS_len (pd := pd1) (c0, c1) n6; unfold maxLen; omega) (by have := HSZ.out; have := rdS_len (pd := pd1) (c0, c1) n6; omega) (Nat.le_trans (HGU.out.later hb5).kept.size hT6.kept.size) ?_; intro v8 w8 r1 r2 r3)
          | go_in)
        have q5 := HGU.out.later hb5
        have hF8 : ∀ x, (Value.slice (some ⟨g, 0, none⟩) n vc).ownBlock = some x → w.heap.size ≤ x := fun x hx => (own_type HSH.out hx).1
        have hk8 : Kept (fun x => (Value.slice (some ⟨g, 0, none⟩) n vc).ownBlock = some x) w6 w8 := (Kept.refl _ _).grown r2 fun k e _ => e
        have hFp : ∀ x, Fp p bl bb bt bs vs6 x → x < w.heap.size := fun x hx => by
          rcases hx with e | e | e | e | e | ⟨u, e⟩
          · exact HLT0.out x (.inl e)
          · exact HLT0.out x (.inr (.inl e))
          · exact HLT0.out x (.inr (.inr (.inl e)))
          · exact HLT0.out x (.inr (.inr (.inr (.inl e))))
          · exact HLT0.out x (.inr (.inr (.inr (.inr (.inl e)))))
          · exact HLT0.out x (.inr (.inr (.inr (.inr (.inr ⟨u, q5.own u x (hown6 u x e)⟩)))))
        have hlen6 := rdS_len (pd := pd1) (c0, c1) n6
        go_roundg (n + (rdS pd1 (c0, c1) n6).1.length + (rdS pd1 (c0, c1) n6).2.length)
        case rel =>
          refine ⟨_, _, L ++ (rdS pd1 (c0, c1) n6).1, vs6, ⟨q5.wk.taken HIN.out hn6, hT6.pk.kept hk8 (fun x hx e => ?_), (q5.kept.trans hT6.kept fun _ _ e => e).trans hk8 fun i hi e => ?_, fun u b hb => q5.own u b (hown6 u b hb), ?_, ?_⟩, ?_⟩
          · have := hFp x hx
            have := hF8 x e
            omega
          · have := hF8 i e
            omega
          · rw [List.length_append, List.flatMap_append, HN.out]
            exact r1
          · have := HSZ.out
            rw [List.length_append, HN.out]
            omega
          · rw [List.length_append, HN.out]
        case measure =>
          have := HN.out
          simp
          omega
end Go.Proofs.Ytompgoaogomoaaa.Kn
