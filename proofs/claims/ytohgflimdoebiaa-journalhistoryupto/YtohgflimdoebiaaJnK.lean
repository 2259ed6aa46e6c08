/- A disk and its journal that go on, what else lies in memory stays. -/
import Derived.Test.YtohgflimdoebiaaJnL
import Derived.Test.YtohgflimdoebiaaDkN
namespace Go.Proofs.Ytohgflimdoebiaa.Dk
open Go.RowKit Go.Maps
set_option linter.unusedVariables false
set_option maxRecDepth 4000
set_option linter.unusedSimpArgs false

def KeepT (w w' : World) : Prop := ∀ (k : Nat) (cs : Array Value) (t : TypeId) (fz : Nat × Nat), w.heap[k]? = some (.cells cs t fz) → t ≠ 77 → t ≠ 84 → t ≠ 82 → w'.heap[k]? = some (.cells cs t fz)
theorem KeepT.ofBelow {w w' : World} (h : Below w.heap.size w w') : KeepT w w' := fun k cs t fz e _ _ _ => (h.block k (Array.getElem?_eq_some_iff.1 e).1).trans e
theorem KeepT.trans {a b c : World} (h : KeepT a b) (g : KeepT b c) : KeepT a c := fun k cs t fz e h1 h2 h3 => g k cs t fz (h k cs t fz e h1 h2 h3) h1 h2 h3
theorem KeepT.row {w w' : World} (h : KeepT w w') {M e z n : Nat} {v : Value} {xs : List Value} (hr : w.ownsRow M e z v n xs) (h1 : e ≠ 77) (h2 : e ≠ 84) (h3 : e ≠ 82) : w'.ownsRow M e z v n xs :=
  ⟨hr.1, hr.2.elim .inl fun ⟨g, cap, cur, a1, a2, a3, rest⟩ => .inr ⟨g, cap, cur, a1, a2, h g cur e (0, 0) a3 h1 h2 h3, rest⟩⟩
theorem KeepT.rws {w w' : World} (h : KeepT w w') {M : Nat} {v : Value} {l : List ByteArray} (hr : RwS w M v l) : RwS w' M v l := h.row hr (by decide) (by decide) (by decide)
theorem Wrote.keepT {N : Nat} {w w' : World} {p : Nat} {s s' : St} {b m : Nat} {x : Value} (hd : Dk N w p s b m x) (hw : Wrote N w p s' b m x w') : KeepT w w' := fun k cs t fz e h1 h2 h3 => by
  obtain ⟨x1, d1, k1, f1⟩ := hw
  exact (k1.block k (Array.getElem?_eq_some_iff.1 e).1 (hd.notT e h1 h2)).trans e
theorem JWrote.keepT {N : Nat} {w w' : World} {j p : Nat} {s s' : St} {b m c a c0 a0 : Nat} {x : Value} {dd d0 : Bool} (hd : Dk N w p s b m x) (hj0 : Jn w j p c0 a0 d0) (hw : JWrote N w j p s' b m x c a dd w') : KeepT w w' := fun k cs t fz e h1 h2 h3 => by
  obtain ⟨x1, d1, j1, k1, f1⟩ := hw
  refine (k1.block k (Array.getElem?_eq_some_iff.1 e).1 (fun hF => ?_)).trans e
  rcases hF with rfl | hF
  · unfold Jn at hj0; rw [hj0] at e; cases e; exact h3 rfl
  · exact hd.notT e h1 h2 hF
theorem open_k {N : Nat} {w0 w : World} {p : Nat} {s : St} (h : Go1 N w0 w p s) (hlog : s.log.length + 2048 ≤ 5864062014805) :
    Calls Try.prog 25 #[.pointer (some ⟨p, 0, none⟩)] w fun e w' => Go1 N w0 w' p (opS s) ∧ ((opB s = false ∧ e = .returned (.tuple #[.pointer none, .slice none 0 0, .int .i64 11])) ∨
    (opB s = true ∧ ∃ j v, e = .returned (.tuple #[.pointer (some ⟨j, 0, none⟩), v, .int .i64 0]) ∧ w.heap.size ≤ j ∧ Jn w' j p (scP s).length (scE s) false ∧ RwS w' w.heap.size v (scP s))) ∧ KeepT w w' := by
  obtain ⟨⟨b, m, x, d⟩, h1, h2⟩ := h
  refine (open_any N w p s b m x d hlog h2).mono ?_
  rintro e w' ⟨hw, hr⟩
  exact ⟨Go1.wrote ⟨⟨b, m, x, d⟩, h1, h2⟩ d hw, hr, hw.keepT d⟩
theorem append_k {N : Nat} {w0 w : World} {j p : Nat} {s : St} {c a : Nat} {d : Bool} (h : Go1 N w0 w p s) (hj : Jn w j p c a d) (hjN : N ≤ j) (t : ByteArray) (ha : a ≤ 2048) (ht : t.size ≤ 9223372036854775807) (hlog : s.log.length + 255 ≤ 5864062014805) :
    Calls Try.prog 26 #[.pointer (some ⟨j, 0, none⟩), .string t] w fun e w' => e = .returned (.int .i64 (apE s c a d t)) ∧ Go1 N w0 w' p (apS s c a d t) ∧ Jn w' j p (apC s c a d t) (apA s c a d t) (apD s c a d t) ∧ KeepT w w' := by
  obtain ⟨⟨b, m, x, dd⟩, h1, h2⟩ := h
  refine (append_any N w j p s b m x c a d t dd hj ha ht hlog h2).mono ?_
  rintro e w' ⟨he, hw⟩
  obtain ⟨g1, g2⟩ := Go1.jwrote ⟨⟨b, m, x, dd⟩, h1, h2⟩ dd hjN hw
  exact ⟨he, g1, g2, hw.keepT dd hj⟩
theorem up_k {N : Nat} {w0 w : World} {p : Nat} {s : St} (h : Go1 N w0 w p s) (n : Int) (h2 : n ≤ 9223372036854775807) :
    Calls Try.prog 29 #[.pointer (some ⟨p, 0, none⟩), .int .i64 n] w fun e w' => e = .returned (.tuple #[]) ∧ Go1 N w0 w' p ⟨s.img, s.log, max n (-1)⟩ ∧ KeepT w w' ∧ (∀ j q c a d, Jn w j q c a d → Jn w' j q c a d) := by
  obtain ⟨⟨b, m, x, d⟩, g1, g2⟩ := h
  refine (up_any N w p s b m x d n h2).mono ?_
  rintro e w' ⟨he, hd, hk⟩
  have hW : Wrote N w p ⟨s.img, s.log, max n (-1)⟩ b m x w' := ⟨x, hd, hk, fun k hk => .inl hk⟩
  exact ⟨he, Go1.wrote ⟨⟨b, m, x, d⟩, g1, g2⟩ d hW, hW.keepT d, fun j q c a dd hj => keepJ d hW hj⟩
theorem on_k {N : Nat} {w0 w : World} {p : Nat} {s : St} (h : Go1 N w0 w p s) : Calls Try.prog 17 #[.pointer (some ⟨p, 0, none⟩)] w fun e w' => e = .returned (.bool (decide (s.left ≠ 0))) ∧ w' = w := by
  obtain ⟨⟨b, m, x, d⟩, g1, g2⟩ := h
  exact on_any N w p s b m x d
theorem writes_k {N : Nat} {w0 w : World} {p : Nat} {s : St} (h : Go1 N w0 w p s) (hl : s.log.length ≤ 5864062014805) : Calls Try.prog 22 #[.pointer (some ⟨p, 0, none⟩)] w fun e w' => (∃ a c, e = .returned (.slice a s.log.length c)) ∧ Below w.heap.size w w' := by
  obtain ⟨⟨b, m, x, d⟩, g1, g2⟩ := h
  refine (writes_any N w p s b m x d hl).mono ?_
  rintro e w' ⟨v, rfl, hr, hb⟩
  obtain ⟨a, c, rfl⟩ := row_spell hr
  exact ⟨⟨a, c, rfl⟩, hb⟩
theorem image_k {N : Nat} {w0 w : World} {p : Nat} {s : St} (h : Go1 N w0 w p s) (hl : s.log.length ≤ 5864062014805) : Calls Try.prog 23 #[.pointer (some ⟨p, 0, none⟩)] w fun e w' => (∃ a c, e = .returned (.slice a (im s.bl).length c)) ∧ Below w.heap.size w w' := by
  obtain ⟨⟨b, m, x, d⟩, g1, g2⟩ := h
  refine (image_any N w p s b m x d hl).mono ?_
  rintro e w' ⟨v, rfl, hr, hb⟩
  obtain ⟨a, c, rfl⟩ := row_spell hr
  exact ⟨⟨a, c, rfl⟩, hb⟩
theorem cut_k {N : Nat} {w0 w : World} {p : Nat} {s : St} (h : Go1 N w0 w p s) (hl : s.log.length ≤ 5864062014805) (n : Int) (hw : (Lit.int .i64 n).wf = true) : Calls Try.prog 28 #[.pointer (some ⟨p, 0, none⟩), .int .i64 n] w fun e w' => ∃ p', e = .returned (.pointer (some ⟨p', 0, none⟩)) ∧ Go1 N w0 w' p' (ct s n.toNat) ∧ Below w.heap.size w w' := by
  obtain ⟨⟨b, m, x, d⟩, g1, g2⟩ := h
  refine (cut_any N w p s b m x d hl n hw).mono ?_
  rintro e w' ⟨p', b', m', x', rfl, hd, hb⟩
  refine ⟨p', rfl, ⟨⟨b', m', x', ?_⟩, g1.trans (hb.mono g2), Nat.le_trans g2 hb.size⟩, hb⟩
  exact ⟨hd.blk, hd.mb, hd.mm, ⟨hd.row.1, hd.row.2.elim .inl fun ⟨g, cap, cur, a1, a2, rest⟩ => .inr ⟨g, cap, cur, a1, Nat.le_trans g2 a2, rest⟩⟩, hd.ne, Nat.le_trans g2 hd.np, Nat.le_trans g2 hd.nb, Nat.le_trans g2 hd.nm, hd.ok⟩
theorem Go1.jlater {N : Nat} {w0 w w' : World} {p : Nat} {s : St} (h : Go1 N w0 w p s) (hb : Below w.heap.size w w') : Go1 N w0 w' p s := h.later hb
/- A row that is grown isn't the disk's. -/
theorem Go1.grown {N : Nat} {w0 w w' : World} {p : Nat} {s : St} {e z n : Nat} {v : Value} {xs : List Value} (h : Go1 N w0 w p s) (hr : w.ownsRow N e z v n xs) (h1 : e ≠ 77) (h2 : e ≠ 84) (hg : w.grownBy w' v.ownBlock) : Go1 N w0 w' p s := by
  obtain ⟨⟨b, m, x, d⟩, g1, g2⟩ := h
  have hk : Kept (fun k => v.ownBlock = some k) w w' := (Kept.refl _ w).grown hg (fun k e _ => e)
  refine ⟨⟨b, m, x, d.kept hk (fun k hF hv => ?_)⟩, belowK g1 hk (fun i hi => (hr.lt i hi).1) g2, Nat.le_trans g2 hg.size⟩
  rcases hr.2 with ⟨h0, _⟩ | ⟨g, cap, cur, h0, hb, hgg, rest⟩
  · subst h0; cases hv
  · subst h0; cases hv
    exact d.notT hgg h1 h2 hF
theorem Jn.grown {w w' : World} {j p c a N e z n : Nat} {dd : Bool} {v : Value} {xs : List Value} (h : Jn w j p c a dd) (hr : w.ownsRow N e z v n xs) (h1 : e ≠ 82) (hg : w.grownBy w' v.ownBlock) : Jn w' j p c a dd := by
  refine (hg.block j h.lt (fun e1 => ?_)).trans h
  rcases hr.2 with ⟨h0, _⟩ | ⟨g, cap, cur, h0, hb, hgg, rest⟩
  · subst h0; cases e1
  · subst h0
    unfold Jn at h
    simp [Value.ownBlock] at e1
    subst e1
    rw [h] at hgg
    cases hgg
    exact h1 rfl
/- A row that isn't the one that is grown, by its type. -/
theorem row_apart {w w' : World} {N M e e' z z' n n' : Nat} {v v' : Value} {xs xs' : List Value} (h : w.ownsRow M e' z' v' n' xs') (hr : w.ownsRow N e z v n xs) (hne : e' ≠ e) (hg : w.grownBy w' v.ownBlock) : w'.ownsRow M e' z' v' n' xs' := by
  refine h.kept hg ?_
  rcases h.2 with ⟨q0, _⟩ | ⟨g', cap', cur', q0, qb, qg, qrest⟩
  · subst q0; exact .inl rfl
  · subst q0
    refine .inr fun e1 => ?_
    rcases hr.2 with ⟨h0, _⟩ | ⟨g, cap, cur, h0, hb, hgg, rest⟩
    · subst h0; cases e1
    · subst h0
      simp [Value.ownBlock] at e1
      subst e1
      rw [hgg] at qg
      cases qg
      exact hne rfl
theorem k_mod (a : Int) (n : Nat) (hn : n < 5864062014900) : ∃ k : Nat, k ≤ n ∧ wrap64 ((IntKind.u64.wrap a).tmod ((n : Int) + 1)) = (k : Int) := by
  have h0 : 0 ≤ IntKind.u64.wrap a := by rw [IntKind.wrap_u64]; omega
  rw [Int.tmod_eq_emod_of_nonneg h0]
  have h1 := Int.emod_nonneg (IntKind.u64.wrap a) (show ((n : Int) + 1) ≠ 0 by omega)
  have h2 := Int.emod_lt_of_pos (IntKind.u64.wrap a) (show (0 : Int) < (n : Int) + 1 by omega)
  generalize IntKind.u64.wrap a % ((n : Int) + 1) = z at h1 h2
  refine ⟨z.toNat, by omega, ?_⟩
  unfold wrap64
  omega
end Go.Proofs.Ytohgflimdoebiaa.Dk
