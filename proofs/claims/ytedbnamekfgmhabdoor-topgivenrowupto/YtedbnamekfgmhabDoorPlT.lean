/- Lists of seats that came in as arguments (they may lie anywhere in a block); contracts over them: the document's Replaced and Same, a copy of them. -/
import Derived.Test.YtedbnamekfgmhabDoorPlJ3
import Derived.Test.YtedbnamekfgmhabDoorOpenRs
import Derived.Test.YtedbnamekfgmhabDoorPlE
import Derived.Laws.AppendOwnNone
namespace Go.Proofs.YtedbnamekfgmhabDoor
open Go.ChangeShapes Go.WideShapes Go.ChangeAt Go.RowKit Go.Maps Go.Joins Go.Deep
open Rt (Ky zK KyAt Gd gv)
open Rs (En zE tkn RdS RdI ps evl cell_later)
open Sh (belB lef)
set_option linter.unusedVariables false
set_option linter.unusedSimpArgs false

def RdP (w : World) (a : Option Addr) (l : List (Int × Int)) : Prop := ∀ i, i < l.length → ∃ b o, a = some ⟨b, o, none⟩ ∧ w.cell? ⟨b, o + i * 2, none⟩ = some (.int .i64 (l.getD i (0, 0)).1) ∧ w.cell? ⟨b, o + i * 2 + 1, none⟩ = some (.int .i64 (l.getD i (0, 0)).2)
theorem RdP.later {w w' : World} {a : Option Addr} {l : List (Int × Int)} (h : RdP w a l) (hb : Below w.heap.size w w') : RdP w' a l := fun i hi => by
  obtain ⟨b, o, e, c0, c1⟩ := h i hi
  exact ⟨b, o, e, cell_later hb c0, cell_later hb c1⟩
theorem bytesSeat : Tryd.prog.bytesOf 48 = 16 := by kernel_rfl
theorem seats_of {H : Type} {enc : TypeId × Value → H} {W : World} {base : Nat} {spare : Nat → Bool} {held : Bool} {v : Value} {d : DataW H} {ps : List MemPlace} (hs : ∀ es sp, d = .slice es sp → (es.length + sp.length) * 16 ≤ reachBytes)
    (hv : ∃ a len cap, v = .slice a len cap) (h : DataW.Trod enc Tryd.prog W base spare held 36 v d ps) :
    ∃ (a : Option Addr) (cap : Nat) (ks : List (Int × Int)), v = .slice a ks.length cap ∧ RdP W a ks ∧ ks.length * 16 ≤ 140737488351232 := by
  obtain ⟨a0, len0, cap0, rfl⟩ := hv
  obtain ⟨fuel, hf⟩ := h
  rcases Go.Deep.open_slice_pairs Tryd.underlying36 Tryd.underlying48 (by kernel_rfl) rfl rfl (by kernel_rfl) (by kernel_rfl) hf with ⟨hcs, _⟩ | ⟨a, len, cap, m, n, V0, V1, D0, D1, P0, P1, hcs, _, hl, _, hm, hx, hc⟩
  · simp [Value.cells] at hcs
    obtain ⟨rfl, rfl, rfl⟩ := hcs
    exact ⟨none, 0, [], rfl, (fun i hi => by cases hi), by simp⟩
  · simp [Value.cells] at hcs
    obtain ⟨rfl, rfl, rfl⟩ := hcs
    simp only [Prod.mk.injEq] at hx
    have hlm : len0 ≤ m := by rw [hm]; split <;> omega
    have each : ∀ i, i < len0 → ∃ p : Int × Int, W.cell? (a.add (i * 2)) = some (.int .i64 p.1) ∧ W.cell? (a.add (i * 2 + 1)) = some (.int .i64 p.2) := fun i hi => by
      obtain ⟨c0, c1, t0, t1⟩ := hc i (by omega)
      obtain ⟨x, q0, _, _⟩ := DataW.trod_int Tryd.underlying3 t0
      obtain ⟨y, q1, _, _⟩ := DataW.trod_int Tryd.underlying3 t1
      simp at q0 q1
      exact ⟨(x, y), by rw [c0, q0], by rw [c1, q1]⟩
    obtain ⟨q, hq⟩ := Go.Deep.choose_lt each
    refine ⟨some a, cap0, (List.range len0).map q, by simp, fun i hi => ?_, ?_⟩
    · have hi' : i < len0 := by simpa using hi
      obtain ⟨c0, c1⟩ := hq i hi'
      obtain ⟨b, o, sp⟩ := a
      have hsp : sp = none := by simpa [Addr.add] using World.cell?_spot (hq 0 (by omega)).1
      subst hsp
      have e : ((List.range len0).map q).getD i (0, 0) = q i := by simp [hi']
      rw [e]
      rw [Rs.add_plain] at c0 c1
      exact ⟨b, o, rfl, c0, c1⟩
    · have h1 := hs _ _ hx.1
      simp only [List.length_map, List.length_range, reachBytes] at h1 ⊢
      omega
/- A copy of such a list. -/
theorem ps_one (l : List (Int × Int)) : ∀ u ∈ ps l, u.oneCell' = true := by
  intro u hu
  unfold Rs.ps at hu
  rw [List.mem_flatMap] at hu
  obtain ⟨p, _, h⟩ := hu
  simp at h
  rcases h with rfl | rfl <;> rfl
theorem ps_len (l : List (Int × Int)) : (ps l).length = l.length * 2 := by
  induction l with
  | nil => rfl
  | cons p l ih =>
    have e : ps (p :: l) = .int .i64 p.1 :: .int .i64 p.2 :: ps l := rfl
    rw [e]
    simp [ih]
    omega
theorem news_of_rdP {w : World} {b o : Nat} {ws : List (Int × Int)} (h : RdP w (some ⟨b, o, none⟩) ws) : ∀ j u, (ps ws)[j]? = some u → w.cell? ((⟨b, o, none⟩ : Addr).add j) = some u := fun j u hu => by
  have hj : j < ws.length * 2 := by
    rcases Nat.lt_or_ge j (ps ws).length with h' | h'
    · rw [ps_len] at h'; exact h'
    · rw [List.getElem?_eq_none h'] at hu; cases hu
  obtain ⟨b', o', e, c0, c1⟩ := h (j / 2) (by omega)
  obtain ⟨eb, eo⟩ : b = b' ∧ o = o' := by simpa using e
  rw [← eb, ← eo] at c0 c1
  obtain ⟨p0, p1⟩ := Rs.ps_get ws (j / 2) (by omega)
  rw [Rs.add_plain]
  rcases Nat.mod_two_eq_zero_or_one j with hr | hr
  · have e2 : j / 2 * 2 = j := by omega
    rw [e2] at p0
    rw [show o + j / 2 * 2 = o + j by omega] at c0
    rw [c0, ← p0, hu]
  · have e2 : j / 2 * 2 + 1 = j := by omega
    rw [e2] at p1
    rw [show o + j / 2 * 2 + 1 = o + j by omega] at c1
    rw [c1, ← p1, hu]
theorem run_append_none2 {P : Program} {w : World} (base : Nat) (t ty e : TypeId) (i : TypeInfo) (size : Nat) (ht : P.underlying t = some (.slice e)) (hi : P.info? e = some i) (v : Value) (n : Nat) (xs : List Value) (hown : w.ownsRow base e size v n xs) (c : Nat) :
    (Builtin.append_ #[t, t] ty #[v, .slice none 0 c]).run P w = .ok v w := by
  rcases hown.2 with ⟨rfl, rfl⟩ | ⟨g, cap, cur, rfl, _, _, hnc, _⟩
  · simp [Builtin.append_, run_underlying ht, sizeOf, typeInfo, hi, Builtin.lenOf, Builtin.firstCells]
  · simp [Builtin.append_, run_underlying ht, sizeOf, typeInfo, hi, Builtin.lenOf, Builtin.firstCells, hnc, storeCells]
theorem append_rdP {w : World} {ops : Array Oper} {rest : List Oper} {o : Oper} {a : Act} {Q : Exit → Act → World → Prop} (hgd : o.guard = none) (s x : Operand)
    (ho : o.op = .call { callee := .builtin .append, args := #[s, x], argTypes := #[ 36, 36 ] })
    (base : Nat) (v : Value) (n : Nat) (xs : List Value) (hs : a.eval s = v) (hown : w.ownsRow base 48 2 v n xs) (src : Option Addr) (c : Nat) (ws : List (Int × Int)) (hx : a.eval x = .slice src ws.length c) (hrd : RdP w src ws)
    (h63 : n + ws.length ≤ maxLen) (hbytes : (n + ws.length) * 16 ≤ 140737488355328) (hbase : base ≤ w.heap.size)
    (h : ∀ v' w', w'.ownsRow base 48 2 v' (n + ws.length) (xs ++ ps ws) → w.grownBy w' v.ownBlock → wpList Tryd.prog ops Q rest (a.put o.dst v') w') : wpList Tryd.prog ops Q (o :: rest) a w := by
  obtain ⟨i0, hi, hz0, hz1, hz2⟩ := Rs.infoSeat_parts
  cases src with
  | none =>
    have h0 : ws = [] := by
      cases ws with
      | nil => rfl
      | cons y r => obtain ⟨b, o, e, _⟩ := hrd 0 (by simp); cases e
    subst h0
    refine wpList_plain hgd fun K hK => ?_
    have hrun := run_append_none2 (P := Tryd.prog) (w := w) base 36 o.type 48 i0 2 Tryd.underlying36 hi v n xs hown c
    rw [List.length_nil] at hx
    unfold Oper.wp
    simp [execOp, ho, resolve, invoke, builtin, hs, hx, hrun, Result.andThen]
    exact hK _ _ (h v w (by simpa [Rs.ps] using hown) ⟨rfl, rfl, rfl, Nat.le_refl _, fun _ _ _ => rfl⟩)
  | some ad =>
    refine wpList_append_own _ hgd s x 36 ho base 48 i0 _ 2 16 Tryd.underlying36 hi hz0 hz1 hz2 rfl (by decide) v n xs hs hown ad ws.length c (ps ws) hx (by rw [ps_len]) ?_ (ps_one _) h63 hbytes hbase fun v' w' h1 h2 _ => h v' w' h1 h2
    by_cases h0 : ws = []
    · intro j u hu
      rw [h0] at hu
      simp [Rs.ps] at hu
    · obtain ⟨b, o', e, -⟩ := hrd 0 (List.length_pos_iff.2 h0)
      cases e
      exact news_of_rdP hrd
/- The same seats. -/
set_option maxRecDepth 100000 in
set_option maxHeartbeats 400000 in
theorem sameP_some (b c b' o' c' : Nat) (l : List (Int × Int)) (w : World) (hl : l.length < 4611686018427387904)
    (h1 : ∀ i, i < l.length → w.cell? ⟨b, i * 2, none⟩ = some (.int .i64 (l.getD i (0, 0)).1) ∧ w.cell? ⟨b, i * 2 + 1, none⟩ = some (.int .i64 (l.getD i (0, 0)).2))
    (h2 : ∀ i, i < l.length → w.cell? ⟨b', o' + i * 2, none⟩ = some (.int .i64 (l.getD i (0, 0)).1) ∧ w.cell? ⟨b', o' + i * 2 + 1, none⟩ = some (.int .i64 (l.getD i (0, 0)).2)) :
    Calls Tryd.prog 39 #[.slice (some ⟨b, 0, none⟩) l.length c, .slice (some ⟨b', o', none⟩) l.length c'] w fun e w' => e = .returned (.bool true) ∧ Below w.heap.size w w' := by
  go_enter Tryd.func39, Tryd.ntmps39
  go_wp2_with fail
  go_loopw [13] (fun i wx => ∃ k : Nat, k ≤ l.length ∧ i = .int .i64 (k : Int) ∧ ∃ q, wx = w.drewN q) (fun i _ => l.length - (intOf i).toNat)
  case atStart => exact ⟨0, by omega, rfl, 0, rfl⟩
  case round =>
    obtain ⟨k, hk, rfl, q, rfl⟩ := hrel
    by_cases hkn : k < l.length
    · obtain ⟨c0, c1⟩ := h1 k hkn
      obtain ⟨d0, d1⟩ := h2 k hkn
      have e0 := cell_later (dn_below w q) c0
      have e1 := cell_later (dn_below w q) c1
      have f0 := cell_later (dn_below w q) d0
      have f1 := cell_later (dn_below w q) d1
      have i1 : (0 : Int) ≤ (k : Int) := by omega
      have i2 : (k : Int) < (l.length : Int) := by omega
      have HQ : Hid (∀ n, ∃ m, (w.drewN q).drewN n = w.drewN m) := fun n => ⟨q + n, by simp [World.drewN, Nat.add_assoc]⟩
      generalize (l.getD k (0, 0)).1 = x at *
      generalize (l.getD k (0, 0)).2 = y at *
      generalize w.drewN q = wq at *
      clear c0 c1 d0 d1 h1 h2
      go_wp2_with fail
      go_quiet (fail)
      go_wp2_with fail
      go_roundw
      case rel =>
        obtain ⟨m, hm⟩ := HQ.out nq
        exact ⟨k + 1, by omega, by go_num, m, hm⟩
      case measure => simp [intOf]; omega
    · obtain rfl : k = l.length := by omega
      have hdk : decide ((l.length : Int) < (l.length : Int)) = false := by simp
      go_wp2_with fail
      go_ret
      exact ⟨rfl, dn_below w q⟩
theorem sameP_any (a a' : Option Addr) (c c' : Nat) (l : List (Int × Int)) (w : World) (hl : l.length < 4611686018427387904) (h1 : RdS w a l) (h2 : RdP w a' l) :
    Calls Tryd.prog 39 #[.slice a l.length c, .slice a' l.length c'] w fun e w' => e = .returned (.bool true) ∧ Below w.heap.size w w' := by
  cases l with
  | nil => exact Rs.sameS_none a a' c c' w
  | cons p l =>
    obtain ⟨b, rfl, _⟩ := h1 0 (by simp)
    obtain ⟨b', o', rfl, _⟩ := h2 0 (by simp)
    refine sameP_some b c b' o' c' (p :: l) w hl (fun i hi => ?_) fun i hi => ?_
    · obtain ⟨d, e, c0, c1⟩ := h1 i hi
      simp at e
      subst e
      exact ⟨c0, c1⟩
    · obtain ⟨d, o2, e, c0, c1⟩ := h2 i hi
      simp at e
      obtain ⟨rfl, rfl⟩ := e
      exact ⟨c0, c1⟩
/- The document's Replaced of any seats. -/
def gdl (l : List (Int × Int)) : List (Int × Int) := l.filter fun p => decide (0 ≤ lef p.2)
theorem rp_gdl (l : List (Int × Int)) : rp (gdl l) = rp l := by
  unfold rp
  refine mkW_congr 21 fun v _ => ?_
  unfold rpl gdl
  rw [List.any_filter]
  congr 1
  funext p
  by_cases h : 0 ≤ lef p.2
  · rw [decide_eq_true h, Bool.true_and]
  · rw [decide_eq_false h, Bool.false_and, Sh.belB_no' (Sh.nodeB_no (by omega))]
structure BS (w W : World) (v : Value) (l : List (Int × Int)) : Prop where
  bel : Below w.heap.size w W
  row : W.ownsRow w.heap.size 48 2 v l.length (ps l)
theorem BS.later {w W W' : World} {v : Value} {l : List (Int × Int)} (h : BS w W v l) (hb : Below W.heap.size W W') : BS w W' v l := ⟨h.bel.trans (hb.mono h.bel.size), Rs.owns_later h.row hb⟩
theorem BS.app {w W W1 : World} {v v' : Value} {l : List (Int × Int)} {o : Obj} {p : Int × Int} (h : BS w W v l) (hown : W1.ownsRow w.heap.size 48 2 v' (l.length + 1) (ps l ++ [.int .i64 p.1, .int .i64 p.2])) (hg : (W.alloc o).grownBy W1 v.ownBlock) : BS w W1 v' (l ++ [p]) := by
  refine ⟨Rs.grown_bel h.bel h.row (Nat.le_refl _) hg, ?_⟩
  rw [Rs.ps_snoc, List.length_append]
  exact hown
end Go.Proofs.YtedbnamekfgmhabDoor
