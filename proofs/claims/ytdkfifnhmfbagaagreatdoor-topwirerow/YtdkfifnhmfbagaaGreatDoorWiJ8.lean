/- WiK, WiKs, joined. -/
import Derived.Test.YtdkfifnhmfbagaaGreatDoorWiV
import Derived.Test.YtdkfifnhmfbagaaGreatDoorWiQ
import Derived.Test.YtdkfifnhmfbagaaGreatDoorWiJ6
namespace Go.Proofs.YtdkfifnhmfbagaaGreatDoor.Wi
open Go.RowKit Go.Maps
open Bt (tx pk tb bys)
set_option linter.unusedVariables false
set_option linter.unusedSimpArgs false
def MV (w : World) (m : Msg) (ct : List Value) : Prop := ∃ aL aJ aI cL cJ cI, ct = mgv m aL aJ aI cL cJ cI ∧ MR w m aL aJ aI
section
variable {w w' : World} {m m' : Msg} {ct dt : List Value}
theorem MV.later (h : MV w m ct) (hb : Below w.heap.size w w') : MV w' m ct := by
 obtain ⟨aL, aJ, aI, cL, cJ, cI, e, hr⟩ := h
 exact ⟨aL, aJ, aI, cL, cJ, cI, e, hr.later hb⟩
theorem MV.len (h : MV w m ct) : ct.length = 26 := by
 obtain ⟨aL, aJ, aI, cL, cJ, cI, rfl, hr⟩ := h
 rfl
theorem MV.one (h : MV w m ct) : ct.all (·.oneCell') = true := by
 obtain ⟨aL, aJ, aI, cL, cJ, cI, rfl, hr⟩ := h
 rfl
theorem MV.enc (h : MV w m ct) : Calls Tryz.prog 6 #[.agg ct.toArray] w fun e w' => e = .returned (.tuple #[.string (enS m), .int .i64 (enE m)]) ∧ Below w.heap.size w w' := by
 obtain ⟨aL, aJ, aI, cL, cJ, cI, rfl, hr⟩ := h
 exact encode_any m aL aJ aI cL cJ cI w hr
end
/- A message in a block, opaque. -/
def MB (w : World) (B : Nat) (ct : List Value) : Prop := w.heap[B]? = some (.cells ct.toArray 47 (0, 0))
theorem MB.all {w : World} {B : Nat} {ct : List Value} (h : MB w B ct) : w.rangeAt B 0 ct := ra_of h 0 ct (by simp)
theorem MB.new (w : World) (ct : List Value) : MB (w.alloc (.cells ct.toArray 47)) w.heap.size ct := heap_alloc_last w _
theorem szMv {w : World} {m : Msg} {ct : List Value} (h : MV w m ct) : (Tryz.prog.info? 47).map (·.size) = some ct.length := by rw [h.len]; exact szMg
theorem mv_len {m : Msg} (h : gM m = true) : m.rk.2.1.length < 4611686018427387904 ∧ m.rk.2.2.1.length < 4611686018427387904 ∧ m.rk.2.2.2.length < 4611686018427387904 ∧ m.sd.2.2.size < 4611686018427387904 := by
 rcases gM_cases h with ⟨a, e⟩ | ⟨a, e⟩ | ⟨a, e⟩ | ⟨a, e⟩
 ·simp only [gR, Bool.and_eq_true, decide_eq_true_eq] at a
  rw [e]
  refine ⟨by show m.rk.2.1.length < _; omega, by show m.rk.2.2.1.length < _; omega, by show m.rk.2.2.2.length < _; omega, (show 0 < 4611686018427387904 by decide)⟩
 ·rw [e]
  exact ⟨(show 0 < 4611686018427387904 by decide), (show 0 < 4611686018427387904 by decide), (show 0 < 4611686018427387904 by decide), (show 0 < 4611686018427387904 by decide)⟩
 ·rw [e]
  exact ⟨(show 0 < 4611686018427387904 by decide), (show 0 < 4611686018427387904 by decide), (show 0 < 4611686018427387904 by decide), (show 0 < 4611686018427387904 by decide)⟩
 ·simp only [gD, Bool.and_eq_true, decide_eq_true_eq] at a
  rw [e]
  exact ⟨(show 0 < 4611686018427387904 by decide), (show 0 < 4611686018427387904 by decide), (show 0 < 4611686018427387904 by decide), by show m.sd.2.2.size < _; omega⟩
theorem dc_len (s : ByteArray) : (dcM (tb (bys s))).rk.2.1.length < 4611686018427387904 ∧ (dcM (tb (bys s))).rk.2.2.1.length < 4611686018427387904 ∧ (dcM (tb (bys s))).rk.2.2.2.length < 4611686018427387904 ∧ (dcM (tb (bys s))).sd.2.2.size < 4611686018427387904 := by
 unfold dcM
 cases ho : okD (tb (bys s)) with
 | true => exact mv_len (okD_text ho).1
 | false => exact ⟨(show 0 < 4611686018427387904 by decide), (show 0 < 4611686018427387904 by decide), (show 0 < 4611686018427387904 by decide), (show 0 < 4611686018427387904 by decide)⟩
theorem dec_mv (s : ByteArray) (w : World) (hs : s.size < 1125899906842624) : Calls Tryz.prog 7 #[.string s] w fun e w' => ∃ ct, e = .returned (.tuple #[.agg ct.toArray, .int .i64 (dcE (tb (bys s)))]) ∧ MV w' (dcM (tb (bys s))) ct ∧ Below w.heap.size w w' := by
 refine (decode_any s w hs).mono ?_
 rintro e w' ⟨aL, cL, aJ, cJ, aI, cI, rfl, oL, oJ, oI, _, hb⟩
 obtain ⟨n1, n2, n3, n4⟩ := dc_len s
 exact ⟨_, rfl, ⟨aL, aJ, aI, cL, cJ, cI, rfl, ⟨rd_owns (f := stl) (fun _ => rfl) oL, rd_owns (f := stl) (fun _ => rfl) oJ, rd_owns (f := itl) (fun _ => rfl) oI, n1, n2, n3, n4⟩⟩, hb⟩
/- Examples 1 and 2. -/
def x1 : Msg := ⟨2, zR, (1, 3), zP, zD⟩
def x2 : Msg := ⟨4, zR, zQ, zP, (2, (1, 2), tx [65])⟩
theorem sameV {w : World} {m m' : Msg} {ct dt : List Value} (h1 : MV w m ct) (h2 : MV w m' dt) : Calls Tryz.prog 8 #[.agg ct.toArray, .agg dt.toArray] w fun e w' => (∃ b, e = .returned (.bool b) ∧ (b = true ↔ m = m')) ∧ Below w.heap.size w w' := by
 obtain ⟨aL, aJ, aI, cL, cJ, cI, rfl, hr⟩ := h1
 obtain ⟨bL, bJ, bI, dL, dJ, dI, rfl, hs⟩ := h2
 exact same_any m m' aL aJ aI bL bJ bI cL cJ cI dL dJ dI w hr hs
theorem sameT {w : World} {m m' : Msg} {ct dt : List Value} (h1 : MV w m ct) (h2 : MV w m' dt) (e : m = m') : Calls Tryz.prog 8 #[.agg ct.toArray, .agg dt.toArray] w fun e w' => e = .returned (.bool true) ∧ Below w.heap.size w w' := by
 refine (sameV h1 h2).mono ?_
 rintro q w' ⟨⟨b, rfl, hb⟩, hB⟩
 exact ⟨by rw [hb.2 e], hB⟩
theorem dc_back {m : Msg} (h : gM m = true) : dcE (tb (bys (enS m))) = 0 ∧ dcM (tb (bys (enS m))) = m := by
 obtain ⟨h1, h2⟩ := en_back h
 unfold dcE dcM
 rw [h1, h2]
 exact ⟨rfl, rfl⟩
theorem stN {T : TypeId} {n : Nat} (hi : (Tryz.prog.info? T).map (·.size) = some n) {ops : Array Oper} {rest : List Oper} {o : Oper} {a : Act} {w0 : World} {Q : Exit → Act → World → Prop} {cs : Array Value} (hs : cs.size = n) (ds : List Value) (hd : ds.length = n) (h1 : ds.all (·.oneCell') = true) (hgd : o.guard = none) (x y : Operand) (ho : o.op = .store T x y)
  (hx : a.eval x = .pointer (some ⟨w0.heap.size, 0, none⟩)) (hy : a.eval y = .agg ds.toArray) (k : wpList Tryz.prog ops Q rest (a.put o.dst undef) (w0.alloc (.cells ds.toArray T))) : wpList Tryz.prog ops Q (o :: rest) a (w0.alloc (.cells cs T)) := by
 refine stW hi (heap_alloc_last w0 _) hs ds hd h1 hgd x y ho hx hy ?_
 rw [World.setRow_alloc_new]
 exact k
end Go.Proofs.YtdkfifnhmfbagaaGreatDoor.Wi
