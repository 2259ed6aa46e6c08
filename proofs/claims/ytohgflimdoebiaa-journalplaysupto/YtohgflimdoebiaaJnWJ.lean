/- JnW, JnP, JnQ, JnQ2, JnQ3, joined. -/
import Derived.Test.YtohgflimdoebiaaJnRJ
import Derived.Test.YtohgflimdoebiaaDrL
import Derived.Test.YtohgflimdoebiaaDkN
import Derived.Test.YtohgflimdoebiaaJnL
import Derived.BigQuiet
/- Two disks side by side: the program's, the document's. -/
namespace Go.Proofs.Ytohgflimdoebiaa.Dk
open Go.RowKit Go.Maps
set_option linter.unusedVariables false
set_option maxRecDepth 4000
set_option linter.unusedSimpArgs false

theorem belowK {a b c : World} {F : Nat → Prop} {N : Nat} (h : Below N a b) (k : Kept F b c) (hF : ∀ i, F i → N ≤ i) (hN : N ≤ b.heap.size) : Below N a c :=
  ⟨k.os.trans h.os, k.tape.trans h.tape, k.output.trans h.output, Nat.le_trans h.size k.size, fun i hi => (k.block i (Nat.lt_of_lt_of_le hi hN) (fun e => by have := hF i e; omega)).trans (h.block i hi)⟩
theorem belowN {a b c : World} {N : Nat} (h : Below N a b) (k : Below N b c) : Below N a c :=
  ⟨k.os.trans h.os, k.tape.trans h.tape, k.output.trans h.output, Nat.le_trans h.size k.size, fun i hi => (k.block i hi).trans (h.block i hi)⟩
theorem belowW {a b : World} {N M : Nat} (h : Below M a b) (hN : N ≤ M) : Below N a b := ⟨h.os, h.tape, h.output, h.size, fun i hi => h.block i (by omega)⟩
theorem row_weak {w : World} {N M e z n : Nat} {v : Value} {xs : List Value} (h : w.ownsRow M e z v n xs) (hN : N ≤ M) : w.ownsRow N e z v n xs :=
  ⟨h.1, h.2.imp id (fun ⟨g, cap, cur, hv, hbg, r⟩ => ⟨g, cap, cur, hv, Nat.le_trans hN hbg, r⟩)⟩
theorem Dk.weak {N M : Nat} {w : World} {p : Nat} {s : St} {b m : Nat} {x : Value} (h : Dk M w p s b m x) (hN : N ≤ M) : Dk N w p s b m x :=
  ⟨h.blk, h.mb, h.mm, row_weak h.row hN, h.ne, Nat.le_trans hN h.np, Nat.le_trans hN h.nb, Nat.le_trans hN h.nm, h.ok⟩
theorem Rk.weak {N M : Nat} {w : World} {q : Nat} {s : St} {f y x : Value} (h : Rk M w q s f y x) (hN : N ≤ M) : Rk N w q s f y x :=
  ⟨h.blk, row_weak h.fst hN, row_weak h.blo hN, row_weak h.log hN, h.ne, Nat.le_trans hN h.nq, h.ok⟩
structure Tw (N : Nat) (w : World) (p q : Nat) (s t : St) (b m : Nat) (x f y z : Value) : Prop where
  d : Dk N w p s b m x
  r : Rk N w q t f y z
  dj : ∀ k, Fd p b m x k → ¬ Fr q f y z k
section
variable {N : Nat} {w w' : World} {p q : Nat} {s t s' t' : St} {b m : Nat} {x f y z : Value}
theorem Tw.later (h : Tw N w p q s t b m x f y z) (hb : Below w.heap.size w w') : Tw N w' p q s t b m x f y z := ⟨h.d.later hb, h.r.later hb, h.dj⟩
theorem Tw.left (h : Tw N w p q s t b m x f y z) (hw : Wrote N w p s' b m x w') : ∃ x', Tw N w' p q s' t b m x' f y z ∧ Kept (Fd p b m x) w w' := by
  obtain ⟨x', hd, hk, hf⟩ := hw
  refine ⟨x', ⟨hd, h.r.kept hk (fun k hk hF => h.dj k hF hk), fun k hk hF => ?_⟩, hk⟩
  rcases hf k hk with e | e
  · exact h.dj k e hF
  · have := (h.r.inHeap k hF).1; omega
theorem Tw.right (h : Tw N w p q s t b m x f y z) (hw : RWrote N w q t' f y z w') : ∃ z', Tw N w' p q s t' b m x f y z' ∧ Kept (Fr q f y z) w w' := by
  obtain ⟨z', hr, hk, hf⟩ := hw
  refine ⟨z', ⟨h.d.kept hk (fun k hk hF => h.dj k hk hF), hr, fun k hk hF => ?_⟩, hk⟩
  rcases hf k hF with e | e
  · exact h.dj k hk e
  · have := (h.d.inHeap k hk).1; omega
end
def Two (N : Nat) (w : World) (p q : Nat) (s : St) : Prop := ∃ b m x f y z, Tw N w p q s s b m x f y z
theorem Two.later {N : Nat} {w w' : World} {p q : Nat} {s : St} (h : Two N w p q s) (hb : Below w.heap.size w w') : Two N w' p q s := by
  obtain ⟨b, m, x, f, y, z, h⟩ := h
  exact ⟨b, m, x, f, y, z, h.later hb⟩
theorem two_image {N : Nat} {w : World} {p q : Nat} {s : St} (h : Two N w p q s) (hl : s.log.length ≤ 5864062014805) {T : Nat} (hT : (im s.bl).length = T) : ∀ W, Below w.heap.size w W →
    Calls Try.prog 23 #[.pointer (some ⟨p, 0, none⟩)] W fun e W' => ∃ a cap, e = .returned (.slice a T cap) ∧ RdS W' a (im s.bl) ∧ Below w.heap.size w W' ∧ Below W.heap.size W W' := fun W hb => by
  obtain ⟨b, m, x, f, y, z, hTw⟩ := h
  refine (image_any N W p s b m x (hTw.d.later hb) hl).mono ?_
  rintro e W' ⟨v, rfl, hr, hb'⟩
  obtain ⟨a, cap, e⟩ := row_spell hr
  subst e
  rw [hT]
  exact ⟨a, cap, rfl, hr.rd, thenB hb hb', hb'⟩
theorem two_rImage {N : Nat} {w : World} {p q : Nat} {s : St} (h : Two N w p q s) {T : Nat} (hT : (im s.bl).length = T) : ∀ W, Below w.heap.size w W →
    Calls Try.prog 24 #[.pointer (some ⟨q, 0, none⟩)] W fun e W' => ∃ a cap, e = .returned (.slice a T cap) ∧ RdS W' a (im s.bl) ∧ Below w.heap.size w W' ∧ Below W.heap.size W W' := fun W hb => by
  obtain ⟨b, m, x, f, y, z, hTw⟩ := h
  refine (rImage_any N W q s f y z (hTw.r.later hb)).mono ?_
  rintro e W' ⟨v, rfl, hr, hb'⟩
  obtain ⟨a, cap, e⟩ := row_spell hr
  subst e
  rw [hT]
  exact ⟨a, cap, rfl, hr.rd, thenB hb hb', hb'⟩
theorem two_writes {N : Nat} {w : World} {p q : Nat} {s : St} (h : Two N w p q s) (hl : s.log.length ≤ 5864062014805) {L : Nat} (hL : s.log.length = L) : ∀ W, Below w.heap.size w W →
    Calls Try.prog 22 #[.pointer (some ⟨p, 0, none⟩)] W fun e W' => ∃ a cap, e = .returned (.slice a L cap) ∧ RdW W' a s.log ∧ Below w.heap.size w W' ∧ Below W.heap.size W W' := fun W hb => by
  obtain ⟨b, m, x, f, y, z, hTw⟩ := h
  refine (writes_any N W p s b m x (hTw.d.later hb) hl).mono ?_
  rintro e W' ⟨v, rfl, hr, hb'⟩
  obtain ⟨a, cap, e⟩ := row_spell hr
  subst e
  rw [hL]
  exact ⟨a, cap, rfl, hr.rd, thenB hb hb', hb'⟩
theorem two_log {N : Nat} {w : World} {p q : Nat} {s : St} (h : Two N w p q s) {L : Nat} (hL : s.log.length = L) : ∃ a cap, ∀ W, Below w.heap.size w W → W.cell? ⟨q, 2, none⟩ = some (.slice a L cap) ∧ RdW W a s.log := by
  obtain ⟨b, m, x, f, y, z, hTw⟩ := h
  obtain ⟨a, cap, e⟩ := row_spell hTw.r.log
  subst e
  refine ⟨a, cap, fun W hb => ?_⟩
  have h' := hTw.r.later hb
  exact ⟨by rw [← hL]; exact h'.c2, h'.log.rd⟩
theorem same_n {l : List ByteArray} {T : Nat} (hT : l.length = T) (hl : T ≤ 8796093022208) : ∀ (a a' : Option Addr) (c c' : Nat) (W : World), RdS W a l → RdS W a' l →
    Calls Try.prog 10 #[.slice a T c, .slice a' T c'] W fun e w' => e = .returned (.bool true) ∧ Below W.heap.size W w' := by
  subst hT
  exact fun a a' c c' W h1 h2 => same_any a a' c c' l W hl h1 h2
theorem sameW_n {l : List (Int × ByteArray)} {L : Nat} (hL : l.length = L) (hl : L ≤ 8796093022208) : ∀ (a a' : Option Addr) (c c' : Nat) (W : World), RdW W a l → RdW W a' l →
    Calls Try.prog 21 #[.slice a L c, .slice a' L c'] W fun e w' => e = .returned (.bool true) ∧ Below W.heap.size W w' := by
  subst hL
  exact fun a a' c c' W h1 h2 => sameW_any a a' c c' l W hl h1 h2
end Go.Proofs.Ytohgflimdoebiaa.Dk
/- A pair (both disks, both journals) in memory; contract: its open. -/
namespace Go.Proofs.Ytohgflimdoebiaa.Dk
open Go.RowKit Go.Maps
set_option linter.unusedVariables false
set_option maxRecDepth 4000
set_option linter.unusedSimpArgs false

def Pb (w : World) (pb p q : Nat) (jv kv : Option Addr) : Prop := w.heap[pb]? = some (.cells #[.pointer (some ⟨p, 0, none⟩), .pointer jv, .pointer (some ⟨q, 0, none⟩), .pointer kv] 42)
section
variable {w w' : World} {pb p q : Nat} {jv kv : Option Addr}
theorem Pb.c0 (h : Pb w pb p q jv kv) : w.cell? ⟨pb, 0, none⟩ = some (.pointer (some ⟨p, 0, none⟩)) := by unfold Pb at h; simp [World.cell?, h]
theorem Pb.c1 (h : Pb w pb p q jv kv) : w.cell? ⟨pb, 1, none⟩ = some (.pointer jv) := by unfold Pb at h; simp [World.cell?, h]
theorem Pb.c2 (h : Pb w pb p q jv kv) : w.cell? ⟨pb, 2, none⟩ = some (.pointer (some ⟨q, 0, none⟩)) := by unfold Pb at h; simp [World.cell?, h]
theorem Pb.c3 (h : Pb w pb p q jv kv) : w.cell? ⟨pb, 3, none⟩ = some (.pointer kv) := by unfold Pb at h; simp [World.cell?, h]
theorem Pb.fr (h : Pb w pb p q jv kv) (i : Nat) : w.frozen? ⟨pb, i, none⟩ = false := by unfold Pb at h; simp [World.frozen?, h]
theorem Pb.lt (h : Pb w pb p q jv kv) : pb < w.heap.size := (Array.getElem?_eq_some_iff.1 h).1
theorem Pb.later (h : Pb w pb p q jv kv) (hb : Below w.heap.size w w') : Pb w' pb p q jv kv := (hb.block pb h.lt).trans h
theorem Pb.setJ (h : Pb w pb p q jv kv) (v : Option Addr) : Pb (w.setCell ⟨pb, 1, none⟩ (.pointer v)) pb p q v kv := by unfold Pb at h ⊢; rw [blk_set h]; rfl
theorem Pb.setK (h : Pb w pb p q jv kv) (v : Option Addr) : Pb (w.setCell ⟨pb, 3, none⟩ (.pointer v)) pb p q jv v := by unfold Pb at h ⊢; rw [blk_set h]; rfl
theorem Pb.setD (h : Pb w pb p q jv kv) (v : Nat) : Pb (w.setCell ⟨pb, 0, none⟩ (.pointer (some ⟨v, 0, none⟩))) pb v q jv kv := by unfold Pb at h ⊢; rw [blk_set h]; rfl
theorem Pb.setM (h : Pb w pb p q jv kv) (v : Nat) : Pb (w.setCell ⟨pb, 2, none⟩ (.pointer (some ⟨v, 0, none⟩))) pb p v jv kv := by unfold Pb at h ⊢; rw [blk_set h]; rfl
theorem Pb.keptD (h : Pb w pb p q jv kv) {N p' : Nat} {s : St} {b m : Nat} {x : Value} (hd : Dk N w p' s b m x) (hk : Kept (Fd p' b m x) w w') : Pb w' pb p q jv kv := (hk.block pb h.lt (hd.notT h (by decide) (by decide))).trans h
theorem Pb.keptR (h : Pb w pb p q jv kv) {N q' : Nat} {s : St} {f y x : Value} (hd : Rk N w q' s f y x) (hk : Kept (Fr q' f y x) w w') : Pb w' pb p q jv kv := (hk.block pb h.lt (hd.notT h (by decide) (by decide) (by decide))).trans h
end
/- Blocks of a type of calls stay. -/
def OpK (w w' : World) : Prop := ∀ (k : Nat) (cs : Array Value), w.heap[k]? = some (.cells cs 44) → w'.heap[k]? = some (.cells cs 44)
theorem OpK.trans {a b c : World} (h : OpK a b) (k : OpK b c) : OpK a c := fun j cs e => k j cs (h j cs e)
theorem OpK.ofBelow {a b : World} (h : Below a.heap.size a b) : OpK a b := fun j cs e => (h.block j (Array.getElem?_eq_some_iff.1 e).1).trans e
theorem OpK.ofD {w w' : World} {N p : Nat} {s : St} {b m : Nat} {x : Value} (hd : Dk N w p s b m x) (hk : Kept (Fd p b m x) w w') : OpK w w' := fun j cs e => (hk.block j (Array.getElem?_eq_some_iff.1 e).1 (hd.notT e (by decide) (by decide))).trans e
theorem OpK.ofR {w w' : World} {N q : Nat} {s : St} {f y x : Value} (hd : Rk N w q s f y x) (hk : Kept (Fr q f y x) w w') : OpK w w' := fun j cs e => (hk.block j (Array.getElem?_eq_some_iff.1 e).1 (hd.notT e (by decide) (by decide) (by decide))).trans e
theorem OpK.set {w : World} {pb p q : Nat} {jv kv : Option Addr} (h : Pb w pb p q jv kv) (i : Nat) (v : Value) : OpK w (w.setCell ⟨pb, i, none⟩ v) := fun j cs e => by
  have hne : j ≠ pb := fun e1 => by unfold Pb at h; rw [e1, h] at e; cases e
  have hk : Kept (fun k => k = pb) w (w.setCell ⟨pb, i, none⟩ v) := (Kept.refl (fun k => k = pb) w).setCell (p := ⟨pb, i, none⟩) (fun _ => rfl) v
  exact (hk.block j (Array.getElem?_eq_some_iff.1 e).1 hne).trans e
theorem Two.set {N : Nat} {w : World} {pb p q p' q' : Nat} {jv kv : Option Addr} {s : St} (h : Two N w p q s) (hb : Pb w pb p' q' jv kv) (i : Nat) (v : Value) : Two N (w.setCell ⟨pb, i, none⟩ v) p q s := by
  obtain ⟨b, m, x, f, y, z, ht⟩ := h
  have hk : Kept (fun k => k = pb) w (w.setCell ⟨pb, i, none⟩ v) := (Kept.refl (fun k => k = pb) w).setCell (p := ⟨pb, i, none⟩) (fun _ => rfl) v
  exact ⟨b, m, x, f, y, z, ht.d.kept hk (fun k hF e => by subst e; exact ht.d.notT hb (by decide) (by decide) hF), ht.r.kept hk (fun k hF e => by subst e; exact ht.r.notT hb (by decide) (by decide) (by decide) hF), ht.dj⟩
theorem Jn.set {w : World} {pb p q j p' c a : Nat} {d : Bool} {jv kv : Option Addr} (h : Jn w j p' c a d) (hb : Pb w pb p q jv kv) (i : Nat) (v : Value) : Jn (w.setCell ⟨pb, i, none⟩ v) j p' c a d := by
  have hk : Kept (fun k => k = pb) w (w.setCell ⟨pb, i, none⟩ v) := (Kept.refl (fun k => k = pb) w).setCell (p := ⟨pb, i, none⟩) (fun _ => rfl) v
  exact h.kept hk (fun e => by unfold Pb at hb; unfold Jn at h; rw [e, hb] at h; cases h)
theorem Jr.set {w : World} {pb p q j p' c a : Nat} {d : Bool} {jv kv : Option Addr} (h : Jr w j p' c a d) (hb : Pb w pb p q jv kv) (i : Nat) (v : Value) : Jr (w.setCell ⟨pb, i, none⟩ v) j p' c a d := by
  have hk : Kept (fun k => k = pb) w (w.setCell ⟨pb, i, none⟩ v) := (Kept.refl (fun k => k = pb) w).setCell (p := ⟨pb, i, none⟩) (fun _ => rfl) v
  exact h.kept hk (fun e => by unfold Pb at hb; unfold Jr at h; rw [e, hb] at h; cases h)
/- Both journals stand alike, or both are gone. -/
def Js (N : Nat) (w : World) (p q : Nat) (jv kv : Option Addr) (c a : Nat) (d : Bool) : Prop :=
  (jv = none ∧ kv = none) ∨ ∃ j k, jv = some ⟨j, 0, none⟩ ∧ kv = some ⟨k, 0, none⟩ ∧ N ≤ j ∧ N ≤ k ∧ Jn w j p c a d ∧ Jr w k q c a d ∧ a ≤ 2048 ∧ c ≤ 65535
structure Pr (N : Nat) (w0 w : World) (pb p q : Nat) (s : St) (jv kv : Option Addr) (c a : Nat) (d : Bool) : Prop where
  two : Two N w p q s
  blk : Pb w pb p q jv kv
  js : Js N w p q jv kv c a d
  nb : N ≤ pb
  below : Below N w0 w
  size : N ≤ w.heap.size
def PrOpen (N : Nat) (w0 w : World) (pb p q : Nat) (s : St) (w' : World) : Prop := ∃ jv kv, Pr N w0 w' pb p q (opS s) jv kv (scP s).length (scE s) false ∧ OpK w w'
set_option maxHeartbeats 4000000 in
theorem popen_any (N : Nat) (w0 w : World) (pb p q : Nat) (s : St) (jv kv : Option Addr) (ht : Two N w p q s) (hb : Pb w pb p q jv kv) (hnb : N ≤ pb) (hB : Below N w0 w) (hN : N ≤ w.heap.size) (hlog : s.log.length + 2048 ≤ 5864062014805) :
    Calls Try.prog 15 #[.pointer (some ⟨pb, 0, none⟩)] w fun e w' => e = .returned (.bool true) ∧ PrOpen N w0 w pb p q s w' := by
  obtain ⟨b, m, x, f, y, z, hT⟩ := ht
  have hop := open_any N w p s b m x hT.d hlog hN
  have c0 := hb.c0
  have HT : Hid (Tw N w p q s s b m x f y z) := hT
  have HPB : Hid (Pb w pb p q jv kv) := hb
  have HB : Hid (Below N w0 w) := hB
  have hsc := sc_le s
  clear hT hb hB
  go_enter Try.func15, Try.ntmps15
  go_wp2_with fail
  refine hop.mono ?_
  rintro e w1 ⟨hW1, hc1⟩
  obtain ⟨x1, hT1, hk1⟩ := HT.out.left hW1
  have hpb1 := HPB.out.keptD HT.out.d hk1
  have HT1 : Hid (Tw N w1 p q (opS s) s b m x1 f y z) := hT1
  have HPB1 : Hid (Pb w1 pb p q jv kv) := hpb1
  have HOK1 : Hid (OpK w w1) := OpK.ofD HT.out.d hk1
  have HB1 : Hid (Below N w0 w1) := belowK HB.out hk1 (fun i hi => (HT.out.d.inHeap i hi).2) hN
  have hs1 := hk1.size
  have c2 := hpb1.c2
  have hrop := rOpen_any N w1 q s f y z hT1.r hlog (Nat.le_trans hN hs1)
  have HKF : Hid (∀ k, Fr q f y z k → k < w.heap.size ∧ N ≤ k) := HT.out.r.inHeap
  clear hop hW1 hT1 hk1 hpb1
  rcases hc1 with ⟨ob, rfl⟩ | ⟨ob, j, v, rfl, hj1, hjn1, hr1⟩
  · go_wp2_with fail
    refine hrop.mono ?_
    rintro e w2 ⟨hW2, hc2⟩
    obtain ⟨z2, hT2, hk2⟩ := HT1.out.right hW2
    have hpb2 := HPB1.out.keptR HT1.out.r hk2
    have HT2 : Hid (Tw N w2 p q (opS s) (opS s) b m x1 f y z2) := hT2
    have HPB2 : Hid (Pb w2 pb p q jv kv) := hpb2
    have HOK2 : Hid (OpK w w2) := HOK1.out.trans (OpK.ofR HT1.out.r hk2)
    have HB2 : Hid (Below N w0 w2) := belowK HB1.out hk2 (fun i hi => (HKF.out i hi).2) (Nat.le_trans hN hs1)
    have hs2 := hk2.size
    rcases hc2 with ⟨ob2, rfl⟩ | ⟨ob2, -⟩
    · have hsm := same_any none none 0 0 [] w2 (by decide) (RdS.nil _ _) (RdS.nil _ _)
      simp only [List.length_nil] at hsm
      clear hrop hW2 hT2 hk2 hpb2
      go_wp2_with fail
      refine hsm.mono ?_
      rintro e w3 ⟨rfl, hb3⟩
      have hpb3 := HPB2.out.later hb3
      have HPB3 : Hid (Pb w3 pb p q jv kv) := hpb3
      have HTT3 : Hid (Two N w3 p q (opS s)) := ⟨b, m, x1, f, y, z2, HT2.out.later hb3⟩
      have HB3 : Hid (Below N w0 w3) := HB2.out.trans (hb3.mono (by omega))
      have HOK3 : Hid (OpK w w3) := HOK2.out.trans (OpK.ofBelow hb3)
      have hs3 := hb3.size
      have d1 := hpb3.c1
      have d3 := hpb3.c3
      have g1 := hpb3.fr 1
      have g3 := hpb3.fr 3
      clear hsm hb3 hpb3
      go_wp2_with fail
      go_ret
      refine ⟨rfl, none, none, ⟨(HTT3.out.set HPB3.out 1 _).set (HPB3.out.setJ none) 3 _, (HPB3.out.setJ none).setK none, .inl ⟨rfl, rfl⟩, hnb, ?_, by simp; omega⟩, ?_⟩
      · exact (HB3.out.setCell (p := ⟨pb, 1, none⟩) hnb _).setCell (p := ⟨pb, 3, none⟩) hnb _
      · exact (HOK3.out.trans (OpK.set HPB3.out 1 _)).trans (OpK.set (HPB3.out.setJ none) 3 _)
    · rw [ob] at ob2; cases ob2
  · obtain ⟨a1, cap1, e1⟩ := row_spell hr1
    subst e1
    have HR1 : Hid (RwS w1 w.heap.size (.slice a1 (scP s).length cap1) (scP s)) := hr1
    have HJ1 : Hid (Jn w1 j p (scP s).length (scE s) false) := hjn1
    clear hr1 hjn1
    go_wp2_with fail
    refine hrop.mono ?_
    rintro e w2 ⟨hW2, hc2⟩
    obtain ⟨z2, hT2, hk2⟩ := HT1.out.right hW2
    have hpb2 := HPB1.out.keptR HT1.out.r hk2
    have HT2 : Hid (Tw N w2 p q (opS s) (opS s) b m x1 f y z2) := hT2
    have HPB2 : Hid (Pb w2 pb p q jv kv) := hpb2
    have HOK2 : Hid (OpK w w2) := HOK1.out.trans (OpK.ofR HT1.out.r hk2)
    have HB2 : Hid (Below N w0 w2) := belowK HB1.out hk2 (fun i hi => (HKF.out i hi).2) (Nat.le_trans hN hs1)
    have hs2 := hk2.size
    have HR2 : Hid (RwS w2 w.heap.size (.slice a1 (scP s).length cap1) (scP s)) := hk2.row HR1.out (fun k hv hF => by
      have := (HR1.out.lt k hv).1
      have := (HKF.out k hF).1
      omega)
    have HJ2 : Hid (Jn w2 j p (scP s).length (scE s) false) := HJ1.out.kept hk2 (HT1.out.r.notT HJ1.out (by decide) (by decide) (by decide))
    rcases hc2 with ⟨ob2, -⟩ | ⟨-, k, v2, rfl, hk3, hjr2, hr2⟩
    · rw [ob] at ob2; cases ob2
    · obtain ⟨a2, cap2, e2⟩ := row_spell hr2
      subst e2
      have hsm := same_any a1 a2 cap1 cap2 (scP s) w2 (by omega) (RwS.rd HR2.out) (RwS.rd hr2)
      have HJR2 : Hid (Jr w2 k q (scP s).length (scE s) false) := hjr2
      have HCA : Hid (scE s ≤ 2048 ∧ (scP s).length ≤ 65535) := by show _ ∧ _; omega
      obtain ⟨M, hM⟩ : ∃ M, (scP s).length = M := ⟨_, rfl⟩
      have HM : Hid ((scP s).length = M) := hM
      rw [hM] at hsm ⊢
      clear hrop hW2 hT2 hk2 hpb2 hjr2 hr2 hM
      go_wp2_with fail
      refine hsm.mono ?_
      rintro e w3 ⟨rfl, hb3⟩
      have hpb3 := HPB2.out.later hb3
      have HPB3 : Hid (Pb w3 pb p q jv kv) := hpb3
      have HTT3 : Hid (Two N w3 p q (opS s)) := ⟨b, m, x1, f, y, z2, HT2.out.later hb3⟩
      have HB3 : Hid (Below N w0 w3) := HB2.out.trans (hb3.mono (by omega))
      have HOK3 : Hid (OpK w w3) := HOK2.out.trans (OpK.ofBelow hb3)
      have HJ3 : Hid (Jn w3 j p (scP s).length (scE s) false) := HJ2.out.later hb3
      have HJR3 : Hid (Jr w3 k q (scP s).length (scE s) false) := HJR2.out.later hb3
      have hs3 := hb3.size
      have d1 := hpb3.c1
      have d3 := hpb3.c3
      have g1 := hpb3.fr 1
      have g3 := hpb3.fr 3
      clear hsm hb3 hpb3
      go_wp2_with fail
      go_ret
      refine ⟨rfl, some ⟨j, 0, none⟩, some ⟨k, 0, none⟩, ⟨(HTT3.out.set HPB3.out 1 _).set (HPB3.out.setJ _) 3 _, (HPB3.out.setJ _).setK _, .inr ⟨j, k, rfl, rfl, by omega, by omega, ?_, ?_, HCA.out.1, HCA.out.2⟩, hnb, ?_, by simp; omega⟩, ?_⟩
      · exact (HJ3.out.set HPB3.out 1 _).set (HPB3.out.setJ _) 3 _
      · exact (HJR3.out.set HPB3.out 1 _).set (HPB3.out.setJ _) 3 _
      · exact (HB3.out.setCell (p := ⟨pb, 1, none⟩) hnb _).setCell (p := ⟨pb, 3, none⟩) hnb _
      · exact (HOK3.out.trans (OpK.set HPB3.out 1 _)).trans (OpK.set (HPB3.out.setJ _) 3 _)
end Go.Proofs.Ytohgflimdoebiaa.Dk
/- Contracts: the pair's step, where it opens, gives or takes the power, or does nothing. -/
namespace Go.Proofs.Ytohgflimdoebiaa.Dk
open Go.RowKit Go.Maps
set_option linter.unusedVariables false
set_option maxRecDepth 4000
set_option linter.unusedSimpArgs false

theorem Js.later {N : Nat} {w w' : World} {p q : Nat} {jv kv : Option Addr} {c a : Nat} {d : Bool} (h : Js N w p q jv kv c a d) (hb : Below w.heap.size w w') : Js N w' p q jv kv c a d := by
  rcases h with h | ⟨j, k, e1, e2, n1, n2, hj, hk, h1, h2⟩
  · exact .inl h
  · exact .inr ⟨j, k, e1, e2, n1, n2, hj.later hb, hk.later hb, h1, h2⟩
theorem Js.keptD {N : Nat} {w w' : World} {p q : Nat} {jv kv : Option Addr} {c a : Nat} {d : Bool} (h : Js N w p q jv kv c a d) {M p' : Nat} {s : St} {b m : Nat} {x : Value} (hd : Dk M w p' s b m x) (hk : Kept (Fd p' b m x) w w') : Js N w' p q jv kv c a d := by
  rcases h with h | ⟨j, k, e1, e2, n1, n2, hj, hr, h1, h2⟩
  · exact .inl h
  · exact .inr ⟨j, k, e1, e2, n1, n2, hj.kept hk (hj.out hd), hr.kept hk (hd.notT hr (by decide) (by decide)), h1, h2⟩
theorem Js.keptR {N : Nat} {w w' : World} {p q : Nat} {jv kv : Option Addr} {c a : Nat} {d : Bool} (h : Js N w p q jv kv c a d) {M q' : Nat} {s : St} {f y x : Value} (hd : Rk M w q' s f y x) (hk : Kept (Fr q' f y x) w w') : Js N w' p q jv kv c a d := by
  rcases h with h | ⟨j, k, e1, e2, n1, n2, hj, hr, h1, h2⟩
  · exact .inl h
  · exact .inr ⟨j, k, e1, e2, n1, n2, hj.kept hk (hd.notT hj (by decide) (by decide) (by decide)), hr.kept hk (hr.out hd), h1, h2⟩
/- Between the two calls of one step: the program's disk is ahead. -/
structure Md (N : Nat) (w0 w : World) (pb p q : Nat) (s t : St) (jv kv : Option Addr) (c a : Nat) (d : Bool) : Prop where
  tw : ∃ b m x f y z, Tw N w p q s t b m x f y z
  blk : Pb w pb p q jv kv
  js : Js N w p q jv kv c a d
  nb : N ≤ pb
  below : Below N w0 w
  size : N ≤ w.heap.size
theorem Pr.md {N : Nat} {w0 w : World} {pb p q : Nat} {s : St} {jv kv : Option Addr} {c a : Nat} {d : Bool} (h : Pr N w0 w pb p q s jv kv c a d) : Md N w0 w pb p q s s jv kv c a d := ⟨h.two, h.blk, h.js, h.nb, h.below, h.size⟩
theorem Md.pr {N : Nat} {w0 w : World} {pb p q : Nat} {s : St} {jv kv : Option Addr} {c a : Nat} {d : Bool} (h : Md N w0 w pb p q s s jv kv c a d) : Pr N w0 w pb p q s jv kv c a d := ⟨h.tw, h.blk, h.js, h.nb, h.below, h.size⟩
theorem Md.later {N : Nat} {w0 w w' : World} {pb p q : Nat} {s t : St} {jv kv : Option Addr} {c a : Nat} {d : Bool} (h : Md N w0 w pb p q s t jv kv c a d) (hb : Below w.heap.size w w') : Md N w0 w' pb p q s t jv kv c a d := by
  obtain ⟨b, m, x, f, y, z, hT⟩ := h.tw
  exact ⟨⟨b, m, x, f, y, z, hT.later hb⟩, h.blk.later hb, h.js.later hb, h.nb, h.below.trans (hb.mono h.size), Nat.le_trans h.size hb.size⟩
theorem Md.left {N : Nat} {w0 w w' : World} {pb p q : Nat} {s s' t : St} {jv kv : Option Addr} {c a : Nat} {d : Bool} (h : Md N w0 w pb p q s t jv kv c a d) {b m : Nat} {x f y z : Value} (hT : Tw N w p q s t b m x f y z) (hW : Wrote N w p s' b m x w') : Md N w0 w' pb p q s' t jv kv c a d ∧ OpK w w' := by
  obtain ⟨x', hT', hk⟩ := hT.left hW
  exact ⟨⟨⟨b, m, x', f, y, z, hT'⟩, h.blk.keptD hT.d hk, h.js.keptD hT.d hk, h.nb, belowK h.below hk (fun i hi => (hT.d.inHeap i hi).2) h.size, Nat.le_trans h.size hk.size⟩, OpK.ofD hT.d hk⟩
theorem Md.right {N : Nat} {w0 w w' : World} {pb p q : Nat} {s t t' : St} {jv kv : Option Addr} {c a : Nat} {d : Bool} (h : Md N w0 w pb p q s t jv kv c a d) {b m : Nat} {x f y z : Value} (hT : Tw N w p q s t b m x f y z) (hW : RWrote N w q t' f y z w') : Md N w0 w' pb p q s t' jv kv c a d ∧ OpK w w' := by
  obtain ⟨z', hT', hk⟩ := hT.right hW
  exact ⟨⟨⟨b, m, x, f, y, z', hT'⟩, h.blk.keptR hT.r hk, h.js.keptR hT.r hk, h.nb, belowK h.below hk (fun i hi => (hT.r.inHeap i hi).2) h.size, Nat.le_trans h.size hk.size⟩, OpK.ofR hT.r hk⟩
section
variable {N : Nat} {w0 w : World} {pb p q : Nat} {s t : St} {jv kv : Option Addr} {c a : Nat} {d : Bool}
theorem md_up (h : Md N w0 w pb p q s t jv kv c a d) (n : Int) (hn : n ≤ 9223372036854775807) : Calls Try.prog 29 #[.pointer (some ⟨p, 0, none⟩), .int .i64 n] w fun e w' => e = .returned (.tuple #[]) ∧ Md N w0 w' pb p q ⟨s.img, s.log, max n (-1)⟩ t jv kv c a d ∧ OpK w w' := by
  obtain ⟨b, m, x, f, y, z, hT⟩ := h.tw
  refine (up_any N w p s b m x hT.d n hn).mono ?_
  rintro e w' ⟨he, hd, hk⟩
  exact ⟨he, h.left hT ⟨x, hd, hk, fun k hk => .inl hk⟩⟩
theorem md_rUp (h : Md N w0 w pb p q s t jv kv c a d) (n : Int) (hn : n ≤ 9223372036854775807) : Calls Try.prog 35 #[.pointer (some ⟨q, 0, none⟩), .int .i64 n] w fun e w' => e = .returned (.tuple #[]) ∧ Md N w0 w' pb p q s ⟨t.img, t.log, max n (-1)⟩ jv kv c a d ∧ OpK w w' := by
  obtain ⟨b, m, x, f, y, z, hT⟩ := h.tw
  refine (rUp_any N w q t f y z hT.r n hn).mono ?_
  rintro e w' ⟨he, hd, hk⟩
  exact ⟨he, h.right hT ⟨z, hd, hk, fun k hk => .inl hk⟩⟩
theorem md_off (h : Md N w0 w pb p q s t jv kv c a d) : Calls Try.prog 36 #[.pointer (some ⟨p, 0, none⟩)] w fun e w' => e = .returned (.tuple #[]) ∧ Md N w0 w' pb p q ⟨s.img, s.log, 0⟩ t jv kv c a d ∧ OpK w w' := by
  obtain ⟨b, m, x, f, y, z, hT⟩ := h.tw
  refine (off_any N w p s b m x hT.d).mono ?_
  rintro e w' ⟨he, hd, hk⟩
  exact ⟨he, h.left hT ⟨x, hd, hk, fun k hk => .inl hk⟩⟩
theorem md_rOff (h : Md N w0 w pb p q s t jv kv c a d) : Calls Try.prog 37 #[.pointer (some ⟨q, 0, none⟩)] w fun e w' => e = .returned (.tuple #[]) ∧ Md N w0 w' pb p q s ⟨t.img, t.log, 0⟩ jv kv c a d ∧ OpK w w' := by
  obtain ⟨b, m, x, f, y, z, hT⟩ := h.tw
  refine (rOff_any N w q t f y z hT.r).mono ?_
  rintro e w' ⟨he, hd, hk⟩
  exact ⟨he, h.right hT ⟨z, hd, hk, fun k hk => .inl hk⟩⟩
end
/- Behind a step. -/
def PrStep (N : Nat) (w0 w : World) (pb : Nat) (s : St) (w' : World) : Prop := ∃ p q s' jv kv c a d, Pr N w0 w' pb p q s' jv kv c a d ∧ s'.log.length ≤ s.log.length + 4096 ∧ OpK w w'
theorem step_none (N : Nat) (w0 w : World) (pb p q : Nat) (s : St) (jv kv : Option Addr) (c a : Nat) (d : Bool) (h : Pr N w0 w pb p q s jv kv c a d) (kd n : Int) (t : ByteArray) (k1 : kd ≠ 1) (k2 : kd ≠ 2) (k3 : kd ≠ 3) (k4 : kd ≠ 4) (k5 : kd ≠ 5) :
    Calls Try.prog 16 #[.pointer (some ⟨pb, 0, none⟩), .agg #[.int .i64 kd, .int .i64 n, .string t]] w fun e w' => e = .returned (.bool true) ∧ PrStep N w0 w pb s w' := by
  have HM : Hid (Md N w0 (w.alloc (.cells #[.int .i64 kd, .int .i64 n, .string t] 44)) pb p q s s jv kv c a d) := h.md.later (below1 _ _)
  have HOK : Hid (OpK w (w.alloc (.cells #[.int .i64 kd, .int .i64 n, .string t] 44))) := OpK.ofBelow (below1 _ _)
  have HOP : Hid ((w.alloc (.cells #[.int .i64 kd, .int .i64 n, .string t] 44)).heap[w.heap.size]? = some (.cells #[.int .i64 kd, .int .i64 n, .string t] 44)) := World.alloc_heap_new _ _
  have b1 : (kd == 1) = false := by simp [k1]
  have b2 : (kd == 2) = false := by simp [k2]
  have b3 : (kd == 3) = false := by simp [k3]
  have b4 : (kd == 4) = false := by simp [k4]
  have b5 : (kd == 5) = false := by simp [k5]
  clear h k1 k2 k3 k4 k5
  go_enter Try.func16, Try.ntmps16
  go_wp2_with fail
  go_ret
  exact ⟨rfl, _, _, _, _, _, _, _, _, HM.out.pr, by omega, HOK.out⟩
theorem step_open (N : Nat) (w0 w : World) (pb p q : Nat) (s : St) (jv kv : Option Addr) (c a : Nat) (d : Bool) (h : Pr N w0 w pb p q s jv kv c a d) (n : Int) (t : ByteArray) (hlog : s.log.length + 2048 ≤ 5864062014805) :
    Calls Try.prog 16 #[.pointer (some ⟨pb, 0, none⟩), .agg #[.int .i64 2, .int .i64 n, .string t]] w fun e w' => e = .returned (.bool true) ∧ PrStep N w0 w pb s w' := by
  obtain ⟨kd, hkd⟩ : ∃ kd : Int, 2 = kd := ⟨_, rfl⟩
  rw [hkd]
  have HM : Hid (Md N w0 (w.alloc (.cells #[.int .i64 kd, .int .i64 n, .string t] 44)) pb p q s s jv kv c a d) := h.md.later (below1 _ _)
  have HOK : Hid (OpK w (w.alloc (.cells #[.int .i64 kd, .int .i64 n, .string t] 44))) := OpK.ofBelow (below1 _ _)
  have HOP : Hid ((w.alloc (.cells #[.int .i64 kd, .int .i64 n, .string t] 44)).heap[w.heap.size]? = some (.cells #[.int .i64 kd, .int .i64 n, .string t] 44)) := World.alloc_heap_new _ _
  have b1 : (kd == 1) = false := by simp [← hkd]
  have b2 : (kd == 2) = true := by simp [← hkd]
  have hop := popen_any N w0 _ pb p q s jv kv HM.out.tw HM.out.blk HM.out.nb HM.out.below HM.out.size hlog
  clear h hkd
  go_enter Try.func16, Try.ntmps16
  go_wp2_with fail
  refine hop.mono ?_
  rintro e w2 ⟨rfl, jv2, kv2, hP, hO⟩
  have HP : Hid (Pr N w0 w2 pb p q (opS s) jv2 kv2 (scP s).length (scE s) false) := hP
  have HO : Hid (OpK w w2) := HOK.out.trans hO
  clear hop hP hO
  go_wp2_with fail
  go_ret
  exact ⟨rfl, _, _, _, _, _, _, _, _, HP.out, by have := opS_log s; omega, HO.out⟩
theorem step_off (N : Nat) (w0 w : World) (pb p q : Nat) (s : St) (jv kv : Option Addr) (c a : Nat) (d : Bool) (h : Pr N w0 w pb p q s jv kv c a d) (n : Int) (t : ByteArray) :
    Calls Try.prog 16 #[.pointer (some ⟨pb, 0, none⟩), .agg #[.int .i64 4, .int .i64 n, .string t]] w fun e w' => e = .returned (.bool true) ∧ PrStep N w0 w pb s w' := by
  obtain ⟨kd, hkd⟩ : ∃ kd : Int, 4 = kd := ⟨_, rfl⟩
  rw [hkd]
  have HM : Hid (Md N w0 (w.alloc (.cells #[.int .i64 kd, .int .i64 n, .string t] 44)) pb p q s s jv kv c a d) := h.md.later (below1 _ _)
  have HOK : Hid (OpK w (w.alloc (.cells #[.int .i64 kd, .int .i64 n, .string t] 44))) := OpK.ofBelow (below1 _ _)
  have HOP : Hid ((w.alloc (.cells #[.int .i64 kd, .int .i64 n, .string t] 44)).heap[w.heap.size]? = some (.cells #[.int .i64 kd, .int .i64 n, .string t] 44)) := World.alloc_heap_new _ _
  have b1 : (kd == 1) = false := by simp [← hkd]
  have b2 : (kd == 2) = false := by simp [← hkd]
  have b3 : (kd == 3) = false := by simp [← hkd]
  have b4 : (kd == 4) = true := by simp [← hkd]
  have hof := md_off HM.out
  have c0 := HM.out.blk.c0
  clear h hkd
  go_enter Try.func16, Try.ntmps16
  go_wp2_with fail
  refine hof.mono ?_
  rintro e w2 ⟨rfl, hM2, hO2⟩
  have c2 := hM2.blk.c2
  have hof2 := md_rOff hM2
  have HO2 : Hid (OpK w w2) := HOK.out.trans hO2
  clear hof hM2 hO2
  go_wp2_with fail
  refine hof2.mono ?_
  rintro e w3 ⟨rfl, hM3, hO3⟩
  have HM3 : Hid (Md N w0 w3 pb p q ⟨s.img, s.log, 0⟩ ⟨s.img, s.log, 0⟩ jv kv c a d) := hM3
  have HO3 : Hid (OpK w w3) := HO2.out.trans hO3
  clear hof2 hM3 hO3
  go_wp2_with fail
  go_ret
  exact ⟨rfl, _, _, _, _, _, _, _, _, HM3.out.pr, by show s.log.length ≤ _; omega, HO3.out⟩
end Go.Proofs.Ytohgflimdoebiaa.Dk
/- Contracts: the pair's step, where it gives the power, where it appends. -/
namespace Go.Proofs.Ytohgflimdoebiaa.Dk
open Go.RowKit Go.Maps
set_option linter.unusedVariables false
set_option maxRecDepth 4000
set_option linter.unusedSimpArgs false

def Ob (w : World) (o : Nat) (kd n : Int) (t : ByteArray) : Prop := w.heap[o]? = some (.cells #[.int .i64 kd, .int .i64 n, .string t] 44)
theorem Ob.c1 {w : World} {o : Nat} {kd n : Int} {t : ByteArray} (h : Ob w o kd n t) : w.cell? ⟨o, 1, none⟩ = some (.int .i64 n) := by unfold Ob at h; simp [World.cell?, h]
theorem Ob.c2 {w : World} {o : Nat} {kd n : Int} {t : ByteArray} (h : Ob w o kd n t) : w.cell? ⟨o, 2, none⟩ = some (.string t) := by unfold Ob at h; simp [World.cell?, h]
theorem Ob.keep {w w' : World} {o : Nat} {kd n : Int} {t : ByteArray} (h : Ob w o kd n t) (hk : OpK w w') : Ob w' o kd n t := hk o _ h
theorem step_up (N : Nat) (w0 w : World) (pb p q : Nat) (s : St) (jv kv : Option Addr) (c a : Nat) (d : Bool) (h : Pr N w0 w pb p q s jv kv c a d) (n : Int) (t : ByteArray) (hn : n ≤ 9223372036854775807) :
    Calls Try.prog 16 #[.pointer (some ⟨pb, 0, none⟩), .agg #[.int .i64 3, .int .i64 n, .string t]] w fun e w' => e = .returned (.bool true) ∧ PrStep N w0 w pb s w' := by
  obtain ⟨kd, hkd⟩ : ∃ kd : Int, 3 = kd := ⟨_, rfl⟩
  rw [hkd]
  have HM : Hid (Md N w0 (w.alloc (.cells #[.int .i64 kd, .int .i64 n, .string t] 44)) pb p q s s jv kv c a d) := h.md.later (below1 _ _)
  have HOK : Hid (OpK w (w.alloc (.cells #[.int .i64 kd, .int .i64 n, .string t] 44))) := OpK.ofBelow (below1 _ _)
  have HOP : Hid (Ob (w.alloc (.cells #[.int .i64 kd, .int .i64 n, .string t] 44)) w.heap.size kd n t) := World.alloc_heap_new _ _
  have b1 : (kd == 1) = false := by simp [← hkd]
  have b2 : (kd == 2) = false := by simp [← hkd]
  have b3 : (kd == 3) = true := by simp [← hkd]
  clear h hkd
  go_enter Try.func16, Try.ntmps16
  go_wp2_with fail
  obtain ⟨w1, hw1⟩ : ∃ w1, w.alloc (.cells #[.int .i64 kd, .int .i64 n, .string t] 44) = w1 := ⟨_, rfl⟩
  obtain ⟨o, ho⟩ : ∃ o, w.heap.size = o := ⟨_, rfl⟩
  rw [hw1] at HM HOK HOP ⊢
  rw [ho] at HOP ⊢
  have c0 := HM.out.blk.c0
  have o1 := HOP.out.c1
  clear hw1 ho
  go_region_held3 (fun W => W.cell? ⟨pb, 0, none⟩ = some (.pointer (some ⟨p, 0, none⟩)) ∧ W.cell? ⟨o, 1, none⟩ = some (.int .i64 n)) (first | exact ⟨hM2.blk.c0, (HOP.out.keep hO2').c1⟩ | exact ⟨c0, o1⟩) (first | (go_at_call 29; refine (md_up (HM.out.later (Below.drew (Below.refl _ w1))) n hn).mono ?_; rintro e w2 ⟨rfl, hM2, hO2⟩; have hO2' : OpK w1 w2 := (OpK.ofBelow (Below.drew (Below.refl _ w1))).trans hO2))
  have HM2 : Hid (Md N w0 w2 pb p q ⟨s.img, s.log, max n (-1)⟩ s jv kv c a d) := hM2
  have HO2 : Hid (OpK w w2) := HOK.out.trans hO2'
  have HOP2 : Hid (Ob w2 o kd n t) := HOP.out.keep hO2'
  have c2 := hM2.blk.c2
  have o2 := HOP2.out.c1
  clear hM2 hO2 hO2' c0 o1
  go_wp2_with fail
  go_region_held3 (fun W => W.cell? ⟨pb, 2, none⟩ = some (.pointer (some ⟨q, 0, none⟩)) ∧ W.cell? ⟨o, 1, none⟩ = some (.int .i64 n)) (first | exact ⟨hM3.blk.c2, (HOP2.out.keep hO3').c1⟩ | exact ⟨c2, o2⟩) (first | (go_at_call 35; refine (md_rUp (HM2.out.later (Below.drew (Below.refl _ w2))) n hn).mono ?_; rintro e w3 ⟨rfl, hM3, hO3⟩; have hO3' : OpK w2 w3 := (OpK.ofBelow (Below.drew (Below.refl _ w2))).trans hO3))
  have HM3 : Hid (Md N w0 w3 pb p q ⟨s.img, s.log, max n (-1)⟩ ⟨s.img, s.log, max n (-1)⟩ jv kv c a d) := hM3
  have HO3 : Hid (OpK w w3) := HO2.out.trans hO3'
  clear hM3 hO3 hO3' c2 o2
  go_wp2_with fail
  go_ret
  exact ⟨rfl, _, _, _, _, _, _, _, _, HM3.out.pr, by show s.log.length ≤ _; omega, HO3.out⟩
/- Between the two appends. -/
structure Ma (N : Nat) (w0 w : World) (pb p q j k : Nat) (s t : St) (c a : Nat) (d : Bool) (c' a' : Nat) (d' : Bool) : Prop where
  tw : ∃ b m x f y z, Tw N w p q s t b m x f y z
  blk : Pb w pb p q (some ⟨j, 0, none⟩) (some ⟨k, 0, none⟩)
  jn : Jn w j p c a d
  jr : Jr w k q c' a' d'
  nj : N ≤ j
  nk : N ≤ k
  nb : N ≤ pb
  below : Below N w0 w
  size : N ≤ w.heap.size
theorem Ma.later {N : Nat} {w0 w w' : World} {pb p q j k : Nat} {s t : St} {c a : Nat} {d : Bool} {c' a' : Nat} {d' : Bool} (h : Ma N w0 w pb p q j k s t c a d c' a' d') (hb : Below w.heap.size w w') : Ma N w0 w' pb p q j k s t c a d c' a' d' := by
  obtain ⟨b, m, x, f, y, z, hT⟩ := h.tw
  exact ⟨⟨b, m, x, f, y, z, hT.later hb⟩, h.blk.later hb, h.jn.later hb, h.jr.later hb, h.nj, h.nk, h.nb, h.below.trans (hb.mono h.size), Nat.le_trans h.size hb.size⟩
theorem ma_left {N : Nat} {w0 w : World} {pb p q j k : Nat} {s t : St} {c a : Nat} {d : Bool} {c' a' : Nat} {d' : Bool} (h : Ma N w0 w pb p q j k s t c a d c' a' d') (T : ByteArray) (ha : a ≤ 2048) (hT : T.size ≤ 9223372036854775807) (hlog : s.log.length + 255 ≤ 5864062014805) :
    Calls Try.prog 26 #[.pointer (some ⟨j, 0, none⟩), .string T] w fun e w' => e = .returned (.int .i64 (apE s c a d T)) ∧ Ma N w0 w' pb p q j k (apS s c a d T) t (apC s c a d T) (apA s c a d T) (apD s c a d T) c' a' d' ∧ OpK w w' := by
  obtain ⟨b, m, x, f, y, z, hTw⟩ := h.tw
  refine (append_any N w j p s b m x c a d T hTw.d h.jn ha hT hlog h.size).mono ?_
  rintro e w' ⟨he, x', hd, hj, hk, hf⟩
  have hout : ∀ (o : Nat) (cs : Array Value) (ty : TypeId), w.heap[o]? = some (.cells cs ty) → ty ≠ 77 → ty ≠ 84 → ty ≠ 82 → ¬ JF j p b m x o := fun o cs ty ho h1 h2 h3 hF => by
    rcases hF with rfl | hF
    · have := h.jn; unfold Jn at this; rw [this] at ho; cases ho; exact h3 rfl
    · exact hTw.d.notT ho h1 h2 hF
  have hjr : ¬ Fr q f y z j := hTw.r.notT h.jn (by decide) (by decide) (by decide)
  refine ⟨he, ⟨⟨b, m, x', f, y, z, hd, hTw.r.kept hk (fun o ho hF => ?_), fun o ho hF => ?_⟩, (hk.block pb h.blk.lt (hout pb _ _ h.blk (by decide) (by decide) (by decide))).trans h.blk, hj, h.jr.kept hk (hout k _ _ h.jr (by decide) (by decide) (by decide)), h.nj, h.nk, h.nb, belowK h.below hk (fun i hi => ?_) h.size, Nat.le_trans h.size hk.size⟩, fun o cs e => (hk.block o (Array.getElem?_eq_some_iff.1 e).1 (hout o _ _ e (by decide) (by decide) (by decide))).trans e⟩
  · rcases hF with rfl | hF
    · exact hjr ho
    · exact hTw.dj o hF ho
  · rcases hf o ho with e1 | e1
    · exact hTw.dj o e1 hF
    · have := (hTw.r.inHeap o hF).1; omega
  · rcases hi with rfl | hi
    · exact h.nj
    · exact (hTw.d.inHeap i hi).2
theorem ma_right {N : Nat} {w0 w : World} {pb p q j k : Nat} {s t : St} {c a : Nat} {d : Bool} {c' a' : Nat} {d' : Bool} (h : Ma N w0 w pb p q j k s t c a d c' a' d') (T : ByteArray) (ha : a' ≤ 2048) (hc : c' ≤ 65535) (hlog : t.log.length + 255 ≤ 5864062014805) :
    Calls Try.prog 34 #[.pointer (some ⟨k, 0, none⟩), .string T] w fun e w' => e = .returned (.int .i64 (apE t c' a' d' T)) ∧ Ma N w0 w' pb p q j k s (apS t c' a' d' T) c a d (apC t c' a' d' T) (apA t c' a' d' T) (apD t c' a' d' T) ∧ OpK w w' := by
  obtain ⟨b, m, x, f, y, z, hTw⟩ := h.tw
  refine (rAppend_any N w k q t f y z c' a' d' T hTw.r h.jr ha hc hlog h.size).mono ?_
  rintro e w' ⟨he, z', hr, hj, hk, hf⟩
  have hout : ∀ (o : Nat) (cs : Array Value) (ty : TypeId), w.heap[o]? = some (.cells cs ty) → ty ≠ 53 → ty ≠ 84 → ty ≠ 9 → ty ≠ 48 → ¬ JFr k q f y z o := fun o cs ty ho h1 h2 h3 h4 hF => by
    rcases hF with rfl | hF
    · have := h.jr; unfold Jr at this; rw [this] at ho; cases ho; exact h4 rfl
    · exact hTw.r.notT ho h1 h2 h3 hF
  have hjd : ¬ Fd p b m x k := hTw.d.notT h.jr (by decide) (by decide)
  refine ⟨he, ⟨⟨b, m, x, f, y, z', hTw.d.kept hk (fun o ho hF => ?_), hr, fun o ho hF => ?_⟩, (hk.block pb h.blk.lt (hout pb _ _ h.blk (by decide) (by decide) (by decide) (by decide))).trans h.blk, h.jn.kept hk (hout j _ _ h.jn (by decide) (by decide) (by decide) (by decide)), hj, h.nj, h.nk, h.nb, belowK h.below hk (fun i hi => ?_) h.size, Nat.le_trans h.size hk.size⟩, fun o cs e => (hk.block o (Array.getElem?_eq_some_iff.1 e).1 (hout o _ _ e (by decide) (by decide) (by decide) (by decide))).trans e⟩
  · rcases hF with rfl | hF
    · exact hjd ho
    · exact hTw.dj o ho hF
  · rcases hf o hF with e1 | e1
    · exact hTw.dj o ho e1
    · have := (hTw.d.inHeap o ho).1; omega
  · rcases hi with rfl | hi
    · exact h.nk
    · exact (hTw.r.inHeap i hi).2
end Go.Proofs.Ytohgflimdoebiaa.Dk
/- Contract: the pair's step, where it appends. -/
namespace Go.Proofs.Ytohgflimdoebiaa.Dk
open Go.RowKit Go.Maps
set_option linter.unusedVariables false
set_option maxRecDepth 4000
set_option linter.unusedSimpArgs false

theorem apC_le (s : St) (c a : Nat) (d : Bool) (t : ByteArray) (hc : c ≤ 65535) (ha : a ≤ 2048) : apC s c a d t ≤ 65535 ∧ apA s c a d t ≤ 2048 := by
  unfold apC apA
  by_cases h0 : apE s c a d t = 0
  · rw [if_pos h0, if_pos h0]
    unfold apE at h0
    split at h0
    · cases h0
    · split at h0
      · cases h0
      · split at h0
        · cases h0
        · omega
  · rw [if_neg h0, if_neg h0]
    exact ⟨hc, ha⟩
set_option maxHeartbeats 4000000 in
theorem step_append (N : Nat) (w0 w : World) (pb p q : Nat) (s : St) (jv kv : Option Addr) (c a : Nat) (d : Bool) (h : Pr N w0 w pb p q s jv kv c a d) (n : Int) (t : ByteArray) (ht : t.size ≤ 9223372036854775807) (hlog : s.log.length + 255 ≤ 5864062014805) :
    Calls Try.prog 16 #[.pointer (some ⟨pb, 0, none⟩), .agg #[.int .i64 1, .int .i64 n, .string t]] w fun e w' => e = .returned (.bool true) ∧ PrStep N w0 w pb s w' := by
  obtain ⟨kd, hkd⟩ : ∃ kd : Int, 1 = kd := ⟨_, rfl⟩
  rw [hkd]
  have HM : Hid (Md N w0 (w.alloc (.cells #[.int .i64 kd, .int .i64 n, .string t] 44)) pb p q s s jv kv c a d) := h.md.later (below1 _ _)
  have HOK : Hid (OpK w (w.alloc (.cells #[.int .i64 kd, .int .i64 n, .string t] 44))) := OpK.ofBelow (below1 _ _)
  have HOP : Hid (Ob (w.alloc (.cells #[.int .i64 kd, .int .i64 n, .string t] 44)) w.heap.size kd n t) := World.alloc_heap_new _ _
  have b1 : (kd == 1) = true := by simp [← hkd]
  have hjs := HM.out.js
  clear h hkd
  go_enter Try.func16, Try.ntmps16
  go_wp2_with fail
  obtain ⟨w1, hw1⟩ : ∃ w1, w.alloc (.cells #[.int .i64 kd, .int .i64 n, .string t] 44) = w1 := ⟨_, rfl⟩
  obtain ⟨o, ho⟩ : ∃ o, w.heap.size = o := ⟨_, rfl⟩
  rw [hw1] at HM HOK HOP hjs ⊢
  rw [ho] at HOP ⊢
  clear hw1 ho
  have c1 := HM.out.blk.c1
  have c3 := HM.out.blk.c3
  have o2 := HOP.out.c2
  rcases hjs with ⟨rfl, rfl⟩ | ⟨j, k, rfl, rfl, nj, nk, hjn, hjr, ha, hc⟩
  · go_quiet (fail)
    go_wp2_with fail
    go_ret
    exact ⟨rfl, _, _, _, _, _, _, _, _, (HM.out.later (below_drewN (Below.refl _ _) _)).pr, by omega, HOK.out.trans (OpK.ofBelow (below_drewN (Below.refl _ _) _))⟩
  · have HMA : Hid (Ma N w0 w1 pb p q j k s s c a d c a d) := ⟨HM.out.tw, HM.out.blk, hjn, hjr, nj, nk, HM.out.nb, HM.out.below, HM.out.size⟩
    have HL := apS_log s c a d t
    have HCA : Hid (apC s c a d t ≤ 65535 ∧ apA s c a d t ≤ 2048) := apC_le s c a d t hc ha
    have HFIN : Hid (∀ w', Ma N w0 w' pb p q j k (apS s c a d t) (apS s c a d t) (apC s c a d t) (apA s c a d t) (apD s c a d t) (apC s c a d t) (apA s c a d t) (apD s c a d t) → OpK w w' → PrStep N w0 w pb s w') := fun w' hm hok => ⟨p, q, _, _, _, _, _, _, ⟨hm.tw, hm.blk, .inr ⟨j, k, rfl, rfl, hm.nj, hm.nk, hm.jn, hm.jr, HCA.out.2, HCA.out.1⟩, hm.nb, hm.below, hm.size⟩, by omega, hok⟩
    obtain ⟨E, hE⟩ : ∃ E, apE s c a d t = E := ⟨_, rfl⟩
    have hAL := fun W (h : Ma N w0 W pb p q j k s s c a d c a d) => ma_left h t ha ht hlog
    have hAR := fun W (h : Ma N w0 W pb p q j k s s c a d c a d) => ma_right h t ha hc hlog
    have hLR := fun W (h : Ma N w0 W pb p q j k (apS s c a d t) s (apC s c a d t) (apA s c a d t) (apD s c a d t) c a d) => ma_right h t ha hc hlog
    have hRL := fun W (h : Ma N w0 W pb p q j k s (apS s c a d t) c a d (apC s c a d t) (apA s c a d t) (apD s c a d t)) => ma_left h t ha ht hlog
    simp only [hE] at hAL hAR hLR hRL
    have hEE : (E != E) = false := by simp
    clear hjn hjr hE
    go_region_held3 (fun W => W.cell? ⟨pb, 1, none⟩ = some (.pointer (some ⟨j, 0, none⟩)) ∧ W.cell? ⟨pb, 3, none⟩ = some (.pointer (some ⟨k, 0, none⟩)) ∧ W.cell? ⟨o, 2, none⟩ = some (.string t))
      (first | exact ⟨hM3.blk.c1, hM3.blk.c3, (HOP.out.keep hO3').c2⟩ | exact ⟨hM2.blk.c1, hM2.blk.c3, (HOP.out.keep hO2').c2⟩ | exact ⟨hM2r.blk.c1, hM2r.blk.c3, (HOP.out.keep hO2r').c2⟩ | exact ⟨c1, c3, o2⟩)
      (first
        | (go_at_call 34; refine (hLR _ hM2).mono ?_; rintro e w3 ⟨rfl, hM3, hO3⟩; have hO3' : OpK w1 w3 := hO2'.trans hO3)
        | (go_at_call 26; refine (hRL _ hM2r).mono ?_; rintro e w3 ⟨rfl, hM3, hO3⟩; have hO3' : OpK w1 w3 := hO2r'.trans hO3)
        | (go_at_call 26; refine (hAL _ (HMA.out.later (Below.drew (Below.refl _ w1)))).mono ?_; rintro e w2 ⟨rfl, hM2, hO2⟩; have hO2' : OpK w1 w2 := (OpK.ofBelow (Below.drew (Below.refl _ w1))).trans hO2)
        | (go_at_call 34; refine (hAR _ (HMA.out.later (Below.drew (Below.refl _ w1)))).mono ?_; rintro e w2 ⟨rfl, hM2r, hO2r⟩; have hO2r' : OpK w1 w2 := (OpK.ofBelow (Below.drew (Below.refl _ w1))).trans hO2r))
    all_goals
      have HM3 : Hid (Ma N w0 w3 pb p q j k (apS s c a d t) (apS s c a d t) (apC s c a d t) (apA s c a d t) (apD s c a d t) (apC s c a d t) (apA s c a d t) (apD s c a d t)) := hM3
      have HO3 : Hid (OpK w w3) := HOK.out.trans hO3'
      clear hM3 hO3 hO3' hAL hAR hLR hRL c1 c3 o2
      go_wp2_with fail
      go_ret
      exact ⟨rfl, HFIN.out _ HM3.out HO3.out⟩
end Go.Proofs.Ytohgflimdoebiaa.Dk
