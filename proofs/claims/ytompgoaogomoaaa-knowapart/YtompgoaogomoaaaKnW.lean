/- Contract: take of the program's know. -/
import Derived.Test.YtompgoaogomoaaaHd
import Derived.Test.YtompgoaogomoaaaKnV
import Derived.LoopTactic
namespace Go.Proofs.Ytompgoaogomoaaa.Kn
open Go.RowKit Go.Maps
open Rt (Gd gd gd_yes gd_no good_any gives_any gv)
set_option linter.unusedVariables false
set_option linter.unusedSimpArgs false

/- What stays of a know while a key is taken, ahead of its steps. -/
structure Tk (w wr : World) (N p : Nat) (k : K2) (f : Nat → Int) (pd B : List B2) (X : List Sd) (bl bb bt bs : Nat) (vs : K2 → Value) : Prop where
  pk : Pk wr N p f pd B X bl bb bt bs vs
  kept : Kept (fun x => x = bl ∨ x = bs) w wr
theorem Tk.later {w wr wr' : World} {N p : Nat} {k : K2} {f : Nat → Int} {pd B : List B2} {X : List Sd} {bl bb bt bs : Nat} {vs : K2 → Value} (h : Tk w wr N p k f pd B X bl bb bt bs vs) (hb : Below wr.heap.size wr wr') : Tk w wr' N p k f pd B X bl bb bt bs vs :=
  ⟨h.pk.later hb, h.kept.trans (Kept.ofBelow (F := fun x => x = bl ∨ x = bs) hb) fun _ _ e => e⟩
/- A key in a block of its own, apart from what turns. -/
def KAt (w : World) (Q : Nat) (k : K2) : Prop := w.heap[Q]? = some (.cells #[.int .i64 k.1, .int .i64 k.2] 33 (0, 0))
theorem KAt.cell {w : World} {Q : Nat} {k : K2} (h : KAt w Q k) : w.cell? ⟨Q, 0, none⟩ = some (.int .i64 k.1) ∧ w.cell? ⟨Q, 1, none⟩ = some (.int .i64 k.2) := ⟨cell_of_row _ _ 0 _ _ _ h, cell_of_row _ _ 1 _ _ _ h⟩
theorem KAt.kept {w w' : World} {Q : Nat} {k : K2} {F : Nat → Prop} (h : KAt w Q k) (hk : Kept F w w') (hn : ¬ F Q) : KAt w' Q k := (hk.block Q (Array.getElem?_eq_some_iff.1 h).1 hn).trans h
theorem KAt.later {w w' : World} {Q : Nat} {k : K2} (h : KAt w Q k) (hb : Below w.heap.size w w') : KAt w' Q k := h.kept (Kept.ofBelow (F := fun _ => False) hb) id
theorem KAt.lt {w : World} {Q : Nat} {k : K2} (h : KAt w Q k) : Q < w.heap.size := (Array.getElem?_eq_some_iff.1 h).1
theorem KAt.new (w : World) (k : K2) : KAt (w.alloc (.cells #[.int .i64 k.1, .int .i64 k.2] 33)) w.heap.size k := (MapKept.heap_alloc w _).1
/- The rounds' state. -/
structure Tj (w wr : World) (N p Q : Nat) (k : K2) (f : Nat → Int) (pd B : List B2) (X : List Sd) (bl bb bt bs : Nat) (vs : K2 → Value) (j : Nat) (v : Value) : Prop where
  run : ∃ vs', Tk w wr N p k f (rdS pd k j).2 B X bl bb bt bs vs' ∧ ∀ u b, (vs' u).ownBlock = some b → (vs u).ownBlock = some b
  row : wr.ownsRow w.heap.size 33 2 v (rdS pd k j).1.length ((rdS pd k j).1.flatMap kC)
  nil : (rdS pd k j).1 = [] → v = .slice none 0 0
  key : KAt wr Q k
  off : ∀ b, v.ownBlock = some b → b ≠ Q
theorem Pk.leasts {w w' : World} {N p : Nat} {f g : Nat → Int} {pd B : List B2} {X : List Sd} {bl bb bt bs : Nat} {vs : K2 → Value} (h : Pk w N p f pd B X bl bb bt bs vs) (hk : Kept (fun x => x = bl) w w') (hl : Lm w' bl g) : Pk w' N p g pd B X bl bb bt bs vs := by
  obtain ⟨n1, n2, n3, n4, n5, n6⟩ := h.ne
  exact ⟨(hk.block p h.lt h.pne.1).trans h.blk, hl, h.box.kept hk (fun e => n1 e.symm), h.txt.kept hk (fun e => n2 e.symm), h.shm.kept hk (fun e => n3 e.symm) (fun u k q => (h.rne q).2.1), h.ne, h.ge⟩
theorem Pk.shuts {w w' : World} {N p : Nat} {f : Nat → Int} {pd pd' B : List B2} {X : List Sd} {bl bb bt bs : Nat} {vs vs' : K2 → Value} (h : Pk w N p f pd B X bl bb bt bs vs) (hk : Kept (fun x => x = bs) w w') (hl : Sm w' N bs B.length pd' vs') : Pk w' N p f pd' B X bl bb bt bs vs' := by
  obtain ⟨n1, n2, n3, n4, n5, n6⟩ := h.ne
  exact ⟨(hk.block p h.lt h.pne.2.2.2).trans h.blk, h.lst.kept hk n3, h.box.kept hk n5, h.txt.kept hk n6, hl, h.ne, h.ge⟩
/- What take leaves. -/
def TakeP (w : World) (N p : Nat) (f : Nat → Int) (pd B : List B2) (X : List Sd) (bl bb bt bs : Nat) (vs : K2 → Value) (k0 k1 : Int) (e : Ending) (w' : World) : Prop :=
  ∃ v n, e = .returned v ∧ ((n : Nat) : Int) = (if f k0.toNat = 0 then 256 else f k0.toNat - 1) - k1 ∧
      w'.ownsRow w.heap.size 33 2 v (rdS pd (k0, k1) n).1.length ((rdS pd (k0, k1) n).1.flatMap kC) ∧ ((rdS pd (k0, k1) n).1 = [] → v = .slice none 0 0) ∧ ∃ vs', Tk w w' N p (k0, k1) (upT f k0.toNat (k1 + 1)) (rdS pd (k0, k1) n).2 B X bl bb bt bs vs' ∧ ∀ u b, (vs' u).ownBlock = some b → (vs u).ownBlock = some b
theorem kC_one (l : List K2) : ∀ u ∈ l.flatMap kC, u.oneCell' = true := by
  intro u hu
  obtain ⟨a, _, h⟩ := List.mem_flatMap.1 hu
  simp [kC] at h
  rcases h with rfl | rfl <;> rfl
set_option maxRecDepth 100000 in
set_option maxHeartbeats 4000000 in
theorem take_p (w : World) (N p : Nat) (f : Nat → Int) (pd B : List B2) (X : List Sd) (bl bb bt bs : Nat) (vs : K2 → Value) (h : Pk w N p f pd B X bl bb bt bs vs) {T : List K2} {B' : List B2} (hs : Snd T B' f) (k0 k1 : Int) (hg : Gd k0 k1) (hk0 : k0 < 32768) (hf : f k0.toNat = 0 ∨ k1 + 1 < f k0.toNat) (hpd : pd.length ≤ 4398046511104) :
    Calls Try.prog 58 #[.pointer (some ⟨p, 0, none⟩), .agg #[.int .i64 k0, .int .i64 k1] ] w fun e w' => TakeP w N p f pd B X bl bb bt bs vs k0 k1 e w' := by
  have hb1 : Below w.heap.size w (w.alloc (.cells #[.int .i64 k0, .int .i64 k1] 33)) := Rt.below1 _ _
  have hK1 : KAt (w.alloc (.cells #[.int .i64 k0, .int .i64 k1] 33)) w.heap.size (k0, k1) := KAt.new w (k0, k1)
  have hP1 := h.later hb1
  have HLT0 : Hid (∀ x, Fp p bl bb bt bs vs x → x < w.heap.size) := fun x hx => (h.inHeap x hx).2
  obtain ⟨ok, c0, c1, E, hlk, hE, hE2⟩ : ∃ (ok : Bool) (c0 c1 E : Int), (∀ W, Below w.heap.size w W → (Instr.lookup 64 (.map (some bl)) (.int .i64 k0) true).run Try.prog W = .ok (.tuple #[.agg #[.int .i64 c0, .int .i64 c1], .bool ok]) W) ∧ E = (if f k0.toNat = 0 then 256 else f k0.toNat - 1) ∧ E = (if ok then c1 else 256) := by
    have q := fun W (hW : Below w.heap.size w W) => ((h.lst.later hW).look (gd_wI (u := (k0, k1)) hg).1).2
    have hg0 := hg.1
    unfold LF at q
    by_cases h0 : f k0.toNat = 0
    · have e : k0 < 1 ∨ 32768 ≤ k0 ∨ f k0.toNat = 0 := .inr (.inr h0)
      simp only [if_pos e] at q
      exact ⟨false, 0, 0, 256, q, by rw [if_pos h0], rfl⟩
    · have e : ¬ (k0 < 1 ∨ 32768 ≤ k0 ∨ f k0.toNat = 0) := by omega
      simp only [if_neg e] at q
      exact ⟨true, k0, f k0.toNat - 1, f k0.toNat - 1, q, by rw [if_neg h0], rfl⟩
  have HE : Hid (E = (if f k0.toNat = 0 then 256 else f k0.toNat - 1)) := hE
  obtain ⟨n, hn⟩ : ∃ n : Nat, (n : Int) = E - k1 := by
    have h1 := hg.2.2.2
    have h2 : 0 ≤ E - k1 := by
      rw [hE]
      split <;> omega
    exact ⟨(E - k1).toNat, Int.toNat_of_nonneg h2⟩
  have HG : Hid (Gd k0 k1 ∧ k0 < 32768 ∧ 0 ≤ E ∧ E ≤ 256) := by
    refine ⟨hg, hk0, ?_, ?_⟩
    · have := hg.2.2.1; omega
    · rw [hE]
      rcases hs.out k0.toNat with q | q
      · rw [if_pos q]; omega
      · split <;> omega
  have hc0 := h.c0
  have HW1 : Hid (Below w.heap.size w (w.alloc (.cells #[.int .i64 k0, .int .i64 k1] 33))) := hb1
  clear h hE hg hk0 hf hs
  go_enter Try.func58, Try.ntmps58
  go_upto_region 2 with (fail)
  generalize w.alloc (.cells #[.int .i64 k0, .int .i64 k1] 33) = w1 at *
  obtain ⟨Q, hQ⟩ : ∃ Q, w.heap.size = Q := ⟨_, rfl⟩
  have HQ : Hid (w.heap.size = Q) := hQ
  rw [hQ] at hK1 ⊢
  clear hQ
  go_cut [6, 7] (fun s6 s7 wx => ∃ Y, s6 = .pointer (some ⟨Y, 0, none⟩) ∧ s7 = .bool ok ∧ Below w1.heap.size w1 wx ∧ KAt wx Y (c0, c1))
  case first =>
    have q0 := fun W (h : Below w1.heap.size w1 W) => cell_later h hK1.cell.1
    have q1 := fun W (h : Below w1.heap.size w1 W) => cell_later h hK1.cell.2
    have qp := fun W (h : Below w1.heap.size w1 W) => cell_later (Rt.Below.then hb1 h) hc0
    have ql := fun W (h : Below w1.heap.size w1 W) => hlk W (Rt.Below.then hb1 h)
    have hS0 : Below w1.heap.size w1 w1.drew := Below.drew (Below.refl _ _)
    clear hb1 hK1 hc0 hlk hP1
    refine wp_region_held_drew (S := fun W => Below w1.heap.size w1 W) (by kernel_rfl) hS0 (fun hHeld => ?_)
    refine opT 0 12 (.move (.tmp 0)) (.pointer (some ⟨p, 0, none⟩)) rfl ?_
    go_frame
    refine opT 1 13 (.nilCheck (.tmp 12)) (.pointer (some ⟨p, 0, none⟩)) rfl ?_
    go_frame
    refine opT 2 14 (.fieldAddr 69 (.tmp 13) 0) (.pointer (some ⟨p, 0, none⟩)) rfl ?_
    go_frame
    refine opR 3 15 (.load 64 (.tmp 14)) (.map (some bl)) rfl (fun w hSw => by have c := qp w hSw; go_simp) ?_
    go_frame
    refine opT 4 16 (.fieldAddr 33 (.tmp 3) 0) (.pointer (some ⟨Q, 0, none⟩)) rfl ?_
    go_frame
    refine opR 5 17 (.load 3 (.tmp 16)) (.int .i64 k0) rfl (fun w hSw => by have c0 := q0 w hSw; go_simp) ?_
    go_frame
    refine opR 6 18 (.lookup 64 (.tmp 15) (.tmp 17) true) (.tuple #[.agg #[.int .i64 c0, .int .i64 c1], .bool ok]) rfl (fun w hSw => by have e := ql w hSw; go_simp) ?_
    go_frame
    refine opT 7 11 (.move (.tmp 18)) (.tuple #[.agg #[.int .i64 c0, .int .i64 c1], .bool ok]) rfl ?_
    go_frame
    refine opT 8 19 (.extract (.tmp 11) 0) (.agg #[.int .i64 c0, .int .i64 c1]) rfl ?_
    go_frame
    refine opT 9 20 (.extract (.tmp 11) 1) (.bool ok) rfl ?_
    go_frame
    refine wpAnyH_ready (rs := [10]) (by kernel_rfl) (by simp) ?_
    refine AllReadyH.cons rfl (fun K hK => ?_) AllReadyH.nil
    go_simp
    refine hK.out _ _ (Rt.Below.then hHeld (Rt.below1 _ _)) (fun hHeld2 => ?_)
    clear hK K
    try go_frame
    refine wpAnyH_ready (rs := [11]) (by kernel_rfl) (by simp) ?_
    refine AllReadyH.cons rfl (fun K hK => ?_) AllReadyH.nil
    go_simp
    refine hK.out _ _ (Below.drew (Rt.below1 _ _)) (fun hHeld3 => ?_)
    clear hK K
    try go_frame
    refine opT 12 7 (.assign (.tmp 20)) (.bool ok) rfl ?_
    go_frame
    refine wpAnyH_done (by kernel_rfl) ?_ _
    have HH : Hid (_) := hHeld3
    clear hHeld hHeld2 hHeld3 hS0
    go_wp2_with fail
    go_meet
    case rel => exact ⟨_, rfl, rfl, HH.out, KAt.new w1 (c0, c1)⟩
  case rest =>
    obtain ⟨Y, rfl, rfl, hbc, hY⟩ := hcut
    have hP2 := hP1.later hbc
    have hK2 := hK1.later hbc
    have y1 := hY.cell.2
    have HBC : Hid (Below w.heap.size w wc) := Rt.Below.then hb1 hbc
    clear hP1 hK1 hbc hb1 hlk hc0
    go_upto_if 21 with (fail)
    go_cut [5] (fun s5 wx => s5 = .int .i64 E ∧ wx = wc)
    case first =>
      cases ok with
      | true =>
        have e : E = c1 := hE2
        go_wp2_with fail
        go_meet
        case rel => exact ⟨by rw [e], rfl⟩
      | false =>
        have e : E = 256 := hE2
        go_wp2_with fail
        go_meet
        case rel => exact ⟨by rw [e], rfl⟩
    case rest =>
      obtain ⟨rfl, rfl⟩ := hcut
      have hdr : Below wc.heap.size wc wc.drew := Below.drew (Below.refl _ _)
      have hPd := hP2.later hdr
      have hKd := hK2.later hdr
      have HLT : Hid (∀ x, Fp p bl bb bt bs vs x → x < Q) := fun x hx => HQ.out ▸ HLT0.out x hx
      have HQW : Hid (Q < wc.heap.size) := hK2.lt
      obtain ⟨w6, hrun, hL, hgr⟩ := hPd.lst.put (k := (k0, k1)) HG.out.1 HG.out.2.1
      have hk6 : Kept (fun x => x = bl) wc.drew w6 := (Kept.refl _ _).grown hgr fun k e _ => by cases e; rfl
      have hP6 := hPd.leasts hk6 hL
      have hQ6 : Q ≠ bl := fun e => by have := HLT.out bl (.inr (.inl rfl)); omega
      have hK6 := hKd.kept hk6 hQ6
      have hT6 : Tk w w6 N p (k0, k1) (upT f k0.toNat (k1 + 1)) pd B X bl bb bt bs vs := ⟨hP6, ((Kept.ofBelow (HBC.out.trans (hdr.mono HBC.out.size))).trans hk6 fun _ _ e => .inl e)⟩
      have qp := fun W (hW : Kept (fun x => x = bl) wc.drew W) => hW.cell hPd.c0 hPd.pne.1
      have q0 := fun W (hW : Kept (fun x => x = bl) wc.drew W) => (hKd.kept hW hQ6).cell.1
      have q1 := fun W (hW : Kept (fun x => x = bl) wc.drew W) => (hKd.kept hW hQ6).cell.2
      have HR : Hid (_ = _) := hrun
      have HT : Hid (Tk w w6 N p (k0, k1) (upT f k0.toNat (k1 + 1)) pd B X bl bb bt bs vs ∧ KAt w6 Q (k0, k1)) := ⟨hT6, hK6⟩
      have hS0 : Kept (fun x => x = bl) wc.drew wc.drew := Kept.refl _ _
      clear hPd hKd hP2 hK2 hrun hL hgr hP6 hT6 hdr hE2 y1 hY
      go_upto_region 5 with (fail)
      refine wp_region_held_drew (S := fun W => Kept (fun x => x = bl) wc.drew W) (by kernel_rfl) hS0 (fun hHeld => ?_)
      refine opT 0 24 (.move (.tmp 0)) (.pointer (some ⟨p, 0, none⟩)) rfl ?_
      go_frame
      refine opT 1 25 (.nilCheck (.tmp 24)) (.pointer (some ⟨p, 0, none⟩)) rfl ?_
      go_frame
      refine opT 2 26 (.fieldAddr 69 (.tmp 25) 0) (.pointer (some ⟨p, 0, none⟩)) rfl ?_
      go_frame
      refine opR 3 27 (.load 64 (.tmp 26)) (.map (some bl)) rfl (fun w hSw => by have c := qp w hSw; go_simp) ?_
      go_frame
      refine opT 4 28 (.fieldAddr 33 (.tmp 3) 0) (.pointer (some ⟨Q, 0, none⟩)) rfl ?_
      go_frame
      refine opR 5 29 (.load 3 (.tmp 28)) (.int .i64 k0) rfl (fun w hSw => by have c0 := q0 w hSw; go_simp) ?_
      go_frame
      refine opR 6 30 (.load 33 (.tmp 3)) (.agg #[.int .i64 k0, .int .i64 k1]) rfl (fun w hSw => by have c0 := q0 w hSw; have c1 := q1 w hSw; go_simp) ?_
      go_frame
      refine wpAnyH_ready (rs := [7]) (by kernel_rfl) (by simp) ?_
      refine AllReadyH.cons rfl (fun Kc hK => ?_) AllReadyH.nil
      refine if_wpK rfl (wp_mapUpd 64 _ _ _ rfl rfl rfl rfl rfl HR.out ?_)
      refine hK.out _ _ hk6 (fun hHeld2 => ?_)
      clear hK Kc
      try go_frame
      refine wpAnyH_done (by kernel_rfl) ?_ _
      clear hHeld hHeld2 hS0 q0 q1 qp hk6 HR
      have c1 := hK6.cell.2
      clear hK6
      go_wp2_with fail
      clear c1
      go_loopw [8, 9] (fun v i wr => ∃ j : Nat, j ≤ n ∧ i = .int .i64 (k1 + (j : Int)) ∧ Tj w wr N p Q (k0, k1) (upT f k0.toNat (k1 + 1)) pd B X bl bb bt bs vs j v) (fun _ i _ => (E - intOf i).toNat)
      case atStart => exact ⟨0, Nat.zero_le _, by simp, ⟨⟨vs, HT.out.1, fun _ _ e => e⟩, World.ownsRow_nil _ _ _ _, fun _ => rfl, HT.out.2, fun b hb => by cases hb⟩⟩
      case round =>
        obtain ⟨j, hj, rfl, hR⟩ := hrel
        by_cases hjn : j < n
        · have d : k1 + (j : Int) < E := by omega
          obtain ⟨⟨vs', hT, hown⟩, hrow, hnil, hkey, hoff⟩ := hR
          have HN : Hid ((n : Int) = E - k1) := hn
          clear hn HT
          have hgu : Gd k0 (k1 + (j : Int)) := by
            obtain ⟨a1, a2, a3, a4⟩ := HG.out.1
            have := HG.out.2.2.2
            exact ⟨a1, a2, by omega, by omega⟩
          have hlen : (rdS pd (k0, k1) j).1.length + (rdS pd (k0, k1) j).2.length = pd.length := rdS_len (k0, k1) j
          have hsl := sh_len (rdS pd (k0, k1) j).2 (k0, k1 + (j : Int))
          have hlt' : ∀ x, Fp p bl bb bt bs vs' x → x < Q := fun x hx => by
            rcases hx with e | e | e | e | e | ⟨u, e⟩
            · exact HLT.out x (.inl e)
            · exact HLT.out x (.inr (.inl e))
            · exact HLT.out x (.inr (.inr (.inl e)))
            · exact HLT.out x (.inr (.inr (.inr (.inl e))))
            · exact HLT.out x (.inr (.inr (.inr (.inr (.inl e)))))
            · exact HLT.out x (.inr (.inr (.inr (.inr (.inr ⟨u, hown u x e⟩)))))
          obtain ⟨L, hL⟩ : ∃ L, (rdS pd (k0, k1) j).1 = L := ⟨_, rfl⟩
          obtain ⟨R, hRr⟩ : ∃ R, (rdS pd (k0, k1) j).2 = R := ⟨_, rfl⟩
          have HL : Hid (rdS pd (k0, k1) (j + 1) = (L ++ sh R (k0, k1 + (j : Int)), shd R (k0, k1 + (j : Int)))) := by
            show ((rdS pd (k0, k1) j).1 ++ sh (rdS pd (k0, k1) j).2 (k0, k1 + (j : Int)), shd (rdS pd (k0, k1) j).2 (k0, k1 + (j : Int))) = _
            rw [hL, hRr]
          rw [hL] at hrow hnil hlen
          rw [hRr] at hT hlen hsl
          have hwQ : w.heap.size ≤ Q := Nat.le_of_eq HQ.out
          have k0c := hkey.cell.1
          obtain ⟨va, vc, rfl, hva⟩ := own_spell hrow
          have HX : Hid (Tk w wr N p (k0, k1) (upT f k0.toNat (k1 + 1)) R B X bl bb bt bs vs' ∧ wr.ownsRow w.heap.size 33 2 (.slice va L.length vc) L.length (L.flatMap kC) ∧ KAt wr Q (k0, k1)) := ⟨hT, hrow, hkey⟩
          clear hT hrow hkey hL hRr
          go_upto_region 11 with (fail)
          have hbu : Below wr.heap.size wr (wr.alloc (.cells #[.int .i64 k0, .int .i64 (k1 + (j : Int))] 33)) := Rt.below1 _ _
          have hKu : KAt (wr.alloc (.cells #[.int .i64 k0, .int .i64 (k1 + (j : Int))] 33)) wr.heap.size (k0, k1 + (j : Int)) := KAt.new wr (k0, k1 + (j : Int))
          generalize wr.alloc (.cells #[.int .i64 k0, .int .i64 (k1 + (j : Int))] 33) = wu at *
          have HF : Hid (∀ x, (Value.slice va L.length vc).ownBlock = some x → Q ≤ x ∧ x ≠ Q ∧ x < wr.heap.size) := fun x hx => by
            have q := own_type HX.out.2.1 hx
            exact ⟨HQ.out ▸ q.1, hoff x hx, q.2.1⟩
          obtain ⟨U, hU⟩ : ∃ U, wr.heap.size = U := ⟨_, rfl⟩
          have HU : Hid (wr.heap.size = U) := hU
          rw [hU] at hKu ⊢
          clear hU k0c hwQ hoff
          have hdr : Below wu.heap.size wu wu.drew := Below.drew (Below.refl _ _)
          have hTd := (HX.out.1.later hbu).later hdr
          have hrd := own_later (own_later HX.out.2.1 hbu) hdr
          have hKQ := (HX.out.2.2.later hbu).later hdr
          have hKU := hKu.later hdr
          have hFp : ∀ x, Fp p bl bb bt bs vs' x → ¬ (Value.slice va L.length vc).ownBlock = some x := fun x hx e => by
            have := hlt' x hx
            have := (HF.out x e).1
            omega
          have hFQ : ¬ (Value.slice va L.length vc).ownBlock = some Q := fun e => (HF.out Q e).2.1 rfl
          have hFU : ¬ (Value.slice va L.length vc).ownBlock = some U := fun e => by
            have := (HF.out U e).2.2
            have := HU.out
            omega
          obtain ⟨y, hy⟩ : ∃ y, vs' (k0, k1 + (j : Int)) = y := ⟨_, rfl⟩
          have hlk := fun W (hW : Kept (fun x => (Value.slice va L.length vc).ownBlock = some x) wu.drew W) => (hTd.pk.kept hW hFp).shm.look (u := (k0, k1 + (j : Int))) hgu
          have hyr := hTd.pk.shm.row (k0, k1 + (j : Int))
          have hyn := hTd.pk.shm.nil (k0, k1 + (j : Int))
          rw [hy] at hyr hyn
          simp only [hy] at hlk
          have qp := fun W (hW : Kept (fun x => (Value.slice va L.length vc).ownBlock = some x) wu.drew W) => hW.cell hTd.pk.c3 (hFp p (.inl rfl))
          have q0 := fun W (hW : Kept (fun x => (Value.slice va L.length vc).ownBlock = some x) wu.drew W) => (hKU.kept hW hFU).cell.1
          have q1 := fun W (hW : Kept (fun x => (Value.slice va L.length vc).ownBlock = some x) wu.drew W) => (hKU.kept hW hFU).cell.2
          have hS0 : Kept (fun x => (Value.slice va L.length vc).ownBlock = some x) wu.drew wu.drew := Kept.refl _ _
          obtain ⟨i0, hi, hz0, hz1, hz2⟩ := info_parts infoKey
          have hbase : w.heap.size ≤ wu.drew.heap.size := hTd.kept.size
          have HD : Hid (_ ∧ _ ∧ _ ∧ _ ∧ _ ∧ _) := ⟨hTd, hrd, hKQ, hKU, hyr, hyn⟩
          have HY : Hid (_ ∧ _) := ⟨hy, hFp⟩
          have HLE : Hid (_ ∧ _) := ⟨hlen, hsl⟩
          have HNI : Hid _ := hnil
          clear hTd hrd hKQ hKU hyr hyn hKu hbu hy hFp hlen hsl hnil hva
          refine wp_region_held_drew (S := fun W => Kept (fun x => (Value.slice va L.length vc).ownBlock = some x) wu.drew W) (by kernel_rfl) hS0 (fun hHeld => ?_)
          refine opT 0 42 (.move (.tmp 8)) (.slice va L.length vc) rfl ?_
          go_frame
          refine opT 1 43 (.move (.tmp 0)) (.pointer (some ⟨p, 0, none⟩)) rfl ?_
          go_frame
          refine opT 2 44 (.nilCheck (.tmp 43)) (.pointer (some ⟨p, 0, none⟩)) rfl ?_
          go_frame
          refine opT 3 45 (.fieldAddr 69 (.tmp 44) 3) (.pointer (some ⟨p, 3, none⟩)) rfl ?_
          go_frame
          refine opR 4 46 (.load 67 (.tmp 45)) (.map (some bs)) rfl (fun w hSw => by have c := qp w hSw; go_simp) ?_
          go_frame
          refine opR 5 47 (.load 33 (.tmp 10)) (.agg #[.int .i64 k0, .int .i64 (k1 + (j : Int))]) rfl (fun w hSw => by have c0 := q0 w hSw; have c1 := q1 w hSw; go_simp) ?_
          go_frame
          refine opR 6 48 (.lookup 67 (.tmp 46) (.tmp 47) false) (y) rfl (fun w hSw => by have e := hlk w hSw; go_simp) ?_
          go_frame
          refine wpAnyH_ready (rs := [7]) (by kernel_rfl) (by simp) ?_
          refine AllReadyH.cons rfl (fun Kc hK => ?_) AllReadyH.nil
          refine if_wpK rfl (wp_app _ _ 27 rfl w.heap.size N 33 i0 _ 2 16 Try.underlying27 hi hz0 hz1 hz2 rfl (by decide) _ y L.length _ _ _ rfl rfl HD.out.2.1 HD.out.2.2.2.2.1 (fun e => HD.out.2.2.2.2.2 (List.length_eq_zero_iff.1 e)) (kC_one _) (by have := HLE.out; unfold maxLen; omega) (by have := HLE.out; omega) hbase (fun v' w8 r1 r2 r3 r4 => ?_))
          have hk8 : Kept (fun x => (Value.slice va L.length vc).ownBlock = some x) wu.drew w8 := (Kept.refl _ _).grown r2 fun k e _ => e
          refine hK.out _ _ hk8 (fun hHeld2 => ?_)
          clear hK Kc
          try go_frame
          refine opT 8 8 (.assign (.tmp 49)) (v') rfl ?_
          go_frame
          refine wpAnyH_done (by kernel_rfl) ?_ _
          clear hHeld hHeld2 hS0 q0 q1 qp hlk hlt'
          have HR8 : Hid (_ ∧ _ ∧ _ ∧ _) := ⟨r1, r3, r4, hk8⟩
          clear r1 r2 r3 r4 hk8
          go_upto_region 12 with (fail)
          have hP8 := HD.out.1.pk.kept HR8.out.2.2.2 HY.out.2
          have hQ8 := HD.out.2.2.1.kept HR8.out.2.2.2 hFQ
          have hU8 := HD.out.2.2.2.1.kept HR8.out.2.2.2 hFU
          have hdr8 : Below w8.heap.size w8 w8.drew := Below.drew (Below.refl _ _)
          have hPd := hP8.later hdr8
          have hQd := hQ8.later hdr8
          have hUd := hU8.later hdr8
          have hlt8 := fun x hx => (HY.out.2 x hx)
          obtain ⟨w9, hrun, hS9, hg9⟩ := hPd.shm.del (u := (k0, k1 + (j : Int))) hgu 0
          have hk9 : Kept (fun x => x = bs) w8.drew w9 := (Kept.refl _ _).grown hg9 fun k e _ => by cases e; rfl
          have hQs : Q ≠ bs := fun e => by have := HLT.out bs (.inr (.inr (.inr (.inr (.inl rfl))))); omega
          have hUs : U ≠ bs := fun e => by
            have h1 := HLT.out bs (.inr (.inr (.inr (.inr (.inl rfl)))))
            have h2 := HX.out.2.2.lt
            have h3 := HU.out
            omega
          have qp := fun W (hW : Kept (fun x => x = bs) w8.drew W) => hW.cell hPd.c3 hPd.pne.2.2.2
          have q0 := fun W (hW : Kept (fun x => x = bs) w8.drew W) => (hUd.kept hW hUs).cell.1
          have q1 := fun W (hW : Kept (fun x => x = bs) w8.drew W) => (hUd.kept hW hUs).cell.2
          have hS0 : Kept (fun x => x = bs) w8.drew w8.drew := Kept.refl _ _
          have HE9 : Hid (Tj w w9 N p Q (k0, k1) (upT f k0.toNat (k1 + 1)) pd B X bl bb bt bs vs (j + 1) v') := by
            obtain ⟨r1, r3, r4, hk8⟩ := HR8.out
            have hoff' : ∀ b, v'.ownBlock = some b → Q < b := fun b hb => by
              rcases r3 b hb with q | q
              · have := HF.out b q
                omega
              · have := HD.out.2.2.1.lt
                omega
            have hbs := HLT.out bs (.inr (.inr (.inr (.inr (.inl rfl)))))
            have hrow9 := hk9.row (own_later r1 hdr8) (fun b hb e => by have := hoff' b hb; omega)
            have hkp : Kept (fun x => x = bl ∨ x = bs) w w9 := by
              refine ((HD.out.1.kept.trans hk8 (fun i hi e => ?_)).trans (Kept.ofBelow (F := fun x => x = bl ∨ x = bs) hdr8) fun _ _ e => e).trans hk9 fun i hi e => .inr e
              have := (HF.out i e).1
              have := HQ.out
              omega
            refine ⟨⟨setV vs' (k0, k1 + (j : Int)) snil, ⟨?_, hkp⟩, fun u b hb => ?_⟩, ?_, fun hn => ?_, hQd.kept hk9 hQs, fun b hb e => by have := hoff' b hb; omega⟩
            · rw [HL.out]
              exact hPd.shuts hk9 hS9
            · unfold setV at hb
              by_cases e : u = (k0, k1 + (j : Int))
              · rw [if_pos e] at hb; cases hb
              · rw [if_neg e] at hb; exact hown u b hb
            · rw [HL.out]
              show w9.ownsRow _ _ _ _ (L ++ sh R (k0, k1 + (j : Int))).length ((L ++ sh R (k0, k1 + (j : Int))).flatMap kC)
              rw [List.length_append, List.flatMap_append]
              exact hrow9
            · rw [HL.out] at hn
              have hn : L ++ sh R (k0, k1 + (j : Int)) = [] := hn
              obtain ⟨n1, n2⟩ := List.append_eq_nil_iff.1 hn
              exact r4 (by rw [n1, n2]; rfl) (HNI.out n1)
          have HRU : Hid (_ = _) := hrun
          have HK9 : Hid _ := hk9
          clear hP8 hQ8 hU8 hPd hQd hUd hS9 hg9 hrun hdr8 hlt8 hFQ hFU hk9 hown hbase
          refine wp_region_held_drew (S := fun W => Kept (fun x => x = bs) w8.drew W) (by kernel_rfl) hS0 (fun hHeld => ?_)
          refine opT 0 50 (.move (.tmp 0)) (.pointer (some ⟨p, 0, none⟩)) rfl ?_
          go_frame
          refine opT 1 51 (.nilCheck (.tmp 50)) (.pointer (some ⟨p, 0, none⟩)) rfl ?_
          go_frame
          refine opT 2 52 (.fieldAddr 69 (.tmp 51) 3) (.pointer (some ⟨p, 3, none⟩)) rfl ?_
          go_frame
          refine opR 3 53 (.load 67 (.tmp 52)) (.map (some bs)) rfl (fun w hSw => by have c := qp w hSw; go_simp) ?_
          go_frame
          refine opR 4 54 (.load 33 (.tmp 10)) (.agg #[.int .i64 k0, .int .i64 (k1 + (j : Int))]) rfl (fun w hSw => by have c0 := q0 w hSw; have c1 := q1 w hSw; go_simp) ?_
          go_frame
          refine wpAnyH_ready (rs := [5]) (by kernel_rfl) (by simp) ?_
          refine AllReadyH.cons rfl (fun Kc hK => ?_) AllReadyH.nil
          refine if_wpK rfl (wp_del 67 33 _ _ rfl rfl rfl rfl HRU.out ?_)
          refine hK.out _ _ HK9.out (fun hHeld2 => ?_)
          clear hK Kc
          try go_frame
          refine wpAnyH_done (by kernel_rfl) ?_ _
          clear hHeld hHeld2 hS0 q0 q1 qp
          have b0 : 0 ≤ k1 + (j : Int) := hgu.2.2.1
          have b1 : k1 + (j : Int) ≤ 255 := hgu.2.2.2
          go_wp2_with fail
          go_roundw
          case rel => exact ⟨j + 1, by omega, by first | go_num | (simp; omega), HE9.out⟩
          case measure => simp [intOf]; omega
        · have hjn : j = n := by omega
          subst hjn
          have d : decide (k1 + (j : Int) < E) = false := by simp; omega
          have HRR : Hid _ := hR
          have HN : Hid _ := hn
          clear hR hn
          go_wp2_with fail
          go_ret
          have hn := HN.out
          rw [HE.out] at hn
          exact ⟨_, j, rfl, hn, HRR.out.row, HRR.out.nil, HRR.out.run⟩
end Go.Proofs.Ytompgoaogomoaaa.Kn
