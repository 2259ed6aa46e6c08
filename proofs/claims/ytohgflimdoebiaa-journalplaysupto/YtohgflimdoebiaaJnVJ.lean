/- JnV, JnX, joined. -/
import Derived.Test.YtohgflimdoebiaaJnWJ
import Derived.Test.YtohgflimdoebiaaJnO
import Derived.Deep.RegionWith
import Derived.Test.YtohgflimdoebiaaDrL
import Derived.Test.YtohgflimdoebiaaDkN
/- Contract: the pair's step, where both disks are cut. -/
namespace Go.Proofs.Ytohgflimdoebiaa.Dk
open Go.RowKit Go.Maps
set_option linter.unusedVariables false
set_option maxRecDepth 4000
set_option linter.unusedSimpArgs false

def DCut (W : World) (s : St) (p' : Nat) (W' : World) : Prop := (∃ b m x, Dk W.heap.size W' p' s b m x) ∧ Below W.heap.size W W'
def RCutt (W : World) (s : St) (q' : Nat) (W' : World) : Prop := (∃ f y z, Rk W.heap.size W' q' s f y z) ∧ Below W.heap.size W W'
theorem two_cut {N : Nat} {w : World} {p q : Nat} {s : St} (h : Two N w p q s) (hl : s.log.length ≤ 5864062014805) (n : Int) (hw : (Lit.int .i64 n).wf = true) : ∀ W, Below w.heap.size w W →
    Calls Try.prog 28 #[.pointer (some ⟨p, 0, none⟩), .int .i64 n] W fun e W' => ∃ p', e = .returned (.pointer (some ⟨p', 0, none⟩)) ∧ DCut W (ct s n.toNat) p' W' := fun W hb => by
  obtain ⟨b, m, x, f, y, z, hT⟩ := h
  refine (cut_any N W p s b m x (hT.d.later hb) hl n hw).mono ?_
  rintro e W' ⟨p', b', m', x', rfl, hd, hb'⟩
  exact ⟨p', rfl, ⟨b', m', x', hd⟩, hb'⟩
theorem two_rCut {N : Nat} {w : World} {p q : Nat} {s : St} (h : Two N w p q s) (hl : s.log.length ≤ 5864062014805) (n : Int) : ∀ W, Below w.heap.size w W →
    Calls Try.prog 38 #[.pointer (some ⟨q, 0, none⟩), .int .i64 n] W fun e W' => ∃ q', e = .returned (.pointer (some ⟨q', 0, none⟩)) ∧ RCutt W (ct s n.toNat) q' W' := fun W hb => by
  obtain ⟨b, m, x, f, y, z, hT⟩ := h
  refine (rCut_any N W q s f y z (hT.r.later hb) hl n).mono ?_
  rintro e W' ⟨⟨q', f', y', z', rfl, hr⟩, hb'⟩
  exact ⟨q', rfl, ⟨f', y', z', hr⟩, hb'⟩
theorem cut_dr {N : Nat} {W W1 W2 : World} {s : St} {p' q' : Nat} (hN : N ≤ W.heap.size) (h1 : DCut W s p' W1) (h2 : RCutt W1 s q' W2) : Two N W2 p' q' s ∧ Below W.heap.size W W2 := by
  obtain ⟨⟨b, m, x, hd⟩, hb1⟩ := h1
  obtain ⟨⟨f, y, z, hr⟩, hb2⟩ := h2
  have hs := hb1.size
  refine ⟨⟨b, m, x, f, y, z, (hd.later hb2).weak hN, hr.weak (by omega), fun k hk hF => ?_⟩, thenB hb1 hb2⟩
  have := (hd.inHeap k hk).1
  have := (hr.inHeap k hF).2
  omega
theorem cut_rd {N : Nat} {W W1 W2 : World} {s : St} {p' q' : Nat} (hN : N ≤ W.heap.size) (h1 : RCutt W s q' W1) (h2 : DCut W1 s p' W2) : Two N W2 p' q' s ∧ Below W.heap.size W W2 := by
  obtain ⟨⟨b, m, x, hd⟩, hb2⟩ := h2
  obtain ⟨⟨f, y, z, hr⟩, hb1⟩ := h1
  have hs := hb1.size
  refine ⟨⟨b, m, x, f, y, z, hd.weak (by omega), (hr.later hb2).weak hN, fun k hk hF => ?_⟩, thenB hb1 hb2⟩
  have := (hd.inHeap k hk).2
  have := (hr.inHeap k hF).1
  omega
theorem Md.drew0 {N : Nat} {w0 w : World} {pb p q : Nat} {s t : St} {jv kv : Option Addr} {c a : Nat} {d : Bool} (h : Md N w0 w pb p q s t jv kv c a d) : Md N w0 w.drew pb p q s t jv kv c a d := h.later (Below.drew (Below.refl _ w))
set_option maxHeartbeats 4000000 in
theorem step_cut (N : Nat) (w0 w : World) (pb p q : Nat) (s : St) (jv kv : Option Addr) (c a : Nat) (d : Bool) (h : Pr N w0 w pb p q s jv kv c a d) (n : Int) (t : ByteArray) (hw : (Lit.int .i64 n).wf = true) (hlog : s.log.length + 2048 ≤ 5864062014805) :
    Calls Try.prog 16 #[.pointer (some ⟨pb, 0, none⟩), .agg #[.int .i64 5, .int .i64 n, .string t]] w fun e w' => e = .returned (.bool true) ∧ PrStep N w0 w pb s w' := by
  obtain ⟨kd, hkd⟩ : ∃ kd : Int, 5 = kd := ⟨_, rfl⟩
  rw [hkd]
  have HM : Hid (Md N w0 (w.alloc (.cells #[.int .i64 kd, .int .i64 n, .string t] 44)) pb p q s s jv kv c a d) := h.md.later (below1 _ _)
  have HOK : Hid (OpK w (w.alloc (.cells #[.int .i64 kd, .int .i64 n, .string t] 44))) := OpK.ofBelow (below1 _ _)
  have HOP : Hid (Ob (w.alloc (.cells #[.int .i64 kd, .int .i64 n, .string t] 44)) w.heap.size kd n t) := World.alloc_heap_new _ _
  have b1 : (kd == 1) = false := by simp [← hkd]
  have b2 : (kd == 2) = false := by simp [← hkd]
  have b3 : (kd == 3) = false := by simp [← hkd]
  have b4 : (kd == 4) = false := by simp [← hkd]
  have b5 : (kd == 5) = true := by simp [← hkd]
  clear h hkd
  go_enter Try.func16, Try.ntmps16
  go_wp2_with fail
  obtain ⟨w1, hw1⟩ : ∃ w1, w.alloc (.cells #[.int .i64 kd, .int .i64 n, .string t] 44) = w1 := ⟨_, rfl⟩
  obtain ⟨o, ho⟩ : ∃ o, w.heap.size = o := ⟨_, rfl⟩
  rw [hw1] at HM HOK HOP ⊢
  rw [ho] at HOP ⊢
  clear hw1 ho
  have HTWO : Hid (Two N w1 p q s) := HM.out.tw
  have hcd := two_cut HTWO.out (by omega) n hw
  have hcr := two_rCut HTWO.out (by omega) n
  have HPB : Hid (Pb w1 pb p q jv kv) := HM.out.blk
  have c0 := HM.out.blk.c0
  have c2 := HM.out.blk.c2
  have o1 := HOP.out.c1
  have HC : Hid (∀ W, Below w1.heap.size w1 W → W.cell? ⟨pb, 0, none⟩ = some (.pointer (some ⟨p, 0, none⟩)) ∧ W.cell? ⟨pb, 2, none⟩ = some (.pointer (some ⟨q, 0, none⟩)) ∧ W.cell? ⟨o, 1, none⟩ = some (.int .i64 n)) := fun W hW => ⟨(HPB.out.later hW).c0, (HPB.out.later hW).c2, (HOP.out.keep (OpK.ofBelow hW)).c1⟩
  go_cut [3] (fun s3 wx => ∃ p' q', s3 = .pointer (some ⟨o, 0, none⟩) ∧ Two N wx p' q' (ct s n.toNat) ∧ Pb wx pb p' q' jv kv ∧ Below N w0 wx ∧ N ≤ wx.heap.size ∧ OpK w wx)
  case first =>
    have HBD : Hid (Below w1.heap.size w1 w1.drew) := Below.drew (Below.refl _ w1)
    have hsN := HM.out.size
    refine Till.region [8, 15] (fun W => W.cell? ⟨pb, 0, none⟩ = some (.pointer (some ⟨p, 0, none⟩)) ∧ W.cell? ⟨pb, 2, none⟩ = some (.pointer (some ⟨q, 0, none⟩)) ∧ W.cell? ⟨o, 1, none⟩ = some (.int .i64 n)) (by kernel_rfl) ?_
    have hHeld : w1.drew.cell? ⟨pb, 0, none⟩ = some (.pointer (some ⟨p, 0, none⟩)) ∧ w1.drew.cell? ⟨pb, 2, none⟩ = some (.pointer (some ⟨q, 0, none⟩)) ∧ w1.drew.cell? ⟨o, 1, none⟩ = some (.int .i64 n) := HC.out _ HBD.out
    clear c0 c2 o1
    refine Till.takeFree (i := 0) (oi := { dst := some 65, op := Op.move (Operand.tmp 0), type := _, pos := _, after := _, guard := none }) (x := .pointer (some ⟨pb, 0, none⟩)) rfl (by decide) (by kernel_rfl) (by kernel_rfl) (by kernel_rfl) (fun _ _ _ h => h) (Or.inl ⟨by rfl, fun w _ => by go_simp⟩) hHeld ?_
    simp only [Act.put, List.setIfInBounds_toArray, List.set_cons_zero, List.set_cons_succ]
    refine Till.takeFree (i := 1) (oi := { dst := some 66, op := Op.move (Operand.tmp 0), type := _, pos := _, after := _, guard := none }) (x := .pointer (some ⟨pb, 0, none⟩)) rfl (by decide) (by kernel_rfl) (by kernel_rfl) (by kernel_rfl) (fun _ _ _ h => h) (Or.inl ⟨by rfl, fun w _ => by go_simp⟩) hHeld ?_
    simp only [Act.put, List.setIfInBounds_toArray, List.set_cons_zero, List.set_cons_succ]
    refine Till.takeFree (i := 2) (oi := { dst := some 67, op := Op.move (Operand.tmp 0), type := _, pos := _, after := _, guard := none }) (x := .pointer (some ⟨pb, 0, none⟩)) rfl (by decide) (by kernel_rfl) (by kernel_rfl) (by kernel_rfl) (fun _ _ _ h => h) (Or.inl ⟨by rfl, fun w _ => by go_simp⟩) hHeld ?_
    simp only [Act.put, List.setIfInBounds_toArray, List.set_cons_zero, List.set_cons_succ]
    refine Till.takeFree (i := 3) (oi := { dst := some 68, op := Op.nilCheck (Operand.tmp 67), type := _, pos := _, after := _, guard := none }) (x := .pointer (some ⟨pb, 0, none⟩)) rfl (by decide) (by kernel_rfl) (by kernel_rfl) (by kernel_rfl) (fun _ _ _ h => h) (Or.inl ⟨by rfl, fun w _ => by go_simp⟩) hHeld ?_
    simp only [Act.put, List.setIfInBounds_toArray, List.set_cons_zero, List.set_cons_succ]
    refine Till.takeFree (i := 4) (oi := { dst := some 69, op := Op.fieldAddr 42 (Operand.tmp 68) 0, type := _, pos := _, after := _, guard := none }) (x := .pointer (some ⟨pb, 0, none⟩)) rfl (by decide) (by kernel_rfl) (by kernel_rfl) (by kernel_rfl) (fun _ _ _ h => h) (Or.inl ⟨by rfl, fun w _ => by go_simp⟩) hHeld ?_
    simp only [Act.put, List.setIfInBounds_toArray, List.set_cons_zero, List.set_cons_succ]
    refine Till.take (i := 5) 8 (oi := { dst := some 70, op := Op.load _ (Operand.tmp 69), type := _, pos := _, after := _, guard := none }) (x := .pointer (some ⟨p, 0, none⟩)) rfl (by decide) (by kernel_rfl) (by decide) (by kernel_rfl) (by kernel_rfl) (by kernel_rfl) (by kernel_rfl) (fun _ _ _ h => h) (Or.inl ⟨by rfl, fun w hSw => by (try dsimp only at hSw); go_simp⟩) hHeld ?_
    simp only [Act.put, List.setIfInBounds_toArray, List.set_cons_zero, List.set_cons_succ]
    refine Till.takeFree (i := 6) (oi := { dst := some 71, op := Op.fieldAddr 44 (Operand.tmp 3) 1, type := _, pos := _, after := _, guard := none }) (x := .pointer (some ⟨o, 1, none⟩)) rfl (by decide) (by kernel_rfl) (by kernel_rfl) (by kernel_rfl) (fun _ _ _ h => h) (Or.inl ⟨by rfl, fun w _ => by go_simp⟩) hHeld ?_
    simp only [Act.put, List.setIfInBounds_toArray, List.set_cons_zero, List.set_cons_succ]
    refine Till.take (i := 7) 8 (oi := { dst := some 72, op := Op.load 3 (Operand.tmp 71), type := _, pos := _, after := _, guard := none }) (x := .int .i64 n) rfl (by decide) (by kernel_rfl) (by decide) (by kernel_rfl) (by kernel_rfl) (by kernel_rfl) (by kernel_rfl) (fun _ _ _ h => h) (Or.inl ⟨by rfl, fun w hSw => by (try dsimp only at hSw); go_simp⟩) hHeld ?_
    simp only [Act.put, List.setIfInBounds_toArray, List.set_cons_zero, List.set_cons_succ]
    refine Till.takeFree (i := 9) (oi := { dst := some 74, op := Op.move (Operand.tmp 0), type := _, pos := _, after := _, guard := none }) (x := .pointer (some ⟨pb, 0, none⟩)) rfl (by decide) (by kernel_rfl) (by kernel_rfl) (by kernel_rfl) (fun _ _ _ h => h) (Or.inl ⟨by rfl, fun w _ => by go_simp⟩) hHeld ?_
    simp only [Act.put, List.setIfInBounds_toArray, List.set_cons_zero, List.set_cons_succ]
    refine Till.takeFree (i := 10) (oi := { dst := some 75, op := Op.nilCheck (Operand.tmp 74), type := _, pos := _, after := _, guard := none }) (x := .pointer (some ⟨pb, 0, none⟩)) rfl (by decide) (by kernel_rfl) (by kernel_rfl) (by kernel_rfl) (fun _ _ _ h => h) (Or.inl ⟨by rfl, fun w _ => by go_simp⟩) hHeld ?_
    simp only [Act.put, List.setIfInBounds_toArray, List.set_cons_zero, List.set_cons_succ]
    refine Till.takeFree (i := 11) (oi := { dst := some 76, op := Op.fieldAddr 42 (Operand.tmp 75) 2, type := _, pos := _, after := _, guard := none }) (x := .pointer (some ⟨pb, 2, none⟩)) rfl (by decide) (by kernel_rfl) (by kernel_rfl) (by kernel_rfl) (fun _ _ _ h => h) (Or.inl ⟨by rfl, fun w _ => by go_simp⟩) hHeld ?_
    simp only [Act.put, List.setIfInBounds_toArray, List.set_cons_zero, List.set_cons_succ]
    refine Till.take (i := 12) 15 (oi := { dst := some 77, op := Op.load _ (Operand.tmp 76), type := _, pos := _, after := _, guard := none }) (x := .pointer (some ⟨q, 0, none⟩)) rfl (by decide) (by kernel_rfl) (by decide) (by kernel_rfl) (by kernel_rfl) (by kernel_rfl) (by kernel_rfl) (fun _ _ _ h => h) (Or.inl ⟨by rfl, fun w hSw => by (try dsimp only at hSw); go_simp⟩) hHeld ?_
    simp only [Act.put, List.setIfInBounds_toArray, List.set_cons_zero, List.set_cons_succ]
    refine Till.takeFree (i := 13) (oi := { dst := some 78, op := Op.fieldAddr 44 (Operand.tmp 3) 1, type := _, pos := _, after := _, guard := none }) (x := .pointer (some ⟨o, 1, none⟩)) rfl (by decide) (by kernel_rfl) (by kernel_rfl) (by kernel_rfl) (fun _ _ _ h => h) (Or.inl ⟨by rfl, fun w _ => by go_simp⟩) hHeld ?_
    simp only [Act.put, List.setIfInBounds_toArray, List.set_cons_zero, List.set_cons_succ]
    refine Till.take (i := 14) 15 (oi := { dst := some 79, op := Op.load 3 (Operand.tmp 78), type := _, pos := _, after := _, guard := none }) (x := .int .i64 n) rfl (by decide) (by kernel_rfl) (by decide) (by kernel_rfl) (by kernel_rfl) (by kernel_rfl) (by kernel_rfl) (fun _ _ _ h => h) (Or.inl ⟨by rfl, fun w hSw => by (try dsimp only at hSw); go_simp⟩) hHeld ?_
    simp only [Act.put, List.setIfInBounds_toArray, List.set_cons_zero, List.set_cons_succ]
    refine Till.one (i := 8) (o := { dst := some 73, op := Op.call { callee := Callee.value (Operand.func 28), args := #[Operand.tmp 70, Operand.tmp 72], argTypes := _ }, type := _, pos := _, after := _, guard := none }) rfl (by kernel_rfl) (fun K hK => ?_)
    go_simp
    refine (hcd _ HBD.out).mono ?_
    rintro e w8 ⟨p', rfl, h8⟩
    have H8 : Hid (DCut w1.drew (ct s n.toNat) p' w8) := h8
    have HB8 : Hid (Below w1.heap.size w1 w8) := thenD h8.2
    clear h8
    go_wp2_with fail
    refine hK.out _ _ (fun _ => HC.out w8 HB8.out) ?_
    clear hK K hHeld
    try simp only [Act.put, List.setIfInBounds_toArray, List.set_cons_zero, List.set_cons_succ]
    refine Till.one (i := 15) (o := { dst := some 80, op := Op.call { callee := Callee.value (Operand.func 38), args := #[Operand.tmp 77, Operand.tmp 79], argTypes := _ }, type := _, pos := _, after := _, guard := none }) rfl (by kernel_rfl) (fun K hK => ?_)
    go_simp
    refine (hcr _ HB8.out).mono ?_
    rintro e w10 ⟨q', rfl, h10⟩
    have HFI : Hid (Two N w10 p' q' (ct s n.toNat) ∧ Below w1.drew.heap.size w1.drew w10) := cut_dr (N := N) (W := w1.drew) hsN H8.out h10
    have hp10 := HPB.out.later (thenD HFI.out.2)
    have k0 := hp10.fr 0
    have k2 := hp10.fr 2
    have d0 := hp10.c0
    have d2 := hp10.c2
    have HP10 : Hid (Pb w10 pb p q jv kv) := hp10
    clear h10 hp10
    go_wp2_with fail
    refine hK.out _ _ (fun h => absurd h (by rintro ⟨c, hc, he⟩; revert hc he; decide +revert)) ?_
    clear hK K
    try simp only [Act.put, List.setIfInBounds_toArray, List.set_cons_zero, List.set_cons_succ]
    refine Till.rest (by kernel_rfl) ?_
    refine wpAny_take (i := 16) (oi := { dst := some 81, op := Op.nilCheck (Operand.tmp 65), type := _, pos := _, after := _, guard := none }) (v := .pointer (some ⟨pb, 0, none⟩)) rfl (by kernel_rfl) (by kernel_rfl) (by kernel_rfl) (fun _ _ _ h => h) (Or.inl ⟨by rfl, fun w => by go_simp⟩) ?_
    simp only [Act.put, List.setIfInBounds_toArray, List.set_cons_zero, List.set_cons_succ]
    refine wpAny_take (i := 17) (oi := { dst := some 82, op := Op.fieldAddr 42 (Operand.tmp 81) 0, type := _, pos := _, after := _, guard := none }) (v := .pointer (some ⟨pb, 0, none⟩)) rfl (by kernel_rfl) (by kernel_rfl) (by kernel_rfl) (fun _ _ _ h => h) (Or.inl ⟨by rfl, fun w => by go_simp⟩) ?_
    simp only [Act.put, List.setIfInBounds_toArray, List.set_cons_zero, List.set_cons_succ]
    refine wpAny_ready (rs := [18]) (by kernel_rfl) (by simp) ?_
    refine AllReady.cons (o := { dst := none, op := Op.store _ (Operand.tmp 82) (Operand.tmp 73), type := _, pos := _, after := _, guard := none }) rfl (fun K hK => ?_) AllReady.nil
    have HK : Shut _ := hK
    clear hK
    go_simp
    go_wp2_with fail
    refine HK.out _ _ ?_
    clear HK K
    try simp only [Act.put, List.setIfInBounds_toArray, List.set_cons_zero, List.set_cons_succ]
    refine wpAny_take (i := 19) (oi := { dst := some 83, op := Op.nilCheck (Operand.tmp 66), type := _, pos := _, after := _, guard := none }) (v := .pointer (some ⟨pb, 0, none⟩)) rfl (by kernel_rfl) (by kernel_rfl) (by kernel_rfl) (fun _ _ _ h => h) (Or.inl ⟨by rfl, fun w => by go_simp⟩) ?_
    simp only [Act.put, List.setIfInBounds_toArray, List.set_cons_zero, List.set_cons_succ]
    refine wpAny_take (i := 20) (oi := { dst := some 84, op := Op.fieldAddr 42 (Operand.tmp 83) 2, type := _, pos := _, after := _, guard := none }) (v := .pointer (some ⟨pb, 2, none⟩)) rfl (by kernel_rfl) (by kernel_rfl) (by kernel_rfl) (fun _ _ _ h => h) (Or.inl ⟨by rfl, fun w => by go_simp⟩) ?_
    simp only [Act.put, List.setIfInBounds_toArray, List.set_cons_zero, List.set_cons_succ]
    refine wpAny_ready (rs := [21]) (by kernel_rfl) (by simp) ?_
    refine AllReady.cons (o := { dst := none, op := Op.store _ (Operand.tmp 84) (Operand.tmp 80), type := _, pos := _, after := _, guard := none }) rfl (fun K hK => ?_) AllReady.nil
    have HK : Shut _ := hK
    clear hK
    go_simp
    go_wp2_with fail
    refine HK.out _ _ ?_
    clear HK K
    try simp only [Act.put, List.setIfInBounds_toArray, List.set_cons_zero, List.set_cons_succ]
    refine wpAny_done (by kernel_rfl) ?_ _
    go_wp2_with fail
    go_meet
    case rel =>
      have hb10 := thenD HFI.out.2
      have hp10 := HP10.out
      have hb3 : Below N w0 w10 := HM.out.below.trans (hb10.mono HM.out.size)
      have hs10 := hb10.size
      exact ⟨p', q', rfl, (HFI.out.1.set hp10 0 _).set (hp10.setD p') 2 _, (hp10.setD p').setM q', (hb3.setCell (p := ⟨pb, 0, none⟩) HM.out.nb _).setCell (p := ⟨pb, 2, none⟩) HM.out.nb _, by simp; omega, ((HOK.out.trans (OpK.ofBelow hb10)).trans (OpK.set hp10 0 _)).trans (OpK.set (hp10.setD p') 2 _)⟩
  case rest =>
    obtain ⟨p', q', rfl, hT2, hP2, hB2, hs2, hO2⟩ := hcut
    have hop := popen_any N w0 _ pb p' q' (ct s n.toNat) jv kv hT2 hP2 HM.out.nb hB2 hs2 (by show (List.take _ _).length + _ ≤ _; rw [List.length_take]; omega)
    have d0 := hP2.c0
    have HO2 : Hid (OpK w wc) := hO2
    have HLL : Hid ((opS (ct s n.toNat)).log.length ≤ s.log.length + 4096) := by
      have h1 := opS_log (ct s n.toNat)
      have h2 : (ct s n.toNat).log.length ≤ s.log.length := by show (List.take _ _).length ≤ _; rw [List.length_take]; omega
      show _ ≤ _
      omega
    clear hT2 hP2 hB2 hO2 hcd hcr c0 c2 o1
    go_wp2_with fail
    refine hop.mono ?_
    rintro e w5 ⟨rfl, jv5, kv5, hP5, hO5⟩
    have HP5 : Hid (Pr N w0 w5 pb p' q' (opS (ct s n.toNat)) jv5 kv5 (scP (ct s n.toNat)).length (scE (ct s n.toNat)) false) := hP5
    have HO5 : Hid (OpK w w5) := HO2.out.trans hO5
    clear hop hP5 hO5
    go_wp2_with fail
    go_ret
    exact ⟨rfl, _, _, _, _, _, _, _, _, HP5.out, HLL.out, HO5.out⟩
end Go.Proofs.Ytohgflimdoebiaa.Dk
/- From, of both; one call of the pair, of any kind. -/
namespace Go.Proofs.Ytohgflimdoebiaa.Dk
open Go.RowKit Go.Maps
set_option linter.unusedVariables false
set_option maxRecDepth 4000
set_option linter.unusedSimpArgs false

theorem fe_wide {l : List ByteArray} (h : 2048 < l.length) : fe l = 8 := by unfold fe; rw [if_pos h]
theorem fe_long {l : List ByteArray} (h : l.length ≤ 2048) (h2 : lng l = true) : fe l = 9 := by unfold fe; rw [if_neg (by omega), if_pos h2]
theorem fe_ok {l : List ByteArray} (h : l.length ≤ 2048) (h2 : lng l = false) : fe l = 0 := by unfold fe; rw [if_neg (by omega), if_neg (by rw [h2]; decide)]
theorem from_any (a : Option Addr) (c : Nat) (l : List ByteArray) (w : World) (hl : l.length ≤ 8796093022208) (hrd : RdS w a l) (hsz : ∀ t ∈ l, t.size ≤ 9223372036854775807) :
    Calls Try.prog 11 #[.slice a l.length c] w fun e w' => ∃ dv, e = .returned (.tuple #[.pointer dv, .int .i64 (fe l)]) ∧ Below w.heap.size w w' ∧ ((fe l ≠ 0 ∧ dv = none) ∨ (fe l = 0 ∧ ∃ p b m x, dv = some ⟨p, 0, none⟩ ∧ Dk w.heap.size w' p (st l) b m x)) := by
  by_cases h : 2048 < l.length
  · refine (from_wide a c l w hl h).mono ?_
    rintro e w' ⟨rfl, rfl⟩
    rw [fe_wide h]
    exact ⟨none, rfl, Below.refl _ _, .inl ⟨by decide, rfl⟩⟩
  · refine (from_some a c l w (by omega) hrd hsz).mono ?_
    rintro e w' ⟨⟨h2, rfl⟩ | ⟨h2, p, b, m, x, rfl, hd⟩, hb⟩
    · rw [fe_long (by omega) h2]
      exact ⟨none, rfl, hb, .inl ⟨by decide, rfl⟩⟩
    · rw [fe_ok (by omega) h2]
      exact ⟨_, rfl, hb, .inr ⟨rfl, p, b, m, x, rfl, hd⟩⟩
theorem rFrom_any (a : Option Addr) (c : Nat) (l : List ByteArray) (w : World) (hl : l.length ≤ 8796093022208) (hrd : RdS w a l) (hsz : ∀ t ∈ l, t.size ≤ 9223372036854775807) (hnil : a = none → c = 0) :
    Calls Try.prog 12 #[.slice a l.length c] w fun e w' => ∃ dv, e = .returned (.tuple #[.pointer dv, .int .i64 (fe l)]) ∧ Below w.heap.size w w' ∧ ((fe l ≠ 0 ∧ dv = none) ∨ (fe l = 0 ∧ ∃ p f y x, dv = some ⟨p, 0, none⟩ ∧ Rk w.heap.size w' p (st l) f y x)) := by
  by_cases h : 2048 < l.length
  · refine (rFrom_wide a c l w hl h).mono ?_
    rintro e w' ⟨rfl, rfl⟩
    rw [fe_wide h]
    exact ⟨none, rfl, Below.refl _ _, .inl ⟨by decide, rfl⟩⟩
  · refine (rFrom_some a c l w (by omega) hrd hsz hnil).mono ?_
    rintro e w' ⟨⟨h2, rfl⟩ | ⟨h2, p, f, y, x, rfl, hd⟩, hb⟩
    · rw [fe_long (by omega) h2]
      exact ⟨none, rfl, hb, .inl ⟨by decide, rfl⟩⟩
    · rw [fe_ok (by omega) h2]
      exact ⟨_, rfl, hb, .inr ⟨rfl, p, f, y, x, rfl, hd⟩⟩
theorem wf_le {n : Int} (h : (Lit.int .i64 n).wf = true) : n ≤ 9223372036854775807 := by
  simp [Lit.wf, IntKind.bits, IntKind.signed] at h
  omega
theorem step_any (N : Nat) (w0 w : World) (pb p q : Nat) (s : St) (jv kv : Option Addr) (c a : Nat) (d : Bool) (h : Pr N w0 w pb p q s jv kv c a d) (kd n : Int) (t : ByteArray) (hw : (Lit.int .i64 n).wf = true) (ht : t.size ≤ 9223372036854775807) (hlog : s.log.length + 2048 ≤ 5864062014805) :
    Calls Try.prog 16 #[.pointer (some ⟨pb, 0, none⟩), .agg #[.int .i64 kd, .int .i64 n, .string t]] w fun e w' => e = .returned (.bool true) ∧ PrStep N w0 w pb s w' := by
  by_cases k1 : kd = 1
  · subst k1; exact step_append N w0 w pb p q s jv kv c a d h n t ht (by omega)
  by_cases k2 : kd = 2
  · subst k2; exact step_open N w0 w pb p q s jv kv c a d h n t hlog
  by_cases k3 : kd = 3
  · subst k3; exact step_up N w0 w pb p q s jv kv c a d h n t (wf_le hw)
  by_cases k4 : kd = 4
  · subst k4; exact step_off N w0 w pb p q s jv kv c a d h n t
  by_cases k5 : kd = 5
  · subst k5; exact step_cut N w0 w pb p q s jv kv c a d h n t hw hlog
  exact step_none N w0 w pb p q s jv kv c a d h kd n t k1 k2 k3 k4 k5
theorem two_on {N : Nat} {w : World} {p q : Nat} {s : St} (h : Two N w p q s) : Calls Try.prog 17 #[.pointer (some ⟨p, 0, none⟩)] w fun e w' => e = .returned (.bool (decide (s.left ≠ 0))) ∧ w' = w := by
  obtain ⟨b, m, x, f, y, z, hT⟩ := h
  exact on_any N w p s b m x hT.d
theorem two_rOn {N : Nat} {w : World} {p q : Nat} {s : St} (h : Two N w p q s) : Calls Try.prog 18 #[.pointer (some ⟨q, 0, none⟩)] w fun e w' => e = .returned (.bool (decide (s.left ≠ 0))) ∧ w' = w := by
  obtain ⟨b, m, x, f, y, z, hT⟩ := h
  exact rOn_any N w q s f y z hT.r
theorem made_two {N : Nat} {W W1 W2 : World} {s : St} {p q : Nat} {b m : Nat} {x f y z : Value} (hN : N ≤ W.heap.size) (hd : Dk W.heap.size W1 p s b m x) (hb1 : Below W.heap.size W W1) (hr : Rk W1.heap.size W2 q s f y z) (hb2 : Below W1.heap.size W1 W2) : Two N W2 p q s := (cut_dr hN ⟨⟨b, m, x, hd⟩, hb1⟩ ⟨⟨f, y, z, hr⟩, hb2⟩).1
end Go.Proofs.Ytohgflimdoebiaa.Dk
