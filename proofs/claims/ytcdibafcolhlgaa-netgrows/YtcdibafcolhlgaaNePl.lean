/- NetPlays' walk, by what is asked of the program's net. -/
import Derived.Test.YtcdibafcolhlgaaHd
import Derived.Test.YtcdibafcolhlgaaOpenNe
import Derived.Deep.CutBlock
namespace Go.Proofs.Ytcdibafcolhlgaa.Ne
open Go.RowKit Go.Maps
set_option linter.unusedVariables false
set_option linter.unusedSimpArgs false

theorem getD_of {α : Type} {l : List α} {z : α} {n : Nat} (h : n < l.length) : l.getD n z ∈ l := by
  rw [List.getD_eq_getElem?_getD, List.getElem?_eq_getElem h]; exact List.getElem_mem _
theorem same_z (a a' : Option Addr) (c c' z : Nat) (l : List Pt) (w : World) (hz : l.length = z) (hl : z ≤ 4398046511104) (h1 : RdP w a l) (h2 : RdP w a' l) :
    Calls Try.prog 14 #[.slice a z c, .slice a' z c'] w fun e w' => e = .returned (.bool true) ∧ Below w.heap.size w w' := by
  subst hz
  exact same_any a a' c c' l w (by omega) h1 h2
def Lst (l : List Pt) (z : Nat) : Prop := l.length = z ∧ z ≤ 4398046511104
/- Lists that were answered: where they lie. -/
theorem wait_z {PAt : QPred} (A : NApi PAt) {w : World} {N p z : Nat} {s : Nst} {F : Nat → Prop} (h : PAt w N p s F) (ho : OkS s) (hl : s.A.length ≤ 4398046511104) (hz : s.wait.length = z) :
    Calls Try.prog 15 #[.pointer (some ⟨p, 0, none⟩)] w fun e w' => ∃ a c, e = .returned (.slice a z c) ∧ RdP w' a s.wait ∧ Below w.heap.size w w' := by
  subst hz
  refine (A.waiting h ho hl).mono ?_
  rintro e w' ⟨v, rfl, hr, hb⟩
  obtain ⟨a, c, rfl, -⟩ := own_spell hr
  exact ⟨a, c, rfl, rdP_of hr, hb⟩
theorem seen_z {PAt : QPred} (A : NApi PAt) {w : World} {N p z : Nat} {s : Nst} {F : Nat → Prop} (h : PAt w N p s F) (ho : OkS s) (hl : s.A.length ≤ 4398046511104) (hz : s.A.length = z) :
    Calls Try.prog 17 #[.pointer (some ⟨p, 0, none⟩)] w fun e w' => ∃ a c, e = .returned (.slice a z c) ∧ RdP w' a s.A ∧ Below w.heap.size w w' := by
  subst hz
  refine (A.seen h ho hl).mono ?_
  rintro e w' ⟨v, rfl, hr, hb⟩
  obtain ⟨a, c, rfl, -⟩ := own_spell hr
  exact ⟨a, c, rfl, rdP_of hr, hb⟩
theorem rwait_z {w : World} {N p z : Nat} {s : Nst} {va vg : Value} (h : NAt w N p s va vg) (ho : OkS s) (hl : s.A.length ≤ 4398046511104) (hz : s.wait.length = z) :
    Calls Try.prog 16 #[.pointer (some ⟨p, 0, none⟩)] w fun e w' => ∃ a c, e = .returned (.slice a z c) ∧ RdP w' a s.wait ∧ Below w.heap.size w w' := by
  subst hz
  refine (waiting_any w N p s va vg h ho.len hl).mono ?_
  rintro e w' ⟨v, rfl, hr, hb⟩
  obtain ⟨a, c, rfl, -⟩ := own_spell hr
  exact ⟨a, c, rfl, rdP_of hr, hb⟩
theorem NApi.same {PAt : QPred} (A : NApi PAt) {w w' : World} {N p : Nat} {s : Nst} {F : Nat → Prop} (h : PAt w N p s F) (hb : Below w.heap.size w w') : PQ PAt w w' N p s F := ⟨F, A.later h hb, Kept.ofBelow hb, fun _ h => .inl h⟩
theorem get_both {PAt : QPred} (A : NApi PAt) {w3 wB : World} {N N2 p p2 : Nat} {s : Nst} {F : Nat → Prop} {va vg : Value} (h : Pn PAt w3 wB N N2 p p2 s s F va vg) (ho : OkS s) (hl : s.A.length ≤ 4398046511104) {nn : Int} (hn : wI nn) :
    ∃ (q : Pt) (E : Int), (∀ W, Below wB.heap.size wB W → Calls Try.prog 10 #[.pointer (some ⟨p, 0, none⟩), .int .i64 nn] W fun e w' => e = aP q E ∧ Below W.heap.size W w') ∧ (∀ W, Below wB.heap.size wB W → Calls Try.prog 11 #[.pointer (some ⟨p2, 0, none⟩), .int .i64 nn] W fun e w' => e = aP q E ∧ Below W.heap.size W w') := by
  by_cases hon : s.on nn
  · obtain ⟨i, hi, rfl, hg⟩ := hon
    exact ⟨_, _, fun W hW => A.get_yes i (A.later h.a hW) ho hl hi hg, fun W hW => get_yes W N2 p2 s va vg (h.b.later hW) ho.len (by omega) i hi hg⟩
  · exact ⟨_, _, fun W hW => A.get_no nn (A.later h.a hW) ho hl hn hon, fun W hW => get_no W N2 p2 s va vg (h.b.later hW) ho.len (by omega) nn hon⟩
theorem drop_both {PAt : QPred} (A : NApi PAt) {N N2 p p2 : Nat} {s : Nst} (ho : OkS s) (hl : s.A.length ≤ 4398046511104) {nn : Int} (hn : wI nn) :
    ∃ (s' : Nst) (E : Int), OkS s' ∧ s'.A.length = s.A.length ∧ (∀ W F, PAt W N p s F → N ≤ W.heap.size → Calls Try.prog 12 #[.pointer (some ⟨p, 0, none⟩), .int .i64 nn] W fun e w' => e = .returned (.int .i64 E) ∧ PQ PAt W w' N p s' F) ∧ (∀ W va vg, NAt W N2 p2 s va vg → Calls Try.prog 13 #[.pointer (some ⟨p2, 0, none⟩), .int .i64 nn] W fun e w' => e = .returned (.int .i64 E) ∧ NP W w' N2 p2 s' va vg) := by
  by_cases hon : s.on nn
  · obtain ⟨i, hi, rfl, hg⟩ := hon
    exact ⟨_, _, ho.dropped i, rfl, fun W F h hN => A.drop_yes i h hN ho hl hi hg, fun W va vg h => drop_yes W N2 p2 s va vg h ho.len (by omega) i hi hg⟩
  · exact ⟨s, 26, ho, rfl, fun W F h hN => (A.drop_no nn h ho hl hn hon).mono (by rintro e w' ⟨rfl, hb⟩; exact ⟨rfl, A.same h hb⟩), fun W va vg h => (drop_no W N2 p2 s va vg h ho.len (by omega) nn hon).mono (by rintro e w' ⟨rfl, hb⟩; exact ⟨rfl, h.same hb⟩)⟩
def CutN (PAt : QPred) (w3 : World) (N N2 p p2 k : Nat) (wx : World) : Prop := ∃ s F va vg, OkS s ∧ s.A.length ≤ k + 1 ∧ Pn PAt w3 wx N N2 p p2 s s F va vg
set_option maxRecDepth 100000 in
set_option maxHeartbeats 20000000 in
theorem plays_walk {PAt : QPred} (A : NApi PAt) (a : Option Addr) (c : Nat) (l : List Pt) (w : World) (rd : RdP w a l) (hl : l.length * 32 ≤ 140737488351232) (ok : ∀ p ∈ l, wI p.1 ∧ wI p.2.1 ∧ p.2.2.size ≤ 9223372036854775807) :
    Calls Try.prog 3 #[.slice a l.length c] w fun e w' => e = .returned (.bool true) ∧ Below w.heap.size w w' := by
  obtain ⟨n, hn⟩ : ∃ n, l.length = n := ⟨_, rfl⟩
  have HL : Hid (l.length = n ∧ (∀ p ∈ l, wI p.1 ∧ wI p.2.1 ∧ p.2.2.size ≤ 9223372036854775807) ∧ RdP w a l) := ⟨hn, ok, rd⟩
  have hn2 : n ≤ 4398046510976 := by omega
  rw [hn]
  have hlv := fun W => lives_any A W
  have hnw := fun W => A.new W
  clear hn ok rd hl
  go_enter Try.func3, Try.ntmps3
  go_wp2_with fail
  refine (hlv _).mono ?_
  rintro r w1 ⟨rfl, hb1⟩
  go_upto_region 4 with (go_at_call 7; refine (hnw _).mono ?_; rintro r w2 ⟨p, F, rfl, hP, hb2⟩)
  obtain ⟨N, hN⟩ : ∃ N, w1.heap.size = N := ⟨_, rfl⟩
  rw [hN] at hP
  have hT := Pn.start A hP (by rw [← hN]; exact hb2.size)
  have HB3 : Hid (Below w.heap.size w (w2.alloc (.cells #[.slice none 0 0, .slice none 0 0] 30)) ∧ w.heap.size ≤ N) := ⟨Below.then hb1 (Below.then hb2 (below1 _ _)), by rw [← hN]; exact hb1.size⟩
  obtain ⟨p2, hp2⟩ : ∃ p2, w2.heap.size = p2 := ⟨_, rfl⟩
  rw [hp2] at hT ⊢
  obtain ⟨N2, hN2⟩ : ∃ N2, N2 = p2 := ⟨_, rfl⟩
  have hT : Pn PAt (w2.alloc (.cells #[.slice none 0 0, .slice none 0 0] 30)) (w2.alloc (.cells #[.slice none 0 0, .slice none 0 0] 30)) N N2 p p2 ⟨[], []⟩ ⟨[], []⟩ F (.slice none 0 0) (.slice none 0 0) := by rw [hN2]; exact hT
  generalize w2.alloc (.cells #[.slice none 0 0, .slice none 0 0] 30) = w3 at *
  have HT0 : Hid (Pn PAt w3 w3 N N2 p p2 ⟨[], []⟩ ⟨[], []⟩ F (.slice none 0 0) (.slice none 0 0)) := hT
  have HBF : Hid (∀ W, Below N w3 W → Below w.heap.size w W) := fun W h => HB3.out.1.trans (h.mono HB3.out.2)
  clear hlv hnw hb1 hb2 hP hN hp2 hN2 hT
  go_wp2_with fail
  go_loopw [18] (fun i wx => ∃ (k : Nat) (s : Nst) (F : Nat → Prop) (va vg : Value), k ≤ n ∧ i = .int .i64 (k : Int) ∧ OkS s ∧ s.A.length ≤ k ∧ Pn PAt w3 wx N N2 p p2 s s F va vg) (fun i _ => n - (intOf i).toNat)
  case atStart => exact ⟨0, _, F, _, _, by omega, rfl, OkS.nil, by simp, HT0.out⟩
  case round =>
    obtain ⟨k, s, F, va, vg, hk, rfl, hos, hsl, hT⟩ := hrel
    clear HT0
    have HT : Hid (Pn PAt w3 wr N N2 p p2 s s F va vg) := hT
    have HO : Hid (OkS s ∧ s.A.length ≤ k) := ⟨hos, hsl⟩
    clear hT hos hsl
    by_cases hkn : k < n
    · have hkl : k < l.length := by rw [HL.out.1]; exact hkn
      obtain ⟨o, ho⟩ : ∃ o, l.getD k zP = o := ⟨_, rfl⟩
      have hko := HL.out.2.1 o (ho ▸ getD_of hkl)
      obtain ⟨b', f', ha, c0, c1, c2⟩ := (HL.out.2.2.later (HBF.out _ HT.out.bel)) k hkl
      rw [ho] at c0 c1 c2
      have HKB : Hid (k + 1 ≤ 4398046511104) := by show _ ≤ _; omega
      subst ha
      obtain ⟨kd, nn, tx⟩ := o
      dsimp only at c0 c1 c2
      have HOK : Hid (wI kd ∧ wI nn ∧ tx.size ≤ 9223372036854775807) := hko
      obtain ⟨y0, y1, y2⟩ := boxed3 wr (.int .i64 kd) (.int .i64 nn) (.string tx) 32
      have hyb := _root_.Go.heap_alloc_last wr (.cells #[.int .i64 kd, .int .i64 nn, .string tx] 32)
      have hT1 := HT.out.later A (below1 wr (.cells #[.int .i64 kd, .int .i64 nn, .string tx] 32))
      have hnF : ¬ F wr.heap.size ∧ ¬ Fn p2 va vg wr.heap.size := ⟨fun e => by have := HT.out.lt A _ (.inl e); omega, fun e => by have := HT.out.lt A _ (.inr e); omega⟩
      have k1 : (0 : Int) ≤ (k : Int) := by omega
      have k2 : (k : Int) < (n : Int) := by omega
      clear hkl ho hko HT
      go_upto_region 7 with (fail)
      clear c0 c1 c2 k1 k2
      obtain ⟨P, hP⟩ : ∃ P, wr.heap.size = P := ⟨_, rfl⟩
      rw [hP] at y0 y1 y2 hnF hyb ⊢
      generalize wr.alloc (.cells #[.int .i64 kd, .int .i64 nn, .string tx] 32) = wB at *
      have HTB : Hid (Pn PAt w3 wB N N2 p p2 s s F va vg) := hT1
      have HP : Hid (¬ F P ∧ ¬ Fn p2 va vg P) := hnF
      clear hT1 hP hnF hyb
      go_upto_block 2 with (fail)
      go_cut [7] (fun _ wx => CutN PAt w3 N N2 p p2 k wx)
      case first =>
        by_cases h1 : kd = 1
        · subst h1
          go_upto_region 9 with (fail)
          have hHD : Pn PAt w3 wB.drew N N2 p p2 s s F va vg := HTB.out.later A (Below.refl _ _).drew
          have HTD : Hid (Pn PAt w3 wB.drew N N2 p p2 s s F va vg) := hHD
          obtain ⟨M, hM⟩ : ∃ M, (s.A.length : Int) + 1 = M := ⟨_, rfl⟩
          have hlk : s.A.length < 4398046511104 := by have h1 := HO.out.2; have h2 := HKB.out; omega
          have hse := A.send nn tx HTD.out.a (Nat.le_trans HTD.out.nn HTD.out.sz) HO.out.1 hlk HOK.out.2.1 HOK.out.2.2
          have hsr := fun W F' (h : Pn PAt w3 W N N2 p p2 (s.sent nn tx) s F' va vg) => send_any W N2 p2 s va vg nn tx h.b h.sz hlk (by rw [HO.out.1.len]; exact hlk)
          rw [hM] at hse hsr
          have hS0 : wB.drew.cell? ⟨P, 1, none⟩ = some (.int .i64 nn) ∧ wB.drew.cell? ⟨P, 2, none⟩ = some (.string tx) := ⟨y1, y2⟩
          clear hHD hM hlk y0 y1 y2 HTB
          refine wp_region_held_drew (S := fun W => W.cell? ⟨P, 1, none⟩ = some (.int .i64 nn) ∧ W.cell? ⟨P, 2, none⟩ = some (.string tx)) (by kernel_rfl) hS0 (fun hHeld => ?_)
          refine opT 0 27 (.move (.tmp 3)) (.pointer (some ⟨p, 0, none⟩)) rfl ?_
          go_frame
          refine opT 1 28 (.fieldAddr 32 (.tmp 6) 1) (.pointer (some ⟨P, 1, none⟩)) rfl ?_
          go_frame
          refine opR 2 29 (.load 3 (.tmp 28)) (.int .i64 nn) rfl (fun w hSw => by obtain ⟨c1, c2⟩ := hSw; go_simp) ?_
          go_frame
          refine opT 3 30 (.fieldAddr 32 (.tmp 6) 2) (.pointer (some ⟨P, 2, none⟩)) rfl ?_
          go_frame
          refine opR 4 31 (.load 9 (.tmp 30)) (.string tx) rfl (fun w hSw => by obtain ⟨c1, c2⟩ := hSw; go_simp) ?_
          go_frame
          refine opT 6 33 (.move (.tmp 4)) (.pointer (some ⟨p2, 0, none⟩)) rfl ?_
          go_frame
          refine opT 7 34 (.fieldAddr 32 (.tmp 6) 1) (.pointer (some ⟨P, 1, none⟩)) rfl ?_
          go_frame
          refine opR 8 35 (.load 3 (.tmp 34)) (.int .i64 nn) rfl (fun w hSw => by obtain ⟨c1, c2⟩ := hSw; go_simp) ?_
          go_frame
          refine opT 9 36 (.fieldAddr 32 (.tmp 6) 2) (.pointer (some ⟨P, 2, none⟩)) rfl ?_
          go_frame
          refine opR 10 37 (.load 9 (.tmp 36)) (.string tx) rfl (fun w hSw => by obtain ⟨c1, c2⟩ := hSw; go_simp) ?_
          go_frame
          refine wpAnyH_ready (rs := [5]) (by kernel_rfl) (by simp) ?_
          refine AllReadyH.cons rfl (fun K hK => ?_) AllReadyH.nil
          go_simp
          refine hse.mono ?_
          rintro r wc ⟨rfl, hd⟩
          obtain ⟨F1, hU⟩ := HTD.out.one A hd
          have hkd : Kept F wB.drew wc := by obtain ⟨_, _, h2, _⟩ := hd; exact h2
          have hs2 := hsr _ _ hU
          have HU : Hid (Pn PAt w3 wc N N2 p p2 (s.sent nn tx) s F1 va vg) := hU
          have hS1 : wc.cell? ⟨P, 1, none⟩ = some (.int .i64 nn) ∧ wc.cell? ⟨P, 2, none⟩ = some (.string tx) := ⟨hkd.cell hHeld.1 HP.out.1, hkd.cell hHeld.2 HP.out.1⟩
          clear hd hU hkd
          go_wp2_with fail
          refine hK.out _ _ hS1 (fun hH1 => ?_)
          clear hHeld hS1
          clear hK K
          try go_frame
          refine wpAnyH_ready (rs := [11]) (by kernel_rfl) (by simp) ?_
          refine AllReadyH.cons rfl (fun K hK => ?_) AllReadyH.nil
          go_simp
          refine hs2.mono ?_
          rintro r wd ⟨rfl, hd⟩
          obtain ⟨va1, vg1, hV⟩ := HU.out.two A hd
          have hkd : Kept (Fn p2 va vg) wc wd := by obtain ⟨_, _, _, h2, _⟩ := hd; exact h2
          have HV : Hid (Pn PAt w3 wd N N2 p p2 (s.sent nn tx) (s.sent nn tx) F1 va1 vg1) := hV
          have hS2 : wd.cell? ⟨P, 1, none⟩ = some (.int .i64 nn) ∧ wd.cell? ⟨P, 2, none⟩ = some (.string tx) := ⟨hkd.cell hH1.1 HP.out.2, hkd.cell hH1.2 HP.out.2⟩
          clear hd hV hkd
          go_wp2_with fail
          refine hK.out _ _ hS2 (fun hH2 => ?_)
          clear hH1 hS2
          clear hK K
          try go_frame
          refine opT 12 39 (.binOp .neq 3 (.tmp 32) (.tmp 38) 3) (.bool false) rfl ?_
          go_frame
          refine wpAnyH_done (by kernel_rfl) ?_ _
          go_wp2_with fail
          go_meet
          case rel => exact ⟨_, F1, va1, vg1, HO.out.1.sent HOK.out.2.1 HOK.out.2.2, by have := HO.out.2; simp [Nst.sent]; omega, HV.out⟩
        · have e1 : (kd == 1) = false := by simpa using h1
          by_cases h2 : kd = 2
          · subst h2
            clear h1
            obtain ⟨⟨q0, q1, q2⟩, E, g1, g2⟩ := get_both A HTB.out HO.out.1 (by have h1 := HO.out.2; have h2 := HKB.out; omega) HOK.out.2.1
            unfold aP at g1 g2
            dsimp only at g1 g2
            have hb0 := Below.refl wB.heap.size wB
            go_upto_region 13 with (go_at_call 10; refine (g1 _ hb0).mono ?_; rintro r wd ⟨rfl, hbd⟩)
            have hbe := Below.then hbd (below1 wd (.cells #[.int .i64 q0, .int .i64 q1, .string q2] 35))
            obtain ⟨u0, u1, u2⟩ := boxed3 wd (.int .i64 q0) (.int .i64 q1) (.string q2) 35
            obtain ⟨Q, hQ⟩ : ∃ Q, wd.heap.size = Q := ⟨_, rfl⟩
            rw [hQ] at u0 u1 u2 ⊢
            generalize wd.alloc (.cells #[.int .i64 q0, .int .i64 q1, .string q2] 35) = wE at *
            have y1 := cell_later hbe y1
            clear g1 hbd hb0 hQ
            go_upto_region 14 with (go_at_call 11; refine (g2 _ hbe).mono ?_; rintro r wf ⟨rfl, hbf⟩)
            have hbg := Below.then hbf (below1 wf (.cells #[.int .i64 q0, .int .i64 q1, .string q2] 35))
            obtain ⟨v0, v1, v2⟩ := boxed3 wf (.int .i64 q0) (.int .i64 q1) (.string q2) 35
            obtain ⟨Q2, hQ2⟩ : ∃ Q2, wf.heap.size = Q2 := ⟨_, rfl⟩
            rw [hQ2] at v0 v1 v2 ⊢
            generalize wf.alloc (.cells #[.int .i64 q0, .int .i64 q1, .string q2] 35) = wG at *
            have u0 := cell_later hbg u0
            have u1 := cell_later hbg u1
            have u2 := cell_later hbg u2
            have HG : Hid (Pn PAt w3 wG N N2 p p2 s s F va vg) := HTB.out.later A (Below.then hbe hbg)
            clear g2 hbf hbe hbg hQ2 y0 y1 y2 HTB
            go_wp2_with fail
            go_meet
            case rel => exact ⟨s, F, va, vg, HO.out.1, Nat.le_succ_of_le HO.out.2, HG.out⟩
          · have e2 : (kd == 2) = false := by simpa using h2
            by_cases h3 : kd = 3
            · subst h3
              clear h1 h2
              go_upto_region 17 with (fail)
              have HTD : Hid (Pn PAt w3 wB.drew N N2 p p2 s s F va vg) := HTB.out.later A (Below.refl _ _).drew
              obtain ⟨s', E, ho', hl', g1, g2⟩ := drop_both A (N := N) (N2 := N2) (p := p) (p2 := p2) HO.out.1 (by have h1 := HO.out.2; have h2 := HKB.out; omega) HOK.out.2.1
              have HO2 : Hid (OkS s' ∧ s'.A.length = s.A.length) := ⟨ho', hl'⟩
              have hse := g1 _ F HTD.out.a (Nat.le_trans HTD.out.nn HTD.out.sz)
              have hS0 : wB.drew.cell? ⟨P, 1, none⟩ = some (.int .i64 nn) ∧ wB.drew.cell? ⟨P, 2, none⟩ = some (.string tx) := ⟨y1, y2⟩
              clear ho' hl' g1 y0 y1 y2 HTB
              refine wp_region_held_drew (S := fun W => W.cell? ⟨P, 1, none⟩ = some (.int .i64 nn) ∧ W.cell? ⟨P, 2, none⟩ = some (.string tx)) (by kernel_rfl) hS0 (fun hHeld => ?_)
              refine opT 0 66 (.move (.tmp 3)) (.pointer (some ⟨p, 0, none⟩)) rfl ?_
              go_frame
              refine opT 1 67 (.fieldAddr 32 (.tmp 6) 1) (.pointer (some ⟨P, 1, none⟩)) rfl ?_
              go_frame
              refine opR 2 68 (.load 3 (.tmp 67)) (.int .i64 nn) rfl (fun w hSw => by obtain ⟨c1, c2⟩ := hSw; go_simp) ?_
              go_frame
              refine opT 4 70 (.move (.tmp 4)) (.pointer (some ⟨p2, 0, none⟩)) rfl ?_
              go_frame
              refine opT 5 71 (.fieldAddr 32 (.tmp 6) 1) (.pointer (some ⟨P, 1, none⟩)) rfl ?_
              go_frame
              refine opR 6 72 (.load 3 (.tmp 71)) (.int .i64 nn) rfl (fun w hSw => by obtain ⟨c1, c2⟩ := hSw; go_simp) ?_
              go_frame
              refine wpAnyH_ready (rs := [3]) (by kernel_rfl) (by simp) ?_
              refine AllReadyH.cons rfl (fun K hK => ?_) AllReadyH.nil
              go_simp
              refine hse.mono ?_
              rintro r wc ⟨rfl, hd⟩
              obtain ⟨F1, hU⟩ := HTD.out.one A hd
              have hkd : Kept F wB.drew wc := by obtain ⟨_, _, h2, _⟩ := hd; exact h2
              have hs2 := g2 _ _ _ hU.b
              have HU : Hid (Pn PAt w3 wc N N2 p p2 s' s F1 va vg) := hU
              have hS1 : wc.cell? ⟨P, 1, none⟩ = some (.int .i64 nn) ∧ wc.cell? ⟨P, 2, none⟩ = some (.string tx) := ⟨hkd.cell hHeld.1 HP.out.1, hkd.cell hHeld.2 HP.out.1⟩
              clear hd hU hkd
              go_wp2_with fail
              refine hK.out _ _ hS1 (fun hH1 => ?_)
              clear hHeld hS1
              clear hK K
              try go_frame
              refine wpAnyH_ready (rs := [7]) (by kernel_rfl) (by simp) ?_
              refine AllReadyH.cons rfl (fun K hK => ?_) AllReadyH.nil
              go_simp
              refine hs2.mono ?_
              rintro r wd ⟨rfl, hd⟩
              obtain ⟨va1, vg1, hV⟩ := HU.out.two A hd
              have hkd : Kept (Fn p2 va vg) wc wd := by obtain ⟨_, _, _, h2, _⟩ := hd; exact h2
              have HV : Hid (Pn PAt w3 wd N N2 p p2 s' s' F1 va1 vg1) := hV
              have hS2 : wd.cell? ⟨P, 1, none⟩ = some (.int .i64 nn) ∧ wd.cell? ⟨P, 2, none⟩ = some (.string tx) := ⟨hkd.cell hH1.1 HP.out.2, hkd.cell hH1.2 HP.out.2⟩
              clear hd hV hkd
              go_wp2_with fail
              refine hK.out _ _ hS2 (fun hH2 => ?_)
              clear hH1 hS2
              clear hK K
              try go_frame
              refine opT 8 74 (.binOp .neq 36 (.tmp 69) (.tmp 73) 36) (.bool false) rfl ?_
              go_frame
              refine wpAnyH_done (by kernel_rfl) ?_ _
              go_wp2_with fail
              go_meet
              case rel => exact ⟨s', F1, va1, vg1, HO2.out.1, by have h1 := HO2.out.2; have h2 := HO.out.2; omega, HV.out⟩
            · have e3 : (kd == 3) = false := by simpa using h3
              clear h1 h2 h3
              go_wp2_with fail
              go_meet
              case rel => exact ⟨s, F, va, vg, HO.out.1, Nat.le_succ_of_le HO.out.2, HTB.out⟩
      case rest =>
        obtain ⟨s1, F1, va1, vg1, ho1, hl1, hN1⟩ := hcut
        have HS1 : Hid (OkS s1 ∧ s1.A.length ≤ k + 1) := ⟨ho1, hl1⟩
        have HNX0 : Hid (Pn PAt w3 wc N N2 p p2 s1 s1 F1 va1 vg1) := hN1
        obtain ⟨wx, hwx⟩ : ∃ W, W = wc := ⟨_, rfl⟩
        have HNX : Hid (Pn PAt w3 wx N N2 p p2 s1 s1 F1 va1 vg1) := by rw [hwx]; exact HNX0.out
        rw [← hwx]
        clear hwx HNX0 ho1 hl1 hN1 HTB y0 y1 y2 HO HOK HP
        obtain ⟨F1, va1, vg1, HPN⟩ : ∃ F1 va1 vg1, Hid (Pn PAt w3 wx N N2 p p2 s1 s1 F1 va1 vg1) := ⟨_, _, _, HNX⟩
        obtain ⟨z1, hz1⟩ : ∃ z, s1.wait.length = z := ⟨_, rfl⟩
        obtain ⟨z2, hz2⟩ : ∃ z, s1.A.length = z := ⟨_, rfl⟩
        have HS : Hid (OkS s1 ∧ s1.A.length ≤ k + 1 ∧ s1.wait.length = z1 ∧ s1.A.length = z2) := ⟨HS1.out.1, HS1.out.2, hz1, hz2⟩
        clear hz1 hz2 HNX
        obtain ⟨aA, cA, hvA, -⟩ := own_spell HPN.out.b.all
        rw [HS.out.2.2.2] at hvA
        have HVA : Hid (va1 = .slice aA z2 cA) := hvA
        have c0 := HPN.out.b.c0
        rw [hvA] at c0
        have hW1 := fun W (hW : Below wx.heap.size wx W) => wait_z A (A.later HPN.out.a hW) HS.out.1 (Nat.le_trans HS.out.2.1 HKB.out) HS.out.2.2.1
        have hW2 := fun W (hW : Below wx.heap.size wx W) => rwait_z (HPN.out.b.later hW) HS.out.1 (Nat.le_trans HS.out.2.1 HKB.out) HS.out.2.2.1
        have hW3 := fun W (hW : Below wx.heap.size wx W) => seen_z A (A.later HPN.out.a hW) HS.out.1 (Nat.le_trans HS.out.2.1 HKB.out) HS.out.2.2.2
        have hRA : RdP wx aA s1.A := by have h := HPN.out.b.all; rw [hvA] at h; have e := HS.out.2.2.2; subst e; exact rdP_of h
        have hsm := fun W a1 a2 c1 c2 (h1 : RdP W a1 s1.wait) (h2 : RdP W a2 s1.wait) => same_z a1 a2 c1 c2 z1 s1.wait W HS.out.2.2.1 (by have h := waitN_len s1 s1.A.length; have h2 := HS.out.2.2.1; have h3 := HS.out.2.1; have h4 := HKB.out; unfold Nst.wait at h2; omega) h1 h2
        have hsn := fun W a1 a2 c1 c2 (h1 : RdP W a1 s1.A) (h2 : RdP W a2 s1.A) => same_z a1 a2 c1 c2 z2 s1.A W HS.out.2.2.2 (by have h2 := HS.out.2.2.2; have h3 := HS.out.2.1; have h4 := HKB.out; omega) h1 h2
        clear hvA
        by_cases h80 : k < 80
        · have d80 : decide ((k : Int) < 80) = true := decide_eq_true (by omega)
          go_upto_region 19 with (fail)
          have hS0 : Below wx.heap.size wx wx.drew := (Below.refl _ _).drew
          clear h80
          refine wp_region_held_drew (S := fun W => Below wx.heap.size wx W) (by kernel_rfl) hS0 (fun hHeld => ?_)
          refine opT 0 75 (.move (.tmp 5)) (.int .i64 (k : Int)) rfl ?_
          go_frame
          refine opT 1 76 (.binOp .lss 3 (.tmp 75) (.const (.int .i64 80)) 3) (.bool true) rfl ?_
          go_frame
          refine opT 2 77 (.move (.tmp 76)) (.bool true) rfl ?_
          go_frame
          refine opTg 3 78 (.move (.tmp 3)) (some (2, true)) (.pointer (some ⟨p, 0, none⟩)) rfl ?_
          go_frame
          refine opTg 5 80 (.move (.tmp 4)) (some (2, true)) (.pointer (some ⟨p2, 0, none⟩)) rfl ?_
          go_frame
          refine wpAnyH_ready (rs := [4]) (by kernel_rfl) (by simp) ?_
          refine AllReadyH.cons rfl (fun K hK => ?_) AllReadyH.nil
          go_simp
          refine (hW1 _ hHeld).mono ?_
          rintro r wc ⟨b4, e4, rfl, hr4, hbc⟩
          go_wp2_with fail
          refine hK.out _ _ (Below.then hHeld hbc) (fun hH1 => ?_)
          clear hbc hHeld
          clear hK K
          try go_frame
          refine wpAnyH_ready (rs := [6]) (by kernel_rfl) (by simp) ?_
          refine AllReadyH.cons rfl (fun K hK => ?_) AllReadyH.nil
          go_simp
          refine (hW2 _ hH1).mono ?_
          rintro r wd ⟨b6, e6, rfl, hr6, hbc⟩
          have hr4 := hr4.later hbc
          go_wp2_with fail
          refine hK.out _ _ (Below.then hH1 hbc) (fun hH2 => ?_)
          clear hbc hH1
          clear hK K
          try go_frame
          refine wpAnyH_ready (rs := [7]) (by kernel_rfl) (by simp) ?_
          refine AllReadyH.cons rfl (fun K hK => ?_) AllReadyH.nil
          go_simp
          refine (hsm _ _ _ _ _ hr4 hr6).mono ?_
          rintro r we ⟨rfl, hbc⟩
          go_wp2_with fail
          refine hK.out _ _ (Below.then hH2 hbc) (fun hH3 => ?_)
          clear hbc hH2 hr4 hr6
          clear hK K
          try go_frame
          refine opTg 8 83 (.unOp .not 4 (.tmp 82)) (some (2, true)) (.bool false) rfl ?_
          go_frame
          refine opTg 9 84 (.move (.tmp 83)) (some (2, true)) (.bool false) rfl ?_
          go_frame
          refine opTg 10 85 (.move (.tmp 3)) (some (9, false)) (.pointer (some ⟨p, 0, none⟩)) rfl ?_
          go_frame
          refine opTg 12 87 (.move (.tmp 4)) (some (9, false)) (.pointer (some ⟨p2, 0, none⟩)) rfl ?_
          go_frame
          refine opTg 13 88 (.nilCheck (.tmp 87)) (some (9, false)) (.pointer (some ⟨p2, 0, none⟩)) rfl ?_
          go_frame
          refine opTg 14 89 (.fieldAddr 30 (.tmp 88) 0) (some (9, false)) (.pointer (some ⟨p2, 0, none⟩)) rfl ?_
          go_frame
          refine opRg 15 90 (.load 27 (.tmp 89)) (some (9, false)) (.slice aA z2 cA) rfl (fun w hSw => by have x0 := cell_later hSw c0; go_simp) ?_
          go_frame
          refine wpAnyH_ready (rs := [11]) (by kernel_rfl) (by simp) ?_
          refine AllReadyH.cons rfl (fun K hK => ?_) AllReadyH.nil
          go_simp
          refine (hW3 _ hH3).mono ?_
          rintro r wf ⟨b11, e11, rfl, hr11, hbc⟩
          go_wp2_with fail
          refine hK.out _ _ (Below.then hH3 hbc) (fun hH4 => ?_)
          clear hbc hH3
          clear hK K
          try go_frame
          refine wpAnyH_ready (rs := [16]) (by kernel_rfl) (by simp) ?_
          refine AllReadyH.cons rfl (fun K hK => ?_) AllReadyH.nil
          go_simp
          refine (hsn _ _ _ _ _ hr11 (hRA.later hH4)).mono ?_
          rintro r wg ⟨rfl, hbc⟩
          go_wp2_with fail
          refine hK.out _ _ (Below.then hH4 hbc) (fun hH5 => ?_)
          clear hbc hH4 hr11
          clear hK K
          try go_frame
          refine opTg 17 92 (.unOp .not 4 (.tmp 91)) (some (9, false)) (.bool false) rfl ?_
          go_frame
          refine opTg 18 93 (.pick (.tmp 84) (.const (.bool true)) (.tmp 92)) (some (2, true)) (.bool false) rfl ?_
          go_frame
          refine opT 19 94 (.pick (.tmp 77) (.tmp 93) (.const (.bool false))) (.bool false) rfl ?_
          go_frame
          refine wpAnyH_done (by kernel_rfl) ?_ _
          clear hW1 hW2 hW3 hsm hsn hRA c0 d80
          go_wp2_with fail
          go_roundw
          case rel => exact ⟨k + 1, s1, F1, va1, vg1, by omega, by go_num, HS.out.1, HS.out.2.1, HPN.out.later A hH5⟩
          case measure => simp [intOf]; omega
        · have d80 : decide ((k : Int) < 80) = false := decide_eq_false (by omega)
          go_upto_region 19 with (fail)
          have hS0 : Below wx.heap.size wx wx.drew := (Below.refl _ _).drew
          clear h80 hW1 hW2 hW3 hsm hsn hRA c0
          refine wp_region_held_drew (S := fun W => Below wx.heap.size wx W) (by kernel_rfl) hS0 (fun hHeld => ?_)
          refine opT 0 75 (.move (.tmp 5)) (.int .i64 (k : Int)) rfl ?_
          go_frame
          refine opT 1 76 (.binOp .lss 3 (.tmp 75) (.const (.int .i64 80)) 3) (.bool false) rfl ?_
          go_frame
          refine opT 2 77 (.move (.tmp 76)) (.bool false) rfl ?_
          go_frame
          refine opN 3 78 (.move (.tmp 3)) (some (2, true)) rfl ?_
          go_frame
          refine opN 4 79 (.call { callee := .value (.func 15), args := #[(.tmp 78)], argTypes := #[24] }) (some (2, true)) rfl ?_
          go_frame
          refine opN 5 80 (.move (.tmp 4)) (some (2, true)) rfl ?_
          go_frame
          refine opN 6 81 (.call { callee := .value (.func 16), args := #[(.tmp 80)], argTypes := #[26] }) (some (2, true)) rfl ?_
          go_frame
          refine opN 7 82 (.call { callee := .value (.func 14), args := #[(.tmp 79), (.tmp 81)], argTypes := #[27, 27] }) (some (2, true)) rfl ?_
          go_frame
          refine opN 8 83 (.unOp .not 4 (.tmp 82)) (some (2, true)) rfl ?_
          go_frame
          refine opN 9 84 (.move (.tmp 83)) (some (2, true)) rfl ?_
          go_frame
          refine opN 10 85 (.move (.tmp 3)) (some (9, false)) rfl ?_
          go_frame
          refine opN 11 86 (.call { callee := .value (.func 17), args := #[(.tmp 85)], argTypes := #[24] }) (some (9, false)) rfl ?_
          go_frame
          refine opN 12 87 (.move (.tmp 4)) (some (9, false)) rfl ?_
          go_frame
          refine opN 13 88 (.nilCheck (.tmp 87)) (some (9, false)) rfl ?_
          go_frame
          refine opN 14 89 (.fieldAddr 30 (.tmp 88) 0) (some (9, false)) rfl ?_
          go_frame
          refine opN 15 90 (.load 27 (.tmp 89)) (some (9, false)) rfl ?_
          go_frame
          refine opN 16 91 (.call { callee := .value (.func 14), args := #[(.tmp 86), (.tmp 90)], argTypes := #[27, 27] }) (some (9, false)) rfl ?_
          go_frame
          refine opN 17 92 (.unOp .not 4 (.tmp 91)) (some (9, false)) rfl ?_
          go_frame
          refine opN 18 93 (.pick (.tmp 84) (.const (.bool true)) (.tmp 92)) (some (2, true)) rfl ?_
          go_frame
          refine opT 19 94 (.pick (.tmp 77) (.tmp 93) (.const (.bool false))) (.bool false) rfl ?_
          go_frame
          refine wpAnyH_done (by kernel_rfl) ?_ _
          clear d80
          go_wp2_with fail
          go_roundw
          case rel => exact ⟨k + 1, s1, F1, va1, vg1, by omega, by go_num, HS.out.1, HS.out.2.1, HPN.out.later A hHeld⟩
          case measure => simp [intOf]; omega
    · obtain rfl : k = n := by omega
      have dkk : decide ((k : Int) < (k : Int)) = false := by simp
      have HKB : Hid (k ≤ 4398046511104) := by show _ ≤ _; omega
      obtain ⟨z1, hz1⟩ : ∃ z, s.wait.length = z := ⟨_, rfl⟩
      obtain ⟨z2, hz2⟩ : ∃ z, s.A.length = z := ⟨_, rfl⟩
      have HS : Hid (OkS s ∧ s.A.length ≤ k ∧ s.wait.length = z1 ∧ s.A.length = z2) := ⟨HO.out.1, HO.out.2, hz1, hz2⟩
      clear hz1 hz2 hk hkn
      obtain ⟨aA, cA, hvA, -⟩ := own_spell HT.out.b.all
      rw [HS.out.2.2.2] at hvA
      have c0 := HT.out.b.c0
      rw [hvA] at c0
      have hW1 := fun W (hW : Below wr.heap.size wr W) => wait_z A (A.later HT.out.a hW) HS.out.1 (Nat.le_trans HS.out.2.1 HKB.out) HS.out.2.2.1
      have hW2 := fun W (hW : Below wr.heap.size wr W) => rwait_z (HT.out.b.later hW) HS.out.1 (Nat.le_trans HS.out.2.1 HKB.out) HS.out.2.2.1
      have hW3 := fun W (hW : Below wr.heap.size wr W) => seen_z A (A.later HT.out.a hW) HS.out.1 (Nat.le_trans HS.out.2.1 HKB.out) HS.out.2.2.2
      have hRA : RdP wr aA s.A := by have h := HT.out.b.all; rw [hvA] at h; have e := HS.out.2.2.2; subst e; exact rdP_of h
      have hsm := fun W a1 a2 c1 c2 (h1 : RdP W a1 s.wait) (h2 : RdP W a2 s.wait) => same_z a1 a2 c1 c2 z1 s.wait W HS.out.2.2.1 (by have h := waitN_len s s.A.length; have h2 := HS.out.2.2.1; have h3 := HS.out.2.1; have h4 := HKB.out; unfold Nst.wait at h2; omega) h1 h2
      have hsn := fun W a1 a2 c1 c2 (h1 : RdP W a1 s.A) (h2 : RdP W a2 s.A) => same_z a1 a2 c1 c2 z2 s.A W HS.out.2.2.2 (by have h2 := HS.out.2.2.2; have h3 := HS.out.2.1; have h4 := HKB.out; omega) h1 h2
      clear hvA
      go_upto_region 22 with (fail)
      have hS0 : Below wr.heap.size wr wr.drew := (Below.refl _ _).drew
      clear dkk
      refine wp_region_held_drew (S := fun W => Below wr.heap.size wr W) (by kernel_rfl) hS0 (fun hHeld => ?_)
      refine opT 0 96 (.move (.tmp 3)) (.pointer (some ⟨p, 0, none⟩)) rfl ?_
      go_frame
      refine opT 2 98 (.move (.tmp 4)) (.pointer (some ⟨p2, 0, none⟩)) rfl ?_
      go_frame
      refine wpAnyH_ready (rs := [1]) (by kernel_rfl) (by simp) ?_
      refine AllReadyH.cons rfl (fun K hK => ?_) AllReadyH.nil
      go_simp
      refine (hW1 _ hHeld).mono ?_
      rintro r wc ⟨b4, e4, rfl, hr4, hbc⟩
      go_wp2_with fail
      refine hK.out _ _ (Below.then hHeld hbc) (fun hH1 => ?_)
      clear hbc hHeld
      clear hK K
      try go_frame
      refine wpAnyH_ready (rs := [3]) (by kernel_rfl) (by simp) ?_
      refine AllReadyH.cons rfl (fun K hK => ?_) AllReadyH.nil
      go_simp
      refine (hW2 _ hH1).mono ?_
      rintro r wd ⟨b6, e6, rfl, hr6, hbc⟩
      have hr4 := hr4.later hbc
      go_wp2_with fail
      refine hK.out _ _ (Below.then hH1 hbc) (fun hH2 => ?_)
      clear hbc hH1
      clear hK K
      try go_frame
      refine wpAnyH_ready (rs := [4]) (by kernel_rfl) (by simp) ?_
      refine AllReadyH.cons rfl (fun K hK => ?_) AllReadyH.nil
      go_simp
      refine (hsm _ _ _ _ _ hr4 hr6).mono ?_
      rintro r we ⟨rfl, hbc⟩
      go_wp2_with fail
      refine hK.out _ _ (Below.then hH2 hbc) (fun hH3 => ?_)
      clear hbc hH2 hr4 hr6
      clear hK K
      try go_frame
      refine opT 5 101 (.move (.tmp 100)) (.bool true) rfl ?_
      go_frame
      refine opTg 6 102 (.move (.tmp 3)) (some (5, true)) (.pointer (some ⟨p, 0, none⟩)) rfl ?_
      go_frame
      refine opTg 8 104 (.move (.tmp 4)) (some (5, true)) (.pointer (some ⟨p2, 0, none⟩)) rfl ?_
      go_frame
      refine opTg 9 105 (.nilCheck (.tmp 104)) (some (5, true)) (.pointer (some ⟨p2, 0, none⟩)) rfl ?_
      go_frame
      refine opTg 10 106 (.fieldAddr 30 (.tmp 105) 0) (some (5, true)) (.pointer (some ⟨p2, 0, none⟩)) rfl ?_
      go_frame
      refine opRg 11 107 (.load 27 (.tmp 106)) (some (5, true)) (.slice aA z2 cA) rfl (fun w hSw => by have x0 := cell_later hSw c0; go_simp) ?_
      go_frame
      refine wpAnyH_ready (rs := [7]) (by kernel_rfl) (by simp) ?_
      refine AllReadyH.cons rfl (fun K hK => ?_) AllReadyH.nil
      go_simp
      refine (hW3 _ hH3).mono ?_
      rintro r wf ⟨b11, e11, rfl, hr11, hbc⟩
      go_wp2_with fail
      refine hK.out _ _ (Below.then hH3 hbc) (fun hH4 => ?_)
      clear hbc hH3
      clear hK K
      try go_frame
      refine wpAnyH_ready (rs := [12]) (by kernel_rfl) (by simp) ?_
      refine AllReadyH.cons rfl (fun K hK => ?_) AllReadyH.nil
      go_simp
      refine (hsn _ _ _ _ _ hr11 (hRA.later hH4)).mono ?_
      rintro r wg ⟨rfl, hbc⟩
      go_wp2_with fail
      refine hK.out _ _ (Below.then hH4 hbc) (fun hH5 => ?_)
      clear hbc hH4 hr11
      clear hK K
      try go_frame
      refine opT 13 109 (.pick (.tmp 101) (.tmp 108) (.const (.bool false))) (.bool true) rfl ?_
      go_frame
      refine opT 14 2 (.assign (.tmp 109)) (.bool true) rfl ?_
      go_frame
      refine wpAnyH_done (by kernel_rfl) ?_ _
      clear hW1 hW2 hW3 hsm hsn hRA c0
      go_wp2_with fail
      go_ret
      exact ⟨rfl, HBF.out _ (HT.out.later A hH5).bel⟩
end Go.Proofs.Ytcdibafcolhlgaa.Ne
