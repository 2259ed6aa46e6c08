/- KnowGrows' walk, by what is asked of the program's know. -/
import Derived.Test.YtompgoaogomoaaaKnGr
namespace Go.Proofs.Ytompgoaogomoaaa.Kn
open Go.RowKit Go.Maps
open Rt (Gd gd gd_yes gd_no rGood_any)
set_option linter.unusedVariables false
set_option linter.unusedSimpArgs false

set_option maxRecDepth 100000 in
set_option maxHeartbeats 4000000 in
theorem grows_walk {PAt : PPred} {Rm : RPred} (A : KApi PAt Rm) (a : Option Addr) (c : Nat) (l : List Op9) (w : World) (rd : RdO w a l) (hl : l.length * 80 ≤ 140737488351232) (ok : ∀ p ∈ l, OkO p) :
    Calls Try.prog 5 #[.slice a l.length c] w fun e w' => e = .returned (.bool true) ∧ Below w.heap.size w w' := by
  obtain ⟨n, hn⟩ : ∃ n, l.length = n := ⟨_, rfl⟩
  have HL : Hid (l.length = n ∧ (∀ p ∈ l, OkO p) ∧ RdO w a l) := ⟨hn, ok, rd⟩
  have hn2 : n * 80 ≤ 140737488351232 := by omega
  rw [hn]
  have hlv := fun W => lives_any A W
  have hnw := fun W => A.new W
  obtain ⟨i0, hi, hz0, hz1, hz2⟩ := info_parts infoBox
  obtain ⟨i1, ki, kz0, kz1, kz2⟩ := info_parts infoKey
  clear hn ok rd hl
  go_enter Try.func5, Try.ntmps5
  go_wp2_with fail
  refine (hlv _).mono ?_
  rintro r w1 ⟨rfl, hb1⟩
  go_wp2_with fail
  refine (hnw _).mono ?_
  rintro r w2 ⟨p, F, rfl, hP, hb2⟩
  obtain ⟨N, hN⟩ : ∃ N, w1.heap.size = N := ⟨_, rfl⟩
  rw [hN] at hP
  have HB3 : Hid (Below w.heap.size w w2 ∧ N ≤ w2.heap.size ∧ w.heap.size ≤ N) := ⟨Rt.Below.then hb1 hb2, by rw [← hN]; exact hb2.size, by rw [← hN]; exact hb1.size⟩
  have HP0 : Hid (Gr PAt w2 N p [] F [] [] (.slice none 0 0) (.slice none 0 0)) := ⟨hP, World.ownsRow_nil _ _ _ _, World.ownsRow_nil _ _ _ _, fun k h => (by cases h), fun k h => (by cases h), by simp, by simp, by simp, by simp⟩
  clear hlv hnw hb1 hb2 hP hN
  go_wp2_with fail
  go_loopw [4, 5, 17] (fun vm vh i wx => ∃ (k : Nat) (F : Nat → Prop) (M : List B2) (H : List K2) (um uh : Value), k ≤ n ∧ i = .int .i64 (k : Int) ∧ um = vm ∧ uh = vh ∧ Gr PAt wx N p (l.take k) F M H um uh ∧ Below N w2 wx) (fun _ _ i _ => n - (intOf i).toNat)
  case atStart => exact ⟨0, F, [], [], _, _, by omega, rfl, rfl, rfl, HP0.out, Below.refl _ _⟩
  case round =>
    obtain ⟨k, F, M, H, um, uh, hk, rfl, rfl, rfl, hG, hb⟩ := hrel
    clear HP0
    have HG : Hid (Gr PAt wr N p (l.take k) F M H um uh) := hG
    have HB : Hid (N ≤ wr.heap.size ∧ Below N w2 wr) := ⟨Nat.le_trans HB3.out.2.1 hb.size, hb⟩
    clear hG hb
    by_cases hkn : k < n
    · have hkl : k < l.length := by rw [HL.out.1]; exact hkn
      obtain ⟨o, ho⟩ : ∃ o, l.getD k zO = o := ⟨_, rfl⟩
      have hko := HL.out.2.1 o (ho ▸ getD_of hkl)
      have HTK : Hid (l.take (k + 1) = l.take k ++ [o]) := by rw [← ho]; exact take_snoc' hkl
      have hbw : Below w.heap.size w wr := HB3.out.1.trans (HB.out.2.mono HB3.out.2.2)
      obtain ⟨b', f', ha, c0, c1, c2, c3, c4, c5, c6, c7, c8⟩ := ops_cells (HL.out.2.2.later hbw) hkl ho
      have hln : (l.take k).length < 2199023255552 := by rw [List.length_take]; omega
      subst ha
      obtain ⟨kd, ⟨⟨ub, us⟩, lb, ls⟩, ep, ⟨s0, s1⟩, tx⟩ := o
      dsimp only at c0 c1 c2 c3 c4 c5 c6 c7 c8
      have hN1 : N ≤ (wr.alloc (.cells #[.int .i64 kd, .int .i64 ub, .int .i64 us, .int .i64 lb, .int .i64 ls, .int .i64 ep, .int .i64 s0, .int .i64 s1, .string tx] 39)).heap.size := Nat.le_trans HB.out.1 (Rt.below1 _ _).size
      have hdo := do_any A (wr.alloc (.cells #[.int .i64 kd, .int .i64 ub, .int .i64 us, .int .i64 lb, .int .i64 ls, .int .i64 ep, .int .i64 s0, .int .i64 s1, .string tx] 39)) N p (l.take k) F kd ub us lb ls ep s0 s1 tx (A.later HG.out.po (Rt.below1 _ _)) hN1 hln hko
      have k1 : (0 : Int) ≤ (k : Int) := by omega
      have k2 : (k : Int) < (n : Int) := by omega
      have HOK : Hid (OkO (kd, (((ub, us), (lb, ls)), (ep, ((s0, s1), tx))))) := hko
      have HMK : Hid (H.length ≤ k ∧ M.length ≤ k) := by have h1 := HG.out.lh; have h2 := HG.out.lm; rw [List.length_take] at h1 h2; exact ⟨by omega, by omega⟩
      have HLK : Hid ((l.take (k + 1)).length = k + 1) := by show (l.take (k + 1)).length = k + 1; rw [List.length_take]; omega
      clear hkl ho hko hbw hln hN1
      go_upto_region 10 with (go_at_call 11; refine hdo.mono ?_; rintro r wd ⟨rfl, hd⟩)
      obtain ⟨P, hP⟩ : ∃ P, wr.heap.size = P := ⟨_, rfl⟩
      obtain ⟨F', hGS⟩ : ∃ F', GS PAt w2 wd N p P (l.take (k + 1)) F' M H um uh #[.int .i64 kd, .int .i64 ub, .int .i64 us, .int .i64 lb, .int .i64 ls, .int .i64 ep, .int .i64 s0, .int .i64 s1, .string tx] := by
        have h1 := HG.out.later A (Rt.below1 wr (.cells #[.int .i64 kd, .int .i64 ub, .int .i64 us, .int .i64 lb, .int .i64 ls, .int .i64 ep, .int .i64 s0, .int .i64 s1, .string tx] 39))
        obtain ⟨F', h2⟩ := h1.did hd
        obtain ⟨_, _, hk', _⟩ := hd
        refine ⟨F', by rw [HTK.out]; exact h2, (HB.out.2.trans ((Rt.below1 _ _).mono HB.out.1)).trans (hk'.below (Nat.le_trans HB.out.1 (Rt.below1 _ _).size) fun j hj => (A.ge h1.po j hj).1), Nat.le_trans (Nat.le_trans HB.out.1 (Rt.below1 _ _).size) hk'.size, ?_⟩
        rw [← hP, hk'.block wr.heap.size (by rw [World.size_alloc]; omega) (fun hf => Nat.lt_irrefl _ (A.ge HG.out.po _ hf).2)]
        exact _root_.Go.heap_alloc_last wr _
      rw [hP]
      clear hdo hd hP c0 c1 c2 c3 c4 c5 c6 c7 c8 HG HB HTK k1 k2
      obtain ⟨oc, hoc⟩ : ∃ oc : Array Value, oc = #[.int .i64 kd, .int .i64 ub, .int .i64 us, .int .i64 lb, .int .i64 ls, .int .i64 ep, .int .i64 s0, .int .i64 s1, .string tx] := ⟨_, rfl⟩
      rw [← hoc] at hGS
      have HOC : Hid (oc[1]? = some (.int .i64 ub) ∧ oc[2]? = some (.int .i64 us) ∧ oc[3]? = some (.int .i64 lb) ∧ oc[4]? = some (.int .i64 ls)) := by rw [hoc]; exact ⟨rfl, rfl, rfl, rfl⟩
      have HW3 : Hid (wI ub ∧ wI us ∧ wI lb ∧ wI ls) := HOK.out.2.1
      have HLB : Hid (Rm (toldL (l.take (k + 1))) (boxL (l.take (k + 1))) (txtL (l.take (k + 1)))) := A.rm _ (by have := HLK.out; omega)
      obtain ⟨aH, cH, eH, -⟩ := own_spell hGS.gr.rh
      obtain ⟨aM, cM, eM, -⟩ := own_spell hGS.gr.rm
      subst eH
      subst eM
      obtain ⟨m, hm⟩ : ∃ m, H.length = m := ⟨_, rfl⟩
      obtain ⟨q, hq⟩ : ∃ q, M.length = q := ⟨_, rfl⟩
      have hmk : m ≤ k := by rw [← hm]; exact HMK.out.1
      have hqk : q ≤ k := by rw [← hq]; exact HMK.out.2
      have HMQ : Hid (H.length = m ∧ M.length = q) := ⟨hm, hq⟩
      rw [hm, hq] at hGS ⊢
      have HS : Hid (GS PAt w2 wd N p P (l.take (k + 1)) F' M H (.slice aM q cM) (.slice aH m cH) oc) := hGS
      clear hGS hm hq hoc HOK HMK
      go_wp2_with fail
      go_loopw [26] (fun i wx => ∃ j : Nat, j ≤ m ∧ i = .int .i64 (j : Int) ∧ GS PAt w2 wx N p P (l.take (k + 1)) F' M H (.slice aM q cM) (.slice aH m cH) oc) (fun i _ => m - (intOf i).toNat)
      case atStart => exact ⟨0, by omega, rfl, HS.out⟩
      case round =>
        obtain ⟨j, hj, rfl, hg⟩ := hrel
        have HG : Hid (GS PAt w2 wr N p P (l.take (k + 1)) F' M H (.slice aM q cM) (.slice aH m cH) oc) := hg
        clear hg HS
        by_cases hjm : j < m
        · have hjl : j < H.length := by rw [HMQ.out.1]; exact hjm
          obtain ⟨x, hx⟩ : ∃ x, H.getD j (0, 0) = x := ⟨_, rfl⟩
          have hrow : wr.ownsRow N 33 2 (.slice aH H.length cH) H.length (H.flatMap kC) := by have := HG.out.gr.rh; rw [← HMQ.out.1] at this; exact this
          obtain ⟨b9, f9, ha, y0, y1⟩ := rdK_of hrow j hjl
          rw [hx] at y0 y1
          have hxa := HG.out.gr.ah x (hx ▸ getD_of hjl)
          obtain ⟨x0, x1⟩ := x
          dsimp only at y0 y1
          subst ha
          have hh := fun W hW => A.has (v := true) x0 x1 (A.later HG.out.gr.po hW) HLB.out hxa.2 ⟨fun _ => hxa.1, fun _ => rfl⟩ (w := W)
          have k1 : (0 : Int) ≤ (j : Int) := by omega
          have k2 : (j : Int) < (m : Int) := by omega
          clear hjl hx hxa hrow
          go_wp2_with (go_at_call 14; refine (hh _ (Rt.below1 _ _)).mono ?_; rintro r w3 ⟨rfl, hb3⟩)
          go_roundw
          case rel => exact ⟨j + 1, by omega, by go_num, HG.out.later A (Rt.Below.then (Rt.below1 _ _) hb3)⟩
          case measure => simp [intOf]; omega
        · obtain rfl : j = m := by omega
          have dmm : decide ((j : Int) < (j : Int)) = false := by simp
          clear hj hjm
          go_wp2_with fail
          go_loopw [37] (fun i wx => ∃ s : Nat, s ≤ q ∧ i = .int .i64 (s : Int) ∧ GS PAt w2 wx N p P (l.take (k + 1)) F' M H (.slice aM q cM) (.slice aH j cH) oc) (fun i _ => q - (intOf i).toNat)
          case atStart => exact ⟨0, by omega, rfl, HG.out⟩
          case round =>
            obtain ⟨s, hs, rfl, hg⟩ := hrel
            have HI : Hid (GS PAt w2 wr N p P (l.take (k + 1)) F' M H (.slice aM q cM) (.slice aH j cH) oc) := hg
            clear hg HG
            obtain ⟨m, hmj⟩ : ∃ m, m = j := ⟨_, rfl⟩
            rw [← hmj] at HI HMQ hmk ⊢
            clear hmj dmm
            by_cases hsq : s < q
            · have hsl : s < M.length := by rw [HMQ.out.2]; exact hsq
              obtain ⟨x, hx⟩ : ∃ x, M.getD s ((0, 0), (0, 0)) = x := ⟨_, rfl⟩
              have hrow : wr.ownsRow N 35 4 (.slice aM M.length cM) M.length (M.flatMap bC) := by have := HI.out.gr.rm; rw [← HMQ.out.2] at this; exact this
              obtain ⟨b9, f9, ha, y0, y1, y2, y3⟩ := rdB_of hrow s hsl
              rw [hx] at y0 y1 y2 y3
              have hxa := HI.out.gr.am x (hx ▸ getD_of hsl)
              obtain ⟨⟨x0, x1⟩, x2, x3⟩ := x
              dsimp only at y0 y1 y2 y3
              subst ha
              have hh := fun W hW => A.makes (v := true) x0 x1 x2 x3 (A.later HI.out.gr.po hW) HLB.out hxa.2 ⟨fun _ => hxa.1, fun _ => rfl⟩ (w := W)
              have k1 : (0 : Int) ≤ (s : Int) := by omega
              have k2 : (s : Int) < (q : Int) := by omega
              clear hsl hx hxa hrow
              go_wp2_with (go_at_call 16; refine (hh _ (Rt.below1 _ _)).mono ?_; rintro r w3 ⟨rfl, hb3⟩)
              go_roundw
              case rel => exact ⟨s + 1, by omega, by go_num, HI.out.later A (Rt.Below.then (Rt.below1 _ _) hb3)⟩
              case measure => simp [intOf]; omega
            · obtain rfl : s = q := by omega
              have dqq : decide ((s : Int) < (s : Int)) = false := by simp
              clear hs hsq
              obtain ⟨vb, hvb⟩ := bool_of (MkL (l.take (k + 1)) ((ub, us), (lb, ls)))
              have hmk9 := A.makes ub us lb ls HI.out.gr.po HLB.out HW3.out hvb
              have HVM : Hid (vb = true → MkL (l.take (k + 1)) ((ub, us), (lb, ls))) := hvb.1
              have z0 : wr.cell? ⟨P, 1, none⟩ = some (.int .i64 ub) := (HI.out.cell 1).trans HOC.out.1
              have z1 : wr.cell? ⟨P, 2, none⟩ = some (.int .i64 us) := (HI.out.cell 2).trans HOC.out.2.1
              have z2 : wr.cell? ⟨P, 3, none⟩ = some (.int .i64 lb) := (HI.out.cell 3).trans HOC.out.2.2.1
              have z3 : wr.cell? ⟨P, 4, none⟩ = some (.int .i64 ls) := (HI.out.cell 4).trans HOC.out.2.2.2
              clear hvb
              cases vb with
              | false =>
                go_upto_region 24 with (go_at_call 16; refine hmk9.mono ?_; rintro r wt ⟨rfl, hbt⟩)
                have hT := HI.out.later A hbt
                clear hbt hmk9 z0 z1 z2 z3 dqq
                obtain ⟨M2, hM2⟩ : ∃ M2, M2 = M := ⟨_, rfl⟩
                obtain ⟨vm2, hv2⟩ : ∃ v, v = Value.slice aM s cM := ⟨_, rfl⟩
                rw [← hM2, ← hv2] at hT
                rw [← hv2]
                clear hv2 hM2
                have HT : Hid (GS PAt w2 wt N p P (l.take (k + 1)) F' M2 H vm2 (.slice aH m cH) oc) := hT
                have t1 : wt.cell? ⟨P, 3, none⟩ = some (.int .i64 lb) := (hT.cell 3).trans HOC.out.2.2.1
                have t2 : wt.cell? ⟨P, 4, none⟩ = some (.int .i64 ls) := (hT.cell 4).trans HOC.out.2.2.2
                obtain ⟨vb, hvb⟩ := bool_of (HadL (l.take (k + 1)) (lb, ls))
                have hha := A.has lb ls hT.gr.po HLB.out HW3.out.2.2 hvb
                have HVB : Hid (vb = true → HadL (l.take (k + 1)) (lb, ls)) := hvb.1
                clear hT hvb
                cases vb with
                | false =>
                  go_wp2_with (go_at_call 14; refine hha.mono ?_; rintro r we ⟨rfl, hbe⟩)
                  go_roundw
                  case rel => exact ⟨k + 1, F', _, H, _, _, by omega, by go_num, rfl, rfl, (HT.out.later A hbe).gr, (HT.out.later A hbe).bel⟩
                  case measure => simp [intOf]; omega
                | true =>
                  go_upto_region 25 with (go_at_call 14; refine hha.mono ?_; rintro r we ⟨rfl, hbe⟩)
                  have hE := HT.out.later A hbe
                  have HE : Hid (GS PAt w2 we N p P (l.take (k + 1)) F' M2 H vm2 (.slice aH m cH) oc) := hE
                  have e1 : we.cell? ⟨P, 3, none⟩ = some (.int .i64 lb) := (hE.cell 3).trans HOC.out.2.2.1
                  have e2 : we.cell? ⟨P, 4, none⟩ = some (.int .i64 ls) := (hE.cell 4).trans HOC.out.2.2.2
                  have hrow : we.ownsRow N 33 2 (.slice aH m cH) m (H.flatMap kC) := by have := hE.gr.rh; rw [HMQ.out.1] at this; exact this
                  clear hE hha hbe t1 t2
                  go_wp2_with (at_builtin; refine wpList_append_lies _ rfl _ _ _ rfl N 33 i1 _ 2 16 Try.underlying27 ki kz0 kz1 kz2 rfl (by omega) _ m (H.flatMap kC) rfl (own_later hrow (Rt.below1 _ _)) ⟨we.heap.size, 0, none⟩ 1 1 [.int .i64 lb, .int .i64 ls] rfl rfl (news_of (_root_.Go.heap_alloc_last _ _)) (by simp [Value.oneCell']) (by omega) (by unfold maxLen; omega) (by omega) (by have := HE.out.sz; simp; omega) (we.heap.size + 1) (by simp) ?_; intro g4 cap4 wf hown4 hgrow4 hat4 hlt4)
                  have hF := GS.had (x := (lb, ls)) A (HE.out.later A (Rt.below1 _ _)) ⟨HVB.out (by first | rfl | trivial), HW3.out.2.2⟩ (by rw [HLK.out, HMQ.out.1]; omega) hgrow4 (by rw [HMQ.out.1]; exact hown4) (hat4.imp id (fun e => by rw [World.size_alloc]; exact e))
                  rw [HMQ.out.1] at hF
                  have HF : Hid (GS PAt w2 wf N p P (l.take (k + 1)) F' M2 (H ++ [(lb, ls)]) vm2 (.slice (some ⟨g4, 0, none⟩) (m + 1) cap4) oc) := hF
                  clear hown4 hgrow4 hat4 hlt4 hF hrow
                  go_roundw
                  case rel => exact ⟨k + 1, F', _, _, _, _, by omega, by go_num, rfl, rfl, HF.out.gr, HF.out.bel⟩
                  case measure => simp [intOf]; omega
              | true =>
                go_upto_region 23 with (go_at_call 16; refine hmk9.mono ?_; rintro r wa ⟨rfl, hba⟩)
                have hA := HI.out.later A hba
                have HA : Hid (GS PAt w2 wa N p P (l.take (k + 1)) F' M H (.slice aM s cM) (.slice aH m cH) oc) := hA
                have e0 : wa.cell? ⟨P, 1, none⟩ = some (.int .i64 ub) := (hA.cell 1).trans HOC.out.1
                have e1 : wa.cell? ⟨P, 2, none⟩ = some (.int .i64 us) := (hA.cell 2).trans HOC.out.2.1
                have e2 : wa.cell? ⟨P, 3, none⟩ = some (.int .i64 lb) := (hA.cell 3).trans HOC.out.2.2.1
                have e3 : wa.cell? ⟨P, 4, none⟩ = some (.int .i64 ls) := (hA.cell 4).trans HOC.out.2.2.2
                have hrow : wa.ownsRow N 35 4 (.slice aM s cM) s (M.flatMap bC) := by have := hA.gr.rm; rw [HMQ.out.2] at this; exact this
                clear hA hba hmk9 z0 z1 z2 z3 dqq
                go_upto_region 24 with (at_builtin; refine wpList_append_lies _ rfl _ _ _ rfl N 35 i0 _ 4 32 Try.underlying28 hi hz0 hz1 hz2 rfl (by omega) _ s (M.flatMap bC) rfl (own_later hrow (Rt.below1 _ _)) ⟨wa.heap.size, 0, none⟩ 1 1 [.int .i64 ub, .int .i64 us, .int .i64 lb, .int .i64 ls] rfl rfl (news_of (_root_.Go.heap_alloc_last _ _)) (by simp [Value.oneCell']) (by omega) (by unfold maxLen; omega) (by omega) (by have := HA.out.sz; simp; omega) (wa.heap.size + 1) (by simp) ?_; intro g3 cap3 wt hown3 hgrow3 hat3 hlt3)
                have hT := GS.made (b := ((ub, us), (lb, ls))) A (HA.out.later A (Rt.below1 _ _)) ⟨HVM.out (by first | rfl | trivial), HW3.out⟩ (by rw [HLK.out, HMQ.out.2]; omega) hgrow3 (by rw [HMQ.out.2]; exact hown3) (hat3.imp id (fun e => by rw [World.size_alloc]; exact e))
                rw [HMQ.out.2] at hT
                clear hown3 hgrow3 hat3 hlt3 hrow e0 e1 e2 e3
                obtain ⟨M2, hM2⟩ : ∃ M2, M2 = M ++ [((ub, us), (lb, ls))] := ⟨_, rfl⟩
                obtain ⟨vm2, hv2⟩ : ∃ v, v = Value.slice (some ⟨g3, 0, none⟩) (s + 1) cap3 := ⟨_, rfl⟩
                rw [← hM2, ← hv2] at hT
                rw [← hv2]
                clear hv2 hM2
                have HT : Hid (GS PAt w2 wt N p P (l.take (k + 1)) F' M2 H vm2 (.slice aH m cH) oc) := hT
                have t1 : wt.cell? ⟨P, 3, none⟩ = some (.int .i64 lb) := (hT.cell 3).trans HOC.out.2.2.1
                have t2 : wt.cell? ⟨P, 4, none⟩ = some (.int .i64 ls) := (hT.cell 4).trans HOC.out.2.2.2
                obtain ⟨vb, hvb⟩ := bool_of (HadL (l.take (k + 1)) (lb, ls))
                have hha := A.has lb ls hT.gr.po HLB.out HW3.out.2.2 hvb
                have HVB : Hid (vb = true → HadL (l.take (k + 1)) (lb, ls)) := hvb.1
                clear hT hvb
                cases vb with
                | false =>
                  go_wp2_with (go_at_call 14; refine hha.mono ?_; rintro r we ⟨rfl, hbe⟩)
                  go_roundw
                  case rel => exact ⟨k + 1, F', _, H, _, _, by omega, by go_num, rfl, rfl, (HT.out.later A hbe).gr, (HT.out.later A hbe).bel⟩
                  case measure => simp [intOf]; omega
                | true =>
                  go_upto_region 25 with (go_at_call 14; refine hha.mono ?_; rintro r we ⟨rfl, hbe⟩)
                  have hE := HT.out.later A hbe
                  have HE : Hid (GS PAt w2 we N p P (l.take (k + 1)) F' M2 H vm2 (.slice aH m cH) oc) := hE
                  have e1 : we.cell? ⟨P, 3, none⟩ = some (.int .i64 lb) := (hE.cell 3).trans HOC.out.2.2.1
                  have e2 : we.cell? ⟨P, 4, none⟩ = some (.int .i64 ls) := (hE.cell 4).trans HOC.out.2.2.2
                  have hrow : we.ownsRow N 33 2 (.slice aH m cH) m (H.flatMap kC) := by have := hE.gr.rh; rw [HMQ.out.1] at this; exact this
                  clear hE hha hbe t1 t2
                  go_wp2_with (at_builtin; refine wpList_append_lies _ rfl _ _ _ rfl N 33 i1 _ 2 16 Try.underlying27 ki kz0 kz1 kz2 rfl (by omega) _ m (H.flatMap kC) rfl (own_later hrow (Rt.below1 _ _)) ⟨we.heap.size, 0, none⟩ 1 1 [.int .i64 lb, .int .i64 ls] rfl rfl (news_of (_root_.Go.heap_alloc_last _ _)) (by simp [Value.oneCell']) (by omega) (by unfold maxLen; omega) (by omega) (by have := HE.out.sz; simp; omega) (we.heap.size + 1) (by simp) ?_; intro g4 cap4 wf hown4 hgrow4 hat4 hlt4)
                  have hF := GS.had (x := (lb, ls)) A (HE.out.later A (Rt.below1 _ _)) ⟨HVB.out (by first | rfl | trivial), HW3.out.2.2⟩ (by rw [HLK.out, HMQ.out.1]; omega) hgrow4 (by rw [HMQ.out.1]; exact hown4) (hat4.imp id (fun e => by rw [World.size_alloc]; exact e))
                  rw [HMQ.out.1] at hF
                  have HF : Hid (GS PAt w2 wf N p P (l.take (k + 1)) F' M2 (H ++ [(lb, ls)]) vm2 (.slice (some ⟨g4, 0, none⟩) (m + 1) cap4) oc) := hF
                  clear hown4 hgrow4 hat4 hlt4 hF hrow
                  go_roundw
                  case rel => exact ⟨k + 1, F', _, _, _, _, by omega, by go_num, rfl, rfl, HF.out.gr, HF.out.bel⟩
                  case measure => simp [intOf]; omega
    · obtain rfl : k = n := by omega
      have dkn : decide ((k : Int) < (k : Int)) = false := by simp
      go_wp2_with fail
      go_ret
      exact ⟨rfl, HB3.out.1.trans (HB.out.2.mono HB3.out.2.2)⟩
end Go.Proofs.Ytompgoaogomoaaa.Kn
