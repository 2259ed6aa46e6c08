/- NetGrows' walk, by what is asked of the program's net. -/
import Derived.Test.YtcdibafcolhlgaaNeGr
namespace Go.Proofs.Ytcdibafcolhlgaa.Ne
open Go.RowKit Go.Maps
set_option linter.unusedVariables false
set_option linter.unusedSimpArgs false

def CutG (PAt : QPred) (w3 : World) (N p bg k : Nat) (v : Value) (wx : World) : Prop := ∃ s F, OkS s ∧ s.A.length ≤ k + 1 ∧ Gw PAt w3 wx N p s s s F v bg (k + 1)
set_option maxRecDepth 100000 in
set_option maxHeartbeats 20000000 in
theorem grows_walk {PAt : QPred} (A : NApi PAt) (a : Option Addr) (c : Nat) (l : List Pt) (w : World) (rd : RdP w a l) (hl : l.length * 32 ≤ 140737488351232) (ok : ∀ p ∈ l, wI p.1 ∧ wI p.2.1 ∧ p.2.2.size ≤ 9223372036854775807) :
    Calls Try.prog 4 #[.slice a l.length c] w fun e w' => e = .returned (.bool true) ∧ Below w.heap.size w w' := by
  obtain ⟨n, hn⟩ : ∃ n, l.length = n := ⟨_, rfl⟩
  have HL : Hid (l.length = n ∧ (∀ p ∈ l, wI p.1 ∧ wI p.2.1 ∧ p.2.2.size ≤ 9223372036854775807) ∧ RdP w a l) := ⟨hn, ok, rd⟩
  have hn2 : n ≤ 4398046510976 := by omega
  rw [hn]
  have hlv := fun W => lives_any A W
  have hnw := fun W => A.new W
  have hmm := @run_makeMap Try.prog
  obtain ⟨i0, hi, hz0, hz1, hz2⟩ := info_parts infoP
  clear hn ok rd hl
  go_enter Try.func4, Try.ntmps4
  go_wp2_with fail
  refine (hlv _).mono ?_
  rintro r w1 ⟨rfl, hb1⟩
  go_upto_region 4 with (go_at_call 7; refine (hnw _).mono ?_; rintro r w2 ⟨p, F, rfl, hP, hb2⟩)
  obtain ⟨N, hN⟩ : ∃ N, w1.heap.size = N := ⟨_, rfl⟩
  rw [hN] at hP
  have hT := Gw.start A hP (by rw [← hN]; exact hb2.size)
  have HB3 : Hid (Below w.heap.size w (w2.alloc (.map #[] 0)) ∧ w.heap.size ≤ N) := ⟨Below.then hb1 (Below.then hb2 (below1 _ _)), by rw [← hN]; exact hb1.size⟩
  go_upto_region 6 with (fail)
  obtain ⟨bg, hbg⟩ : ∃ bg, w2.heap.size = bg := ⟨_, rfl⟩
  rw [hbg] at hT ⊢
  generalize w2.alloc (.map #[] 0) = w3 at *
  have HT0 : Hid (Gw PAt w3 w3 N p ⟨[], []⟩ ⟨[], []⟩ ⟨[], []⟩ F (.slice none 0 0) bg 0) := hT
  have HBF : Hid (∀ W, Below N w3 W → Below w.heap.size w W) := fun W h => HB3.out.1.trans (h.mono HB3.out.2)
  clear hlv hnw hmm hb1 hb2 hP hN hbg hT
  go_wp2_with fail
  go_loopw [4, 18] (fun o i wx => ∃ (k : Nat) (s : Nst) (F : Nat → Prop) (vs : Value), k ≤ n ∧ i = .int .i64 (k : Int) ∧ vs = o ∧ OkS s ∧ s.A.length ≤ k ∧ Gw PAt w3 wx N p s s s F vs bg k) (fun _ i _ => n - (intOf i).toNat)
  case atStart => exact ⟨0, _, F, _, by omega, rfl, rfl, OkS.nil, by simp, HT0.out⟩
  case round =>
    obtain ⟨k, s, F, vs, hk, rfl, rfl, hos, hsl, hT⟩ := hrel
    clear HT0
    have HT : Hid (Gw PAt w3 wr N p s s s F vs bg k) := hT
    have HO : Hid (OkS s ∧ s.A.length ≤ k) := ⟨hos, hsl⟩
    clear hT hos hsl
    by_cases hkn : k < n
    · have hkl : k < l.length := by rw [HL.out.1]; exact hkn
      obtain ⟨o, ho⟩ : ∃ o, l.getD k zP = o := ⟨_, rfl⟩
      have hko := HL.out.2.1 o (ho ▸ getD_of hkl)
      obtain ⟨b', f', ha, c0, c1, c2⟩ := (HL.out.2.2.later (HBF.out _ HT.out.bel)) k hkl
      rw [ho] at c0 c1 c2
      have HKB : Hid (k + 1 ≤ 4398046511104) := by show _ ≤ _; omega
      subst ha
      obtain ⟨kd, nn, tx⟩ := o
      dsimp only at c0 c1 c2
      have HOK : Hid (wI kd ∧ wI nn ∧ tx.size ≤ 9223372036854775807) := hko
      obtain ⟨y0, y1, y2⟩ := boxed3 wr (.int .i64 kd) (.int .i64 nn) (.string tx) 32
      have hT1 := HT.out.later A (below1 wr (.cells #[.int .i64 kd, .int .i64 nn, .string tx] 32))
      have hnF : ¬ F wr.heap.size := fun e => by have := HT.out.lt A _ (.inl e); omega
      have hnV : vs.ownBlock ≠ some wr.heap.size := fun e => by have := HT.out.lt A _ (.inr (.inl e)); omega
      have hnB : ¬ wr.heap.size = bg := fun e => by have := HT.out.lt A _ (.inr (.inr rfl)); omega
      have k1 : (0 : Int) ≤ (k : Int) := by omega
      have k2 : (k : Int) < (n : Int) := by omega
      clear hkl ho hko HT
      go_upto_block 1 with (fail)
      go_cut [4] (fun v wx => CutG PAt w3 N p bg k v wx)
      case first =>
        go_upto_region 9 with (fail)
        clear c0 c1 c2 k1 k2
        obtain ⟨P, hP⟩ : ∃ P, wr.heap.size = P := ⟨_, rfl⟩
        rw [hP] at y0 y1 y2 hnF hnV hnB ⊢
        generalize wr.alloc (.cells #[.int .i64 kd, .int .i64 nn, .string tx] 32) = wB at *
        have HTB : Hid (Gw PAt w3 wB N p s s s F vs bg k) := hT1
        have HP : Hid (¬ F P ∧ vs.ownBlock ≠ some P ∧ ¬ P = bg) := ⟨hnF, hnV, hnB⟩
        clear hT1 hP hnF hnV hnB
        by_cases h1 : kd = 1
        · subst h1
          obtain ⟨m, hm⟩ : ∃ m, s.A.length = m := ⟨_, rfl⟩
          have hmk : m ≤ k := by rw [← hm]; exact HO.out.2
          have hse := A.send nn tx HTB.out.a HTB.out.sz HO.out.1 (by have h1 := HO.out.2; have h2 := HKB.out; omega) HOK.out.2.1 HOK.out.2.2
          rw [hm] at hse
          have HM : Hid (s.A.length = m) := hm
          clear hm
          go_upto_region 12 with (go_at_call 8; refine hse.mono ?_; rintro r wc ⟨rfl, hd⟩)
          obtain ⟨F1, hU⟩ := HTB.out.one A hd
          have hkd : Kept F wB wc := by obtain ⟨_, _, h2, _⟩ := hd; exact h2
          have HF1 : Hid (Gw PAt w3 wc N p (s.sent nn tx) s s F1 vs bg k) := hU
          have z1 := hkd.cell y1 HP.out.1
          have z2 := hkd.cell y2 HP.out.1
          have hrow := hU.row
          rw [HM.out] at hrow
          have hszc := hU.sz
          have HBB := HKB.out
          have hM1 : (((m + 1 : Nat)) : Int) = (m : Int) + 1 := by omega
          clear hd hU hkd hse y0 y1 y2 HTB
          go_wp2_with (at_builtin; refine wpList_append_lies _ rfl _ _ _ rfl N 35 i0 _ 3 32 Try.underlying27 hi hz0 hz1 hz2 rfl (by omega) _ m (s.A.flatMap pC) rfl (own_later hrow (below1 _ _)) ⟨wc.heap.size, 0, none⟩ 1 1 [.int .i64 ((m : Int) + 1), .int .i64 nn, .string tx] rfl rfl (news_of (_root_.Go.heap_alloc_last _ _)) (by simp [Value.oneCell']) (by omega) (by unfold maxLen; omega) (by omega) (by simp; omega) (wc.heap.size + 1) (by simp) ?_; intro g3 cap3 w5 hown3 hgrow3 hat3 hlt3)
          go_meet
          case rel =>
            have hb := below1 wc (.cells #[.int .i64 ((m : Int) + 1), .int .i64 nn, .string tx] 35)
            have h5 := HF1.out.later A hb
            have hk5 : Kept (fun j => vs.ownBlock = some j) _ w5 := (Kept.refl _ _).grown hgrow3 (fun j e _ => e)
            have e : (s.sent nn tx).A.length = m + 1 := by simp [Nst.sent, HM.out]
            have h6 := h5.rowed A (s' := s.sent nn tx) (g := g3) hk5 (by rw [e]; simp only [Nst.sent, HM.out, List.flatMap_append, List.flatMap_cons, List.flatMap_nil, List.append_nil]; exact hown3) rfl (hat3.imp id (fun q => by rw [q]; simp))
            have h7 := h6.mapped A (Kept.refl _ _) ((h6.gone.sent HO.out.1.len nn tx).mono (Nat.le_succ k))
            exact ⟨_, F1, HO.out.1.sent HOK.out.2.1 HOK.out.2.2, by rw [e]; have := HO.out.2; have := HM.out; omega, h7⟩
        · have e1 : (kd == 1) = false := by simpa using h1
          by_cases h3 : kd = 3
          · subst h3
            clear h1
            by_cases hon : s.on nn
            · obtain ⟨i, hil, rfl, hg⟩ := hon
              have hib : i < 4611686018427387904 := by have h1 := HO.out.2; have h2 := HKB.out; omega
              have hkb : k < 4611686018427387904 := by have h2 := HKB.out; omega
              have hse := A.drop_yes i HTB.out.a HTB.out.sz HO.out.1 (by have h1 := HO.out.2; have h2 := HKB.out; omega) hil hg
              have HI : Hid (i < s.A.length ∧ s.G.getD i true = false ∧ i < 4611686018427387904 ∧ k < 4611686018427387904) := ⟨hil, hg, hib, hkb⟩
              clear hil hg hib hkb
              go_upto_region 17 with (go_at_call 12; refine hse.mono ?_; rintro r wc ⟨rfl, hd⟩)
              obtain ⟨F1, hU⟩ := HTB.out.one A hd
              have hkd : Kept F wB wc := by obtain ⟨_, _, h2, _⟩ := hd; exact h2
              have HF1 : Hid (Gw PAt w3 wc N p (s.dropped i) s s F1 vs bg k) := hU
              have z1 := hkd.cell y1 HP.out.1
              have hlk := hU.gone.look HI.out.2.2.1 HI.out.1
              have e0 : eG s i = 0 := by unfold eG; rw [HI.out.2.1]; rfl
              rw [e0] at hlk
              obtain ⟨w5, hrun, hm5, hgr5⟩ := hU.gone.inc HO.out.1.len HI.out.2.2.1 HI.out.2.2.2 HI.out.1 HI.out.2.1
              have HE : Hid (Gw PAt w3 w5 N p (s.dropped i) s (s.dropped i) F1 vs bg (k + 1)) := hU.mapped A ((Kept.refl _ _).grown hgr5 fun j e _ => by cases e; rfl) hm5
              clear hd hU hkd hse y0 y1 y2 HTB e0 hm5 hgr5
              go_wp2_with fail
              go_meet
              case rel => exact ⟨s.dropped i, F1, HO.out.1.dropped i, Nat.le_succ_of_le HO.out.2, ⟨HE.out.a, HE.out.row, HE.out.gone, HE.out.ap, HE.out.bel, HE.out.nb, HE.out.sz⟩⟩
            · have hse := A.drop_no nn HTB.out.a HO.out.1 (by have h1 := HO.out.2; have h2 := HKB.out; omega) HOK.out.2.1 hon
              clear hon
              go_wp2_with (go_at_call 12; refine hse.mono ?_; rintro r wc ⟨rfl, hb⟩)
              go_meet
              case rel => exact ⟨s, F, HO.out.1, Nat.le_succ_of_le HO.out.2, (HTB.out.later A hb).mono (Nat.le_succ k)⟩
          · have e3 : (kd == 3) = false := by simpa using h3
            clear h1 h3
            go_wp2_with fail
            go_meet
            case rel => exact ⟨s, F, HO.out.1, Nat.le_succ_of_le HO.out.2, HTB.out.mono (Nat.le_succ k)⟩
      case rest =>
        obtain ⟨s1, F1, ho1, hl1, hN1⟩ := hcut
        have HS1 : Hid (OkS s1 ∧ s1.A.length ≤ k + 1 ∧ Gw PAt w3 wc N p s1 s1 s1 F1 _ bg (k + 1)) := ⟨ho1, hl1, hN1⟩
        clear ho1 hl1 hN1 HO HOK y0 y1 y2 c0 c1 c2 k1 k2 hT1 hnF hnV hnB
        go_wp2_with fail
        go_roundw
        case rel => exact ⟨k + 1, s1, F1, _, by omega, by go_num, rfl, HS1.out.1, HS1.out.2.1, HS1.out.2.2⟩
        case measure => simp [intOf]; omega
    · obtain rfl : k = n := by omega
      have dkk : decide ((k : Int) < (k : Int)) = false := by simp
      obtain ⟨z, hz⟩ : ∃ z, s.wait.length = z := ⟨_, rfl⟩
      obtain ⟨z2, hz2⟩ : ∃ z, s.A.length = z := ⟨_, rfl⟩
      have hz2k : z2 ≤ 4398046510976 := by rw [← hz2]; exact Nat.le_trans HO.out.2 hn2
      have HS : Hid (OkS s ∧ s.A.length ≤ 4398046511104 ∧ s.wait.length = z ∧ s.A.length = z2) := ⟨HO.out.1, by rw [hz2]; omega, hz, hz2⟩
      have hzz : z ≤ z2 := by rw [← hz, ← hz2]; exact waitN_len s _
      clear hz hz2 hk hkn HO
      obtain ⟨aS, cS, hvS, -⟩ := own_spell HT.out.row
      rw [HS.out.2.2.2] at hvS
      have HV : Hid (vs = .slice aS z2 cS) := hvS
      subst hvS
      have hW := wait_z A HT.out.a HS.out.1 HS.out.2.1 HS.out.2.2.1
      go_wp2_with (go_at_call 15; refine hW.mono ?_; rintro r wc ⟨a1, c1, rfl, hr1, hbc⟩)
      have HC : Hid (Gw PAt w3 wc N p s s s F (.slice aS z2 cS) bg k) := HT.out.later A hbc
      have HR1 : Hid (RdP wc a1 s.wait) := hr1
      have HRS : Hid (RdP wc aS s.A) := by have h := HC.out.row; have e := HS.out.2.2.2; subst e; exact rdP_of h
      clear hW hr1 hbc HT HV dkk
      go_loopw [9, 61] (fun o i wx => ∃ (j t : Nat), j ≤ z ∧ i = .int .i64 (j : Int) ∧ o = .int .i64 (t : Int) ∧ AtW s j t ∧ Below wc.heap.size wc wx) (fun _ i _ => z - (intOf i).toNat)
      case atStart => exact ⟨0, 0, by omega, rfl, rfl, AtW.zero s, Below.refl _ _⟩
      case round =>
        obtain ⟨j, t, hj, rfl, rfl, hA, hb⟩ := hrel
        have HA : Hid (AtW s j t) := hA
        clear hA
        by_cases hjz : j < z
        · have hjw : j < s.wait.length := by rw [HS.out.2.2.1]; exact hjz
          have HJ : Hid (j < s.wait.length) := hjw
          obtain ⟨b1, o1, ha1, d0, d1, d2⟩ := (HR1.out.later hb) j hjw
          obtain ⟨R, hR⟩ : ∃ R, s.wait.getD j zP = R := ⟨_, rfl⟩
          have HR : Hid (s.wait.getD j zP = R) := hR
          rw [hR] at d0 d1 d2
          obtain ⟨R0, R1, R2⟩ := R
          dsimp only at d0 d1 d2
          subst ha1
          have j1 : (0 : Int) ≤ (j : Int) := by omega
          have j2 : (j : Int) < (z : Int) := by omega
          obtain ⟨x0, x1, x2⟩ := boxed3 wr (.int .i64 R0) (.int .i64 R1) (.string R2) 35
          have HB5 : Hid (Below wc.heap.size wc (wr.alloc (.cells #[.int .i64 R0, .int .i64 R1, .string R2] 35))) := Below.then hb (below1 _ _)
          clear hjw hR hb
          go_upto_region 23 with (fail)
          obtain ⟨Q, hQ⟩ : ∃ Q, wr.heap.size = Q := ⟨_, rfl⟩
          rw [hQ] at x0 x1 x2 ⊢
          generalize wr.alloc (.cells #[.int .i64 R0, .int .i64 R1, .string R2] 35) = w5 at *
          clear d0 d1 d2 j1 j2 hQ
          go_loopw [9] (fun o wx => ∃ (t : Nat), o = .int .i64 (t : Int) ∧ AtW s j t ∧ Below w5.heap.size w5 wx) (fun o _ => z2 - (intOf o).toNat)
          case atStart => exact ⟨t, rfl, HA.out, Below.refl _ _⟩
          case round =>
            clear HA
            obtain ⟨t', rfl, hA', hb'⟩ := hrel
            have hlt := hA'.lt HJ.out
            have HLT : Hid (t' < s.A.length) := hlt
            have hnum := HS.out.1.num t' hlt
            have hgl := fun m => (HC.out.gone.later (below_drewN (HB5.out.trans (hb'.mono HB5.out.size)) m)).look (i := t') (by have := HS.out.2.1; omega) hlt
            obtain ⟨b2, o2, ha2, e0, e1, e2⟩ := (HRS.out.later (HB5.out.trans (hb'.mono HB5.out.size))) t' hlt
            rw [HS.out.2.2.2] at hlt
            have t1 : (0 : Int) ≤ (t' : Int) := by omega
            have t2 : (t' : Int) < (z2 : Int) := by omega
            have u0 := cell_later hb' x0
            have u1 := cell_later hb' x1
            have u2 := cell_later hb' x2
            have HB6 : Hid (Below w5.heap.size w5 wr) := hb'
            subst ha2
            clear hb' x0 x1 x2
            obtain ⟨g, hg⟩ : ∃ g, s.G.getD t' true = g := ⟨_, rfl⟩
            have HG : Hid (s.G.getD t' true = g) := hg
            unfold eG at hgl
            rw [hg] at hgl
            clear hg
            cases g with
            | true =>
              obtain ⟨hA2, hne⟩ := hA'.yes HJ.out HS.out.1 HG.out
              rw [HR.out] at hne
              have hne : R0 ≠ (t' : Int) + 1 := hne
              have HA2 : Hid (_) := hA2
              obtain ⟨E, hE⟩ : ∃ E, s.A.getD t' zP = E := ⟨_, rfl⟩
              rw [hE] at e0 e1 e2 hnum
              obtain ⟨E0, E1, E2⟩ := E
              dsimp only at e0 e1 e2 hnum
              subst hnum
              have hgl : ∀ m, (Instr.lookup 43 (.map (some bg)) (.int .i64 ((t' : Int) + 1)) false).run Try.prog (wr.drewN m) = .ok (.int .i64 1) (wr.drewN m) := hgl
              have d1 : ((t' : Int) + 1 == R0) = false := by simp; omega
              have d2 : decide ((t' : Int) + 1 = R0) = false := by simp; omega
              clear hA' hA2 hE hne
              go_upto_region 23 with (fail)
              go_quiet (fail)
              go_wp2_with fail
              go_roundw
              case rel => exact ⟨t' + 1, by go_num, HA2.out, below_drewN HB6.out _⟩
              case measure => simp [intOf]; omega
            | false =>
              obtain ⟨hA2, heq⟩ := hA'.no HJ.out HG.out
              rw [HR.out] at heq
              have HA2 : Hid (_) := hA2
              rw [← heq] at e0 e1 e2 hnum
              dsimp only at e0 e1 e2 hnum
              subst hnum
              have hgl : ∀ m, (Instr.lookup 43 (.map (some bg)) (.int .i64 ((t' : Int) + 1)) false).run Try.prog (wr.drewN m) = .ok (.int .i64 0) (wr.drewN m) := hgl
              have d3 : decide ((t' : Int) = (z2 : Int)) = false := by simp; omega
              have d4 : ((t' : Int) == (z2 : Int)) = false := by simp; omega
              clear hA' hA2 heq
              go_upto_region 23 with (fail)
              go_quiet (fail)
              go_wp2_with fail
              go_roundw
              case rel => exact ⟨j + 1, t' + 1, by omega, by go_num, by go_num, HA2.out, HB5.out.trans ((below_drewN HB6.out _).mono HB5.out.size)⟩
              case measure => simp [intOf]; omega
        · obtain rfl : j = z := by omega
          have djj : decide ((j : Int) < (j : Int)) = false := by simp
          have HC2 : Hid (Gw PAt w3 wr N p s s s F (.slice aS z2 cS) bg k) := HC.out.later A hb
          have hRS := HRS.out.later hb
          have hse := seen_z A HC2.out.a HS.out.1 HS.out.2.1 HS.out.2.2.2
          have hwt := fun W (hW : Below wr.heap.size wr W) => wait_z A (A.later HC2.out.a hW) HS.out.1 HS.out.2.1 HS.out.2.2.1
          have hsm := fun W a1 a2 c1 c2 (h1 : RdP W a1 s.A) (h2 : RdP W a2 s.A) => same_z a1 a2 c1 c2 z2 s.A W HS.out.2.2.2 (by omega) h1 h2
          obtain ⟨m, hm, hml⟩ := HC2.out.gone.len
          rw [HS.out.2.2.1, HS.out.2.2.2] at hm
          have hw : IntKind.i64.wrap ((z2 : Int) - (m : Int)) = (j : Int) := by rw [show (z2 : Int) - (m : Int) = (j : Int) by omega]; exact i64_fit _ (by omega) (by omega)
          have HBW : Hid (Below wc.heap.size wc wr) := hb
          clear hj hjz hb HA
          go_wp2_with (first
            | (go_at_call 17; refine hse.mono ?_; rintro r wd ⟨b4, e4, rfl, hr4, hbd⟩)
            | (go_at_call 14; refine (hsm _ _ _ _ _ hr4 (hRS.later hbd)).mono ?_; rintro r we ⟨rfl, hbe⟩)
            | (go_at_call 15; refine (hwt _ (Below.then hbd hbe)).mono ?_; rintro r wf ⟨b5, e5, rfl, hr5, hbf⟩; have hln := hml _ (Below.then (Below.then hbd hbe) hbf)))
          go_ret
          exact ⟨rfl, HBF.out _ (HC2.out.later A (Below.then (Below.then hbd hbe) hbf)).bel⟩
end Go.Proofs.Ytcdibafcolhlgaa.Ne
