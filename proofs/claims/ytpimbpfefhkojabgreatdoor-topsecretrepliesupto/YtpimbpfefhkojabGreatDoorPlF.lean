/- Contracts: the document's Next of trees. -/
import Derived.Test.YtpimbpfefhkojabGreatDoorPlE
namespace Go.Proofs.YtpimbpfefhkojabGreatDoor
open Go.RowKit Go.Maps Go.Great
open Rt (Ky zK kcs KsAt trE trK trA trN cu)
open Rs (En zE rcs RoAt tkn RdI RdS ps ft fnd FitOk evs evl mvE mvR mvL mvJ)
set_option linter.unusedVariables false
set_option linter.unusedSimpArgs false

structure N11P (w w' : World) (t : Tr) (L J : List Int) (vl vj : Value) : Prop where
  left : w'.ownsRow w.heap.size 107 2 vl (pnL t L J).length (ps (pnL t L J))
  join : w'.ownsRow w.heap.size 107 2 vj (pnJ t L J).length (ps (pnJ t L J))
  apart : vl.ownBlock = none ∨ vl.ownBlock ≠ vj.ownBlock
def N11A (w w' : World) (t : Tr) (L J : List Int) (e : Ending) : Prop := ∃ vl vj, e = .returned (.tuple #[.agg (tcs (pnT t L J)), vl, vj, .int .i64 (plE t L J)]) ∧ N11P w w' t L J vl vj
theorem N11A.no {w w' : World} {t : Tr} {L J : List Int} {E : Int} (h : plE t L J = E) (h0 : E ≠ 0) : N11A w w' t L J (.returned (.tuple #[.agg (tcs (tz 0)), .slice none 0 0, .slice none 0 0, .int .i64 E])) := by
  refine ⟨.slice none 0 0, .slice none 0 0, ?_, ?_, ?_, .inl rfl⟩
  · unfold pnT; rw [h, if_neg h0]
  · unfold pnL; rw [h, if_neg h0]; exact World.ownsRow_nil _ _ _ _
  · unfold pnJ; rw [h, if_neg h0]; exact World.ownsRow_nil _ _ _ _
theorem N11A.yes {w w' : World} {t : Tr} {L J : List Int} {vl vj : Value} (h : plE t L J = 0) (h1 : w'.ownsRow w.heap.size 107 2 vl (evl t.ro L).length (ps (evl t.ro L))) (h2 : w'.ownsRow w.heap.size 107 2 vj (jns t L J).length (ps (jns t L J))) (h4 : vl.ownBlock = none ∨ vl.ownBlock ≠ vj.ownBlock) :
    N11A w w' t L J (.returned (.tuple #[.agg (tcs (nx t L J)), vl, vj, .int .i64 0])) := by
  refine ⟨vl, vj, ?_, ?_, ?_, h4⟩
  · unfold pnT; rw [h, if_pos rfl]
  · unfold pnL; rw [if_pos h]; exact h1
  · unfold pnJ; rw [if_pos h]; exact h2
theorem results_n11 {fn : Func} {p t u v : Tmp} (hf : fn.results = #[.cell p 47, .tmp t, .tmp u, .tmp v]) (tmps : Array Value) (W : World) (K : Nat) (n : Tr) (hp : tmps[p]? = some (.pointer (some ⟨K, 0, none⟩))) (hk : TrAt W K n) :
    (results fn tmps).run Tryz.prog W = .ok (.tuple #[.agg (tcs n), tmps.getD t undef, tmps.getD u undef, tmps.getD v undef]) W := by
  have h := run_loadVar_row W K _ 47 _ _ _ hk Tryz.underlying47 rfl (by rw [tcs_size]; exact infoT)
  simp [results, hf, hp, asAddr, h]
structure NY (w W : World) (B C K : Nat) (t : Tr) (aL aJ : Option Addr) (nL nJ cL cJ : Nat) : Prop where
  tb : TB w W B C t aL aJ nL nJ cL cJ
  ze : TrAt W K (tz 0)
  gK : w.heap.size ≤ K
theorem NY.later {w W W' : World} {B C K : Nat} {t : Tr} {aL aJ : Option Addr} {nL nJ cL cJ : Nat} (h : NY w W B C K t aL aJ nL nJ cL cJ) (hb : Below W.heap.size W W') : NY w W' B C K t aL aJ nL nJ cL cJ := ⟨h.tb.later hb, h.ze.later hb, h.gK⟩
theorem NY.new (w : World) (t : Tr) (aL aJ : Option Addr) (nL nJ cL cJ : Nat) : NY w (((w.alloc (.cells (tcs t) 47)).alloc (.cells #[.slice aL nL cL, .slice aJ nJ cJ] 66)).alloc (.cells (tcs (tz 0)) 47)) w.heap.size (w.heap.size + 1) (w.heap.size + 2) t aL aJ nL nJ cL cJ := by
  have h1 := TB.new w t aL aJ nL nJ cL cJ
  generalize hW : (w.alloc (.cells (tcs t) 47)).alloc (.cells #[.slice aL nL cL, .slice aJ nJ cJ] 66) = W at *
  have hs : W.heap.size = w.heap.size + 2 := by rw [← hW]; simp
  have h2 := TrAt.new W (tz 0)
  have hb2 := alloc_tr W (tz 0)
  rw [hs] at h2
  exact ⟨h1.later hb2, h2, by omega⟩
/- With the list of those who go. -/
structure NZ (w W : World) (B C K n0 : Nat) (t : Tr) (aL aJ : Option Addr) (nL nJ cL cJ : Nat) (v : Value) (l : List (Int × Int)) : Prop where
  ny : NY w W B C K t aL aJ nL nJ cL cJ
  row : W.ownsRow n0 107 2 v l.length (ps l)
  lB : B < n0
  lC : C < n0
  lK : K < n0
  ln : w.heap.size ≤ n0
  sz : n0 ≤ W.heap.size
theorem NZ.later {w W W' : World} {B C K n0 : Nat} {t : Tr} {aL aJ : Option Addr} {nL nJ cL cJ : Nat} {v : Value} {l : List (Int × Int)} (h : NZ w W B C K n0 t aL aJ nL nJ cL cJ v l) (hb : Below W.heap.size W W') : NZ w W' B C K n0 t aL aJ nL nJ cL cJ v l := ⟨h.ny.later hb, Rs.owns_later h.row hb, h.lB, h.lC, h.lK, h.ln, Nat.le_trans h.sz hb.size⟩
theorem NZ.app {w W W1 : World} {B C K n0 : Nat} {t : Tr} {aL aJ : Option Addr} {nL nJ cL cJ : Nat} {v v' : Value} {l : List (Int × Int)} {o : Obj} {p : Int × Int} (h : NZ w W B C K n0 t aL aJ nL nJ cL cJ v l) (hown : W1.ownsRow n0 107 2 v' (l.length + 1) (ps l ++ [.int .i64 p.1, .int .i64 p.2])) (hg : (W.alloc o).grownBy W1 v.ownBlock) : NZ w W1 B C K n0 t aL aJ nL nJ cL cJ v' (l ++ [p]) := by
  have hs := h.sz
  have blk : ∀ k, k < n0 → W1.heap[k]? = W.heap[k]? := fun k hk => Rs.grown_low h.row hg hk (by omega)
  have hsz : n0 ≤ W1.heap.size := by have h1 := hg.size; simp at h1; omega
  refine ⟨⟨⟨(blk _ h.lB).trans h.ny.tb.tr, (blk _ h.lC).trans h.ny.tb.bt, Rs.grown_bel h.ny.tb.bel h.row h.ln hg⟩, (blk _ h.lK).trans h.ny.ze, h.ny.gK⟩, ?_, h.lB, h.lC, h.lK, h.ln, hsz⟩
  rw [Rs.ps_snoc, List.length_append]
  exact hown
theorem NY.two {w W : World} {B C K : Nat} {t : Tr} {aL aJ : Option Addr} {nL nJ cL cJ : Nat} (h : NY w W B C K t aL aJ nL nJ cL cJ) {A : Nat} {f : Nat → Ky} (hA : KsAt W A f) (hw : w.heap.size ≤ A) (c : Array Value) : NY w (W.setRow A c) B C K t aL aJ nL nJ cL cJ :=
  ⟨⟨(Rt.row_other (block_ne h.tb.tr hA (by decide)) _).trans h.tb.tr, (Rt.row_other (block_ne h.tb.bt hA (by decide)) _).trans h.tb.bt, Rt.setRow_below hw h.tb.bel _⟩, (Rt.row_other (block_ne h.ze hA (by decide)) _).trans h.ze, h.gK⟩
theorem NZ.two {w W : World} {B C K n0 : Nat} {t : Tr} {aL aJ : Option Addr} {nL nJ cL cJ : Nat} {v : Value} {l : List (Int × Int)} (h : NZ w W B C K n0 t aL aJ nL nJ cL cJ v l) {A : Nat} {f : Nat → Ky} (hA : KsAt W A f) (hw : w.heap.size ≤ A) (c : Array Value) : NZ w (W.setRow A c) B C K n0 t aL aJ nL nJ cL cJ v l :=
  ⟨h.ny.two hA hw c, Rs.owns_type h.row hA (by decide) _, h.lB, h.lC, h.lK, h.ln, by have := h.sz; simpa [World.setRow] using this⟩
theorem KsAt_row {w : World} {B : Nat} {f g : Nat → Ky} {c : Array Value} (h : KsAt w B f) (hc : kcs g = c) : KsAt (w.setRow B c) B g := by
  subst hc
  exact Rt.KsAt.row h g
theorem take_map {L : List Int} {k : Nat} (f : Int → Int × Int) (h : k < L.length) : (L.take (k + 1)).map f = (L.take k).map f ++ [f (L.getD k 0)] := by
  rw [List.take_add_one, List.getElem?_eq_getElem h, List.map_append, List.getD_eq_getElem?_getD, List.getElem?_eq_getElem h]
  rfl
set_option maxRecDepth 100000 in
set_option maxHeartbeats 2000000 in
theorem rNext11_any (t : Tr) (aL aJ : Option Addr) (cL cJ : Nat) (L J : List Int) (w : World) (lL : L.length < 1152921504606846976) (lJ : J.length < 1152921504606846976) (hL : RdI w aL L) (hJ : RdI w aJ J) :
    Calls Tryz.prog 18 #[.agg (tcs t), .agg #[.slice aL L.length cL, .slice aJ J.length cJ] ] w fun e w' => N11A w w' t L J e ∧ Below w.heap.size w w' := by
  have hX := NY.new w t aL aJ L.length J.length cL cJ
  have h1 := rCheck_any t
  obtain ⟨ct, hct⟩ : ∃ c, tcs t = c := ⟨_, rfl⟩
  simp only [hct] at h1
  have HT : Hid (tcs t = ct) := hct
  clear hct
  go_enter Tryz.func18, Tryz.ntmps18
  go_upto_region 1 with (fail)
  rw [zero236]
  generalize ((w.alloc (.cells (tcs t) 47)).alloc (.cells #[.slice aL L.length cL, .slice aJ J.length cJ] 66)).alloc (.cells (tcs (tz 0)) 47) = w1 at *
  rw [HT.out]
  have HS1 : Hid (w.heap.size + 3 ≤ w1.heap.size) := hX.ze.lt
  obtain ⟨n0, hn0⟩ : ∃ D, w.heap.size + 3 = D := ⟨_, rfl⟩
  obtain ⟨K, hK⟩ : ∃ D, w.heap.size + 2 = D := ⟨_, rfl⟩
  obtain ⟨C, hC⟩ : ∃ D, w.heap.size + 1 = D := ⟨_, rfl⟩
  obtain ⟨B, hB⟩ : ∃ D, w.heap.size = D := ⟨_, rfl⟩
  have HNB : Hid (B < n0 ∧ C < n0 ∧ K < n0 ∧ w.heap.size ≤ n0) := ⟨by omega, by omega, by omega, by omega⟩
  rw [hn0] at HS1
  rw [hK, hC, hB] at hX ⊢
  clear hK hC hB hn0
  have hT1 := hX.tb.tr
  go_wp2_with (refine rdT hT1 HT.out _ rfl rfl rfl ?_)
  refine (h1 _).mono ?_
  rintro r w2 ⟨rfl, hb2⟩
  have hX2 := hX.later hb2
  have HS2 : Hid (n0 ≤ w2.heap.size) := Nat.le_trans HS1.out hb2.size
  clear h1 hX hT1 hb2 HS1
  cases hck : tck t with
  | false =>
    rw [tckE_ff hck]
    have HE : Hid (plE t L J = 31) := plE_bad hck
    have HNE : Hid ((31 : Int) ≠ 0) := by unfold Hid; decide
    have hX := hX2
    have hZ := hX.ze
    obtain ⟨cz, hcz⟩ : ∃ c, tcs (tz 0) = c := ⟨_, rfl⟩
    have HZ : Hid (tcs (tz 0) = cz) := hcz
    have hZ2 : TrAt (w2.setRow K cz) K (tz 0) := by rw [← hcz]; exact hZ.row _
    clear hcz hX2
    go_wp2_with (first | (refine bzc HZ.out rfl rfl ?_) | (refine stTc hZ HZ.out rfl _ _ rfl rfl rfl ?_))
    refine bodyPost_ret (results_n11 (p := 4) (t := 5) (u := 6) (v := 7) rfl _ _ K (tz 0) rfl hZ2) rfl ?_
    exact ⟨N11A.no HE.out HNE.out, Rt.setRow_below hX.gK hX.tb.bel _⟩
  | true =>
    rw [tckE_tt hck]
    have hr := tck_right hck
    have HR0 : Hid (Right t) := hr
    obtain ⟨c0, c1⟩ := hX2.tb.tr.cells
    by_cases hp : t.ep = 200
    · have HE : Hid (plE t L J = 19) := plE_spent hck hp
      rw [hp] at c0
      have HNE : Hid ((19 : Int) ≠ 0) := by unfold Hid; decide
      have hX := hX2
      have hZ := hX.ze
      obtain ⟨cz, hcz⟩ : ∃ c, tcs (tz 0) = c := ⟨_, rfl⟩
      have HZ : Hid (tcs (tz 0) = cz) := hcz
      have hZ2 : TrAt (w2.setRow K cz) K (tz 0) := by rw [← hcz]; exact hZ.row _
      clear hcz hX2 hp
      go_wp2_with (first | (refine bzc HZ.out rfl rfl ?_) | (refine stTc hZ HZ.out rfl _ _ rfl rfl rfl ?_))
      refine bodyPost_ret (results_n11 (p := 4) (t := 5) (u := 6) (v := 7) rfl _ _ K (tz 0) rfl hZ2) rfl ?_
      exact ⟨N11A.no HE.out HNE.out, Rt.setRow_below hX.gK hX.tb.bel _⟩
    · have hd : (t.ep == 200) = false := by simpa using hp
      have he9 : t.ep ≤ 199 := by have := hr.e1; omega
      have HE9 : Hid (t.ep ≤ 199 ∧ 0 ≤ t.ep) := ⟨he9, hr.e0⟩
      have HEP : Hid (¬ t.ep = 200) := hp
      have HCK : Hid (tck t = true) := hck
      have h2 := Rs.rFits_any t.ro aL aJ cL cJ L J w2 lL lJ (hL.later hX2.tb.bel) (hJ.later hX2.tb.bel)
      obtain ⟨cr, hcr⟩ : ∃ c, rcs t.ro = c := ⟨_, rfl⟩
      have HR : Hid (rcs t.ro = cr) := hcr
      rw [hcr] at h2
      obtain ⟨d0, d1⟩ := hX2.tb.bt.cells
      have hT2 := hX2.tb.tr
      clear hp hr he9 hcr hck
      go_wp2_with (refine rdR hT2 HR.out _ rfl rfl rfl ?_)
      refine h2.mono ?_
      rintro r w3 ⟨rfl, hb3⟩
      have hX3 := hX2.later hb3
      have HS3 : Hid (n0 ≤ w3.heap.size) := Nat.le_trans HS2.out hb3.size
      clear h2 hX2 hT2 hb3 c0 c1 d0 d1 HS2
      obtain ⟨E, hE⟩ : ∃ E, ft t.ro L J = E := ⟨_, rfl⟩
      rw [hE]
      by_cases hE0 : E = 0
      · subst hE0
        have HFT : Hid (ft t.ro L J = 0) := hE
        have HF : Hid (FitOk t.ro L J) := Rs.ft_ok hE
        have lL64 := HF.out.lenL
        have lJ64 := HF.out.lenJ
        have HZ0 : Hid (NZ w w3 B C K n0 t aL aJ L.length J.length cL cJ (.slice none 0 0) []) := ⟨hX3, World.ownsRow_nil _ _ _ _, HNB.out.1, HNB.out.2.1, HNB.out.2.2.1, HNB.out.2.2.2, HS3.out⟩
        obtain ⟨i0, hi, hz0, hz1, hz2⟩ := Rs.infoSeat_parts
        obtain ⟨d0, d1⟩ := hX3.tb.bt.cells
        clear hE hX3
        go_wp2_with fail
        go_loopw [9, 36] (fun v i wx => ∃ (k : Nat) (vl : Value), k ≤ L.length ∧ i = .int .i64 (k : Int) ∧ vl = v ∧ NZ w wx B C K n0 t aL aJ L.length J.length cL cJ vl ((L.take k).map fun x => (x, fnd t.ro x))) (fun _ i _ => L.length - (intOf i).toNat)
        case atStart => exact ⟨0, _, by omega, rfl, rfl, HZ0.out⟩
        case round =>
          obtain ⟨k, vl, hk, rfl, rfl, hev⟩ := hrel
          have HE : Hid (NZ w wr B C K n0 t aL aJ L.length J.length cL cJ vl ((L.take k).map fun x => (x, fnd t.ro x))) := hev
          clear hev HZ0 d0 d1
          by_cases hkN : k < L.length
          · have i1 : (0 : Int) ≤ (k : Int) := by omega
            have i2 : (k : Int) < (L.length : Int) := by omega
            obtain ⟨b, o, hal, hcell⟩ := (hL.later HE.out.ny.tb.bel) k hkN
            have HTK : Hid ((L.take (k + 1)).map (fun x => (x, fnd t.ro x)) = (L.take k).map (fun x => (x, fnd t.ro x)) ++ [(L.getD k 0, fnd t.ro (L.getD k 0))]) := take_map _ hkN
            have HLEN : Hid (((L.take k).map fun x => (x, fnd t.ro x)).length = k) := by unfold Hid; simp; omega
            obtain ⟨x, hx⟩ : ∃ x, L.getD k 0 = x := ⟨_, rfl⟩
            rw [hx] at hcell HTK
            obtain ⟨l, hl⟩ : ∃ l, (L.take k).map (fun x => (x, fnd t.ro x)) = l := ⟨_, rfl⟩
            rw [hl] at HE HTK HLEN
            have hfi := Rs.rFind_any t.ro x
            rw [HR.out] at hfi
            obtain ⟨j, hj⟩ : ∃ j, fnd t.ro x = j := ⟨_, rfl⟩
            rw [hj] at hfi HTK
            clear hx hl hj
            subst hal
            obtain ⟨a1, cap1, rfl⟩ := Rs.owns_slice HE.out.row
            have hTr := HE.out.ny.tb.tr
            go_wp2_with (refine rdR hTr HR.out _ rfl rfl rfl ?_)
            refine (hfi _).mono ?_
            rintro r w4 ⟨rfl, hb4⟩
            have HE4 : Hid (NZ w w4 B C K n0 t (some ⟨b, o, none⟩) aJ L.length J.length cL cJ (.slice a1 l.length cap1) l) := HE.out.later hb4
            have hrow := HE4.out.row
            have hszr := HE4.out.sz
            have hllen : l.length ≤ 64 := by have := HLEN.out; omega
            clear hfi hb4 HE hTr
            go_wp2_with (at_builtin; (refine wpList_append_own _ rfl _ _ 52 rfl n0 107 i0 (.agg #[.int .i64 0, .int .i64 0]) 2 16 Tryz.underlying52 hi hz0 hz1 hz2 rfl (by decide) (.slice a1 l.length cap1) l.length (ps l) rfl (hrow.alloc _) ⟨w4.heap.size, 0, none⟩ 1 1 [.int .i64 x, .int .i64 j] rfl rfl (Rs.cell_two_new _ _ _ _) (by simp [Value.oneCell']) (by unfold maxLen; omega) (by omega) (by simp; omega) ?_); intro v' w5 hown' hg5 _; have HE5 : Hid (NZ w w5 B C K n0 t (some ⟨b, o, none⟩) aJ L.length J.length cL cJ v' (l ++ [(x, j)])) := HE4.out.app (p := (x, j)) hown' hg5; clear hown' hg5)
            go_roundw
            case rel => exact ⟨k + 1, _, by omega, by go_num, rfl, by rw [HTK.out]; exact HE5.out⟩
            case measure => simp [intOf]; omega
          · obtain rfl : k = L.length := by omega
            have hdk : decide ((L.length : Int) < (L.length : Int)) = false := by simp
            rw [List.take_length, ← fit_evl HF.out] at HE
            obtain ⟨ll, hll⟩ : ∃ ll, evl t.ro L = ll := ⟨_, rfl⟩
            have HLE : Hid (evl t.ro L = ll) := hll
            have HLL : Hid (ll.length ≤ 64) := by unfold Hid; rw [← hll, Rs.evl_length]; exact lL64
            have HPR : Hid (plR t L = rp ll) := by unfold Hid plR; rw [hll]
            rw [hll] at HE
            obtain ⟨a1, cap1, rfl⟩ := Rs.owns_slice HE.out.row
            have hrp : ∀ W : World, W.ownsRow n0 107 2 (.slice a1 ll.length cap1) ll.length (ps ll) → _ := fun W hW => rRep_any a1 cap1 ll W (by have := HLL.out; omega) (rds_of hW)
            have htn := Rt.rTurn_any t.ks (rp ll) (by have := rp_lt ll; omega) t.fr
            have htE := turn_E HR0.out HE9.out.1 (rp_lt ll)
            have HCU : Hid (plF t L = t.fr + ((cu (rp ll) 21 : Nat) : Int)) := by unfold Hid plF; rw [HPR.out]
            obtain ⟨q, hq⟩ : ∃ q, rp ll = q := ⟨_, rfl⟩
            rw [hq] at htn htE HCU HPR
            rw [hq] at hrp
            obtain ⟨ck, hck⟩ : ∃ c, kcs t.ks = c := ⟨_, rfl⟩
            have HK : Hid (kcs t.ks = ck) := hck
            simp only [hck] at htn
            unfold Rt.TurnA at htn
            have HTR : Hid (trE t.ks q t.fr = if t.fr + ((cu q 21 : Nat) : Int) ≤ 32768 then 0 else 3) := htE
            obtain ⟨cx, hcx⟩ : ∃ c, kcs (trA t.ks q t.fr) = c := ⟨_, rfl⟩
            have HCX : Hid (kcs (trA t.ks q t.fr) = cx) := hcx
            obtain ⟨F, hF⟩ : ∃ F, trN t.ks q t.fr = F := ⟨_, rfl⟩
            have HFF : Hid (trN t.ks q t.fr = F) := hF
            obtain ⟨E1, hE1⟩ : ∃ F, trE t.ks q t.fr = F := ⟨_, rfl⟩
            have HE1 : Hid (trE t.ks q t.fr = E1) := hE1
            simp only [hcx, hF, hE1] at htn
            clear hll hq hck htE hcx hF hE1
            go_upto_region 14 with (fail)
            go_cut [8, 12, 13] (fun s8 s12 s13 wx => ∃ A, s8 = .int .i64 E1 ∧ s12 = .pointer (some ⟨A, 0, none⟩) ∧ s13 = .int .i64 F ∧ NY w wx B C K t aL aJ L.length J.length cL cJ ∧ KsAt wx A (trA t.ks q t.fr))
            case first =>
              have hS0 : NZ w wr.drew B C K n0 t aL aJ L.length J.length cL cJ (.slice a1 ll.length cap1) ll := HE.out.later (drew_below _)
              have HW : Hid (w.heap.size ≤ wr.heap.size) := HE.out.ny.tb.bel.size
              clear HE
              refine wp_region_held_drew (S := fun W => NZ w W B C K n0 t aL aJ L.length J.length cL cJ (.slice a1 ll.length cap1) ll) (by kernel_rfl) hS0 (fun hHeld => ?_)
              refine wpAnyH_take (i := 0) (oi := { dst := some 51, op := Op.fieldAddr 47 (Operand.tmp 2) 2, type := _, pos := _, after := _, guard := none }) (v := .pointer (some ⟨B, 2, none⟩)) rfl (by kernel_rfl) (by kernel_rfl) (by kernel_rfl) (fun _ _ _ h => h) (Or.inl ⟨by rfl, fun w hSw => by (try dsimp only at hSw); go_simp⟩) (by assumption) ?_
              simp only [Act.put, List.setIfInBounds_toArray, List.set_cons_zero, List.set_cons_succ]
              refine wpAnyH_take (i := 1) (oi := { dst := some 52, op := Op.load 41 (Operand.tmp 51), type := _, pos := _, after := _, guard := none }) (v := .agg ck) rfl (by kernel_rfl) (by kernel_rfl) (by kernel_rfl) (fun _ _ _ h => h) (Or.inl ⟨by rfl, fun w hSw => ld_exec (HK.out ▸ hSw.ny.tb.tr.keys) rfl rfl⟩) (by assumption) ?_
              simp only [Act.put, List.setIfInBounds_toArray, List.set_cons_zero, List.set_cons_succ]
              refine wpAnyH_take (i := 2) (oi := { dst := some 53, op := Op.move (Operand.tmp 9), type := _, pos := _, after := _, guard := none }) (v := .slice a1 ll.length cap1) rfl (by kernel_rfl) (by kernel_rfl) (by kernel_rfl) (fun _ _ _ h => h) (Or.inl ⟨by rfl, fun w hSw => by (try dsimp only at hSw); go_simp⟩) (by assumption) ?_
              simp only [Act.put, List.setIfInBounds_toArray, List.set_cons_zero, List.set_cons_succ]
              refine wpAnyH_take (i := 4) (oi := { dst := some 55, op := Op.fieldAddr 47 (Operand.tmp 2) 1, type := _, pos := _, after := _, guard := none }) (v := .pointer (some ⟨B, 1, none⟩)) rfl (by kernel_rfl) (by kernel_rfl) (by kernel_rfl) (fun _ _ _ h => h) (Or.inl ⟨by rfl, fun w hSw => by (try dsimp only at hSw); go_simp⟩) (by assumption) ?_
              simp only [Act.put, List.setIfInBounds_toArray, List.set_cons_zero, List.set_cons_succ]
              refine wpAnyH_take (i := 5) (oi := { dst := some 56, op := Op.load 3 (Operand.tmp 55), type := _, pos := _, after := _, guard := none }) (v := .int .i64 t.fr) rfl (by kernel_rfl) (by kernel_rfl) (by kernel_rfl) (fun _ _ _ h => h) (Or.inl ⟨by rfl, fun w hSw => by obtain ⟨c0, c1⟩ := hSw.ny.tb.tr.cells; clear hSw; go_simp⟩) (by assumption) ?_
              simp only [Act.put, List.setIfInBounds_toArray, List.set_cons_zero, List.set_cons_succ]
              refine wpAnyH_ready (rs := [3, 11]) (by kernel_rfl) (by simp) ?_
              refine (AllReadyH.cons rfl (fun K hK => ?_) (AllReadyH.cons rfl (fun K hK => ?_) AllReadyH.nil))
              · go_simp
                refine (hrp _ hHeld.row).mono ?_
                rintro r w5 ⟨rfl, hb5⟩
                go_wp2_with fail
                have HW5 : Hid (w.heap.size ≤ w5.heap.size) := Nat.le_trans hHeld.ny.tb.bel.size hb5.size
                refine hK.out _ _ (hHeld.later hb5) (fun hHd1 => ?_)
                clear hHeld hb5
                clear hK K
                try simp only [Act.put, List.setIfInBounds_toArray, List.set_cons_zero, List.set_cons_succ]
                refine wpAnyH_ready (rs := [6, 11]) (by kernel_rfl) (by simp) ?_
                refine (AllReadyH.cons rfl (fun K hK => ?_) (AllReadyH.cons rfl (fun K hK => ?_) AllReadyH.nil))
                · go_simp
                  refine (htn _).mono ?_
                  rintro r w6 ⟨rfl, hb6⟩
                  go_wp2_with fail
                  have hA6 : w.heap.size ≤ w6.heap.size := Nat.le_trans hHd1.ny.tb.bel.size hb6.size
                  refine hK.out _ _ (hHd1.later hb6) (fun hHd2 => ?_)
                  clear hHd1 hb6
                  clear hK K
                  try simp only [Act.put, List.setIfInBounds_toArray, List.set_cons_zero, List.set_cons_succ]
                  refine wpAnyH_take (i := 7) (oi := { dst := some 50, op := Op.move (Operand.tmp 57), type := _, pos := _, after := _, guard := none }) (v := .tuple #[.agg cx, .int .i64 F, .int .i64 E1]) rfl (by kernel_rfl) (by kernel_rfl) (by kernel_rfl) (fun _ _ _ h => h) (Or.inl ⟨by rfl, fun w hSw => by (try dsimp only at hSw); go_simp⟩) (by assumption) ?_
                  simp only [Act.put, List.setIfInBounds_toArray, List.set_cons_zero, List.set_cons_succ]
                  refine wpAnyH_take (i := 8) (oi := { dst := some 58, op := Op.extract (Operand.tmp 50) 0, type := _, pos := _, after := _, guard := none }) (v := .agg cx) rfl (by kernel_rfl) (by kernel_rfl) (by kernel_rfl) (fun _ _ _ h => h) (Or.inl ⟨by rfl, fun w hSw => by (try dsimp only at hSw); go_simp⟩) (by assumption) ?_
                  simp only [Act.put, List.setIfInBounds_toArray, List.set_cons_zero, List.set_cons_succ]
                  refine wpAnyH_take (i := 9) (oi := { dst := some 59, op := Op.extract (Operand.tmp 50) 1, type := _, pos := _, after := _, guard := none }) (v := .int .i64 F) rfl (by kernel_rfl) (by kernel_rfl) (by kernel_rfl) (fun _ _ _ h => h) (Or.inl ⟨by rfl, fun w hSw => by (try dsimp only at hSw); go_simp⟩) (by assumption) ?_
                  simp only [Act.put, List.setIfInBounds_toArray, List.set_cons_zero, List.set_cons_succ]
                  refine wpAnyH_take (i := 10) (oi := { dst := some 60, op := Op.extract (Operand.tmp 50) 2, type := _, pos := _, after := _, guard := none }) (v := .int .i64 E1) rfl (by kernel_rfl) (by kernel_rfl) (by kernel_rfl) (fun _ _ _ h => h) (Or.inl ⟨by rfl, fun w hSw => by (try dsimp only at hSw); go_simp⟩) (by assumption) ?_
                  simp only [Act.put, List.setIfInBounds_toArray, List.set_cons_zero, List.set_cons_succ]
                  refine wpAnyH_ready (rs := [11]) (by kernel_rfl) (by simp) ?_
                  refine AllReadyH.cons rfl (fun K hK => ?_) AllReadyH.nil
                  go_simp
                  have hks6 : KsAt (w6.alloc (.cells #[Value.int .i64 0, Value.int .i64 0, Value.int .i64 0, Value.int .i64 0, Value.int .i64 0, Value.int .i64 0, Value.int .i64 0, Value.int .i64 0, Value.int .i64 0, Value.int .i64 0, Value.int .i64 0, Value.int .i64 0, Value.int .i64 0, Value.int .i64 0, Value.int .i64 0, Value.int .i64 0, Value.int .i64 0, Value.int .i64 0, Value.int .i64 0, Value.int .i64 0, Value.int .i64 0, Value.int .i64 0, Value.int .i64 0, Value.int .i64 0, Value.int .i64 0, Value.int .i64 0, Value.int .i64 0, Value.int .i64 0, Value.int .i64 0, Value.int .i64 0, Value.int .i64 0, Value.int .i64 0, Value.int .i64 0, Value.int .i64 0, Value.int .i64 0, Value.int .i64 0, Value.int .i64 0, Value.int .i64 0, Value.int .i64 0, Value.int .i64 0, Value.int .i64 0, Value.int .i64 0] 41)) w6.heap.size (fun _ => zK) := by rw [alloc_ksz]; exact Rt.KsAt.new _ _
                  have hA := hA6
                  refine hK.out _ _ (hHd2.later (below_alloc _ _)) (fun hHd3 => ?_)
                  clear hHd2
                  clear hK K
                  try simp only [Act.put, List.setIfInBounds_toArray, List.set_cons_zero, List.set_cons_succ]
                  refine wpAnyH_ready (rs := [12]) (by kernel_rfl) (by simp) ?_
                  refine AllReadyH.cons rfl (fun Kc hK => ?_) AllReadyH.nil
                  have hksZ := KsAt_row hks6 HCX.out
                  refine if_wp rfl (wp_stRow0 41 _ _ rfl _ cx rfl rfl 41 (kcs fun _ => zK) hks6 (by rw [← HCX.out, Rt.kcs_size]; exact Rt.infoK) (by rw [← HCX.out, Rt.kcs_size, Rt.kcs_size]) (by rw [← HCX.out]; exact Rt.kcs_one _) rfl ?_)
                  refine hK.out _ _ (hHd3.two hks6 hA cx) (fun hHd4 => ?_)
                  clear hHd3
                  clear hK Kc
                  try simp only [Act.put, List.setIfInBounds_toArray, List.set_cons_zero, List.set_cons_succ]
                  refine wpAnyH_take (i := 13) (oi := { dst := some 13, op := Op.assign (Operand.tmp 59), type := _, pos := _, after := _, guard := none }) (v := .int .i64 F) rfl (by kernel_rfl) (by kernel_rfl) (by kernel_rfl) (fun _ _ _ h => h) (Or.inl ⟨by rfl, fun w hSw => by (try dsimp only at hSw); go_simp⟩) (by assumption) ?_
                  simp only [Act.put, List.setIfInBounds_toArray, List.set_cons_zero, List.set_cons_succ]
                  refine wpAnyH_take (i := 14) (oi := { dst := some 8, op := Op.assign (Operand.tmp 60), type := _, pos := _, after := _, guard := none }) (v := .int .i64 E1) rfl (by kernel_rfl) (by kernel_rfl) (by kernel_rfl) (fun _ _ _ h => h) (Or.inl ⟨by rfl, fun w hSw => by (try dsimp only at hSw); go_simp⟩) (by assumption) ?_
                  simp only [Act.put, List.setIfInBounds_toArray, List.set_cons_zero, List.set_cons_succ]
                  refine wpAnyH_done (by kernel_rfl) ?_ _
                  go_wp2_with fail
                  go_meet
                  case rel => exact ⟨_, rfl, rfl, rfl, hHd4.ny, hksZ⟩
                · go_simp
                  have hks5 : KsAt (w5.alloc (.cells #[Value.int .i64 0, Value.int .i64 0, Value.int .i64 0, Value.int .i64 0, Value.int .i64 0, Value.int .i64 0, Value.int .i64 0, Value.int .i64 0, Value.int .i64 0, Value.int .i64 0, Value.int .i64 0, Value.int .i64 0, Value.int .i64 0, Value.int .i64 0, Value.int .i64 0, Value.int .i64 0, Value.int .i64 0, Value.int .i64 0, Value.int .i64 0, Value.int .i64 0, Value.int .i64 0, Value.int .i64 0, Value.int .i64 0, Value.int .i64 0, Value.int .i64 0, Value.int .i64 0, Value.int .i64 0, Value.int .i64 0, Value.int .i64 0, Value.int .i64 0, Value.int .i64 0, Value.int .i64 0, Value.int .i64 0, Value.int .i64 0, Value.int .i64 0, Value.int .i64 0, Value.int .i64 0, Value.int .i64 0, Value.int .i64 0, Value.int .i64 0, Value.int .i64 0, Value.int .i64 0] 41)) w5.heap.size (fun _ => zK) := by rw [alloc_ksz]; exact Rt.KsAt.new _ _
                  have hA := HW5.out
                  refine hK.out _ _ (hHd1.later (below_alloc _ _)) (fun hHd2 => ?_)
                  clear hHd1
                  clear hK K
                  try simp only [Act.put, List.setIfInBounds_toArray, List.set_cons_zero, List.set_cons_succ]
                  refine wpAnyH_ready (rs := [6]) (by kernel_rfl) (by simp) ?_
                  refine AllReadyH.cons rfl (fun K hK => ?_) AllReadyH.nil
                  go_simp
                  refine (htn _).mono ?_
                  rintro r w6 ⟨rfl, hb6⟩
                  go_wp2_with fail
                  have hks6 := hks5.later hb6
                  refine hK.out _ _ (hHd2.later hb6) (fun hHd3 => ?_)
                  clear hHd2 hb6 hks5
                  clear hK K
                  try simp only [Act.put, List.setIfInBounds_toArray, List.set_cons_zero, List.set_cons_succ]
                  refine wpAnyH_take (i := 7) (oi := { dst := some 50, op := Op.move (Operand.tmp 57), type := _, pos := _, after := _, guard := none }) (v := .tuple #[.agg cx, .int .i64 F, .int .i64 E1]) rfl (by kernel_rfl) (by kernel_rfl) (by kernel_rfl) (fun _ _ _ h => h) (Or.inl ⟨by rfl, fun w hSw => by (try dsimp only at hSw); go_simp⟩) (by assumption) ?_
                  simp only [Act.put, List.setIfInBounds_toArray, List.set_cons_zero, List.set_cons_succ]
                  refine wpAnyH_take (i := 8) (oi := { dst := some 58, op := Op.extract (Operand.tmp 50) 0, type := _, pos := _, after := _, guard := none }) (v := .agg cx) rfl (by kernel_rfl) (by kernel_rfl) (by kernel_rfl) (fun _ _ _ h => h) (Or.inl ⟨by rfl, fun w hSw => by (try dsimp only at hSw); go_simp⟩) (by assumption) ?_
                  simp only [Act.put, List.setIfInBounds_toArray, List.set_cons_zero, List.set_cons_succ]
                  refine wpAnyH_take (i := 9) (oi := { dst := some 59, op := Op.extract (Operand.tmp 50) 1, type := _, pos := _, after := _, guard := none }) (v := .int .i64 F) rfl (by kernel_rfl) (by kernel_rfl) (by kernel_rfl) (fun _ _ _ h => h) (Or.inl ⟨by rfl, fun w hSw => by (try dsimp only at hSw); go_simp⟩) (by assumption) ?_
                  simp only [Act.put, List.setIfInBounds_toArray, List.set_cons_zero, List.set_cons_succ]
                  refine wpAnyH_take (i := 10) (oi := { dst := some 60, op := Op.extract (Operand.tmp 50) 2, type := _, pos := _, after := _, guard := none }) (v := .int .i64 E1) rfl (by kernel_rfl) (by kernel_rfl) (by kernel_rfl) (fun _ _ _ h => h) (Or.inl ⟨by rfl, fun w hSw => by (try dsimp only at hSw); go_simp⟩) (by assumption) ?_
                  simp only [Act.put, List.setIfInBounds_toArray, List.set_cons_zero, List.set_cons_succ]
                  refine wpAnyH_ready (rs := [12]) (by kernel_rfl) (by simp) ?_
                  refine AllReadyH.cons rfl (fun Kc hK => ?_) AllReadyH.nil
                  have hksZ := KsAt_row hks6 HCX.out
                  refine if_wp rfl (wp_stRow0 41 _ _ rfl _ cx rfl rfl 41 (kcs fun _ => zK) hks6 (by rw [← HCX.out, Rt.kcs_size]; exact Rt.infoK) (by rw [← HCX.out, Rt.kcs_size, Rt.kcs_size]) (by rw [← HCX.out]; exact Rt.kcs_one _) rfl ?_)
                  refine hK.out _ _ (hHd3.two hks6 hA cx) (fun hHd4 => ?_)
                  clear hHd3
                  clear hK Kc
                  try simp only [Act.put, List.setIfInBounds_toArray, List.set_cons_zero, List.set_cons_succ]
                  refine wpAnyH_take (i := 13) (oi := { dst := some 13, op := Op.assign (Operand.tmp 59), type := _, pos := _, after := _, guard := none }) (v := .int .i64 F) rfl (by kernel_rfl) (by kernel_rfl) (by kernel_rfl) (fun _ _ _ h => h) (Or.inl ⟨by rfl, fun w hSw => by (try dsimp only at hSw); go_simp⟩) (by assumption) ?_
                  simp only [Act.put, List.setIfInBounds_toArray, List.set_cons_zero, List.set_cons_succ]
                  refine wpAnyH_take (i := 14) (oi := { dst := some 8, op := Op.assign (Operand.tmp 60), type := _, pos := _, after := _, guard := none }) (v := .int .i64 E1) rfl (by kernel_rfl) (by kernel_rfl) (by kernel_rfl) (fun _ _ _ h => h) (Or.inl ⟨by rfl, fun w hSw => by (try dsimp only at hSw); go_simp⟩) (by assumption) ?_
                  simp only [Act.put, List.setIfInBounds_toArray, List.set_cons_zero, List.set_cons_succ]
                  refine wpAnyH_done (by kernel_rfl) ?_ _
                  go_wp2_with fail
                  go_meet
                  case rel => exact ⟨_, rfl, rfl, rfl, hHd4.ny, hksZ⟩
              · go_simp
                have hks : KsAt (wr.drew.alloc (.cells #[Value.int .i64 0, Value.int .i64 0, Value.int .i64 0, Value.int .i64 0, Value.int .i64 0, Value.int .i64 0, Value.int .i64 0, Value.int .i64 0, Value.int .i64 0, Value.int .i64 0, Value.int .i64 0, Value.int .i64 0, Value.int .i64 0, Value.int .i64 0, Value.int .i64 0, Value.int .i64 0, Value.int .i64 0, Value.int .i64 0, Value.int .i64 0, Value.int .i64 0, Value.int .i64 0, Value.int .i64 0, Value.int .i64 0, Value.int .i64 0, Value.int .i64 0, Value.int .i64 0, Value.int .i64 0, Value.int .i64 0, Value.int .i64 0, Value.int .i64 0, Value.int .i64 0, Value.int .i64 0, Value.int .i64 0, Value.int .i64 0, Value.int .i64 0, Value.int .i64 0, Value.int .i64 0, Value.int .i64 0, Value.int .i64 0, Value.int .i64 0, Value.int .i64 0, Value.int .i64 0] 41)) wr.heap.size (fun _ => zK) := by rw [alloc_ksz]; exact Rt.KsAt.new wr.drew _
                have hA := HW.out
                refine hK.out _ _ (hHeld.later (below_alloc _ _)) (fun hHd1 => ?_)
                clear hHeld
                clear hK K
                try simp only [Act.put, List.setIfInBounds_toArray, List.set_cons_zero, List.set_cons_succ]
                refine wpAnyH_ready (rs := [3]) (by kernel_rfl) (by simp) ?_
                refine AllReadyH.cons rfl (fun K hK => ?_) AllReadyH.nil
                go_simp
                refine (hrp _ hHd1.row).mono ?_
                rintro r w5 ⟨rfl, hb5⟩
                go_wp2_with fail
                have hks5 := hks.later hb5
                refine hK.out _ _ (hHd1.later hb5) (fun hHd2 => ?_)
                clear hHd1 hb5 hks
                clear hK K
                try simp only [Act.put, List.setIfInBounds_toArray, List.set_cons_zero, List.set_cons_succ]
                refine wpAnyH_ready (rs := [6]) (by kernel_rfl) (by simp) ?_
                refine AllReadyH.cons rfl (fun K hK => ?_) AllReadyH.nil
                go_simp
                refine (htn _).mono ?_
                rintro r w6 ⟨rfl, hb6⟩
                go_wp2_with fail
                have hks6 := hks5.later hb6
                refine hK.out _ _ (hHd2.later hb6) (fun hHd3 => ?_)
                clear hHd2 hb6 hks5
                clear hK K
                try simp only [Act.put, List.setIfInBounds_toArray, List.set_cons_zero, List.set_cons_succ]
                refine wpAnyH_take (i := 7) (oi := { dst := some 50, op := Op.move (Operand.tmp 57), type := _, pos := _, after := _, guard := none }) (v := .tuple #[.agg cx, .int .i64 F, .int .i64 E1]) rfl (by kernel_rfl) (by kernel_rfl) (by kernel_rfl) (fun _ _ _ h => h) (Or.inl ⟨by rfl, fun w hSw => by (try dsimp only at hSw); go_simp⟩) (by assumption) ?_
                simp only [Act.put, List.setIfInBounds_toArray, List.set_cons_zero, List.set_cons_succ]
                refine wpAnyH_take (i := 8) (oi := { dst := some 58, op := Op.extract (Operand.tmp 50) 0, type := _, pos := _, after := _, guard := none }) (v := .agg cx) rfl (by kernel_rfl) (by kernel_rfl) (by kernel_rfl) (fun _ _ _ h => h) (Or.inl ⟨by rfl, fun w hSw => by (try dsimp only at hSw); go_simp⟩) (by assumption) ?_
                simp only [Act.put, List.setIfInBounds_toArray, List.set_cons_zero, List.set_cons_succ]
                refine wpAnyH_take (i := 9) (oi := { dst := some 59, op := Op.extract (Operand.tmp 50) 1, type := _, pos := _, after := _, guard := none }) (v := .int .i64 F) rfl (by kernel_rfl) (by kernel_rfl) (by kernel_rfl) (fun _ _ _ h => h) (Or.inl ⟨by rfl, fun w hSw => by (try dsimp only at hSw); go_simp⟩) (by assumption) ?_
                simp only [Act.put, List.setIfInBounds_toArray, List.set_cons_zero, List.set_cons_succ]
                refine wpAnyH_take (i := 10) (oi := { dst := some 60, op := Op.extract (Operand.tmp 50) 2, type := _, pos := _, after := _, guard := none }) (v := .int .i64 E1) rfl (by kernel_rfl) (by kernel_rfl) (by kernel_rfl) (fun _ _ _ h => h) (Or.inl ⟨by rfl, fun w hSw => by (try dsimp only at hSw); go_simp⟩) (by assumption) ?_
                simp only [Act.put, List.setIfInBounds_toArray, List.set_cons_zero, List.set_cons_succ]
                refine wpAnyH_ready (rs := [12]) (by kernel_rfl) (by simp) ?_
                refine AllReadyH.cons rfl (fun Kc hK => ?_) AllReadyH.nil
                have hksZ := KsAt_row hks6 HCX.out
                refine if_wp rfl (wp_stRow0 41 _ _ rfl _ cx rfl rfl 41 (kcs fun _ => zK) hks6 (by rw [← HCX.out, Rt.kcs_size]; exact Rt.infoK) (by rw [← HCX.out, Rt.kcs_size, Rt.kcs_size]) (by rw [← HCX.out]; exact Rt.kcs_one _) rfl ?_)
                refine hK.out _ _ (hHd3.two hks6 hA cx) (fun hHd4 => ?_)
                clear hHd3
                clear hK Kc
                try simp only [Act.put, List.setIfInBounds_toArray, List.set_cons_zero, List.set_cons_succ]
                refine wpAnyH_take (i := 13) (oi := { dst := some 13, op := Op.assign (Operand.tmp 59), type := _, pos := _, after := _, guard := none }) (v := .int .i64 F) rfl (by kernel_rfl) (by kernel_rfl) (by kernel_rfl) (fun _ _ _ h => h) (Or.inl ⟨by rfl, fun w hSw => by (try dsimp only at hSw); go_simp⟩) (by assumption) ?_
                simp only [Act.put, List.setIfInBounds_toArray, List.set_cons_zero, List.set_cons_succ]
                refine wpAnyH_take (i := 14) (oi := { dst := some 8, op := Op.assign (Operand.tmp 60), type := _, pos := _, after := _, guard := none }) (v := .int .i64 E1) rfl (by kernel_rfl) (by kernel_rfl) (by kernel_rfl) (fun _ _ _ h => h) (Or.inl ⟨by rfl, fun w hSw => by (try dsimp only at hSw); go_simp⟩) (by assumption) ?_
                simp only [Act.put, List.setIfInBounds_toArray, List.set_cons_zero, List.set_cons_succ]
                refine wpAnyH_done (by kernel_rfl) ?_ _
                go_wp2_with fail
                go_meet
                case rel => exact ⟨_, rfl, rfl, rfl, hHd4.ny, hksZ⟩
            case rest =>
              obtain ⟨A, rfl, rfl, rfl, hX9, hK9⟩ := hcut
              clear HE hrp htn
              by_cases hn1 : t.fr + ((cu q 21 : Nat) : Int) ≤ 32768
              · have hte : E1 = 0 := by rw [← HE1.out, HTR.out, if_pos hn1]
                subst hte
                have hfn : F = t.fr + ((cu q 21 : Nat) : Int) := by rw [← HFF.out]; unfold Rt.trN; rw [if_pos HE1.out]
                have HF2 : Hid (plF t L = F) := by unfold Hid; rw [HCU.out, hfn]
                have HF3 : Hid (0 ≤ F ∧ F ≤ 32768) := ⟨by have := HR0.out.f0; omega, by omega⟩
                have HKS : Hid (trA t.ks q t.fr = trK t.ks q t.fr) := by unfold Hid Rt.trA; rw [if_pos HE1.out]
                rw [HKS.out] at hK9 HCX
                obtain ⟨P, hP⟩ : ∃ P, t.ep + 1 = P := ⟨_, rfl⟩
                have HP : Hid (t.ep + 1 = P) := hP
                have hw2 : IntKind.i64.wrap (t.ep + 1) = P := (Rt.i64_fit _ (by have := HE9.out; omega) (by have := HE9.out; omega)).trans hP
                have hm2 := Rs.rMove_any t.ro aL aJ cL cJ L J P F wc lL lJ (hL.later hX9.tb.bel) (hJ.later hX9.tb.bel)
                rw [HR.out] at hm2
                have hmE := move3 HR0.out HE9.out.1 HF.out (by rw [HF2.out]; exact HF3.out.2)
                rw [HP.out, HF2.out] at hmE
                obtain ⟨c0, c1⟩ := hX9.tb.tr.cells
                obtain ⟨d0, d1⟩ := hX9.tb.bt.cells
                have hT9 := hX9.tb.tr
                clear hfn hn1 hP
                go_wp2_with (refine rdR hT9 HR.out _ rfl rfl rfl ?_)
                refine hm2.mono ?_
                rintro r w8 ⟨⟨vl, vj, rfl, hMP⟩, hb8⟩
                have hX8 := hX9.later hb8
                have hK8 := Rt.KsAt.later hK9 hb8
                have hz8 : RoAt (w8.alloc (.cells Tryz.zeroCells45 45)) w8.heap.size (fun _ => zE) := by rw [Rs.alloc_zero]; exact Rs.RoAt.new _ _
                obtain ⟨cro, hcro⟩ : ∃ c, rcs (mvR t.ro L J P F) = c := ⟨_, rfl⟩
                have HCRO : Hid (rcs (mvR t.ro L J P F) = cro) := hcro
                rw [hcro]
                have HJ8 : Hid (w8.ownsRow wc.heap.size 107 2 vj (mvJ t.ro L J P F).length (ps (mvJ t.ro L J P F))) := hMP.join
                have HL8 : Hid (w8.ownsRow wc.heap.size 107 2 vl (mvL t.ro L J P F).length (ps (mvL t.ro L J P F))) := hMP.left
                have HAP0 : Hid (vl.ownBlock = none ∨ vl.ownBlock ≠ vj.ownBlock) := hMP.apart
                have HWC : Hid (w.heap.size ≤ wc.heap.size) := hX9.tb.bel.size
                obtain ⟨a2, cap2, rfl⟩ := Rs.owns_slice HJ8.out
                obtain ⟨a3, cap3, rfl⟩ := Rs.owns_slice HL8.out
                clear hm2 hX9 hK9 hT9 hb8 hcro c0 c1 d0 d1 hMP
                by_cases hn2 : F + (J.length : Int) ≤ 32768
                · rw [if_pos hn2] at hmE
                  rw [hmE]
                  have hst : Stp t L J := stp_of HCK.out HEP.out HFT.out (by rw [HF2.out]; exact hn2)
                  have HST : Hid (Stp t L J) := hst
                  have e2 := hst.r3
                  have e3 := hst.j3
                  have e4 := hst.l3
                  rw [HP.out, HF2.out] at e2 e3 e4
                  have HLJ : Hid ((jns t L J).length = J.length) := by unfold Hid jns; rw [Rs.adl_length]
                  rw [e3] at HJ8 HAP0
                  rw [e4, HLE.out] at HL8 HAP0
                  have HCR2 : Hid (rcs (nx t L J).ro = cro) := by rw [← e2]; exact HCRO.out
                  rw [e3, e4, HLE.out]
                  obtain ⟨lj, hlj⟩ : ∃ lj, jns t L J = lj := ⟨_, rfl⟩
                  rw [hlj] at HJ8 HLJ HAP0
                  rw [hlj]
                  have HLJE : Hid (jns t L J = lj) := hlj
                  have HN0 : Hid (nx t L J = ⟨P, F + (lj.length : Int), trK t.ks q t.fr, (nx t L J).ro⟩) := by
                    unfold Hid
                    rw [HLJ.out, ← HF2.out, ← HP.out, ← HPR.out]
                    rfl
                  have hfw : IntKind.i64.wrap (F + (lj.length : Int)) = F + (lj.length : Int) := Rt.i64_fit _ (by have := HF3.out; omega) (by have := HF3.out; have := HLJ.out; omega)
                  obtain ⟨cn, hcn⟩ : ∃ c, tcs (nx t L J) = c := ⟨_, rfl⟩
                  have HCN : Hid (tcs (nx t L J) = cn) := hcn
                  have HCN2 : Hid (tcs ⟨P, F + (lj.length : Int), trK t.ks q t.fr, (nx t L J).ro⟩ = cn) := by rw [← HN0.out]; exact hcn
                  clear hst e2 e3 e4 hlj hcn hmE hn2 HCRO
                  go_upto_region 18 with (refine stRo hz8 HCR2.out rfl _ _ rfl rfl rfl ?_)
                  rw [Rs.alloc_zero, World.setRow_alloc_new]
                  have hbw := below_alloc w8 (.cells cro 45)
                  have hX := hX8.later hbw
                  have hK10 := Rt.KsAt.later hK8 hbw
                  have hR10 : RoAt (w8.alloc (.cells cro 45)) w8.heap.size (nx t L J).ro := by rw [← HCR2.out]; exact Rs.RoAt.new _ _
                  have HLF : Hid ((w8.alloc (.cells cro 45)).ownsRow wc.heap.size 107 2 (.slice a3 ll.length cap3) ll.length (ps ll)) := Rs.owns_later HL8.out hbw
                  have HLJ2 : Hid ((w8.alloc (.cells cro 45)).ownsRow wc.heap.size 107 2 (.slice a2 lj.length cap2) lj.length (ps lj)) := Rs.owns_later HJ8.out hbw
                  clear hz8 hX8 hK8 HL8 HJ8 hbw
                  generalize w8.alloc (.cells cro 45) = w10 at *
                  generalize w8.heap.size = BA at *
                  have hZ := hX.ze
                  obtain ⟨c0, c1⟩ := hX.tb.tr.cells
                  have hZ2 : TrAt (w10.setRow K cn) K (nx t L J) := by rw [← HCN.out]; exact hZ.row _
                  go_wp2_with (first | (refine ldKs hK10 HCX.out rfl _ rfl rfl ?_) | (refine ldRo hR10 HCR2.out rfl _ rfl rfl ?_) | (refine btc HCX.out HCR2.out HCN2.out rfl _ _ _ _ rfl rfl rfl rfl rfl ?_) | (refine stTc hZ HCN.out rfl _ _ rfl rfl rfl ?_))
                  refine bodyPost_ret (results_n11 (p := 4) (t := 5) (u := 6) (v := 7) rfl _ _ K (nx t L J) rfl hZ2) rfl ?_
                  refine ⟨?_, Rt.setRow_below hX.gK hX.tb.bel _⟩
                  exact N11A.yes HST.out.pl (by rw [HLE.out]; exact Rs.owns_type (Rs.owns_wide HLF.out HWC.out) hZ (by decide) _) (by rw [HLJE.out]; exact Rs.owns_type (Rs.owns_wide HLJ2.out HWC.out) hZ (by decide) _) HAP0.out
                · rw [if_neg hn2] at hmE
                  rw [hmE]
                  have HE : Hid (plE t L J = 3) := plE_key HCK.out HEP.out HFT.out (by rw [HF2.out]; exact hn2)
                  have HNE : Hid ((3 : Int) ≠ 0) := by unfold Hid; decide
                  obtain ⟨nj, hnj⟩ : ∃ n, (mvJ t.ro L J P F).length = n := ⟨_, rfl⟩
                  obtain ⟨nl, hnl⟩ : ∃ n, (mvL t.ro L J P F).length = n := ⟨_, rfl⟩
                  rw [hnj, hnl]
                  clear hn2 hmE hnj hnl
                  go_upto_region 18 with (refine stRo hz8 HCRO.out rfl _ _ rfl rfl rfl ?_)
                  rw [Rs.alloc_zero, World.setRow_alloc_new]
                  have hX := hX8.later (below_alloc w8 (.cells cro 45))
                  clear hz8 hX8
                  generalize w8.alloc (.cells cro 45) = w9 at *
                  have hZ := hX.ze
                  obtain ⟨cz, hcz⟩ : ∃ c, tcs (tz 0) = c := ⟨_, rfl⟩
                  have HZ : Hid (tcs (tz 0) = cz) := hcz
                  have hZ2 : TrAt (w9.setRow K cz) K (tz 0) := by rw [← hcz]; exact hZ.row _
                  clear hcz
                  go_wp2_with (first | (refine bzc HZ.out rfl rfl ?_) | (refine stTc hZ HZ.out rfl _ _ rfl rfl rfl ?_))
                  refine bodyPost_ret (results_n11 (p := 4) (t := 5) (u := 6) (v := 7) rfl _ _ K (tz 0) rfl hZ2) rfl ?_
                  exact ⟨N11A.no HE.out HNE.out, Rt.setRow_below hX.gK hX.tb.bel _⟩
              · have hte : E1 = 3 := by rw [← HE1.out, HTR.out, if_neg hn1]
                subst hte
                have HE : Hid (plE t L J = 3) := plE_key HCK.out HEP.out HFT.out (by rw [HCU.out]; omega)
                have HNE : Hid ((3 : Int) ≠ 0) := by unfold Hid; decide
                have hX := hX9
                have hZ := hX.ze
                obtain ⟨cz, hcz⟩ : ∃ c, tcs (tz 0) = c := ⟨_, rfl⟩
                have HZ : Hid (tcs (tz 0) = cz) := hcz
                have hZ2 : TrAt (wc.setRow K cz) K (tz 0) := by rw [← hcz]; exact hZ.row _
                clear hcz hX9 hn1
                go_wp2_with (first | (refine bzc HZ.out rfl rfl ?_) | (refine stTc hZ HZ.out rfl _ _ rfl rfl rfl ?_))
                refine bodyPost_ret (results_n11 (p := 4) (t := 5) (u := 6) (v := 7) rfl _ _ K (tz 0) rfl hZ2) rfl ?_
                exact ⟨N11A.no HE.out HNE.out, Rt.setRow_below hX.gK hX.tb.bel _⟩
      · have hd2 : (E != 0) = true := by simpa using hE0
        have HE : Hid (plE t L J = E) := by rw [← hE]; exact plE_fit HCK.out HEP.out (by rw [hE]; exact hE0)
        have HNE : Hid (E ≠ 0) := hE0
        have hX := hX3
        have hZ := hX.ze
        obtain ⟨cz, hcz⟩ : ∃ c, tcs (tz 0) = c := ⟨_, rfl⟩
        have HZ : Hid (tcs (tz 0) = cz) := hcz
        have hZ2 : TrAt (w3.setRow K cz) K (tz 0) := by rw [← hcz]; exact hZ.row _
        clear hcz hX3 hE hE0
        go_wp2_with (first | (refine bzc HZ.out rfl rfl ?_) | (refine stTc hZ HZ.out rfl _ _ rfl rfl rfl ?_))
        refine bodyPost_ret (results_n11 (p := 4) (t := 5) (u := 6) (v := 7) rfl _ _ K (tz 0) rfl hZ2) rfl ?_
        exact ⟨N11A.no HE.out HNE.out, Rt.setRow_below hX.gK hX.tb.bel _⟩
end Go.Proofs.YtpimbpfefhkojabGreatDoor
