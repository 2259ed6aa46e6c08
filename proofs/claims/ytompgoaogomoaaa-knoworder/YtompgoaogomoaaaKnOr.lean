/- KnowOrder's walk, by what is asked of the program's know (made by mk_knor.py). hR: what may be told of the same calls. -/
import Derived.Test.YtompgoaogomoaaaHd
import Derived.Test.YtompgoaogomoaaaKnTw
namespace Go.Proofs.Ytompgoaogomoaaa.Kn
open Go.RowKit Go.Maps
open Rt (Gd gd gd_yes gd_no rGood_any)
set_option linter.unusedVariables false
set_option linter.unusedSimpArgs false

def RdN (w : World) (a : Option Addr) (ws : List Int) : Prop := ∀ i, i < ws.length → ∃ b o, a = some ⟨b, o, none⟩ ∧ w.cell? ⟨b, o + i, none⟩ = some (.int .i64 (ws.getD i 0))
theorem RdN.later {w w' : World} {a : Option Addr} {ws : List Int} (h : RdN w a ws) (hb : Below w.heap.size w w') : RdN w' a ws := fun i hi => by
  obtain ⟨b, o, e, c0⟩ := h i hi
  exact ⟨b, o, e, cell_later hb c0⟩
theorem u64_pos (x : Int) : 0 ≤ IntKind.u64.wrap x := by
  show 0 ≤ x % 18446744073709551616
  omega
set_option maxRecDepth 100000 in
set_option maxHeartbeats 8000000 in
theorem order_walk {PAt : PPred} {Rm : RPred} (A : KApi PAt Rm) (a : Option Addr) (c : Nat) (l : List Op9) (a2 : Option Addr) (d : Nat) (pk : List Int) (w : World) (rd : RdO w a l) (hl : l.length * 80 ≤ 140737488351232) (ok : ∀ p ∈ l, OkO p) (rp : RdN w a2 pk) (hlp : pk.length * 8 ≤ 140737488351232)
    (hR : ∀ l2 : List Op9, (∀ o ∈ l2, o ∈ l) → l2.length ≤ pk.length + l.length → Rm (toldL l2) (boxL l2) (txtL l2)) :
    Calls Try.prog 4 #[.slice a l.length c, .slice a2 pk.length d] w fun e w' => e = .returned (.bool true) ∧ Below w.heap.size w w' := by
  obtain ⟨n, hn⟩ : ∃ n, l.length = n := ⟨_, rfl⟩
  obtain ⟨m, hm⟩ : ∃ m, pk.length = m := ⟨_, rfl⟩
  have HL : Hid (l.length = n ∧ (∀ p ∈ l, OkO p) ∧ RdO w a l) := ⟨hn, ok, rd⟩
  have HM : Hid (pk.length = m ∧ RdN w a2 pk) := ⟨hm, rp⟩
  have HR : Hid (∀ l2 : List Op9, (∀ o ∈ l2, o ∈ l) → l2.length ≤ m + n → Rm (toldL l2) (boxL l2) (txtL l2)) := by rw [hm, hn] at hR; exact hR
  have hn2 : n * 80 ≤ 140737488351232 := by omega
  have hm2 : m * 8 ≤ 140737488351232 := by omega
  rw [hn, hm]
  have hlv := fun W => lives_any A W
  have hnw := fun W => A.new W
  clear hn hm ok rd hl rp hlp hR
  go_enter Try.func4, Try.ntmps4
  go_wp2_with fail
  refine (hlv _).mono ?_
  rintro r w1 ⟨rfl, hb1⟩
  go_upto_region 4 with (first
    | (go_at_call 10; have hbz := hbA; refine (hnw _).mono ?_; rintro r w3 ⟨p2, F2, rfl, hP2, hb3⟩)
    | (go_at_call 10; refine (hnw _).mono ?_; rintro r w2 ⟨p, F, rfl, hP, hbA⟩))
  obtain ⟨N, hN⟩ : ∃ N, w1.heap.size = N := ⟨_, rfl⟩
  rw [hN] at hP
  have hT := Tw.start A hP (by rw [← hN]; exact hbA.size) hb3 hP2
  obtain ⟨N2, hN2⟩ : ∃ N2, w2.heap.size = N2 := ⟨_, rfl⟩
  rw [hN2] at hT
  have HT0 : Hid (TwO PAt w3 w3 N N2 p p2 [] [] F F2) := hT
  have HB3 : Hid (Below w.heap.size w w3 ∧ w.heap.size ≤ N) := ⟨Rt.Below.then hb1 (Rt.Below.then hbA hb3), by rw [← hN]; exact hb1.size⟩
  have HBF : Hid (∀ W, Below N w3 W → Below w.heap.size w W) := fun W h => HB3.out.1.trans (h.mono HB3.out.2)
  clear hlv hnw hb1 hbA hb3 hP hP2 hN hN2 hT
  go_wp2_with fail
  go_loopw [25] (fun i wx => ∃ (k : Nat) (F : Nat → Prop), k ≤ n ∧ i = .int .i64 (k : Int) ∧ TwO PAt w3 wx N N2 p p2 (l.take k) [] F F2) (fun i _ => n - (intOf i).toNat)
  case atStart => exact ⟨0, F, by omega, rfl, HT0.out⟩
  case round =>
    obtain ⟨k, F, hk, rfl, hT⟩ := hrel
    clear HT0
    have HT : Hid (TwO PAt w3 wr N N2 p p2 (l.take k) [] F F2) := hT
    clear hT
    by_cases hkn : k < n
    · have hkl : k < l.length := by rw [HL.out.1]; exact hkn
      obtain ⟨o, ho⟩ : ∃ o, l.getD k zO = o := ⟨_, rfl⟩
      have hko := HL.out.2.1 o (ho ▸ getD_of hkl)
      have HTK : Hid (l.take (k + 1) = l.take k ++ [o]) := by rw [← ho]; exact take_snoc' hkl
      obtain ⟨b', f', ha, c0, c1, c2, c3, c4, c5, c6, c7, c8⟩ := ops_cells (HL.out.2.2.later (HBF.out _ HT.out.bel)) hkl ho
      have hln : (l.take k).length < 2199023255552 := by rw [List.length_take]; omega
      subst ha
      obtain ⟨kd, ⟨⟨ub, us⟩, lb, ls⟩, ep, ⟨s0, s1⟩, tx⟩ := o
      dsimp only at c0 c1 c2 c3 c4 c5 c6 c7 c8
      have hT1 := HT.out.later A (Rt.below1 wr (.cells #[.int .i64 kd, .int .i64 ub, .int .i64 us, .int .i64 lb, .int .i64 ls, .int .i64 ep, .int .i64 s0, .int .i64 s1, .string tx] 39))
      have hdo := do_any A (wr.alloc (.cells #[.int .i64 kd, .int .i64 ub, .int .i64 us, .int .i64 lb, .int .i64 ls, .int .i64 ep, .int .i64 s0, .int .i64 s1, .string tx] 39)) N p (l.take k) F kd ub us lb ls ep s0 s1 tx hT1.a (Nat.le_trans hT1.nn hT1.sz) hln hko
      have HT1 : Hid (TwO PAt w3 (wr.alloc (.cells #[.int .i64 kd, .int .i64 ub, .int .i64 us, .int .i64 lb, .int .i64 ls, .int .i64 ep, .int .i64 s0, .int .i64 s1, .string tx] 39)) N N2 p p2 (l.take k) [] F F2) := hT1
      have k1 : (0 : Int) ≤ (k : Int) := by omega
      have k2 : (k : Int) < (n : Int) := by omega
      clear hkl ho hko hln hT1
      go_wp2_with (go_at_call 11; refine hdo.mono ?_; rintro r wd ⟨rfl, hd⟩)
      go_roundw
      case rel =>
        obtain ⟨F', h1⟩ := HT1.out.one A hd
        exact ⟨k + 1, F', by omega, by go_num, by rw [HTK.out]; exact h1⟩
      case measure => simp [intOf]; omega
    · obtain rfl : k = n := by omega
      have dkn : decide ((k : Int) < (k : Int)) = false := by simp
      obtain ⟨n, hnk⟩ : ∃ n, n = k := ⟨_, rfl⟩
      rw [← hnk] at HT HL HR hn2 dkn ⊢
      have hT : TwO PAt w3 wr N N2 p p2 l [] F F2 := by have h := HT.out; rw [List.take_of_length_le (by have := HL.out.1; omega)] at h; exact h
      have HT2 : Hid (TwO PAt w3 wr N N2 p p2 l [] F F2) := hT
      clear hk hkn hnk HT hT
      go_wp2_with fail
      go_loopw [35] (fun i wx => ∃ (j : Nat) (l2 : List Op9) (F2 : Nat → Prop), j ≤ m ∧ i = .int .i64 (j : Int) ∧ l2.length ≤ j ∧ (∀ o ∈ l2, o ∈ l) ∧ TwO PAt w3 wx N N2 p p2 l l2 F F2) (fun i _ => m - (intOf i).toNat)
      case atStart => exact ⟨0, [], F2, by omega, rfl, by simp, by simp, HT2.out⟩
      case round =>
        obtain ⟨j, l2, F2, hj, rfl, h2l, h2s, hT⟩ := hrel
        have HT : Hid (TwO PAt w3 wr N N2 p p2 l l2 F F2) := hT
        have H2 : Hid (l2.length ≤ j ∧ ∀ o ∈ l2, o ∈ l) := ⟨h2l, h2s⟩
        clear hT HT2 h2l h2s dkn
        by_cases hjm : j < m
        · have hjl : j < pk.length := by rw [HM.out.1]; exact hjm
          obtain ⟨x, hx⟩ : ∃ x, pk.getD j 0 = x := ⟨_, rfl⟩
          obtain ⟨b9, f9, ha2, y0⟩ := (HM.out.2.later (HBF.out _ HT.out.bel)) j hjl
          rw [hx] at y0
          subst ha2
          have k1 : (0 : Int) ≤ (j : Int) := by omega
          have k2 : (j : Int) < (m : Int) := by omega
          clear hjl hx
          by_cases h0 : n = 0
          · subst h0
            go_wp2_with fail
            go_roundw
            case rel => exact ⟨j + 1, l2, F2, by omega, by go_num, by have := H2.out.1; omega, H2.out.2, HT.out⟩
            case measure => simp [intOf]; omega
          · have d0 : decide ((0 : Int) < (n : Int)) = true := decide_eq_true (by omega)
            obtain ⟨q, hq, hq1⟩ : ∃ q : Nat, q < n ∧ (IntKind.u64.wrap x).tmod (n : Int) = (q : Int) := by
              have h1 : 0 ≤ IntKind.u64.wrap x := u64_pos x
              have h2 : 0 ≤ (IntKind.u64.wrap x).tmod (n : Int) := Int.tmod_nonneg _ h1
              have h3 := Int.tmod_lt_of_pos (IntKind.u64.wrap x) (show (0 : Int) < (n : Int) by omega)
              exact ⟨((IntKind.u64.wrap x).tmod (n : Int)).toNat, by omega, by omega⟩
            have hql : q < l.length := by rw [HL.out.1]; exact hq
            obtain ⟨o, ho⟩ : ∃ o, l.getD q zO = o := ⟨_, rfl⟩
            have hol : o ∈ l := ho ▸ getD_of hql
            have hko := HL.out.2.1 o hol
            have HO : Hid (o ∈ l) := hol
            obtain ⟨b', f', ha, c0, c1, c2, c3, c4, c5, c6, c7, c8⟩ := ops_cells (HL.out.2.2.later (HBF.out _ HT.out.bel)) hql ho
            have hrm := HR.out l2 H2.out.2 (by have := H2.out.1; omega)
            subst ha
            obtain ⟨kd, ⟨⟨ub, us⟩, lb, ls⟩, ep, ⟨s0, s1⟩, tx⟩ := o
            dsimp only at c0 c1 c2 c3 c4 c5 c6 c7 c8
            have hdo := do_rm A wr N2 p2 l2 F2 kd ub us lb ls ep s0 s1 tx HT.out.b HT.out.sz hrm hko
            have k3 : (0 : Int) ≤ (q : Int) := by omega
            have k4 : (q : Int) < (n : Int) := by omega
            clear hql ho hol hko hrm hq h0
            go_upto_region 13 with (fail)
            clear y0
            go_wp2_with (go_at_call 11; refine hdo.mono ?_; rintro r wd ⟨rfl, hd⟩)
            go_roundw
            case rel =>
              obtain ⟨F', h1⟩ := HT.out.two A hd
              exact ⟨j + 1, _, F', by omega, by go_num, by have := H2.out.1; simp; omega, fun o ho => by
                rcases List.mem_append.1 ho with h | h
                · exact H2.out.2 o h
                · rw [List.mem_singleton] at h; exact h ▸ HO.out, h1⟩
            case measure => simp [intOf]; omega
        · obtain rfl : j = m := by omega
          have djj : decide ((j : Int) < (j : Int)) = false := by simp
          clear hj hjm
          go_wp2_with fail
          go_loopw [11] (fun i wx => ∃ (k : Nat) (l2 : List Op9) (F2 : Nat → Prop), k ≤ n ∧ i = .int .i64 ((k : Int) - 1) ∧ l2.length + k ≤ j + n ∧ (∀ o ∈ l2, o ∈ l) ∧ (∀ t, k ≤ t → t < n → l.getD t zO ∈ l2) ∧ TwO PAt w3 wx N N2 p p2 l l2 F F2) (fun i _ => (intOf i + 1).toNat)
          case atStart => exact ⟨n, l2, F2, by omega, rfl, by have := H2.out.1; omega, H2.out.2, fun t h1 h2 => by omega, HT.out⟩
          case round =>
            obtain ⟨k, l2, F2, hk, rfl, h2l, h2s, h2a, hT⟩ := hrel
            clear HT H2 djj
            have HT : Hid (TwO PAt w3 wr N N2 p p2 l l2 F F2) := hT
            have H2 : Hid (l2.length + k ≤ j + n ∧ (∀ o ∈ l2, o ∈ l) ∧ (∀ t, k ≤ t → t < n → l.getD t zO ∈ l2)) := ⟨h2l, h2s, h2a⟩
            clear hT h2l h2s h2a
            cases k with
            | succ q =>
              have e0 : ((q + 1 : Nat) : Int) - 1 = (q : Int) := by omega
              rw [e0]
              have hql : q < l.length := by rw [HL.out.1]; omega
              obtain ⟨o, ho⟩ : ∃ o, l.getD q zO = o := ⟨_, rfl⟩
              have hol : o ∈ l := ho ▸ getD_of hql
              have hko := HL.out.2.1 o hol
              have HO : Hid (o ∈ l ∧ l.getD q zO = o) := ⟨hol, ho⟩
              obtain ⟨b', f', ha, c0, c1, c2, c3, c4, c5, c6, c7, c8⟩ := ops_cells (HL.out.2.2.later (HBF.out _ HT.out.bel)) hql ho
              have hrm := HR.out l2 H2.out.2.1 (by have := H2.out.1; omega)
              subst ha
              obtain ⟨kd, ⟨⟨ub, us⟩, lb, ls⟩, ep, ⟨s0, s1⟩, tx⟩ := o
              dsimp only at c0 c1 c2 c3 c4 c5 c6 c7 c8
              have hdo := do_rm A wr N2 p2 l2 F2 kd ub us lb ls ep s0 s1 tx HT.out.b HT.out.sz hrm hko
              have d0 : decide ((0 : Int) ≤ (q : Int)) = true := decide_eq_true (by omega)
              have k3 : (0 : Int) ≤ (q : Int) := by omega
              have k4 : (q : Int) < (n : Int) := by omega
              clear hql ho hol hko hrm e0
              go_wp2_with (go_at_call 11; refine hdo.mono ?_; rintro r wd ⟨rfl, hd⟩)
              go_roundw
              case rel =>
                obtain ⟨F', h1⟩ := HT.out.two A hd
                exact ⟨q, _, F', by omega, by go_num, by have := H2.out.1; simp; omega, fun o ho => by
                  rcases List.mem_append.1 ho with h | h
                  · exact H2.out.2.1 o h
                  · rw [List.mem_singleton] at h; exact h ▸ HO.out.1, fun t h3 h4 => by
                  rcases Nat.eq_or_lt_of_le h3 with h5 | h5
                  · subst h5; rw [HO.out.2]; simp
                  · exact List.mem_append.2 (.inl (H2.out.2.2 t h5 h4)), h1⟩
              case measure => simp [intOf]
            | zero =>
              have d0 : decide ((0 : Int) ≤ ((0 : Nat) : Int) - 1) = false := by decide
              have HS : Hid ((∀ o ∈ l, o ∈ l2) ∧ (∀ o ∈ l2, o ∈ l) ∧ Rm (toldL l2) (boxL l2) (txtL l2)) := ⟨fun o ho => by
                obtain ⟨t, ht, rfl⟩ := List.getElem_of_mem ho
                have h := H2.out.2.2 t (by omega) (by rw [← HL.out.1]; exact ht)
                rwa [List.getD_eq_getElem?_getD, List.getElem?_eq_getElem ht] at h, H2.out.2.1, HR.out l2 H2.out.2.1 (by have := H2.out.1; omega)⟩
              have HRL : Hid (Rm (toldL l) (boxL l) (txtL l)) := A.rm l (by have := HL.out.1; omega)
              have hka := keys_first A HT.out.a HRL.out
              clear hk
              go_upto_region 20 with (go_at_call 21; refine hka.mono ?_; rintro r wk ⟨f, ak, ck, rfl, hTf, hrk, hgk, hbk⟩)
              clear hka d0
              obtain ⟨ks, hks⟩ : ∃ ks, keysT f 32768 = ks := ⟨_, rfl⟩
              obtain ⟨z, hz⟩ : ∃ z, ks.length = z := ⟨_, rfl⟩
              rw [hks] at hrk ⊢
              rw [hz]
              have hzb : z ≤ 32768 := by rw [← hz, ← hks]; exact keysT_len _
              have hT := HT.out.later A hbk
              have HK : Hid (keysT f 32768 = ks ∧ ks.length = z ∧ Tab (toldL l) (boxL l) f ∧ Rt.RdAt wk ak ks) := ⟨hks, hz, hTf, hrk⟩
              have HT2 : Hid (TwO PAt w3 wk N N2 p p2 l l2 F F2) := hT
              have hkb := keys_same A hT.b HS.out.2.2 hTf (fun k => (hadL_same HS.out.2.1 HS.out.1 k))
              rw [hks, hz] at hkb
              have hsm := fun W a' c' h1 (h2 : Rt.RdAt W a' ks) => Rt.same_any ak a' ck c' ks W (by omega) h1 h2
              rw [hz] at hsm
              have HAP : Hid (∀ g o, ak = some ⟨g, o, none⟩ → ¬ F g ∧ g < wk.heap.size) := fun g o e => ⟨fun e' => by have h1 := (hgk g o e).1; have h2 := (A.ge HT.out.a g e').2; omega, (hgk g o e).2⟩
              clear hks hz hrk hT hTf hbk HT hgk
              go_upto_region 22 with (first
                | (go_at_call 21; refine hkb.mono ?_; rintro r wl ⟨al, cl, rfl, hrl, hbl⟩)
                | (go_at_call 20; refine (hsm _ _ _ (HK.out.2.2.2.later hbl) hrl).mono ?_; rintro r wm ⟨rfl, hbm⟩))
              have HT3 : Hid (Lk PAt w3 wm N N2 p p2 (toldL l) (boxL l) (txtL l) (toldL l2) (boxL l2) (txtL l2) F F2 ak ks) := Lk.later A ⟨HT2.out, HK.out.2.2.2, HAP.out⟩ (Rt.Below.then hbl hbm)
              clear hkb hsm hbl hbm hrl HT2 HAP
              go_wp2_with fail
              go_loopw [77] (fun i wx => ∃ k : Nat, k ≤ n ∧ i = .int .i64 (k : Int) ∧ Lk PAt w3 wx N N2 p p2 (toldL l) (boxL l) (txtL l) (toldL l2) (boxL l2) (txtL l2) F F2 ak ks) (fun i _ => n - (intOf i).toNat)
              case atStart => exact ⟨0, by omega, rfl, HT3.out⟩
              case round =>
                obtain ⟨k, hk, rfl, hT⟩ := hrel
                have HT : Hid (Lk PAt w3 wr N N2 p p2 (toldL l) (boxL l) (txtL l) (toldL l2) (boxL l2) (txtL l2) F F2 ak ks) := hT
                clear hT
                by_cases hkn : k < n
                · have hkl : k < l.length := by rw [HL.out.1]; exact hkn
                  obtain ⟨o, ho⟩ : ∃ o, l.getD k zO = o := ⟨_, rfl⟩
                  have hko := HL.out.2.1 o (ho ▸ getD_of hkl)
                  obtain ⟨b', f', ha, c0, c1, c2, c3, c4, c5, c6, c7, c8⟩ := ops_cells (HL.out.2.2.later (HBF.out _ HT.out.tw.bel)) hkl ho
                  subst ha
                  obtain ⟨kd, ⟨⟨ub, us⟩, lb, ls⟩, ep, ⟨s0, s1⟩, tx⟩ := o
                  dsimp only at c0 c1 c2 c3 c4 c5 c6 c7 c8
                  have HOK : Hid (OkO (kd, (((ub, us), (lb, ls)), (ep, ((s0, s1), tx))))) := hko
                  obtain ⟨y0, y1, y2, y3, y4, y5, y6, y7, y8⟩ := boxed9 wr (.int .i64 kd) (.int .i64 ub) (.int .i64 us) (.int .i64 lb) (.int .i64 ls) (.int .i64 ep) (.int .i64 s0) (.int .i64 s1) (.string tx) 39
                  have hT1 := HT.out.later A (Rt.below1 wr (.cells #[.int .i64 kd, .int .i64 ub, .int .i64 us, .int .i64 lb, .int .i64 ls, .int .i64 ep, .int .i64 s0, .int .i64 s1, .string tx] 39))
                  have k1 : (0 : Int) ≤ (k : Int) := by omega
                  have k2 : (k : Int) < (n : Int) := by omega
                  clear hkl ho hko HT HT3
                  go_upto_region 25 with (fail)
                  clear c0 c1 c2 c3 c4 c5 c6 c7 c8 k1 k2
                  obtain ⟨P, hP⟩ : ∃ P, wr.heap.size = P := ⟨_, rfl⟩
                  rw [hP] at y0 y1 y2 y3 y4 y5 y6 y7 y8 ⊢
                  generalize wr.alloc (.cells #[.int .i64 kd, .int .i64 ub, .int .i64 us, .int .i64 lb, .int .i64 ls, .int .i64 ep, .int .i64 s0, .int .i64 s1, .string tx] 39) = wB at *
                  have HTB : Hid (Lk PAt w3 wB N N2 p p2 (toldL l) (boxL l) (txtL l) (toldL l2) (boxL l2) (txtL l2) F F2 ak ks) := hT1
                  obtain ⟨v1, hv1⟩ := bool_of (HadL l (lb, ls))
                  obtain ⟨v2, hv2⟩ := bool_of (gb ((ub, us), (lb, ls)) = true ∧ (((ub, us), (lb, ls)) ∈ boxL l ∨ (HadL l (ub, us) ∧ HadL l (lb, ls))))
                  obtain ⟨v3, hv3⟩ := bool_of (gx (ep, ((s0, s1), tx)) = true ∧ ((ep, ((s0, s1), tx)) ∈ txtL l ∨ HadL l (s0, s1)))
                  have hsa := fun x => hadL_same HS.out.1 HS.out.2.1 (x := x)
                  have hsb : ∀ {b : B2}, b ∈ boxL l ↔ b ∈ boxL l2 := ⟨box_sub HS.out.1, box_sub HS.out.2.1⟩
                  have hsx : ∀ {d : Sd}, d ∈ txtL l ↔ d ∈ txtL l2 := ⟨txt_sub HS.out.1, txt_sub HS.out.2.1⟩
                  have hh1 := fun W (hW : Below wB.heap.size wB W) => A.has lb ls (A.later HTB.out.tw.a hW) HRL.out HOK.out.2.1.2.2 hv1
                  have hh2 := fun W (hW : Below wB.heap.size wB W) => A.has lb ls (A.later HTB.out.tw.b hW) HS.out.2.2 HOK.out.2.1.2.2 (hv1.trans (hsa _))
                  have hm1 := fun W (hW : Below wB.heap.size wB W) => A.makes ub us lb ls (A.later HTB.out.tw.a hW) HRL.out HOK.out.2.1 hv2
                  have hm2 := fun W (hW : Below wB.heap.size wB W) => A.makes ub us lb ls (A.later HTB.out.tw.b hW) HS.out.2.2 HOK.out.2.1 (hv2.trans (and_congr Iff.rfl (or_congr hsb (and_congr (hsa _) (hsa _)))))
                  have hx1 := fun W (hW : Below wB.heap.size wB W) => A.makesX ep s0 s1 tx (A.later HTB.out.tw.a hW) HRL.out HOK.out.2.2 hv3
                  have hx2 := fun W (hW : Below wB.heap.size wB W) => A.makesX ep s0 s1 tx (A.later HTB.out.tw.b hW) HS.out.2.2 HOK.out.2.2 (hv3.trans (and_congr Iff.rfl (or_congr hsx (hsa _))))
                  have hS0 : Below wB.heap.size wB wB.drew := (Below.refl _ _).drew
                  clear hT1 hP hv1 hv2 hv3 hsa hsb hsx
                  refine wp_region_held_drew (S := fun W => Below wB.heap.size wB W) (by kernel_rfl) hS0 (fun hHeld => ?_)
                  refine opT 0 81 (.move (.tmp 5)) (.pointer (some ⟨p, 0, none⟩)) rfl ?_
                  go_frame
                  refine opT 1 82 (.fieldAddr 39 (.tmp 14) 1) (.pointer (some ⟨P, 1, none⟩)) rfl ?_
                  go_frame
                  refine opT 2 83 (.fieldAddr 35 (.tmp 82) 1) (.pointer (some ⟨P, 3, none⟩)) rfl ?_
                  go_frame
                  refine opR 3 84 (.load 33 (.tmp 83)) (.agg #[.int .i64 lb, .int .i64 ls]) rfl (fun w hSw => by have x3 := cell_later hSw y3; have x4 := cell_later hSw y4; go_simp) ?_
                  go_frame
                  refine opT 5 86 (.move (.tmp 6)) (.pointer (some ⟨p2, 0, none⟩)) rfl ?_
                  go_frame
                  refine opT 6 87 (.fieldAddr 39 (.tmp 14) 1) (.pointer (some ⟨P, 1, none⟩)) rfl ?_
                  go_frame
                  refine opT 7 88 (.fieldAddr 35 (.tmp 87) 1) (.pointer (some ⟨P, 3, none⟩)) rfl ?_
                  go_frame
                  refine opR 8 89 (.load 33 (.tmp 88)) (.agg #[.int .i64 lb, .int .i64 ls]) rfl (fun w hSw => by have x3 := cell_later hSw y3; have x4 := cell_later hSw y4; go_simp) ?_
                  go_frame
                  refine wpAnyH_ready (rs := [4]) (by kernel_rfl) (by simp) ?_
                  refine AllReadyH.cons rfl (fun K hK => ?_) AllReadyH.nil
                  go_simp
                  refine (hh1 _ hHeld).mono ?_
                  rintro r wc ⟨rfl, hbc⟩
                  go_wp2_with fail
                  refine hK.out _ _ (Rt.Below.then hHeld hbc) (fun hH1 => ?_)
                  clear hbc hHeld
                  clear hK K
                  try go_frame
                  refine wpAnyH_ready (rs := [9]) (by kernel_rfl) (by simp) ?_
                  refine AllReadyH.cons rfl (fun K hK => ?_) AllReadyH.nil
                  go_simp
                  refine (hh2 _ hH1).mono ?_
                  rintro r wc ⟨rfl, hbc⟩
                  go_wp2_with fail
                  refine hK.out _ _ (Rt.Below.then hH1 hbc) (fun hH2 => ?_)
                  clear hbc hH1
                  clear hK K
                  try go_frame
                  refine opT 10 91 (.binOp .neq 4 (.tmp 85) (.tmp 90) 4) (.bool false) rfl ?_
                  go_frame
                  refine opT 11 92 (.move (.tmp 91)) (.bool false) rfl ?_
                  go_frame
                  refine opTg 12 93 (.move (.tmp 5)) (some (11, false)) (.pointer (some ⟨p, 0, none⟩)) rfl ?_
                  go_frame
                  refine opTg 13 94 (.fieldAddr 39 (.tmp 14) 1) (some (11, false)) (.pointer (some ⟨P, 1, none⟩)) rfl ?_
                  go_frame
                  refine opRg 14 95 (.load 35 (.tmp 94)) (some (11, false)) (.agg #[.int .i64 ub, .int .i64 us, .int .i64 lb, .int .i64 ls]) rfl (fun w hSw => by have x1 := cell_later hSw y1; have x2 := cell_later hSw y2; have x3 := cell_later hSw y3; have x4 := cell_later hSw y4; go_simp) ?_
                  go_frame
                  refine opTg 16 97 (.move (.tmp 6)) (some (11, false)) (.pointer (some ⟨p2, 0, none⟩)) rfl ?_
                  go_frame
                  refine opTg 17 98 (.fieldAddr 39 (.tmp 14) 1) (some (11, false)) (.pointer (some ⟨P, 1, none⟩)) rfl ?_
                  go_frame
                  refine opRg 18 99 (.load 35 (.tmp 98)) (some (11, false)) (.agg #[.int .i64 ub, .int .i64 us, .int .i64 lb, .int .i64 ls]) rfl (fun w hSw => by have x1 := cell_later hSw y1; have x2 := cell_later hSw y2; have x3 := cell_later hSw y3; have x4 := cell_later hSw y4; go_simp) ?_
                  go_frame
                  refine wpAnyH_ready (rs := [15]) (by kernel_rfl) (by simp) ?_
                  refine AllReadyH.cons rfl (fun K hK => ?_) AllReadyH.nil
                  go_simp
                  refine (hm1 _ hH2).mono ?_
                  rintro r wc ⟨rfl, hbc⟩
                  go_wp2_with fail
                  refine hK.out _ _ (Rt.Below.then hH2 hbc) (fun hH3 => ?_)
                  clear hbc hH2
                  clear hK K
                  try go_frame
                  refine wpAnyH_ready (rs := [19]) (by kernel_rfl) (by simp) ?_
                  refine AllReadyH.cons rfl (fun K hK => ?_) AllReadyH.nil
                  go_simp
                  refine (hm2 _ hH3).mono ?_
                  rintro r wc ⟨rfl, hbc⟩
                  go_wp2_with fail
                  refine hK.out _ _ (Rt.Below.then hH3 hbc) (fun hH4 => ?_)
                  clear hbc hH3
                  clear hK K
                  try go_frame
                  refine opTg 20 101 (.binOp .neq 4 (.tmp 96) (.tmp 100) 4) (some (11, false)) (.bool false) rfl ?_
                  go_frame
                  refine opT 21 102 (.pick (.tmp 92) (.const (.bool true)) (.tmp 101)) (.bool false) rfl ?_
                  go_frame
                  refine opT 22 103 (.move (.tmp 102)) (.bool false) rfl ?_
                  go_frame
                  refine opTg 23 104 (.move (.tmp 5)) (some (22, false)) (.pointer (some ⟨p, 0, none⟩)) rfl ?_
                  go_frame
                  refine opTg 24 105 (.fieldAddr 39 (.tmp 14) 2) (some (22, false)) (.pointer (some ⟨P, 5, none⟩)) rfl ?_
                  go_frame
                  refine opRg 25 106 (.load 37 (.tmp 105)) (some (22, false)) (.agg #[.int .i64 ep, .int .i64 s0, .int .i64 s1, .string tx]) rfl (fun w hSw => by have x5 := cell_later hSw y5; have x6 := cell_later hSw y6; have x7 := cell_later hSw y7; have x8 := cell_later hSw y8; go_simp) ?_
                  go_frame
                  refine opTg 27 108 (.move (.tmp 6)) (some (22, false)) (.pointer (some ⟨p2, 0, none⟩)) rfl ?_
                  go_frame
                  refine opTg 28 109 (.fieldAddr 39 (.tmp 14) 2) (some (22, false)) (.pointer (some ⟨P, 5, none⟩)) rfl ?_
                  go_frame
                  refine opRg 29 110 (.load 37 (.tmp 109)) (some (22, false)) (.agg #[.int .i64 ep, .int .i64 s0, .int .i64 s1, .string tx]) rfl (fun w hSw => by have x5 := cell_later hSw y5; have x6 := cell_later hSw y6; have x7 := cell_later hSw y7; have x8 := cell_later hSw y8; go_simp) ?_
                  go_frame
                  refine wpAnyH_ready (rs := [26]) (by kernel_rfl) (by simp) ?_
                  refine AllReadyH.cons rfl (fun K hK => ?_) AllReadyH.nil
                  go_simp
                  refine (hx1 _ hH4).mono ?_
                  rintro r wc ⟨rfl, hbc⟩
                  go_wp2_with fail
                  refine hK.out _ _ (Rt.Below.then hH4 hbc) (fun hH5 => ?_)
                  clear hbc hH4
                  clear hK K
                  try go_frame
                  refine wpAnyH_ready (rs := [30]) (by kernel_rfl) (by simp) ?_
                  refine AllReadyH.cons rfl (fun K hK => ?_) AllReadyH.nil
                  go_simp
                  refine (hx2 _ hH5).mono ?_
                  rintro r wc ⟨rfl, hbc⟩
                  go_wp2_with fail
                  refine hK.out _ _ (Rt.Below.then hH5 hbc) (fun hH6 => ?_)
                  clear hbc hH5
                  clear hK K
                  try go_frame
                  refine opTg 31 112 (.binOp .neq 4 (.tmp 107) (.tmp 111) 4) (some (22, false)) (.bool false) rfl ?_
                  go_frame
                  refine opT 32 113 (.pick (.tmp 103) (.const (.bool true)) (.tmp 112)) (.bool false) rfl ?_
                  go_frame
                  refine wpAnyH_done (by kernel_rfl) ?_ _
                  clear hh1 hh2 hm1 hm2 hx1 hx2 y0 y1 y2 y3 y4 y5 y6 y7 y8
                  go_wp2_with fail
                  go_roundw
                  case rel => exact ⟨k + 1, by omega, by go_num, HTB.out.later A hH6⟩
                  case measure => simp [intOf]; omega
                · obtain rfl : k = n := by omega
                  have dkk : decide ((k : Int) < (k : Int)) = false := by simp
                  clear hk hkn HT3
                  go_wp2_with fail
                  go_loopw [117] (fun i wx => ∃ (j : Nat) (E : List K2) (F : Nat → Prop), j ≤ z ∧ i = .int .i64 (j : Int) ∧ E.length ≤ 2 * j ∧ (∀ e ∈ E, Gd e.1 e.2 → HadL l e) ∧ Lk PAt w3 wx N N2 p p2 (toldL l ++ E) (boxL l) (txtL l) (toldL l2) (boxL l2) (txtL l2) F F2 ak ks) (fun i _ => z - (intOf i).toNat)
                  case atStart => exact ⟨0, [], F, by omega, rfl, by simp, by simp, by rw [List.append_nil]; exact HT.out⟩
                  case round =>
                    obtain ⟨j, E, F, hj, rfl, hE, hEh, hT⟩ := hrel
                    clear HT dkk
                    have HT : Hid (Lk PAt w3 wr N N2 p p2 (toldL l ++ E) (boxL l) (txtL l) (toldL l2) (boxL l2) (txtL l2) F F2 ak ks) := hT
                    have HE : Hid (E.length ≤ 2 * j ∧ ∀ e ∈ E, Gd e.1 e.2 → HadL l e) := ⟨hE, hEh⟩
                    have HRE : Hid (∀ E' : List K2, E'.length ≤ 65538 → Rm (toldL l ++ E') (boxL l) (txtL l)) := fun E' hE' => rm_more A (by have := HL.out.1; omega)
                    clear hT hE hEh
                    by_cases hjz : j < z
                    · have hjl : j < ks.length := by rw [HK.out.2.1]; exact hjz
                      obtain ⟨x, hx⟩ : ∃ x, ks.getD j (0, 0) = x := ⟨_, rfl⟩
                      have hxk : x ∈ ks := hx ▸ getD_of hjl
                      have hxh : HadL l x := keys_had HK.out.2.2.1 (by rw [HK.out.1]; exact hxk)
                      obtain ⟨b9, f9, ha, y0, y1⟩ := HT.out.rd j hjl
                      rw [hx] at y0 y1
                      obtain ⟨x0, x1⟩ := x
                      dsimp only at y0 y1
                      have hg : Gd x0 x1 := had_good hxh
                      obtain ⟨q0, q1⟩ : (wr.alloc (.cells #[.int .i64 x0, .int .i64 x1] 33)).cell? ⟨wr.heap.size, 0, none⟩ = some (.int .i64 x0) ∧ (wr.alloc (.cells #[.int .i64 x0, .int .i64 x1] 33)).cell? ⟨wr.heap.size, 1, none⟩ = some (.int .i64 x1) := boxed2 wr (.int .i64 x0) (.int .i64 x1) 33 0
                      have hT1 := HT.out.later A (Rt.below1 wr (.cells #[.int .i64 x0, .int .i64 x1] 33))
                      have hln := A.learn x0 x1 hT1.tw.a (Nat.le_trans hT1.tw.nn hT1.tw.sz) (HRE.out E (by have := HE.out.1; omega)) (WalkArith.wf_i64 (by have := hg.1; have := hg.2.1; omega)) (WalkArith.wf_i64 (by have := hg.2.2.1; have := hg.2.2.2; omega))
                      have hnF : ¬ F wr.heap.size := fun e => by have := (A.ge HT.out.tw.a _ e).2; omega
                      subst ha
                      have k1 : (0 : Int) ≤ (j : Int) := by omega
                      have k2 : (j : Int) < (z : Int) := by omega
                      have HX : Hid (HadL l (x0, x1) ∧ Gd x0 x1) := ⟨hxh, hg⟩
                      clear hjl hx hxk hxh hg
                      go_upto_region 31 with (fail)
                      clear y0 y1 k1 k2
                      obtain ⟨P, hP⟩ : ∃ P, wr.heap.size = P := ⟨_, rfl⟩
                      rw [hP] at q0 q1 hnF ⊢
                      generalize wr.alloc (.cells #[.int .i64 x0, .int .i64 x1] 33) = wB at *
                      have HTB : Hid (Lk PAt w3 wB N N2 p p2 (toldL l ++ E) (boxL l) (txtL l) (toldL l2) (boxL l2) (txtL l2) F F2 (some ⟨b9, f9, none⟩) ks) := hT1
                      have HQ : Hid (¬ F P) := hnF
                      clear hT1 hP hnF
                      go_upto_region 32 with (go_at_call 23; refine hln.mono ?_; rintro r wd ⟨rfl, hd⟩)
                      have r0 : wd.cell? ⟨P, 0, none⟩ = some (.int .i64 x0) := by obtain ⟨_, _, h2, _⟩ := hd; exact h2.cell q0 HQ.out
                      have r1 : wd.cell? ⟨P, 1, none⟩ = some (.int .i64 x1) := by obtain ⟨_, _, h2, _⟩ := hd; exact h2.cell q1 HQ.out
                      obtain ⟨F', hU⟩ := HTB.out.one A hd
                      rw [List.append_assoc] at hU
                      have HU : Hid (Lk PAt w3 wd N N2 p p2 (toldL l ++ (E ++ [(x0, x1)])) (boxL l) (txtL l) (toldL l2) (boxL l2) (txtL l2) F' F2 (some ⟨b9, f9, none⟩) ks) := hU
                      have hah := Rt.rAhead_in x0 x1 1 HX.out.2 (by decide) (by decide)
                      clear hln q0 q1 hd hU HTB HQ
                      by_cases hx1 : x1 + 1 ≤ 255
                      · simp only [if_pos hx1] at hah
                        go_upto_region 33 with (go_at_call 24; refine (hah _).mono ?_; rintro r wa ⟨rfl, hba⟩)
                        have hV := HU.out.later A (Rt.Below.then hba (Rt.below1 wa (.cells #[.int .i64 x0, .int .i64 (x1 + 1)] 33)))
                        obtain ⟨q0, q1⟩ : (wa.alloc (.cells #[.int .i64 x0, .int .i64 (x1 + 1)] 33)).cell? ⟨wa.heap.size, 0, none⟩ = some (.int .i64 x0) ∧ (wa.alloc (.cells #[.int .i64 x0, .int .i64 (x1 + 1)] 33)).cell? ⟨wa.heap.size, 1, none⟩ = some (.int .i64 (x1 + 1)) := boxed2 wa (.int .i64 x0) (.int .i64 (x1 + 1)) 33 0
                        have hg := HX.out.2
                        have hgy : Gd x0 (x1 + 1) := ⟨hg.1, hg.2.1, by have := hg.2.2.1; omega, hx1⟩
                        have HY : Hid (HadL l (x0, x1 + 1)) := had_on HX.out.1 (by omega) hgy
                        have hl2 := A.learn x0 (x1 + 1) hV.tw.a (Nat.le_trans hV.tw.nn hV.tw.sz) (HRE.out (E ++ [(x0, x1)]) (by have := HE.out.1; simp; omega)) (WalkArith.wf_i64 (by have := hg.1; have := hg.2.1; omega)) (WalkArith.wf_i64 (by have := hg.2.2.1; omega))
                        obtain ⟨Q, hQ⟩ : ∃ Q, wa.heap.size = Q := ⟨_, rfl⟩
                        rw [hQ] at q0 q1 ⊢
                        generalize wa.alloc (.cells #[.int .i64 x0, .int .i64 (x1 + 1)] 33) = wC at *
                        have HV : Hid (Lk PAt w3 wC N N2 p p2 (toldL l ++ (E ++ [(x0, x1)])) (boxL l) (txtL l) (toldL l2) (boxL l2) (txtL l2) F' F2 (some ⟨b9, f9, none⟩) ks) := hV
                        clear hg hgy hV hah hx1 r0 r1 hba hQ
                        go_wp2_with (go_at_call 23; refine hl2.mono ?_; rintro r we ⟨rfl, hd⟩)
                        go_roundw
                        case rel =>
                          obtain ⟨F4, h1⟩ := HV.out.one A hd
                          rw [List.append_assoc] at h1
                          exact ⟨j + 1, _, F4, by omega, by go_num, by have := HE.out.1; simp; omega, fun e he hg => by
                            rcases List.mem_append.1 he with h | h
                            · rcases List.mem_append.1 h with h | h
                              · exact HE.out.2 e h hg
                              · rw [List.mem_singleton] at h; exact h ▸ HX.out.1
                            · rw [List.mem_singleton] at h; exact h ▸ HY.out, h1⟩
                        case measure => simp [intOf]; omega
                      · simp only [if_neg hx1] at hah
                        go_wp2_with (go_at_call 24; refine (hah _).mono ?_; rintro r wa ⟨rfl, hba⟩)
                        go_roundw
                        case rel => exact ⟨j + 1, _, F', by omega, by go_num, by have := HE.out.1; simp; omega, fun e he hg => by
                            rcases List.mem_append.1 he with h | h
                            · exact HE.out.2 e h hg
                            · rw [List.mem_singleton] at h; exact h ▸ HX.out.1, HU.out.later A (Rt.Below.then hba (Rt.below1 _ _))⟩
                        case measure => simp [intOf]; omega
                    · obtain rfl : j = z := by omega
                      have dzz : decide ((j : Int) < (j : Int)) = false := by simp
                      have hkb := keys_same A HT.out.tw.a (HRE.out E (by have := HE.out.1; omega)) HK.out.2.2.1 (fun k => had_again HE.out.2 k)
                      rw [HK.out.1, HK.out.2.1] at hkb
                      have hsm := fun W a' c' h1 (h2 : Rt.RdAt W a' ks) => Rt.same_any ak a' ck c' ks W (by have := HK.out.2.1; omega) h1 h2
                      rw [HK.out.2.1] at hsm
                      clear hj hjz
                      go_wp2_with (first
                        | (go_at_call 21; refine hkb.mono ?_; rintro r wl ⟨al, cl, rfl, hrl, hbl⟩)
                        | (go_at_call 20; refine (hsm _ _ _ (HT.out.rd.later hbl) hrl).mono ?_; rintro r wm ⟨rfl, hbm⟩))
                      go_ret
                      exact ⟨rfl, HBF.out _ (HT.out.later A (Rt.Below.then hbl hbm)).tw.bel⟩
end Go.Proofs.Ytompgoaogomoaaa.Kn
