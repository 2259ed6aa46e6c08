/- NetApart's walk, by what is asked of the program's net. -/
import Derived.Test.YtcdibafcolhlgaaHd
import Derived.Test.YtcdibafcolhlgaaNePl
namespace Go.Proofs.Ytcdibafcolhlgaa.Ne
open Go.RowKit Go.Maps
set_option linter.unusedVariables false
set_option linter.unusedSimpArgs false

/- Nothing is dropped. -/
def Fresh (s : Nst) : Prop := OkS s ∧ ∀ b ∈ s.G, b = false
theorem Fresh.nil : Fresh ⟨[], []⟩ := ⟨OkS.nil, fun _ h => by cases h⟩
theorem Fresh.sent {s : Nst} (h : Fresh s) {f : Int} {t : ByteArray} (hf : wI f) (ht : t.size ≤ 9223372036854775807) : Fresh (s.sent f t) := ⟨h.1.sent hf ht, fun b hb => by
  rcases List.mem_append.1 hb with h1 | h1
  · exact h.2 b h1
  · rw [List.mem_singleton] at h1; exact h1⟩
theorem Fresh.waitN {s : Nst} (h : Fresh s) : ∀ k, k ≤ s.A.length → waitN s k = s.A.take k
  | 0, _ => by simp [Ne.waitN]
  | k + 1, hk => by
    have hg : s.G.getD k true = false := h.2 _ (getD_of (by rw [h.1.len]; omega))
    unfold Ne.waitN
    rw [hg, if_neg (by simp), h.waitN k (by omega), List.take_add_one, List.getD_eq_getElem?_getD, List.getElem?_eq_getElem (show k < s.A.length by omega)]
    rfl
theorem Fresh.wait {s : Nst} (h : Fresh s) : s.wait = s.A := by unfold Nst.wait; rw [h.waitN _ (Nat.le_refl _), List.take_length]
theorem Fresh.off {k : Int} : ¬ Nst.on ⟨[], []⟩ k := by rintro ⟨i, hi, _⟩; simp at hi
structure P3 (PAt : QPred) (w3 w : World) (N N1 N2 p p1 p2 : Nat) (s s2 : Nst) (F F1 : Nat → Prop) (va vg : Value) : Prop where
  a : PAt w N p s F
  o : PAt w N1 p1 ⟨[], []⟩ F1
  b : NAt w N2 p2 s2 va vg
  ao : ∀ k, F k → ¬ F1 k
  ab : ∀ k, F k → ¬ Fn p2 va vg k
  ob : ∀ k, F1 k → ¬ Fn p2 va vg k
  bel : Below N w3 w
  mn : N ≤ N1 ∧ N1 ≤ N2 ∧ N2 ≤ w.heap.size
section
variable {PAt : QPred} {w3 w w' w1 : World} {N N1 N2 p p1 p2 : Nat} {s s' s2 : Nst} {F F1 G : Nat → Prop} {va vg : Value}
theorem P3.lt (A : NApi PAt) (h : P3 PAt w3 w N N1 N2 p p1 p2 s s2 F F1 va vg) : ∀ k, (F k ∨ F1 k ∨ Fn p2 va vg k) → N ≤ k ∧ k < w.heap.size := by
  have hm := h.mn
  rintro k (e | e | e)
  · exact A.ge h.a k e
  · have := A.ge h.o k e; omega
  · have := h.b.ge k e; omega
theorem P3.kept (A : NApi PAt) (h : P3 PAt w3 w N N1 N2 p p1 p2 s s2 F F1 va vg) (hk : Kept G w w') (hG : ∀ k, (F k ∨ F1 k ∨ Fn p2 va vg k) → ¬ G k) (hN : ∀ k, G k → N ≤ k) : P3 PAt w3 w' N N1 N2 p p1 p2 s s2 F F1 va vg := by
  have hm := h.mn
  have hs := hk.size
  exact ⟨A.kept h.a hk fun k e => hG k (.inl e), A.kept h.o hk fun k e => hG k (.inr (.inl e)), h.b.kept hk fun k e => hG k (.inr (.inr e)), h.ao, h.ab, h.ob, h.bel.trans (hk.below (by omega) hN), by omega⟩
theorem P3.later (A : NApi PAt) (h : P3 PAt w3 w N N1 N2 p p1 p2 s s2 F F1 va vg) (hb : Below w.heap.size w w') : P3 PAt w3 w' N N1 N2 p p1 p2 s s2 F F1 va vg :=
  h.kept A (G := fun _ => False) (Kept.ofBelow hb) (fun _ _ e => e) fun _ e => e.elim
theorem P3.one (A : NApi PAt) (h : P3 PAt w3 w N N1 N2 p p1 p2 s s2 F F1 va vg) (hd : PQ PAt w w' N p s' F) : ∃ F', P3 PAt w3 w' N N1 N2 p p1 p2 s' s2 F' F1 va vg := by
  obtain ⟨F', h1, h2, h3⟩ := hd
  have hm := h.mn
  have hs := h2.size
  refine ⟨F', h1, A.kept h.o h2 (fun k e e' => h.ao k e' e), h.b.kept h2 (fun k e e' => h.ab k e' e), fun k e e' => ?_, fun k e e' => ?_, h.ob, h.bel.trans (h2.below (by omega) fun k e => (A.ge h.a k e).1), by omega⟩
  · rcases h3 k e with h4 | h4
    · exact h.ao k h4 e'
    · have := (A.ge h.o k e').2; omega
  · rcases h3 k e with h4 | h4
    · exact h.ab k h4 e'
    · have := (h.b.ge k e').2; omega
theorem P3.two (A : NApi PAt) (h : P3 PAt w3 w N N1 N2 p p1 p2 s s2 F F1 va vg) (hd : NP w w' N2 p2 s' va vg) : ∃ va' vg', P3 PAt w3 w' N N1 N2 p p1 p2 s s' F F1 va' vg' := by
  obtain ⟨va', vg', h1, h2, h3⟩ := hd
  have hm := h.mn
  have hs := h2.size
  refine ⟨va', vg', A.kept h.a h2 (fun k e e' => h.ab k e e'), A.kept h.o h2 (fun k e e' => h.ob k e e'), h1, h.ao, fun k e e' => ?_, fun k e e' => ?_, h.bel.trans ((h2.below (B := N2) (by omega) fun k e => (h.b.ge k e).1).mono (by omega)), by omega⟩
  · rcases h3 k e' with h4 | h4
    · exact h.ab k e h4
    · have := (A.ge h.a k e).2; omega
  · rcases h3 k e' with h4 | h4
    · exact h.ob k e h4
    · have := (A.ge h.o k e).2; omega
theorem P3.start (A : NApi PAt) (h1 : PAt w N p s F) (hN : N ≤ w.heap.size) (hb : Below w.heap.size w w1) (h2 : PAt w1 w.heap.size p1 ⟨[], []⟩ F1) : P3 PAt (w1.alloc (.cells #[.slice none 0 0, .slice none 0 0] 30)) (w1.alloc (.cells #[.slice none 0 0, .slice none 0 0] 30)) N w.heap.size w1.heap.size p p1 w1.heap.size s ⟨[], []⟩ F F1 (.slice none 0 0) (.slice none 0 0) := by
  have hs := hb.size
  have hs2 := (below1 w1 (.cells #[.slice none 0 0, .slice none 0 0] 30)).size
  exact ⟨A.later (A.later h1 hb) (below1 _ _), A.later h2 (below1 _ _), nAt_new w1, fun k e e' => by have h3 := (A.ge h1 k e).2; have h4 := (A.ge h2 k e').1; omega, fun k e e' => by have h3 := (A.ge h1 k e).2; have h4 := ((nAt_new w1).ge k e').1; omega, fun k e e' => by have h3 := (A.ge h2 k e).2; have h4 := ((nAt_new w1).ge k e').1; omega, Below.refl _ _, by omega⟩
end
theorem RdP.pre {w : World} {a : Option Addr} {l m : List Pt} (h : RdP w a (l ++ m)) : RdP w a l := fun i hi => by
  have h1 := h i (by rw [List.length_append]; omega)
  rwa [show (l ++ m).getD i zP = l.getD i zP by simp [List.getD_eq_getElem?_getD, List.getElem?_append_left hi]] at h1
theorem row_cap {w : World} {N t n c : Nat} {a : Option Addr} {xs : List Value} (h : w.ownsRow N t 3 (.slice a n c) n xs) (h0 : 0 < n) : n ≤ c := by
  rcases h.2 with ⟨h1, h2⟩ | ⟨g', cap', cur, hv, _, _, hnc, _⟩
  · omega
  · simp at hv; omega
structure E3 (PAt : QPred) (w3 : World) (N N1 N2 p p1 p2 : Nat) (s : Nst) (bk yk : Option Addr) (F F1 : Nat → Prop) (va vg : Value) (G : Nat → Prop) (W : World) : Prop where
  p3 : P3 PAt w3 W N N1 N2 p p1 p2 s s F F1 va vg
  hG : ∀ k, (F k ∨ F1 k ∨ Fn p2 va vg k) → ¬ G k
  rb : RdP W bk s.A
  ry : RdP W yk s.A
  nb : ∀ g o, bk = some ⟨g, o, none⟩ → ¬ G g
  ny : ∀ g o, yk = some ⟨g, o, none⟩ → ¬ G g
  ge : ∀ k, G k → N ≤ k
theorem E3.kept {PAt : QPred} (A : NApi PAt) {w3 W W' : World} {N N1 N2 p p1 p2 : Nat} {s : Nst} {bk yk : Option Addr} {F F1 G : Nat → Prop} {va vg : Value} (h : E3 PAt w3 N N1 N2 p p1 p2 s bk yk F F1 va vg G W) (hk : Kept G W W') : E3 PAt w3 N N1 N2 p p1 p2 s bk yk F F1 va vg G W' :=
  ⟨h.p3.kept A hk h.hG h.ge, h.hG, h.rb.kept hk h.nb, h.ry.kept hk h.ny, h.nb, h.ny, h.ge⟩
theorem E3.later {PAt : QPred} (A : NApi PAt) {w3 W W' : World} {N N1 N2 p p1 p2 : Nat} {s : Nst} {bk yk : Option Addr} {F F1 G : Nat → Prop} {va vg : Value} (h : E3 PAt w3 N N1 N2 p p1 p2 s bk yk F F1 va vg G W) (hb : Below W.heap.size W W') : E3 PAt w3 N N1 N2 p p1 p2 s bk yk F F1 va vg G W' := h.kept A (Kept.ofBelow hb)
theorem wait_own {PAt : QPred} (A : NApi PAt) {w : World} {N p z : Nat} {s : Nst} {F : Nat → Prop} (h : PAt w N p s F) (ho : Fresh s) (hl : s.A.length ≤ 4398046511104) (hz : s.A.length = z) :
    Calls Try.prog 15 #[.pointer (some ⟨p, 0, none⟩)] w fun e w' => ∃ a c, e = .returned (.slice a z c) ∧ w'.ownsRow w.heap.size 35 3 (.slice a z c) z (s.A.flatMap pC) ∧ RdP w' a s.A ∧ Below w.heap.size w w' := by
  subst hz
  refine (A.waiting h ho.1 hl).mono ?_
  rintro e w' ⟨v, rfl, hr, hb⟩
  rw [ho.wait] at hr
  obtain ⟨a, c, rfl, -⟩ := own_spell hr
  exact ⟨a, c, rfl, hr, rdP_of hr, hb⟩
theorem seen_own {PAt : QPred} (A : NApi PAt) {w : World} {N p z : Nat} {s : Nst} {F : Nat → Prop} (h : PAt w N p s F) (ho : OkS s) (hl : s.A.length ≤ 4398046511104) (hz : s.A.length = z) :
    Calls Try.prog 17 #[.pointer (some ⟨p, 0, none⟩)] w fun e w' => ∃ a c, e = .returned (.slice a z c) ∧ w'.ownsRow w.heap.size 35 3 (.slice a z c) z (s.A.flatMap pC) ∧ RdP w' a s.A ∧ Below w.heap.size w w' := by
  subst hz
  refine (A.seen h ho hl).mono ?_
  rintro e w' ⟨v, rfl, hr, hb⟩
  obtain ⟨a, c, rfl, -⟩ := own_spell hr
  exact ⟨a, c, rfl, hr, rdP_of hr, hb⟩
theorem rd_ge {w : World} {N t n c : Nat} {a : Option Addr} {xs : List Value} (h : w.ownsRow N t 3 (.slice a n c) n xs) : ∀ g o, a = some ⟨g, o, none⟩ → N ≤ g ∧ g < w.heap.size := fun g o e => h.lt g (by subst e; rfl)
set_option maxRecDepth 100000 in
set_option maxHeartbeats 20000000 in
theorem apart_walk {PAt : QPred} (A : NApi PAt) (a : Option Addr) (c : Nat) (l : List Pt) (w : World) (rd : RdP w a l) (hl : l.length * 32 ≤ 140737488351232) (ok : ∀ p ∈ l, wI p.1 ∧ wI p.2.1 ∧ p.2.2.size ≤ 9223372036854775807) :
    Calls Try.prog 5 #[.slice a l.length c] w fun e w' => e = .returned (.bool true) ∧ Below w.heap.size w w' := by
  obtain ⟨n, hn⟩ : ∃ n, l.length = n := ⟨_, rfl⟩
  have HL : Hid (l.length = n ∧ (∀ p ∈ l, wI p.1 ∧ wI p.2.1 ∧ p.2.2.size ≤ 9223372036854775807) ∧ RdP w a l) := ⟨hn, ok, rd⟩
  have hn2 : n ≤ 4398046510976 := by omega
  rw [hn]
  obtain ⟨i0, hi, hz0, hz1, hz2⟩ := info_parts infoP
  have hlv := fun W => lives_any A W
  have hnw := fun W => A.new W
  clear hn ok rd hl
  go_enter Try.func5, Try.ntmps5
  go_wp2_with fail
  refine (hlv _).mono ?_
  rintro r w1 ⟨rfl, hb1⟩
  go_upto_region 4 with (first
    | (go_at_call 7; have hbz := hbA; refine (hnw _).mono ?_; rintro r w3 ⟨p1, F1, rfl, hP2, hb3⟩)
    | (go_at_call 7; refine (hnw _).mono ?_; rintro r w2 ⟨p, F, rfl, hP, hbA⟩))
  obtain ⟨N, hN⟩ : ∃ N, w1.heap.size = N := ⟨_, rfl⟩
  rw [hN] at hP
  have hT := P3.start A hP (by rw [← hN]; exact hbA.size) hb3 hP2
  have HB3 : Hid (Below w.heap.size w (w3.alloc (.cells #[.slice none 0 0, .slice none 0 0] 30)) ∧ w.heap.size ≤ N) := ⟨Below.then hb1 (Below.then hbA (Below.then hb3 (below1 _ _))), by rw [← hN]; exact hb1.size⟩
  obtain ⟨p2, hp2⟩ : ∃ p2, w3.heap.size = p2 := ⟨_, rfl⟩
  rw [hp2] at hT ⊢
  obtain ⟨N2, hN2⟩ : ∃ N2, N2 = p2 := ⟨_, rfl⟩
  obtain ⟨N1, hN1⟩ : ∃ N1, w2.heap.size = N1 := ⟨_, rfl⟩
  have hT : P3 PAt (w3.alloc (.cells #[.slice none 0 0, .slice none 0 0] 30)) (w3.alloc (.cells #[.slice none 0 0, .slice none 0 0] 30)) N N1 N2 p p1 p2 ⟨[], []⟩ ⟨[], []⟩ F F1 (.slice none 0 0) (.slice none 0 0) := by rw [hN2, ← hN1]; exact hT
  generalize w3.alloc (.cells #[.slice none 0 0, .slice none 0 0] 30) = w4 at *
  have HT0 : Hid (P3 PAt w4 w4 N N1 N2 p p1 p2 ⟨[], []⟩ ⟨[], []⟩ F F1 (.slice none 0 0) (.slice none 0 0)) := hT
  have HBF : Hid (∀ W, Below N w4 W → Below w.heap.size w W) := fun W h => HB3.out.1.trans (h.mono HB3.out.2)
  clear hlv hnw hb1 hbA hb3 hP hP2 hN hp2 hN2 hN1 hT
  try clear hbz
  go_wp2_with fail
  go_loopw [22] (fun i wx => ∃ (k : Nat) (s : Nst) (F : Nat → Prop) (va vg : Value), k ≤ n ∧ i = .int .i64 (k : Int) ∧ Fresh s ∧ s.A.length = k ∧ P3 PAt w4 wx N N1 N2 p p1 p2 s s F F1 va vg) (fun i _ => n - (intOf i).toNat)
  case atStart => exact ⟨0, _, F, _, _, by omega, rfl, Fresh.nil, by simp, HT0.out⟩
  case round =>
    obtain ⟨k, s, F, va, vg, hk, rfl, hos, hsl, hT⟩ := hrel
    clear HT0
    have HT : Hid (P3 PAt w4 wr N N1 N2 p p1 p2 s s F F1 va vg) := hT
    have HO : Hid (Fresh s ∧ s.A.length = k) := ⟨hos, hsl⟩
    clear hT hos hsl
    by_cases hkn : k < n
    · have hkl : k < l.length := by rw [HL.out.1]; exact hkn
      obtain ⟨o, ho⟩ : ∃ o, l.getD k zP = o := ⟨_, rfl⟩
      have hko := HL.out.2.1 o (ho ▸ getD_of hkl)
      obtain ⟨b', f', ha, c0, c1, c2⟩ := (HL.out.2.2.later (HBF.out _ HT.out.bel)) k hkl
      rw [ho] at c0 c1 c2
      subst ha
      obtain ⟨kd, nn, tx⟩ := o
      dsimp only at c0 c1 c2
      have HOK : Hid (wI kd ∧ wI nn ∧ tx.size ≤ 9223372036854775807) := hko
      obtain ⟨y0, y1, y2⟩ := boxed3 wr (.int .i64 kd) (.int .i64 nn) (.string tx) 32
      have hT1 := HT.out.later A (below1 wr (.cells #[.int .i64 kd, .int .i64 nn, .string tx] 32))
      have hnF : ¬ F wr.heap.size := fun e => by have := (HT.out.lt A _ (.inl e)).2; omega
      have k1 : (0 : Int) ≤ (k : Int) := by omega
      have k2 : (k : Int) < (n : Int) := by omega
      clear hkl ho hko HT
      go_upto_region 7 with (fail)
      clear c0 c1 c2 k1 k2 y0
      obtain ⟨P, hP⟩ : ∃ P, wr.heap.size = P := ⟨_, rfl⟩
      rw [hP] at y1 y2 hnF ⊢
      generalize wr.alloc (.cells #[.int .i64 kd, .int .i64 nn, .string tx] 32) = wB at *
      have HTB : Hid (P3 PAt w4 wB N N1 N2 p p1 p2 s s F F1 va vg) := hT1
      have hlk : s.A.length < 4398046511104 := by have := HO.out.2; omega
      have hm := hT1.mn
      have hse := A.send nn tx hT1.a (by omega) HO.out.1.1 hlk HOK.out.2.1 HOK.out.2.2
      clear hP hT1 hm
      go_upto_region 8 with (go_at_call 8; refine hse.mono ?_; rintro r wd ⟨rfl, hd⟩)
      obtain ⟨F', hU⟩ := HTB.out.one A hd
      have hkd : Kept F wB wd := by obtain ⟨_, _, h2, _⟩ := hd; exact h2
      have y1 := hkd.cell y1 hnF
      have y2 := hkd.cell y2 hnF
      have hs2 := send_any wd N2 p2 s va vg nn tx hU.b hU.mn.2.2 hlk (by rw [HO.out.1.1.len]; exact hlk)
      have HU : Hid (P3 PAt w4 wd N N1 N2 p p1 p2 (s.sent nn tx) s F' F1 va vg) := hU
      clear hse hd hU hkd hnF HTB hlk
      go_upto_region 9 with (go_at_call 9; refine hs2.mono ?_; rintro r we ⟨rfl, hd⟩)
      obtain ⟨va', vg', hV⟩ := HU.out.two A hd
      have HV : Hid (P3 PAt w4 we N N1 N2 p p1 p2 (s.sent nn tx) (s.sent nn tx) F' F1 va' vg') := hV
      clear hs2 hd hV HU y1 y2
      go_wp2_with fail
      go_roundw
      case rel => exact ⟨k + 1, s.sent nn tx, F', va', vg', by omega, by go_num, HO.out.1.sent HOK.out.2.1 HOK.out.2.2, by have := HO.out.2; simp [Nst.sent]; omega, HV.out⟩
      case measure => simp [intOf]; omega
    · obtain rfl : k = n := by omega
      have dkk : decide ((k : Int) < (k : Int)) = false := by simp
      have HLN : Hid (s.A.length ≤ 4398046511104 ∧ k ≤ 4398046510976) := ⟨by have := HO.out.2; omega, by omega⟩
      have hw := fun W (hW : Below wr.heap.size wr W) => wait_own A (A.later HT.out.a hW) HO.out.1 HLN.out.1 HO.out.2
      have hs := fun W (hW : Below wr.heap.size wr W) => seen_own A (A.later HT.out.a hW) HO.out.1.1 HLN.out.1 HO.out.2
      have hb0 := Below.refl wr.heap.size wr
      clear hk hkn
      go_upto_region 11 with (first
        | (go_at_call 17; refine (hs _ hb57).mono ?_; rintro r w8 ⟨a8, c8, rfl, r8, d8, hb8⟩; have hb58 := Below.then hb57 hb8)
        | (go_at_call 17; refine (hs _ hb56).mono ?_; rintro r w7 ⟨a7, c7, rfl, r7, d7, hb7⟩; have hb57 := Below.then hb56 hb7)
        | (go_at_call 15; refine (hw _ hb5).mono ?_; rintro r w6 ⟨a6, c6, rfl, r6, d6, hb6⟩; have hb56 := Below.then hb5 hb6)
        | (go_at_call 15; refine (hw _ hb0).mono ?_; rintro r w5 ⟨a5, c5, rfl, r5, d5, hb5⟩))
      obtain ⟨GG, hGG⟩ : ∃ G : Nat → Prop, G = fun q => (Value.slice a5 k c5).ownBlock = some q ∨ (Value.slice a7 k c7).ownBlock = some q := ⟨_, rfl⟩
      have s5 := hb5.size
      have s6 := hb6.size
      have s7 := hb7.size
      have s8 := hb8.size
      have g5 := rd_ge r5
      have g6 := rd_ge r6
      have g7 := rd_ge r7
      have g8 := rd_ge r8
      have l5 : ∀ q, (Value.slice a5 k c5).ownBlock = some q → wr.heap.size ≤ q ∧ q < w5.heap.size := fun q e => r5.lt q e
      have l7 : ∀ q, (Value.slice a7 k c7).ownBlock = some q → w6.heap.size ≤ q ∧ q < w7.heap.size := fun q e => r7.lt q e
      have HAX : Hid (∀ q, (Value.slice a5 k c5).ownBlock = some q → (Value.slice a7 k c7).ownBlock ≠ some q) := fun q e e' => by have := (l5 q e).2; have := (l7 q e').1; omega
      have HE : Hid (E3 PAt w4 N N1 N2 p p1 p2 s a6 a8 F F1 va vg GG w8 ∧ w8.ownsRow wr.heap.size 35 3 (.slice a5 k c5) k (s.A.flatMap pC) ∧ w8.ownsRow w6.heap.size 35 3 (.slice a7 k c7) k (s.A.flatMap pC) ∧ wr.heap.size ≤ w8.heap.size ∧ w6.heap.size ≤ w8.heap.size) := by
        refine ⟨⟨HT.out.later A hb58, fun q e e' => ?_, (d6.later hb7).later hb8, d8, fun g o e e' => ?_, fun g o e e' => ?_, fun q e => ?_⟩, own_later r5 (Below.then hb6 (Below.then hb7 hb8)), own_later r7 hb8, by omega, by omega⟩
        · rw [hGG] at e'
          have h1 := (HT.out.lt A q e).2
          rcases e' with e' | e'
          · have := (l5 q e').1; omega
          · have := (l7 q e').1; omega
        · rw [hGG] at e'
          have h1 := g6 g o e
          rcases e' with e' | e'
          · have := (l5 g e').2; omega
          · have := (l7 g e').1; omega
        · rw [hGG] at e'
          have h1 := g8 g o e
          rcases e' with e' | e'
          · have := (l5 g e').2; omega
          · have := (l7 g e').2; omega
        · rw [hGG] at e
          have h1 := HT.out.mn
          rcases e with e' | e'
          · have := (l5 q e').1; omega
          · have := (l7 q e').1; omega
      have HGG : Hid (∀ q, ((Value.slice a5 k c5).ownBlock = some q ∨ (Value.slice a7 k c7).ownBlock = some q) → GG q) := fun q e => by rw [hGG]; exact e
      obtain ⟨S0, hS0⟩ : ∃ S0, wr.heap.size = S0 := ⟨_, rfl⟩
      obtain ⟨S2, hS2⟩ : ∃ S2, w6.heap.size = S2 := ⟨_, rfl⟩
      rw [hS0, hS2] at HE
      have hkb := HLN.out.2
      clear hGG s5 s6 s7 s8 g5 g6 g7 g8 l5 l7 hS0 hS2 hw hs r5 d5 r6 d6 r7 d7 r8 d8 hb0 hb5 hb6 hb7 hb8 hb56 hb57 hb58 dkk HT
      go_wp2_with fail
      go_loopw [49] (fun i wx => ∃ (j : Nat) (xs xt : List Value), j ≤ k ∧ i = .int .i64 (j : Int) ∧ E3 PAt w4 N N1 N2 p p1 p2 s a6 a8 F F1 va vg GG wx ∧ wx.ownsRow S0 35 3 (.slice a5 k c5) k xs ∧ wx.ownsRow S2 35 3 (.slice a7 k c7) k xt ∧ S0 ≤ wx.heap.size ∧ S2 ≤ wx.heap.size) (fun i _ => k - (intOf i).toNat)
      case atStart => exact ⟨0, _, _, by omega, rfl, HE.out.1, HE.out.2.1, HE.out.2.2.1, HE.out.2.2.2.1, HE.out.2.2.2.2⟩
      case round =>
        obtain ⟨j, xs, xt, hj, rfl, he, hra, hrx, hs0, hs2⟩ := hrel
        clear HE
        have HE : Hid (E3 PAt w4 N N1 N2 p p1 p2 s a6 a8 F F1 va vg GG wr ∧ wr.ownsRow S0 35 3 (.slice a5 k c5) k xs ∧ wr.ownsRow S2 35 3 (.slice a7 k c7) k xt ∧ S0 ≤ wr.heap.size ∧ S2 ≤ wr.heap.size) := ⟨he, hra, hrx, hs0, hs2⟩
        by_cases hjz : j < k
        · obtain ⟨ga, rfl⟩ : ∃ ga, a5 = some ⟨ga, 0, none⟩ := by
            rcases hra.2 with ⟨_, h0⟩ | ⟨g', cap', cur, hv, _⟩
            · omega
            · simp at hv; exact ⟨g', hv.1⟩
          have hxl : xs.length = k * 3 := hra.1
          have q0 : wr.cell? ⟨ga, j * 3, none⟩ = some (xs[j * 3]'(by omega)) := by rw [hra.cellAt (j * 3) (by omega)]; exact List.getElem?_eq_getElem _
          have q1 : wr.cell? ⟨ga, j * 3 + 1, none⟩ = some (xs[j * 3 + 1]'(by omega)) := by rw [hra.cellAt (j * 3 + 1) (by omega)]; exact List.getElem?_eq_getElem _
          have q2 : wr.cell? ⟨ga, j * 3 + 2, none⟩ = some (xs[j * 3 + 2]'(by omega)) := by rw [hra.cellAt (j * 3 + 2) (by omega)]; exact List.getElem?_eq_getElem _
          have f0 := hra.frozenAt (j * 3)
          have f1 := hra.frozenAt (j * 3 + 1)
          have f2 := hra.frozenAt (j * 3 + 2)
          have HST : Hid _ := (((hra.stored (j * 3) (.int .i64 (-1))).1.stored (j * 3 + 1) (.int .i64 0)).1.stored (j * 3 + 2) (.string ⟨#[]⟩)).1
          have i1 : (0 : Int) ≤ (j : Int) := by omega
          have i2 : (j : Int) < (k : Int) := by omega
          clear hra hrx he
          go_wp2_with fail
          go_roundw
          case rel =>
            have hkk : Kept (fun k_1 => k_1 = ga) wr (((wr.setCell ⟨ga, j * 3, none⟩ (.int .i64 (-1))).setCell ⟨ga, j * 3 + 1, none⟩ (.int .i64 0)).setCell ⟨ga, j * 3 + 2, none⟩ (.string ⟨#[]⟩)) := (((Kept.refl (fun k_1 => k_1 = ga) wr).setCell (p := ⟨ga, j * 3, none⟩) (fun _ => rfl) _).setCell (p := ⟨ga, j * 3 + 1, none⟩) (fun _ => rfl) _).setCell (p := ⟨ga, j * 3 + 2, none⟩) (fun _ => rfl) _
            refine ⟨j + 1, _, _, by omega, by go_num, HE.out.1.kept A (hkk.mono fun q _ e => HGG.out q (.inl (e ▸ rfl))), HST.out, hkk.row HE.out.2.2.1 (fun q e e' => HAX.out q (e' ▸ rfl) e), by have := hkk.size; have := HE.out.2.2.2.1; omega, by have := hkk.size; have := HE.out.2.2.2.2; omega⟩
          case measure => simp [intOf]; omega
        · have hjz' : decide ((j : Int) < (k : Int)) = false := by simp; omega
          clear he hra hrx hs0 hs2 hj
          go_wp2_with fail
          go_loopw [59] (fun i wx => ∃ (j : Nat) (xs xt : List Value), j ≤ k ∧ i = .int .i64 (j : Int) ∧ E3 PAt w4 N N1 N2 p p1 p2 s a6 a8 F F1 va vg GG wx ∧ wx.ownsRow S0 35 3 (.slice a5 k c5) k xs ∧ wx.ownsRow S2 35 3 (.slice a7 k c7) k xt ∧ S0 ≤ wx.heap.size ∧ S2 ≤ wx.heap.size) (fun i _ => k - (intOf i).toNat)
          case atStart => exact ⟨0, _, _, by omega, rfl, HE.out.1, HE.out.2.1, HE.out.2.2.1, HE.out.2.2.2.1, HE.out.2.2.2.2⟩
          case round =>
            obtain ⟨j, xs, xt, hj, rfl, he, hra, hrx, hs0, hs2⟩ := hrel
            clear HE
            have HE : Hid (E3 PAt w4 N N1 N2 p p1 p2 s a6 a8 F F1 va vg GG wr ∧ wr.ownsRow S0 35 3 (.slice a5 k c5) k xs ∧ wr.ownsRow S2 35 3 (.slice a7 k c7) k xt ∧ S0 ≤ wr.heap.size ∧ S2 ≤ wr.heap.size) := ⟨he, hra, hrx, hs0, hs2⟩
            by_cases hjz : j < k
            · obtain ⟨ga, rfl⟩ : ∃ ga, a7 = some ⟨ga, 0, none⟩ := by
                rcases hrx.2 with ⟨_, h0⟩ | ⟨g', cap', cur, hv, _⟩
                · omega
                · simp at hv; exact ⟨g', hv.1⟩
              have hxl : xt.length = k * 3 := hrx.1
              have q0 : wr.cell? ⟨ga, j * 3, none⟩ = some (xt[j * 3]'(by omega)) := by rw [hrx.cellAt (j * 3) (by omega)]; exact List.getElem?_eq_getElem _
              have q1 : wr.cell? ⟨ga, j * 3 + 1, none⟩ = some (xt[j * 3 + 1]'(by omega)) := by rw [hrx.cellAt (j * 3 + 1) (by omega)]; exact List.getElem?_eq_getElem _
              have q2 : wr.cell? ⟨ga, j * 3 + 2, none⟩ = some (xt[j * 3 + 2]'(by omega)) := by rw [hrx.cellAt (j * 3 + 2) (by omega)]; exact List.getElem?_eq_getElem _
              have f0 := hrx.frozenAt (j * 3)
              have f1 := hrx.frozenAt (j * 3 + 1)
              have f2 := hrx.frozenAt (j * 3 + 2)
              have HST : Hid _ := (((hrx.stored (j * 3) (.int .i64 (-2))).1.stored (j * 3 + 1) (.int .i64 0)).1.stored (j * 3 + 2) (.string ⟨#[]⟩)).1
              have i1 : (0 : Int) ≤ (j : Int) := by omega
              have i2 : (j : Int) < (k : Int) := by omega
              clear hra hrx he
              go_wp2_with fail
              go_roundw
              case rel =>
                have hkk : Kept (fun k_1 => k_1 = ga) wr (((wr.setCell ⟨ga, j * 3, none⟩ (.int .i64 (-2))).setCell ⟨ga, j * 3 + 1, none⟩ (.int .i64 0)).setCell ⟨ga, j * 3 + 2, none⟩ (.string ⟨#[]⟩)) := (((Kept.refl (fun k_1 => k_1 = ga) wr).setCell (p := ⟨ga, j * 3, none⟩) (fun _ => rfl) _).setCell (p := ⟨ga, j * 3 + 1, none⟩) (fun _ => rfl) _).setCell (p := ⟨ga, j * 3 + 2, none⟩) (fun _ => rfl) _
                refine ⟨j + 1, _, _, by omega, by go_num, HE.out.1.kept A (hkk.mono fun q _ e => HGG.out q (.inr (e ▸ rfl))), hkk.row HE.out.2.1 (fun q e e' => HAX.out q e (e' ▸ rfl)), HST.out, by have := hkk.size; have := HE.out.2.2.2.1; omega, by have := hkk.size; have := HE.out.2.2.2.2; omega⟩
              case measure => simp [intOf]; omega
            · have hjz' : decide ((j : Int) < (k : Int)) = false := by simp; omega
              clear he hra hrx hs0 hs2 hj
              have hs0 := HE.out.2.2.2.1
              have hs2 := HE.out.2.2.2.2
              go_upto_region 22 with (at_builtin; refine wpList_append_lies _ rfl _ _ _ rfl S0 35 i0 _ 3 32 Try.underlying27 hi hz0 hz1 hz2 rfl (by omega) _ k xs rfl (own_later HE.out.2.1 (below1 _ _)) ⟨wr.heap.size, 0, none⟩ 1 1 [.int .i64 (-3), .int .i64 0, .string ⟨#[]⟩] rfl rfl (news_of (_root_.Go.heap_alloc_last _ _)) (by simp [Value.oneCell']) (by omega) (by unfold maxLen; omega) (by omega) (by simp; omega) (wr.heap.size + 1) (by simp) ?_; intro g9 c9 w9 hown hgrow hat hlt)
              have hkA : Kept (fun q => (Value.slice a5 k c5).ownBlock = some q) wr w9 := (Kept.ofBelow (below1 wr _)).grown hgrow (fun q e _ => e)
              have HE9 : Hid (E3 PAt w4 N N1 N2 p p1 p2 s a6 a8 F F1 va vg GG w9 ∧ w9.ownsRow S2 35 3 (.slice a7 k c7) k xt) := ⟨HE.out.1.kept A (hkA.mono fun q _ e => HGG.out q (.inl e)), hkA.row HE.out.2.2.1 (fun q e e' => HAX.out q e' e)⟩
              have hs9 : S2 ≤ w9.heap.size := Nat.le_trans hs2 hkA.size
              clear hown hgrow hat hlt hkA HE hs0 hs2 hjz hjz'
              go_upto_region 23 with (at_builtin; refine wpList_append_lies _ rfl _ _ _ rfl S2 35 i0 _ 3 32 Try.underlying27 hi hz0 hz1 hz2 rfl (by omega) _ k xt rfl (own_later HE9.out.2 (below1 _ _)) ⟨w9.heap.size, 0, none⟩ 1 1 [.int .i64 (-4), .int .i64 0, .string ⟨#[]⟩] rfl rfl (news_of (_root_.Go.heap_alloc_last _ _)) (by simp [Value.oneCell']) (by omega) (by unfold maxLen; omega) (by omega) (by simp; omega) (w9.heap.size + 1) (by simp) ?_; intro g10 c10 w10 hown hgrow hat hlt)
              have hkA : Kept (fun q => (Value.slice a7 k c7).ownBlock = some q) w9 w10 := (Kept.ofBelow (below1 w9 _)).grown hgrow (fun q e _ => e)
              have HE10 : Hid (E3 PAt w4 N N1 N2 p p1 p2 s a6 a8 F F1 va vg GG w10) := HE9.out.1.kept A (hkA.mono fun q _ e => HGG.out q (.inr e))
              have qx : w10.cell? ⟨g10, k * 3, none⟩ = some (.int .i64 (-4)) := by
                have hxl : xt.length = k * 3 := HE9.out.2.1
                rw [hown.cellAt (k * 3) (by omega), List.getElem?_append_right (by omega), hxl]
                simp
              obtain ⟨aA, cA, hvA, -⟩ := own_spell HE10.out.p3.b.all
              rw [HO.out.2] at hvA
              have HVA : Hid (va = .slice aA k cA) := hvA
              have HRA : Hid (∀ W, NAt W N2 p2 s va vg → RdP W aA s.A ∧ W.cell? ⟨p2, 0, none⟩ = some (.slice aA k cA)) := fun W h => by
                have h1 := h.all
                have h2 := h.c0
                rw [HVA.out] at h1 h2
                have e := HO.out.2
                subst e
                exact ⟨rdP_of h1, h2⟩
              have c0 := (HRA.out _ HE10.out.p3.b).2
              have hsm := fun W b1 b2 d1 d2 (h1 : RdP W b1 s.A) (h2 : RdP W b2 s.A) => same_z b1 b2 d1 d2 k s.A W HO.out.2 (by omega) h1 h2
              have hso := fun W (hW : Below w10.heap.size w10 W) => seen_own (z := 0) A (A.later HE10.out.p3.o hW) OkS.nil (by simp) rfl
              have hro := (HRA.out _ HE10.out.p3.b).1
              have hrb := HE10.out.rb
              have hry := HE10.out.ry
              have hwk : IntKind.i64.wrap ((k : Int) + 1) = (k : Int) + 1 := i64_fit _ (by omega) (by omega)
              have hwx : IntKind.i64.wrap ((k : Int) + 1 - 1) = (k : Int) := by rw [show (k : Int) + 1 - 1 = (k : Int) by omega]; exact i64_fit _ (by omega) (by omega)
              have i1 : (0 : Int) ≤ (k : Int) := by omega
              have i2 : (k : Int) < (k : Int) + 1 := by omega
              clear hown hgrow hat hlt hkA hvA hs9 HE9
              go_upto_region 25 with (first
                | (go_at_call 14; refine (hsm _ _ _ _ _ (hry.later hb11) (hro.later hb11)).mono ?_; rintro r w12 ⟨rfl, hb12⟩; have hb12' := Below.then hb11 hb12; have qx := cell_later hb12 qx)
                | (go_at_call 14; refine (hsm _ _ _ _ _ hrb hro).mono ?_; rintro r w11 ⟨rfl, hb11⟩; have c0 := cell_later hb11 c0; have qx := cell_later hb11 qx)
                | (go_at_call 17; refine (hso _ hb12').mono ?_; rintro r w13 ⟨a13, c13, rfl, -, -, hb13⟩; have qx := cell_later hb13 qx))
              have hb14x := Below.then hb12' hb13
              have hdr := A.drop_no 1 (A.later HE10.out.p3.o hb14x) OkS.nil (by simp) (by unfold wI; decide) Fresh.off
              clear hso hro hrb hry qx c0
              go_upto_region 26 with (go_at_call 12; refine hdr.mono ?_; rintro r w14 ⟨rfl, hb14⟩)
              have hZ : P3 PAt w4 w14.drew N N1 N2 p p1 p2 s s F F1 va vg := HE10.out.p3.later A (Below.then hb14x (Below.then hb14 (Below.refl _ _).drew))
              have HZ : Hid (P3 PAt w4 w14.drew N N1 N2 p p1 p2 s s F F1 va vg) := hZ
              have hmn := hZ.mn
              have hlk : s.A.length < 4398046511104 := by have := HO.out.2; omega
              have hse := A.send 7 ⟨#[122]⟩ hZ.a (by omega) HO.out.1.1 hlk (by unfold wI; decide) (by decide)
              rw [HO.out.2] at hse
              have hS0 : w14.drew.cell? ⟨p2, 0, none⟩ = some (.slice aA k cA) := (HRA.out _ hZ.b).2
              have HSN : Hid (OkS (s.sent 7 ⟨#[122]⟩) ∧ (s.sent 7 ⟨#[122]⟩).A.length = k + 1) := ⟨HO.out.1.1.sent (by unfold wI; decide) (by decide), by have := HO.out.2; simp [Nst.sent]; omega⟩
              clear hb11 hb12 hb12' hb13 hb14x hb14 hdr hZ hmn hlk hwx HE10
              refine wp_region_held_drew (S := fun W => W.cell? ⟨p2, 0, none⟩ = some (.slice aA k cA)) (by kernel_rfl) hS0 (fun hHeld => ?_)
              refine opT 0 117 (.move (.tmp 3)) (.pointer (some ⟨p, 0, none⟩)) rfl ?_
              go_frame
              refine opT 2 119 (.move (.tmp 5)) (.pointer (some ⟨p2, 0, none⟩)) rfl ?_
              go_frame
              refine opT 3 120 (.nilCheck (.tmp 119)) (.pointer (some ⟨p2, 0, none⟩)) rfl ?_
              go_frame
              refine opT 4 121 (.fieldAddr 30 (.tmp 120) 0) (.pointer (some ⟨p2, 0, none⟩)) rfl ?_
              go_frame
              refine opR 5 122 (.load 27 (.tmp 121)) (.slice aA k cA) rfl (fun w hSw => by have x0 := hSw; go_simp) ?_
              go_frame
              refine opT 6 123 (.call { callee := .builtin .len, args := #[(.tmp 122)], argTypes := #[27] }) (.int .i64 (k : Int)) rfl ?_
              go_frame
              refine opT 7 124 (.binOp .add 3 (.tmp 123) (.const (.int .i64 1)) 3) (.int .i64 ((k : Int) + 1)) rfl ?_
              go_frame
              refine wpAnyH_ready (rs := [1]) (by kernel_rfl) (by simp) ?_
              refine AllReadyH.cons rfl (fun K hK => ?_) AllReadyH.nil
              go_simp
              refine hse.mono ?_
              rintro r wc ⟨rfl, hd⟩
              obtain ⟨F', hU⟩ := HZ.out.one A hd
              have HU : Hid (P3 PAt w4 wc N N1 N2 p p1 p2 (s.sent 7 ⟨#[122]⟩) s F' F1 va vg) := hU
              have hS1 : wc.cell? ⟨p2, 0, none⟩ = some (.slice aA k cA) := (HRA.out _ hU.b).2
              clear hd hU
              go_wp2_with fail
              refine hK.out _ _ hS1 (fun hH1 => ?_)
              clear hHeld hS1
              clear hK K
              try go_frame
              refine opT 8 125 (.binOp .eql 3 (.tmp 118) (.tmp 124) 3) (.bool true) rfl ?_
              go_frame
              refine opT 9 126 (.move (.tmp 125)) (.bool true) rfl ?_
              go_frame
              refine opTg 10 127 (.move (.tmp 3)) (some (9, true)) (.pointer (some ⟨p, 0, none⟩)) rfl ?_
              go_frame
              refine opTg 12 129 (.move (.tmp 5)) (some (9, true)) (.pointer (some ⟨p2, 0, none⟩)) rfl ?_
              go_frame
              refine opTg 13 130 (.nilCheck (.tmp 129)) (some (9, true)) (.pointer (some ⟨p2, 0, none⟩)) rfl ?_
              go_frame
              refine opTg 14 131 (.fieldAddr 30 (.tmp 130) 0) (some (9, true)) (.pointer (some ⟨p2, 0, none⟩)) rfl ?_
              go_frame
              refine opRg 15 132 (.load 27 (.tmp 131)) (some (9, true)) (.slice aA k cA) rfl (fun w hSw => by have x0 := hSw; go_simp) ?_
              go_frame
              refine opTg 16 133 (.call { callee := .builtin .len, args := #[(.tmp 132)], argTypes := #[27] }) (some (9, true)) (.int .i64 (k : Int)) rfl ?_
              go_frame
              refine opTg 18 135 (.move (.tmp 5)) (some (9, true)) (.pointer (some ⟨p2, 0, none⟩)) rfl ?_
              go_frame
              refine opTg 19 136 (.nilCheck (.tmp 135)) (some (9, true)) (.pointer (some ⟨p2, 0, none⟩)) rfl ?_
              go_frame
              refine opTg 20 137 (.fieldAddr 30 (.tmp 136) 0) (some (9, true)) (.pointer (some ⟨p2, 0, none⟩)) rfl ?_
              go_frame
              refine opRg 21 138 (.load 27 (.tmp 137)) (some (9, true)) (.slice aA k cA) rfl (fun w hSw => by have x0 := hSw; go_simp) ?_
              go_frame
              refine wpAnyH_ready (rs := [11]) (by kernel_rfl) (by simp) ?_
              refine AllReadyH.cons rfl (fun K hK => ?_) AllReadyH.nil
              go_simp
              refine (seen_own A HU.out.a HSN.out.1 (by have := HSN.out.2; omega) HSN.out.2).mono ?_
              rintro r wd ⟨b11, e11, rfl, r11, d11, hbd⟩
              have hcap : k + 1 ≤ e11 := row_cap r11 (by omega)
              have hcap2 : (k : Int) ≤ (e11 : Int) := by omega
              have hpre : RdP wd b11 s.A := RdP.pre (m := [((s.A.length : Int) + 1, (7, ⟨#[122]⟩))]) d11
              have HV : Hid (P3 PAt w4 wd N N1 N2 p p1 p2 (s.sent 7 ⟨#[122]⟩) s F' F1 va vg) := HU.out.later A hbd
              have hS2 : wd.cell? ⟨p2, 0, none⟩ = some (.slice aA k cA) := (HRA.out _ HV.out.b).2
              have hrA := (HRA.out _ HV.out.b).1
              clear r11 d11 hbd
              go_wp2_with fail
              refine hK.out _ _ hS2 (fun hH2 => ?_)
              clear hH1 hS2
              clear hK K
              try go_frame
              refine opTg 17 134 (.slice 27 (.tmp 128) none (some (.tmp 133)) none) (some (9, true)) (.slice b11 k e11) rfl ?_
              go_frame
              refine wpAnyH_ready (rs := [22]) (by kernel_rfl) (by simp) ?_
              refine AllReadyH.cons rfl (fun K hK => ?_) AllReadyH.nil
              go_simp
              refine (hsm _ _ _ _ _ hpre hrA).mono ?_
              rintro r we ⟨rfl, hbe⟩
              have HY : Hid (P3 PAt w4 we N N1 N2 p p1 p2 (s.sent 7 ⟨#[122]⟩) s F' F1 va vg) := HV.out.later A hbe
              have hS3 : we.cell? ⟨p2, 0, none⟩ = some (.slice aA k cA) := (HRA.out _ HY.out.b).2
              clear hbe hpre hrA
              go_wp2_with fail
              refine hK.out _ _ hS3 (fun hH3 => ?_)
              clear hH2 hS3
              clear hK K
              try go_frame
              refine opT 23 140 (.pick (.tmp 126) (.tmp 139) (.const (.bool false))) (.bool true) rfl ?_
              go_frame
              refine opT 24 2 (.assign (.tmp 140)) (.bool true) rfl ?_
              go_frame
              refine wpAnyH_done (by kernel_rfl) ?_ _
              go_wp2_with fail
              go_ret
              exact ⟨rfl, HBF.out _ HY.out.bel⟩
end Go.Proofs.Ytcdibafcolhlgaa.Ne
