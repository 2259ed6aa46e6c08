/- Rows of steps on plain data: a key's name has one node, and is advanced as long as it is there; what opened members give. -/
import Derived.Test.YtpimbpfefhkojabGreatDoorPlJ1
namespace Go.Proofs.YtpimbpfefhkojabGreatDoor
open Rt (Ky zK)
open Rs (En zE tkn fnd evs evl)
open Sh (belB)
set_option linter.unusedVariables false
set_option linter.unusedSimpArgs false

structure Row (T : Nat → Tr) (Ls Js : Nat → List Int) (n : Nat) : Prop where
  ok0 : tck (T 0) = true
  ep0 : (T 0).ep = 0
  stp : ∀ i, i < n → Stp (T i) (Ls i) (Js i)
  nxt : ∀ i, i < n → T (i + 1) = nx (T i) (Ls i) (Js i)
section
variable {T : Nat → Tr} {Ls Js : Nat → List Int} {n : Nat}
theorem Row.ok (h : Row T Ls Js n) : ∀ i, i ≤ n → tck (T i) = true
  | 0, _ => h.ok0
  | i + 1, hi => by rw [h.nxt i (by omega)]; exact (h.stp i (by omega)).tckn
theorem Row.ep (h : Row T Ls Js n) : ∀ i, i ≤ n → (T i).ep = (i : Int)
  | 0, _ => h.ep0
  | i + 1, hi => by
    rw [h.nxt i (by omega)]
    show (T i).ep + 1 = _
    rw [h.ep i (by omega)]
    push_cast
    rfl
theorem Row.le (h : Row T Ls Js n) : n ≤ 200 := by
  have h1 := h.ep n (Nat.le_refl _)
  have h2 := (tck_right (h.ok n (Nat.le_refl _))).e1
  omega
theorem Row.fr (h : Row T Ls Js n) (e : Nat) : ∀ d, e + d ≤ n → (T e).fr ≤ (T (e + d)).fr
  | 0, _ => Int.le_refl _
  | d + 1, hd => by
    have ih := h.fr e d (by omega)
    have h1 : (T (e + d)).fr ≤ (T (e + (d + 1))).fr := by
      rw [show e + (d + 1) = e + d + 1 by omega, h.nxt (e + d) (by omega)]
      show _ ≤ plF (T (e + d)) (Ls (e + d)) + ((Js (e + d)).length : Int)
      have := plF_ge (T (e + d)) (Ls (e + d))
      omega
    omega
/- One name: one node, advanced at each step. -/
theorem Row.one (h : Row T Ls Js n) (e : Nat) {c : Nat} (hc : c < 85) (h0 : koE (T e) (c : Int) = 0) : ∀ (d : Nat) {c' : Nat}, e + d ≤ n → c' < 85 → koE (T (e + d)) (c' : Int) = 0 → (koK (T (e + d)) (c' : Int)).bas = (koK (T e) (c : Int)).bas →
    c' = c ∧ (∀ k, k ≤ d → koE (T (e + k)) (c : Int) = 0 ∧ (koK (T (e + k)) (c : Int)).bas = (koK (T e) (c : Int)).bas) ∧ (koK (T (e + d)) (c : Int)).stp = (koK (T e) (c : Int)).stp + (d : Int)
  | 0, c', hd, hc', h1, he => by
    have e1 := koK_name (h.ok e (by omega)) hc' hc h1 h0 he
    refine ⟨e1, fun k hk => ?_, by simp⟩
    obtain rfl : k = 0 := by omega
    exact ⟨h0, rfl⟩
  | d + 1, c', hd, hc', h1, he => by
    have hs := h.stp (e + d) (by omega)
    have hn := h.nxt (e + d) (by omega)
    have e2 : e + (d + 1) = e + d + 1 := by omega
    rw [e2, hn] at h1 he
    rcases new_key hs hc' h1 with hf | ⟨hk, _, _⟩
    · exfalso
      have a1 := (kn_fit (h.ok e (by omega)) hc h0).2.1
      have a2 := h.fr e d (by omega)
      omega
    · obtain ⟨i1, i2, i3⟩ := h.one e hc h0 d (by omega) hc' hk.was (hk.bas.symm.trans he)
      subst i1
      refine ⟨rfl, fun k hkd => ?_, ?_⟩
      · rcases Nat.lt_or_ge k (d + 1) with c1 | c1
        · exact i2 k (by omega)
        · obtain rfl : k = d + 1 := by omega
          rw [e2, hn]
          exact ⟨h1, he⟩
      · rw [e2, hn, hk.stp, i3]
        push_cast
        omega
/- Of two keys of one name the later has the greater step. -/
theorem Row.later (h : Row T Ls Js n) {e e' c c' : Nat} (he : e ≤ n) (he' : e' ≤ n) (hc : c < 85) (hc' : c' < 85) (h0 : koE (T e) (c : Int) = 0) (h1 : koE (T e') (c' : Int) = 0) (hn : (koK (T e') (c' : Int)).bas = (koK (T e) (c : Int)).bas) (hs : (koK (T e) (c : Int)).stp ≤ (koK (T e') (c' : Int)).stp) : e ≤ e' := by
  rcases Nat.lt_or_ge e' e with hl | hl
  · exfalso
    obtain ⟨d, rfl⟩ : ∃ d, e = e' + d := ⟨e - e', by omega⟩
    obtain ⟨i1, _, i3⟩ := h.one e' hc' h1 d (by omega) hc h0 hn.symm
    subst i1
    omega
  · exact hl
/- Who was opened, and stayed on. -/
structure On (T : Nat → Tr) (x : Int × Int) (g e : Nat) : Prop where
  at' : x.2 = (g : Int)
  le : g ≤ e
  on : ∀ i, g ≤ i → i ≤ e → fnd (T i).ro x.1 ≠ -1
def Exc (T : Nat → Tr) (met : List (Int × Int)) (e c : Nat) : Prop := ∃ x ∈ met, ∃ g s : Nat, On T x g e ∧ s < 64 ∧ fnd (T e).ro x.1 = (s : Int) ∧ belB (c : Int) (21 + (s : Int)) = true
theorem stays_on {t : Tr} {L J : List Int} (h : Stp t L J) {x : Int} {s : Nat} (hf : fnd t.ro x = (s : Int)) (hs : s < 64) (ht : tkn (t.ro s) = true) (hw : (t.ro s).who = x) (hL : x ∉ L) : fnd (nx t L J).ro x = (s : Int) := by
  have e := h.stays ht (by rw [hw]; exact hL)
  have := h.right.find hs (by rw [e]; exact ht)
  rw [e, hw] at this
  exact this
theorem exc_step (h : Row T Ls Js n) {met : List (Int × Int)} {e c : Nat} (he : e < n) (hc : c < 85) (hx : Exc T met e c) (h0 : koE (T (e + 1)) (c : Int) = 0) (hb : (koK (T (e + 1)) (c : Int)).bas < (T e).fr) : Exc T met (e + 1) c := by
  obtain ⟨x, hxm, g, s, hon, hs, hf, hbl⟩ := hx
  have hst := h.stp e he
  have hn := h.nxt e he
  rcases fnd_at (T e).ro x.1 with hf2 | ⟨s', hs', hf', ht, hw⟩
  · rw [hf] at hf2; omega
  · obtain rfl : s = s' := by rw [hf] at hf'; omega
    have hL : x.1 ∉ Ls e := fun hL => by
      rw [hn] at h0 hb
      rcases new_key hst hc h0 with hfr | ⟨hk, h1, h2⟩
      · omega
      · rcases Nat.lt_or_ge c 21 with c1 | c1
        · have := hst.replaced hs ht (by rw [hw]; exact hL) c1 hbl
          rw [h1 c1] at this
          cases this
        · obtain ⟨u, rfl⟩ : ∃ u, c = 21 + u := ⟨c - 21, by omega⟩
          have e2 : ((21 + u : Nat) : Int) = 21 + (u : Int) := by push_cast; rfl
          rw [e2] at hbl
          have e3 := leaf_same (by omega) hs hbl
          subst e3
          obtain ⟨_, e4⟩ := h2 u rfl
          have h5 := Rs.mv_leaves hst.m3 hL
          rw [hst.r3] at h5
          have h6 := Rs.fnd_none.1 h5 u hs
          unfold Rs.at' at h6
          rw [e4, ht, hw] at h6
          simp at h6
    have hf3 : fnd (T (e + 1)).ro x.1 = (s : Int) := by rw [hn]; exact stays_on hst hf hs ht hw hL
    refine ⟨x, hxm, g, s, ⟨hon.at', by have := hon.le; omega, fun i h1 h2 => ?_⟩, hs, hf3, hbl⟩
    rcases Nat.lt_or_ge i (e + 1) with c1 | c1
    · exact hon.on i h1 (by omega)
    · obtain rfl : i = e + 1 := by omega
      rw [hf3]
      omega
theorem exc_till (h : Row T Ls Js n) {met : List (Int × Int)} {e c : Nat} (hc : c < 85) (h0 : koE (T e) (c : Int) = 0) (hx : Exc T met e c) : ∀ d, e + d ≤ n → (∀ k, k ≤ d → koE (T (e + k)) (c : Int) = 0 ∧ (koK (T (e + k)) (c : Int)).bas = (koK (T e) (c : Int)).bas) → Exc T met (e + d) c
  | 0, _, _ => hx
  | d + 1, hd, hk => by
    have ih := exc_till h hc h0 hx d (by omega) fun k hk' => hk k (by omega)
    obtain ⟨k1, k2⟩ := hk (d + 1) (Nat.le_refl _)
    have a1 := (kn_fit (h.ok e (by omega)) hc h0).2.1
    have a2 := h.fr e d (by omega)
    have e2 : e + (d + 1) = e + d + 1 := by omega
    rw [e2] at k1 k2 ⊢
    exact exc_step (e := e + d) h (by omega) hc ih k1 (by rw [k2]; omega)
/- What may be had of a name and a step. -/
def Safe (T : Nat → Tr) (n : Nat) (met : List (Int × Int)) (b s : Int) : Prop := ∀ e c : Nat, e ≤ n → c < 85 → koE (T e) (c : Int) = 0 → (koK (T e) (c : Int)).bas = b → s ≤ (koK (T e) (c : Int)).stp → Exc T met e c
theorem safe_key (h : Row T Ls Js n) {met : List (Int × Int)} {e c : Nat} (he : e ≤ n) (hc : c < 85) (h0 : koE (T e) (c : Int) = 0) (hx : Exc T met e c) : Safe T n met (koK (T e) (c : Int)).bas (koK (T e) (c : Int)).stp := fun e' c' he' hc' h1 hb hs => by
  have hl := h.later he he' hc hc' h0 h1 hb hs
  obtain ⟨d, rfl⟩ : ∃ d, e' = e + d := ⟨e' - e, by omega⟩
  obtain ⟨i1, i2, _⟩ := h.one e hc h0 d he' hc' h1 hb
  subst i1
  exact exc_till h hc h0 hx d he' i2
theorem safe_box (h : Row T Ls Js n) {met : List (Int × Int)} {e v c : Nat} (he : e ≤ n) (hi : Itm (T e) v c) {u : Int} (hu : u ≤ (kyA (T e) c).stp) (hs : Safe T n met (kyA (T e) c).bas u) : Safe T n met (kyA (T e) v).bas (kyA (T e) v).stp := by
  have ht := h.ok e he
  have h0 := hld_leaf ht hi.lc hi.held
  have h1 : koE (T e) (v : Int) = 0 := koE_inner ht (by omega) (by have := hi.lv; omega)
  rw [kyA_ko ht hi.lc h0] at hu hs
  rw [kyA_ko ht (by have := hi.lv; omega) h1]
  obtain ⟨x, hxm, g, s, hon, hs64, hf, hbl⟩ := hs e c he hi.lc h0 rfl hu
  refine safe_key h he (by have := hi.lv; omega) h1 ⟨x, hxm, g, s, hon, hs64, hf, ?_⟩
  have := hi.up (21 + s) (by omega) (by push_cast; exact hbl)
  push_cast at this
  exact this
/- The nodes that somebody at a slot has: the leaf and its path. -/
theorem exc_own {met : List (Int × Int)} {x : Int × Int} {g s : Nat} (hx : x ∈ met) (hg : x.2 = (g : Int)) (hs : s < 64) (hf : fnd (T g).ro x.1 = (s : Int)) {c : Nat} (hb : belB (c : Int) (21 + (s : Int)) = true) : Exc T met g c := by
  refine ⟨x, hx, g, s, ⟨hg, Nat.le_refl _, fun i h1 h2 => ?_⟩, hs, hf, hb⟩
  obtain rfl : i = g := by omega
  rw [hf]
  omega
/- The other way round: who stays on is given its path's keys. -/
structure Gives (T : Nat → Tr) (Ls Js : Nat → List Int) (n : Nat) (K : Int → Int → Prop) : Prop where
  mono : ∀ b s s', K b s → s ≤ s' → K b s'
  box : ∀ e, e < n → ∀ x ∈ its (nx (T e) (Ls e) (Js e)) (plR (T e) (Ls e)) (jns (T e) (Ls e) (Js e)), K x.un.bas x.un.stp → K x.ld.bas x.ld.stp
theorem gives_path (h : Row T Ls Js n) {K : Int → Int → Prop} (hk : Gives T Ls Js n K) {x : Int} {g : Nat} (hg : ∀ s : Nat, s < 64 → fnd (T g).ro x = (s : Int) → K (kyA (T g) (21 + s)).bas (kyA (T g) (21 + s)).stp ∧ ∀ i, i < 3 → K ((T g).ks (pn s i)).bas ((T g).ks (pn s i)).stp) :
    ∀ d, g + d ≤ n → (∀ i, i ≤ d → fnd (T (g + i)).ro x ≠ -1) → ∀ s : Nat, s < 64 → fnd (T (g + d)).ro x = (s : Int) → K (kyA (T (g + d)) (21 + s)).bas (kyA (T (g + d)) (21 + s)).stp ∧ ∀ i, i < 3 → K ((T (g + d)).ks (pn s i)).bas ((T (g + d)).ks (pn s i)).stp
  | 0, _, _ => hg
  | d + 1, hd, hon => fun s hs hf => by
    have hst := h.stp (g + d) (by omega)
    have hn := h.nxt (g + d) (by omega)
    have e2 : g + (d + 1) = g + d + 1 := by omega
    rw [e2, hn] at hf ⊢
    have ih := gives_path h hk hg d (by omega) fun i hi => hon i (by omega)
    rcases fnd_at (T (g + d)).ro x with hf2 | ⟨u, hu, hf2, ht, hw⟩
    · exact absurd hf2 (hon d (by omega))
    · have hL : x ∉ Ls (g + d) := fun hL => by
        have h5 := Rs.mv_leaves hst.m3 hL
        rw [hst.r3, hf] at h5
        omega
      have hf3 := stays_on hst hf2 hu ht hw hL
      obtain rfl : s = u := by rw [hf] at hf3; omega
      obtain ⟨k1, k2⟩ := ih s hs hf2
      have hent := hst.stays ht (by rw [hw]; exact hL)
      have hleaf : K (kyA (nx (T (g + d)) (Ls (g + d)) (Js (g + d))) (21 + s)).bas (kyA (nx (T (g + d)) (Ls (g + d)) (Js (g + d))) (21 + s)).stp := by
        have a1 := koK_leaf hst.ok hs ht
        have a2 := koK_leaf hst.tckn hs (by rw [hent]; exact ht)
        rw [kyA_ko hst.ok (by omega) a1.1, a1.2] at k1
        rw [kyA_ko hst.tckn (by omega) a2.1, a2.2, hent]
        refine hk.mono _ _ _ k1 ?_
        show (T (g + d)).ep - _ ≤ (T (g + d)).ep + 1 - _
        omega
      refine ⟨hleaf, ?_⟩
      have step : ∀ i, i < 3 → K (kyA (nx (T (g + d)) (Ls (g + d)) (Js (g + d))) (bel s i)).bas (kyA (nx (T (g + d)) (Ls (g + d)) (Js (g + d))) (bel s i)).stp → K ((nx (T (g + d)) (Ls (g + d)) (Js (g + d))).ks (pn s i)).bas ((nx (T (g + d)) (Ls (g + d)) (Js (g + d))).ks (pn s i)).stp := fun i hi hb => by
        rcases hst.key (pn_lt hs i) with ⟨hr, _⟩ | ⟨_, e3⟩
        · have := hk.box (g + d) (by omega) _ (item_child (js := jns (T (g + d)) (Ls (g + d)) (Js (g + d))) hs hi (by rw [hent]; exact ht) hr) hb
          rw [← kyA_in (t := nx (T (g + d)) (Ls (g + d)) (Js (g + d))) (pn_lt hs i)]
          exact this
        · rw [e3]
          exact hk.mono _ _ _ (k2 i hi) (by dsimp only; omega)
      have s0 := step 0 (by omega) hleaf
      have s1 := step 1 (by omega) (by show K (kyA _ (pn s 0)).bas (kyA _ (pn s 0)).stp; rw [kyA_in (pn_lt hs 0)]; exact s0)
      have s2 := step 2 (by omega) (by show K (kyA _ (pn s 1)).bas (kyA _ (pn s 1)).stp; rw [kyA_in (pn_lt hs 1)]; exact s1)
      intro i hi
      have : i = 0 ∨ i = 1 ∨ i = 2 := by omega
      rcases this with rfl | rfl | rfl
      · exact s0
      · exact s1
      · exact s2
theorem gives_exc (h : Row T Ls Js n) {K : Int → Int → Prop} (hk : Gives T Ls Js n K) {met : List (Int × Int)} (hm : ∀ x ∈ met, ∀ g : Nat, x.2 = (g : Int) → g ≤ n → ∀ s : Nat, s < 64 → fnd (T g).ro x.1 = (s : Int) → K (kyA (T g) (21 + s)).bas (kyA (T g) (21 + s)).stp ∧ ∀ i, i < 3 → K ((T g).ks (pn s i)).bas ((T g).ks (pn s i)).stp)
    {e v : Nat} (he : e ≤ n) (hv : v < 21) (hx : Exc T met e v) : K ((T e).ks v).bas ((T e).ks v).stp := by
  obtain ⟨x, hxm, g, s, hon, hs, hf, hbl⟩ := hx
  obtain ⟨d, rfl⟩ : ∃ d, e = g + d := ⟨e - g, by have := hon.le; omega⟩
  have := (gives_path h hk (hm x hxm g hon.at' (by omega)) d he (fun i hi => hon.on (g + i) (by omega) (by omega)) s hs hf).2
  rcases on_path ⟨v, hv⟩ ⟨s, hs⟩ hbl with e | e | e
  · have h2 := this 0 (by omega); rw [← e] at h2; exact h2
  · have h2 := this 1 (by omega); rw [← e] at h2; exact h2
  · have h2 := this 2 (by omega); rw [← e] at h2; exact h2
end
end Go.Proofs.YtpimbpfefhkojabGreatDoor
