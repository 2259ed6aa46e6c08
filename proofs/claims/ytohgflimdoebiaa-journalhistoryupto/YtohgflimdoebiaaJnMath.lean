/- Journals on plain data: rows of writes while the power lasts; what opening and appending do. -/
import Derived.Test.YtohgflimdoebiaaFrZ
import Derived.Test.YtohgflimdoebiaaDkMath
namespace Go.Proofs.Ytohgflimdoebiaa.Dk
open Go.RowKit Go.Maps
set_option linter.unusedVariables false
set_option maxRecDepth 4000
set_option linter.unusedSimpArgs false

def wl : List (Int × ByteArray) → St → St × Bool
  | [], s => (s, true)
  | p :: L, s => if (nx s p.1 p.2).left = 0 then (nx s p.1 p.2, false) else wl L (nx s p.1 p.2)
theorem wl_off {p : Int × ByteArray} {L : List (Int × ByteArray)} {s : St} (h : (nx s p.1 p.2).left = 0) : wl (p :: L) s = (nx s p.1 p.2, false) := by rw [wl, if_pos h]
theorem wl_on {p : Int × ByteArray} {L : List (Int × ByteArray)} {s : St} (h : (nx s p.1 p.2).left ≠ 0) : wl (p :: L) s = wl L (nx s p.1 p.2) := by rw [wl, if_neg h]
def wps : List ByteArray → Nat → List (Int × ByteArray)
  | [], _ => []
  | t :: l, a => if t.size = 0 then wps l (a + 1) else ((a : Int), ⟨#[]⟩) :: wps l (a + 1)
def plc : List ByteArray → Nat → List (Int × ByteArray)
  | [], _ => []
  | t :: l, a => ((a : Int), t) :: plc l (a + 1)
theorem plc_length : ∀ (l : List ByteArray) (a : Nat), (plc l a).length = l.length
  | [], a => rfl
  | t :: l, a => by rw [plc, List.length_cons, plc_length l (a + 1), List.length_cons]
theorem wps_length : ∀ (l : List ByteArray) (a : Nat), (wps l a).length ≤ l.length
  | [], a => Nat.le_refl _
  | t :: l, a => by
    have := wps_length l (a + 1)
    rw [wps]
    split <;> simp <;> omega
theorem plc_good : ∀ (l : List ByteArray) (a : Nat), a + l.length ≤ 2048 → (∀ t ∈ l, t.size ≤ 32) → ∀ p ∈ plc l a, Gp p
  | [], a, _, _, p, hp => by simp [plc] at hp
  | t :: l, a, h1, h2, p, hp => by
    rw [List.length_cons] at h1
    rw [plc] at hp
    rcases List.mem_cons.1 hp with rfl | hp
    · exact ⟨by show (0 : Int) ≤ (a : Int); omega, by show (a : Int) < 2048; omega, h2 t (by simp)⟩
    · exact plc_good l (a + 1) (by omega) (fun x hx => h2 x (by simp [hx])) p hp
theorem wps_good : ∀ (l : List ByteArray) (a : Nat), a + l.length ≤ 2048 → ∀ p ∈ wps l a, Gp p
  | [], a, _, p, hp => by simp [wps] at hp
  | t :: l, a, h1, p, hp => by
    rw [List.length_cons] at h1
    rw [wps] at hp
    split at hp
    · exact wps_good l (a + 1) (by omega) p hp
    · rcases List.mem_cons.1 hp with rfl | hp
      · exact ⟨by show (0 : Int) ≤ (a : Int); omega, by show (a : Int) < 2048; omega, by show (⟨#[]⟩ : ByteArray).size ≤ 32; decide⟩
      · exact wps_good l (a + 1) (by omega) p hp
theorem nx_log (s : St) (x : Int) (t : ByteArray) : (nx s x t).log.length ≤ s.log.length + 1 := by
  unfold nx; split <;> simp
theorem wl_log : ∀ (L : List (Int × ByteArray)) (s : St), (wl L s).1.log.length ≤ s.log.length + L.length
  | [], s => by simp [wl]
  | p :: L, s => by
    have h1 := nx_log s p.1 p.2
    have h2 := wl_log L (nx s p.1 p.2)
    rw [wl]
    split <;> simp <;> omega
theorem wl_ok : ∀ (L : List (Int × ByteArray)) (s : St), s.Ok → (wl L s).1.Ok
  | [], s, h => h
  | p :: L, s, h => by
    rw [wl]
    split
    · exact nx_ok h _ _
    · exact wl_ok L _ (nx_ok h _ _)
theorem nx_put {s : St} {x : Int} {t : ByteArray} (h0 : s.left ≠ 0) (hg : Gp (x, t)) : nx s x t = ⟨s.img, s.log ++ [(x, t)], nl s.left⟩ := by
  unfold nx; rw [if_pos (we_good h0 hg)]
theorem wl_free : ∀ (L : List (Int × ByteArray)) (s : St), s.left = -1 → (∀ p ∈ L, Gp p) → wl L s = (⟨s.img, s.log ++ L, -1⟩, true)
  | [], s, h, _ => by rw [wl, List.append_nil, ← h]
  | p :: L, s, h, hg => by
    have e := nx_put (s := s) (x := p.1) (t := p.2) (by rw [h]; decide) (hg p (by simp))
    have e1 : nl s.left = -1 := by rw [h]; rfl
    rw [e1] at e
    rw [wl_on (by rw [e]; show (-1 : Int) ≠ 0; decide), e, wl_free L _ rfl (fun q hq => hg q (by simp [hq]))]
    simp
theorem wl_few : ∀ (L : List (Int × ByteArray)) (s : St) (n : Nat), s.left = (n : Int) → 1 ≤ n → (∀ p ∈ L, Gp p) → wl L s = if L.length < n then (⟨s.img, s.log ++ L, ((n - L.length : Nat) : Int)⟩, true) else (⟨s.img, s.log ++ L.take n, 0⟩, false)
  | [], s, n, h, h1, _ => by rw [wl, if_pos (by simp; omega), List.append_nil, List.length_nil, Nat.sub_zero, ← h]
  | p :: L, s, n, h, h1, hg => by
    have e := nx_put (s := s) (x := p.1) (t := p.2) (by rw [h]; omega) (hg p (by simp))
    have e1 : nl s.left = ((n - 1 : Nat) : Int) := by rw [h]; unfold nl; rw [if_neg (by omega)]; omega
    rw [e1] at e
    by_cases h2 : n = 1
    · subst h2
      rw [wl_off (by rw [e]; rfl), e, if_neg (by simp)]
      simp
    · have ih := wl_few L ⟨s.img, s.log ++ [p], ((n - 1 : Nat) : Int)⟩ (n - 1) rfl (by omega) (fun q hq => hg q (by simp [hq]))
      rw [wl_on (by rw [e]; show ((n - 1 : Nat) : Int) ≠ 0; omega), e, ih]
      obtain ⟨m, rfl⟩ : ∃ m, n = m + 1 := ⟨n - 1, by omega⟩
      simp only [Nat.add_sub_cancel, List.length_cons, List.take_succ_cons, List.append_assoc, List.singleton_append]
      by_cases h3 : L.length < m
      · rw [if_pos h3, if_pos (by omega), show m + 1 - (L.length + 1) = m - L.length by omega]
      · rw [if_neg h3, if_neg (by omega)]
/- Opening. -/
def scE (s : St) : Nat := (sc 65535 (im s.bl) 1).2
def scP (s : St) : List ByteArray := (sc 65535 (im s.bl) 1).1
def opw (s : St) : List (Int × ByteArray) := wps ((im s.bl).drop (scE s)) (scE s)
def opS (s : St) : St := if s.left = 0 then s else (wl (opw s) s).1
def opB (s : St) : Bool := if s.left = 0 then false else (wl (opw s) s).2
theorem sc_le (s : St) : (scP s).length ≤ scE s ∧ scE s ≤ 2048 := by
  obtain ⟨h1, h2, h3⟩ := sc_len 65535 (im s.bl) 1
  have := top_le s.bl
  rw [im_length] at h2
  exact ⟨h1, by unfold scE; omega⟩
theorem opw_good (s : St) : ∀ p ∈ opw s, Gp p := by
  obtain ⟨h1, h2, h3⟩ := sc_len 65535 (im s.bl) 1
  have := top_le s.bl
  unfold opw
  refine wps_good _ _ ?_
  rw [List.length_drop]
  unfold scE
  rw [im_length] at h2 ⊢
  omega
theorem opS_log (s : St) : (opS s).log.length ≤ s.log.length + 2048 := by
  unfold opS
  split
  · omega
  · have h1 := wl_log (opw s) s
    have h2 := wps_length ((im s.bl).drop (scE s)) (scE s)
    rw [List.length_drop, im_length] at h2
    have := top_le s.bl
    unfold opw at h1 ⊢
    omega
/- Appending. -/
def apW (c a : Nat) (t : ByteArray) : List (Int × ByteArray) := plc (blks ((c + 1 : Nat) : Int) t) a
def apE (s : St) (c a : Nat) (d : Bool) (t : ByteArray) : Int := if d = true ∨ s.left = 0 then 11 else if 5865 < t.size then 9 else if 2048 < a + np t.size ∨ 65535 ≤ c then 10 else if (wl (apW c a t) s).2 = true then 0 else 11
def apS (s : St) (c a : Nat) (d : Bool) (t : ByteArray) : St := if d = true ∨ s.left = 0 then s else if 5865 < t.size then s else if 2048 < a + np t.size ∨ 65535 ≤ c then s else (wl (apW c a t) s).1
def apC (s : St) (c a : Nat) (d : Bool) (t : ByteArray) : Nat := if apE s c a d t = 0 then c + 1 else c
def apA (s : St) (c a : Nat) (d : Bool) (t : ByteArray) : Nat := if apE s c a d t = 0 then a + np t.size else a
def apD (s : St) (c a : Nat) (d : Bool) (t : ByteArray) : Bool := if apE s c a d t = 11 then true else d
theorem apW_len (c a : Nat) (t : ByteArray) : (apW c a t).length = np t.size := by unfold apW; rw [plc_length, blks_length]
theorem num_ok {c : Nat} (h : c < 65535) : gs ((c + 1 : Nat) : Int) = true := by unfold gs; rw [Bool.and_eq_true]; exact ⟨decide_eq_true (by omega), decide_eq_true (by omega)⟩
theorem apW_good {c a : Nat} {t : ByteArray} (h1 : t.size ≤ 5865) (h2 : a + np t.size ≤ 2048) (h3 : c < 65535) : ∀ p ∈ apW c a t, Gp p :=
  plc_good _ _ (by rw [blks_length]; exact h2) (fun x hx => by rw [blks_size (num_ok h3) h1 x hx]; decide)
theorem apS_log (s : St) (c a : Nat) (d : Bool) (t : ByteArray) : (apS s c a d t).log.length ≤ s.log.length + 255 := by
  unfold apS
  split
  · omega
  · split
    · omega
    · rename_i h
      split
      · omega
      · have h1 := wl_log (apW c a t) s
        rw [apW_len] at h1
        have h2 := (np_spec t.size (by omega)).2.2.1
        omega
end Go.Proofs.Ytohgflimdoebiaa.Dk
