/- What an append leaves on a disk. -/
import Derived.Test.YtohgflimdoebiaaJnT
namespace Go.Proofs.Ytohgflimdoebiaa.Dk
open Go.RowKit Go.Maps
set_option linter.unusedVariables false
set_option maxRecDepth 4000
set_option linter.unusedSimpArgs false

theorem recs_add (ps : List ByteArray) (t : ByteArray) : recs 1 (ps ++ [t]) = recs 1 ps ++ blks ((ps.length + 1 : Nat) : Int) t := by
  rw [recs_snoc, Nat.add_comm 1]
section
variable {s : St} {ps : List ByteArray} {t : ByteArray}
theorem Hs.clean0 (h : Hs s ps ⟨#[]⟩ 0 0) : s.bl = fnI (recs 1 ps) := h.clean
theorem Hs.put (h : Hs s ps ⟨#[]⟩ 0 0) (m : Nat) : rp (fnI s.img) (s.log ++ (apW ps.length (recs 1 ps).length t).take m) = fnI (recs 1 ps ++ (blks ((ps.length + 1 : Nat) : Int) t).take m) := by
  have e := over ((blks ((ps.length + 1 : Nat) : Int) t).take m) (recs 1 ps) []
  rw [List.append_nil, List.drop_nil, List.append_nil] at e
  rw [rp_append, show rp (fnI s.img) s.log = s.bl from rfl, h.clean0]
  unfold apW
  rw [plc_take]
  exact e
theorem Hs.put_ok (h : Hs s ps ⟨#[]⟩ 0 0) (ht : t.size ≤ 5865) (hf : (recs 1 ps).length + np t.size ≤ 2048) (m : Nat) (left : Int) (h1 : -1 ≤ left) (h2 : left ≤ 9223372036854775807) : St.Ok ⟨s.img, s.log ++ (apW ps.length (recs 1 ps).length t).take m, left⟩ := by
  refine ⟨h.ok.i1, h.ok.i2, ?_, h1, h2⟩
  intro p hp
  rcases List.mem_append.1 hp with hp | hp
  · exact h.ok.l1 p hp
  · exact apW_good ht hf (by have := h.cnt; omega) p (List.mem_of_mem_take hp)
theorem Hs.put_all (h : Hs s ps ⟨#[]⟩ 0 0) (ht : t.size ≤ 5865) (hf : (recs 1 ps).length + np t.size ≤ 2048) (m : Nat) (hm : np t.size ≤ m) (left : Int) (h1 : -1 ≤ left) (h2 : left ≤ 9223372036854775807) : Hs ⟨s.img, s.log ++ (apW ps.length (recs 1 ps).length t).take m, left⟩ (ps ++ [t]) ⟨#[]⟩ 0 0 := by
  refine ⟨h.put_ok ht hf m left h1 h2, ?_, by decide, by decide, Nat.le_refl _, ?_, ?_⟩
  · intro p hp
    rcases List.mem_append.1 hp with hp | hp
    · exact h.sz p hp
    · simp at hp; subst hp; exact ht
  · rw [recs_add, List.length_append, blks_length]; omega
  · show rp (fnI s.img) (s.log ++ _) = _
    rw [h.put m, recs_add, List.take_of_length_le (by rw [blks_length]; exact hm)]
    simp [tl]
theorem Hs.put_part (h : Hs s ps ⟨#[]⟩ 0 0) (ht : t.size ≤ 5865) (hf : (recs 1 ps).length + np t.size ≤ 2048) (m : Nat) (hm : m < np t.size) (left : Int) (h1 : -1 ≤ left) (h2 : left ≤ 9223372036854775807) : Hs ⟨s.img, s.log ++ (apW ps.length (recs 1 ps).length t).take m, left⟩ ps t m 0 := by
  refine ⟨h.put_ok ht hf m left h1 h2, h.sz, ht, hm, Nat.zero_le _, by omega, ?_⟩
  show rp (fnI s.img) (s.log ++ _) = _
  rw [h.put m]
  simp [tl]
structure Appd (s : St) (ps : List ByteArray) (t : ByteArray) : Prop where
  ok : apE s ps.length (recs 1 ps).length false t = 0 → t.size ≤ 5865 ∧ Hs (apS s ps.length (recs 1 ps).length false t) (ps ++ [t]) ⟨#[]⟩ 0 0 ∧ (apS s ps.length (recs 1 ps).length false t).left ≠ 0 ∧ (apS s ps.length (recs 1 ps).length false t).log.length = s.log.length + np t.size
  not : apE s ps.length (recs 1 ps).length false t ≠ 0 → apE s ps.length (recs 1 ps).length false t ≠ 11 → apS s ps.length (recs 1 ps).length false t = s ∧ s.left ≠ 0 ∧ ((apE s ps.length (recs 1 ps).length false t = 9 ∧ 5865 < t.size) ∨ (apE s ps.length (recs 1 ps).length false t = 10 ∧ t.size ≤ 5865 ∧ (2048 < (recs 1 ps).length + np t.size ∨ 65535 ≤ ps.length)))
  down : apE s ps.length (recs 1 ps).length false t = 11 → ∃ m, (apS s ps.length (recs 1 ps).length false t).log.length = s.log.length + m ∧ ((t.size ≤ 5865 ∧ m = np t.size ∧ Hs (apS s ps.length (recs 1 ps).length false t) (ps ++ [t]) ⟨#[]⟩ 0 0) ∨ (¬ (t.size ≤ 5865 ∧ m = np t.size) ∧ ∃ t' k, Hs (apS s ps.length (recs 1 ps).length false t) ps t' k 0))
  free : s.left = -1 → apE s ps.length (recs 1 ps).length false t ≠ 11 ∧ (apS s ps.length (recs 1 ps).length false t).left = -1 ∧ (apE s ps.length (recs 1 ps).length false t = 0 → apS s ps.length (recs 1 ps).length false t = ⟨s.img, s.log ++ plc (blks ((ps.length + 1 : Nat) : Int) t) (recs 1 ps).length, -1⟩)
theorem Hs.appended (h : Hs s ps ⟨#[]⟩ 0 0) (t : ByteArray) : Appd s ps t := by
  have hcnt := h.cnt
  have p1 := h.ok.p1
  have p2 := h.ok.p2
  have hE : apE s ps.length (recs 1 ps).length false t = if false = true ∨ s.left = 0 then 11 else if 5865 < t.size then 9 else if 2048 < (recs 1 ps).length + np t.size ∨ 65535 ≤ ps.length then 10 else if (wl (apW ps.length (recs 1 ps).length t) s).2 = true then 0 else 11 := rfl
  have hS : apS s ps.length (recs 1 ps).length false t = if false = true ∨ s.left = 0 then s else if 5865 < t.size then s else if 2048 < (recs 1 ps).length + np t.size ∨ 65535 ≤ ps.length then s else (wl (apW ps.length (recs 1 ps).length t) s).1 := rfl
  by_cases h0 : s.left = 0
  · rw [if_pos (.inr h0)] at hE hS
    rw [show (Appd s ps t) = Appd s ps t from rfl]
    constructor
    · rw [hE]; intro e; cases e
    · rw [hE]; intro _ e; exact absurd rfl e
    · intro _
      refine ⟨0, by rw [hS]; rfl, .inr ⟨fun e => ?_, ⟨#[]⟩, 0, by rw [hS]; exact h⟩⟩
      have := (np_spec t.size e.1).2.1
      omega
    · intro e; omega
  · have hz : ¬ (false = true ∨ s.left = 0) := by simp [h0]
    rw [if_neg hz] at hE hS
    by_cases hl : 5865 < t.size
    · rw [if_pos hl] at hE hS
      constructor
      · rw [hE]; intro e; cases e
      · rw [hE, hS]; intro _ _; exact ⟨rfl, h0, .inl ⟨rfl, hl⟩⟩
      · rw [hE]; intro e; cases e
      · intro e; rw [hE, hS]; exact ⟨by decide, e, fun e => by cases e⟩
    · rw [if_neg hl] at hE hS
      by_cases hf : 2048 < (recs 1 ps).length + np t.size ∨ 65535 ≤ ps.length
      · rw [if_pos hf] at hE hS
        constructor
        · rw [hE]; intro e; cases e
        · rw [hE, hS]; intro _ _; exact ⟨rfl, h0, .inr ⟨rfl, by omega, hf⟩⟩
        · rw [hE]; intro e; cases e
        · intro e; rw [hE, hS]; exact ⟨by decide, e, fun e => by cases e⟩
      · rw [if_neg hf] at hE hS
        have hf' : (recs 1 ps).length + np t.size ≤ 2048 := by omega
        have hg := apW_good (c := ps.length) (a := (recs 1 ps).length) (t := t) (by omega) hf' (by omega)
        have hlen := apW_len ps.length (recs 1 ps).length t
        have htk : (apW ps.length (recs 1 ps).length t).take (np t.size) = apW ps.length (recs 1 ps).length t := List.take_of_length_le (by omega)
        by_cases hfr : s.left = -1
        · have e := wl_free _ s hfr hg
          rw [e, if_pos rfl] at hE
          rw [e] at hS
          have hall := h.put_all (t := t) (by omega) hf' (np t.size) (Nat.le_refl _) (-1) (by decide) (by decide)
          rw [htk] at hall
          constructor
          · intro _; rw [hS]; exact ⟨by omega, hall, by show (-1 : Int) ≠ 0; decide, by show (s.log ++ _).length = _; rw [List.length_append, hlen]⟩
          · rw [hE]; intro e; exact absurd rfl e
          · rw [hE]; intro e; cases e
          · intro _; rw [hE, hS]; exact ⟨by decide, rfl, fun _ => rfl⟩
        · obtain ⟨n, hn⟩ : ∃ n : Nat, s.left = (n : Int) := ⟨s.left.toNat, by omega⟩
          have e := wl_few _ s n hn (by omega) hg
          rw [hlen] at e
          by_cases hlt : np t.size < n
          · rw [if_pos hlt] at e
            rw [e, if_pos rfl] at hE
            rw [e] at hS
            have hall := h.put_all (t := t) (by omega) hf' (np t.size) (Nat.le_refl _) ((n - np t.size : Nat) : Int) (by omega) (by omega)
            rw [htk] at hall
            constructor
            · intro _; rw [hS]; exact ⟨by omega, hall, by show ((n - np t.size : Nat) : Int) ≠ 0; omega, by show (s.log ++ _).length = _; rw [List.length_append, hlen]⟩
            · rw [hE]; intro e; exact absurd rfl e
            · rw [hE]; intro e; cases e
            · intro e; omega
          · rw [if_neg hlt] at e
            rw [e, if_neg (show ¬ (false = true) by decide)] at hE
            rw [e] at hS
            have hlog : (s.log ++ (apW ps.length (recs 1 ps).length t).take n).length = s.log.length + n := by
              rw [List.length_append, List.length_take, hlen, Nat.min_eq_left (by omega)]
            constructor
            · rw [hE]; intro e; cases e
            · rw [hE]; intro _ e; exact absurd rfl e
            · intro _
              rw [hS]
              refine ⟨n, hlog, ?_⟩
              by_cases hnn : n = np t.size
              · exact .inl ⟨by omega, hnn, h.put_all (by omega) hf' n (by omega) 0 (by decide) (by decide)⟩
              · exact .inr ⟨fun e => hnn e.2, t, n, h.put_part (by omega) hf' n (by omega) 0 (by decide) (by decide)⟩
            · intro e; omega
theorem Hs.again {k : Nat} (h : Hs s ps t k k) (h0 : s.left ≠ 0) : opS s = s ∧ opB s = true := by
  have hw := h.wipes
  rw [Nat.sub_self] at hw
  have e : wl (opw s) s = (s, true) := by rw [hw]; rfl
  unfold opS opB
  rw [if_neg h0, if_neg h0, e]
  exact ⟨rfl, rfl⟩
theorem Hs.new : Hs nu [] ⟨#[]⟩ 0 0 := by
  refine ⟨nu_ok, by simp, by decide, by decide, Nat.le_refl _, by simp [recs], ?_⟩
  show rp (fnI []) [] = _
  simp [rp, recs, tl]
theorem Hs.up {k j : Nat} (h : Hs s ps t k j) (n : Int) (h1 : -1 ≤ n) (h2 : n ≤ 9223372036854775807) : Hs ⟨s.img, s.log, n⟩ ps t k j := ⟨⟨h.ok.i1, h.ok.i2, h.ok.l1, h1, h2⟩, h.sz, h.tsz, h.hk, h.hj, h.fit, h.bl⟩
end
end Go.Proofs.Ytohgflimdoebiaa.Dk
