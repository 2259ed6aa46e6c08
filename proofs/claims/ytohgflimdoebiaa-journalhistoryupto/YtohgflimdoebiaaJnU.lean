/- Cut behind any write: what stands there. -/
import Derived.Test.YtohgflimdoebiaaJnMJ
namespace Go.Proofs.Ytohgflimdoebiaa.Dk
open Go.RowKit Go.Maps
set_option linter.unusedVariables false
set_option maxRecDepth 4000
set_option linter.unusedSimpArgs false

def cutS (ps : List ByteArray) : St := ⟨[], plc (recs 1 ps) 0, -1⟩
theorem cutS_log (ps : List ByteArray) : (cutS ps).log.length = (recs 1 ps).length := by show (plc _ _).length = _; rw [plc_length]
theorem cutS_step {ps : List ByteArray} {t : ByteArray} (h : Hs (cutS ps) ps ⟨#[]⟩ 0 0) (e : apE (cutS ps) ps.length (recs 1 ps).length false t = 0) : apS (cutS ps) ps.length (recs 1 ps).length false t = cutS (ps ++ [t]) := by
  rw [((h.appended t).free rfl).2.2 e]
  unfold cutS
  rw [recs_add, plc_append, Nat.zero_add]
theorem recs_append : ∀ (a b : List ByteArray) (q : Nat), recs q (a ++ b) = recs q a ++ recs (q + a.length) b
  | [], b, q => by simp [recs]
  | x :: a, b, q => by
    rw [List.cons_append, recs, recs_append a b (q + 1), recs, List.append_assoc, List.length_cons, show q + 1 + a.length = q + (a.length + 1) by omega]
def lenR (ps : List ByteArray) (i : Nat) : Nat := (recs 1 (ps.take i)).length
theorem lenR_zero (ps : List ByteArray) : lenR ps 0 = 0 := by simp [lenR, recs]
theorem lenR_succ (ps : List ByteArray) (i : Nat) (h : i < ps.length) : lenR ps (i + 1) = lenR ps i + np (ps.getD i ⟨#[]⟩).size := by
  unfold lenR
  rw [take_snoc ps i ⟨#[]⟩ h, recs_append, List.length_append, recs, recs, List.append_nil, blks_length]
theorem lenR_all (ps : List ByteArray) (i : Nat) (h : ps.length ≤ i) : lenR ps i = (recs 1 ps).length := by unfold lenR; rw [List.take_of_length_le h]
theorem lenR_le (ps : List ByteArray) (i : Nat) : lenR ps i ≤ (recs 1 ps).length := by
  have : recs 1 ps = recs 1 (ps.take i) ++ recs (1 + (ps.take i).length) (ps.drop i) := by rw [← recs_append, List.take_append_drop]
  unfold lenR
  rw [this, List.length_append]
  omega
def endsL (ps : List ByteArray) : List Nat := (List.range ps.length).map fun i => lenR ps (i + 1)
@[simp] theorem endsL_length (ps : List ByteArray) : (endsL ps).length = ps.length := by simp [endsL]
theorem endsL_get (ps : List ByteArray) (i : Nat) (h : i < ps.length) : (endsL ps).getD i 0 = lenR ps (i + 1) := by
  simp [endsL, List.getD_eq_getElem?_getD, h]
theorem endsL_snoc (ps : List ByteArray) (t : ByteArray) : endsL (ps ++ [t]) = endsL ps ++ [(recs 1 (ps ++ [t])).length] := by
  unfold endsL
  rw [List.length_append, List.length_singleton, List.range_succ, List.map_append]
  congr 1
  · apply List.map_congr_left
    intro i hi
    have : i < ps.length := by simpa using hi
    unfold lenR
    rw [List.take_append_of_le_length (by omega)]
  · simp only [List.map_cons, List.map_nil]
    rw [lenR_all _ _ (by simp)]
def cellsI (l : List Nat) : List Value := l.map fun n : Nat => .int .i64 (n : Int)
theorem cellsI_snoc (l : List Nat) (n : Nat) : cellsI (l ++ [n]) = cellsI l ++ [.int .i64 (n : Int)] := by simp [cellsI]
theorem cut_hs {ps : List ByteArray} (h : Hs (cutS ps) ps ⟨#[]⟩ 0 0) {k i : Nat} (hi : i ≤ ps.length) (h1 : lenR ps i ≤ k) (h2 : i < ps.length → k < lenR ps (i + 1)) (h3 : k ≤ (recs 1 ps).length) :
    ∃ t, Hs (ct (cutS ps) k) (ps.take i) t (k - lenR ps i) 0 := by
  have hct : ct (cutS ps) k = ⟨[], plc ((recs 1 ps).take k) 0, -1⟩ := by unfold ct cutS; rw [plc_take]
  have hfit := h.fit
  rw [hct]
  have hok : St.Ok ⟨[], plc ((recs 1 ps).take k) 0, -1⟩ := by
    refine ⟨by simp, by simp, ?_, by simp, by simp⟩
    exact plc_good _ _ (by rw [List.length_take]; omega) (fun x hx => by rw [h.rsz x (List.mem_of_mem_take hx)]; decide)
  have hsz : ∀ p ∈ ps.take i, p.size ≤ 5865 := fun p hp => h.sz p (List.mem_of_mem_take hp)
  have hbl : (St.mk [] (plc ((recs 1 ps).take k) 0) (-1)).bl = fnI ((recs 1 ps).take k) := by
    have e := over ((recs 1 ps).take k) [] []
    simp only [List.nil_append, List.drop_nil, List.append_nil, List.length_nil] at e
    exact e
  have hsplit : recs 1 ps = recs 1 (ps.take i) ++ recs (1 + (ps.take i).length) (ps.drop i) := by rw [← recs_append, List.take_append_drop]
  have hlen : (ps.take i).length = i := by rw [List.length_take]; omega
  by_cases hlt : i < ps.length
  · have hp := h.sz (ps.getD i ⟨#[]⟩) (by rw [getD_yes _ _ hlt]; exact List.getElem_mem _)
    have hk := h2 hlt
    rw [lenR_succ ps i hlt] at hk
    refine ⟨ps.getD i ⟨#[]⟩, hok, hsz, hp, by omega, Nat.zero_le _, by show lenR ps i + (k - lenR ps i) ≤ 2048; omega, ?_⟩
    rw [hbl, hlen]
    have hd : ps.drop i = ps.getD i ⟨#[]⟩ :: ps.drop (i + 1) := by rw [List.drop_eq_getElem_cons hlt, getD_yes _ _ hlt]
    rw [hlen, hd, recs, Nat.add_comm 1 i] at hsplit
    congr 1
    have hl2 : lenR ps i = (recs 1 (ps.take i)).length := rfl
    rw [hsplit, List.take_append, List.take_of_length_le (by omega), List.take_append_of_le_length (by rw [blks_length]; omega)]
    simp [tl, hl2]
  · have hie : i = ps.length := by omega
    have hall := lenR_all ps i (by omega)
    refine ⟨⟨#[]⟩, hok, hsz, by decide, by rw [show k - lenR ps i = 0 by omega]; decide, Nat.zero_le _, by show lenR ps i + (k - lenR ps i) ≤ 2048; omega, ?_⟩
    rw [hbl, show k - lenR ps i = 0 by omega, List.take_of_length_le (by omega), List.take_of_length_le (by omega)]
    simp [tl]
end Go.Proofs.Ytohgflimdoebiaa.Dk
