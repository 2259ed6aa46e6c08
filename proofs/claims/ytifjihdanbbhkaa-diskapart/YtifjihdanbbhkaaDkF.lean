/- Contract: From. -/
import Derived.Test.YtifjihdanbbhkaaDkG
namespace Go.Proofs.Ytifjihdanbbhkaa
open Go.RowKit Go.Maps
set_option linter.unusedVariables false
set_option linter.unusedSimpArgs false

/- What an image is refused by. -/
def lng (l : List ByteArray) : Bool := l.any fun t => decide (32 < t.size)
def fe (l : List ByteArray) : Int := if 2048 < l.length then 8 else if lng l = true then 9 else 0
theorem lng_take_no {l : List ByteArray} (h : lng l = false) : ∀ t ∈ l, t.size ≤ 32 := by
  intro t ht
  by_cases h32 : t.size ≤ 32
  · exact h32
  · have : lng l = true := List.any_eq_true.2 ⟨t, ht, by simp; omega⟩
    rw [h] at this; cases this
theorem lng_snoc (l : List ByteArray) (k : Nat) (hk : k < l.length) : lng (l.take (k + 1)) = (lng (l.take k) || decide (32 < (l.getD k ⟨#[]⟩).size)) := by
  have e : l.take (k + 1) = l.take k ++ [l.getD k ⟨#[]⟩] := by
    rw [List.take_add_one]; simp [List.getElem?_eq_getElem hk]
  rw [e]; simp [lng]
theorem lng_of_mem {l : List ByteArray} (k : Nat) (hk : k < l.length) (h : 32 < (l.getD k ⟨#[]⟩).size) : lng l = true :=
  List.any_eq_true.2 ⟨l.getD k ⟨#[]⟩, by rw [getD_yes _ _ hk]; exact List.getElem_mem _, by simpa using h⟩
def st (l : List ByteArray) : St := ⟨l, [], -1⟩
theorem st_ok {l : List ByteArray} (h : fe l = 0) : (st l).Ok := by
  unfold fe at h
  split at h
  · cases h
  · split at h
    · cases h
    · rename_i h1 h2
      exact ⟨by show l.length ≤ 2048; omega, lng_take_no (by cases hh : lng l with | false => exact hh | true => exact absurd hh h2), by simp [st], by simp [st], by simp [st]⟩
theorem from_wide (a : Option Addr) (c : Nat) (l : List ByteArray) (w : World) (hl : l.length ≤ 8796093022208) (hw : 2048 < l.length) :
    Calls Try.prog 8 #[.slice a l.length c] w fun e w' => e = .returned (.tuple #[.pointer none, .int .i64 8]) ∧ w' = w := by
  obtain ⟨n, hn⟩ : ∃ n, l.length = n := ⟨_, rfl⟩
  rw [hn] at hl hw ⊢
  clear hn
  go_enter Try.func8, Try.ntmps8
  go_wp2
  go_ret2
  exact ⟨rfl, rfl⟩
set_option maxHeartbeats 2000000 in
theorem from_some (a : Option Addr) (c : Nat) (l : List ByteArray) (w : World) (hl : l.length ≤ 2048) (hrd : RdS w a l) (hsz : ∀ t ∈ l, t.size ≤ 9223372036854775807) :
    Calls Try.prog 8 #[.slice a l.length c] w fun e w' => (lng l = true ∧ e = .returned (.tuple #[.pointer none, .int .i64 9]) ∨ lng l = false ∧ ∃ p b m x, e = .returned (.tuple #[.pointer (some ⟨p, 0, none⟩), .int .i64 0]) ∧ Dk w.heap.size w' p (st l) b m x) ∧ Below w.heap.size w w' := by
  obtain ⟨n, hn⟩ : ∃ n, l.length = n := ⟨_, rfl⟩
  have HN : Hid (l.length = n) := hn
  have HRD : Hid (RdS w a l) := hrd
  have HSZ : Hid (∀ t ∈ l, t.size ≤ 9223372036854775807) := hsz
  rw [hn] at hl ⊢
  clear hn hrd hsz
  have hn2 : decide ((n : Int) > 2048) = false := by simp; omega
  go_enter Try.func8, Try.ntmps8
  go_wp2_with fail
  refine (new_raw w).mono ?_
  rintro e w1 ⟨p, b, m, x, rfl, hd, hb1⟩
  have HB1 : Hid (Below w.heap.size w w1) := hb1
  have HG1 : Hid (Dg w.heap.size w1 p (fnI (l.take 0)) (fnI (l.take 0)) 0 0 [] b m x) := by
    have e0 : fnI (l.take 0) = fnI [] := by simp
    rw [e0, fnI_nil]
    exact hd
  clear hd hb1
  go_wp2_with fail
  go_loopw [13] (fun i wr => ∃ j : Nat, j ≤ n ∧ i = .int .i64 (j : Int) ∧ Dg w.heap.size wr p (fnI (l.take j)) (fnI (l.take j)) j j [] b m x ∧ Below w.heap.size w wr ∧ lng (l.take j) = false) (fun i _ => n - (intOf i).toNat)
  case atStart => exact ⟨0, by omega, rfl, HG1.out, HB1.out, by simp [lng]⟩
  case round =>
    obtain ⟨j, hj, rfl, hg, hb, hlg⟩ := hrel
    have HG : Hid (Dg w.heap.size wr p (fnI (l.take j)) (fnI (l.take j)) j j [] b m x) := hg
    have HB : Hid (Below w.heap.size w wr) := hb
    have HLG : Hid (lng (l.take j) = false) := hlg
    by_cases hjn : j < n
    · obtain ⟨g, o, eav, hcs⟩ := HRD.out.spot (by intro e; have := HN.out; rw [e] at this; simp at this; omega)
      have x0 := cell_later hb (Nat.le_refl _) (hcs j (by rw [HN.out]; exact hjn))
      subst eav
      have hfn := fnI_take l j (by rw [HN.out]; exact hjn)
      have hln := lng_snoc l j (by rw [HN.out]; exact hjn)
      have hmem : l.getD j ⟨#[]⟩ ∈ l := by rw [getD_yes _ _ (by rw [HN.out]; exact hjn)]; exact List.getElem_mem _
      have ht := HSZ.out _ hmem
      obtain ⟨t, eat⟩ : ∃ t, l.getD j ⟨#[]⟩ = t := ⟨_, rfl⟩
      rw [eat] at x0 hfn hln ht hmem
      have j1 : (0 : Int) ≤ (j : Int) := by omega
      have j2 : (j : Int) < (n : Int) := by omega
      by_cases h32 : t.size ≤ 32
      · have d32 : decide ((t.size : Int) > 32) = false := by simp; omega
        have HFN : Hid (fnI (l.take (j + 1)) = setB (fnI (l.take j)) (j : Int) t) := hfn
        have HLN : Hid (lng (l.take (j + 1)) = false) := by
          have : decide (32 < t.size) = false := by simp; omega
          rw [hln, hlg, this]; exact rfl
        have q0 := hg.c0
        have hp1 := put_any b j (j : Int) t _ wr hg.mb (by omega) (wf_of (by omega) (by omega)) h32
        clear hfn hln hmem eat hcs hg hb hlg
        go_wp2_with fail
        refine hp1.mono ?_
        rintro e w2 ⟨rfl, hm2, hk2⟩
        have hg2 := HG.out.putB hk2 hm2
        have HG2 : Hid (Dg w.heap.size w2 p (setB (fnI (l.take j)) (j : Int) t) (fnI (l.take j)) (j + 1) j [] b m x) := hg2
        have HB2 : Hid (Below w.heap.size w w2) := thenK HB.out hk2 HG.out.nb
        have q1 := hg2.c1
        have hp2 := put_any m j (j : Int) t _ w2 hg2.mm (by omega) (wf_of (by omega) (by omega)) h32
        clear hg2 hm2 hk2 hp1 q0
        go_wp2_with fail
        refine hp2.mono ?_
        rintro e w3 ⟨rfl, hm3, hk3⟩
        go_wp2
        go_roundw
        case rel =>
          refine ⟨j + 1, by omega, by go_num, ?_, thenK HB2.out hk3 HG2.out.nm, HLN.out⟩
          rw [HFN.out]
          exact HG2.out.putM hk3 hm3
        case measure => simp [intOf]; omega
      · have d32 : decide ((t.size : Int) > 32) = true := by simp; omega
        have HLN : Hid (lng l = true) := lng_of_mem j (by rw [HN.out]; exact hjn) (by rw [eat]; omega)
        clear hfn hln hmem eat hcs hg hb hlg
        go_wp2
        go_ret2
        exact ⟨.inl ⟨HLN.out, rfl⟩, HB.out⟩
    · have hjk' : decide ((j : Int) < (n : Int)) = false := by simp; omega
      have ej : l.take j = l := List.take_of_length_le (by rw [HN.out]; omega)
      rw [ej] at hlg hg
      have HLG2 : Hid (lng l = false) := hlg
      have HG2 : Hid (Dg w.heap.size wr p (fnI l) (fnI l) j j [] b m x) := hg
      clear hg hb hlg
      go_wp2
      go_ret2
      refine ⟨.inr ⟨HLG2.out, p, b, m, x, rfl, ?_⟩, HB.out⟩
      have hfe : fe l = 0 := by
        unfold fe
        rw [if_neg (by rw [HN.out]; omega), if_neg (by rw [HLG2.out]; decide)]
      exact HG2.out.done (st_ok hfe) rfl rfl rfl rfl (by simp; omega) (by omega)
end Go.Proofs.Ytifjihdanbbhkaa
