/- The law's without: a row of calls but for one, on a new object. -/
import Derived.Test.YtompgoaogomoaaaKnTw
namespace Go.Proofs.Ytompgoaogomoaaa.Kn
open Go.RowKit Go.Maps
open Rt (Gd gd gd_yes gd_no rGood_any)
set_option linter.unusedVariables false
set_option linter.unusedSimpArgs false

def dropAt (l : List Op9) (s : Int) : Nat → List Op9
  | 0 => []
  | k + 1 => dropAt l s k ++ (if (k : Int) = s then [] else [l.getD k zO])
theorem dropAt_len (l : List Op9) (s : Int) : ∀ k, (dropAt l s k).length ≤ k
  | 0 => Nat.le_refl _
  | k + 1 => by
    have := dropAt_len l s k
    show (dropAt l s k ++ (if (k : Int) = s then [] else [l.getD k zO])).length ≤ k + 1
    rw [List.length_append]
    split <;> simp <;> omega
theorem dropAt_all {l : List Op9} {s : Int} (h : s < 0) : ∀ k, k ≤ l.length → dropAt l s k = l.take k
  | 0, _ => by simp [dropAt]
  | k + 1, hk => by
    show dropAt l s k ++ (if (k : Int) = s then [] else [l.getD k zO]) = _
    rw [dropAt_all h k (by omega), if_neg (by omega), ← take_snoc' (by omega)]
theorem mem_dropAt {l : List Op9} {s : Int} {o : Op9} : ∀ {k : Nat}, o ∈ dropAt l s k ↔ ∃ j : Nat, j < k ∧ (j : Int) ≠ s ∧ l.getD j zO = o
  | 0 => by simp [dropAt]
  | k + 1 => by
    show o ∈ dropAt l s k ++ (if (k : Int) = s then [] else [l.getD k zO]) ↔ _
    rw [List.mem_append, mem_dropAt (k := k)]
    constructor
    · rintro (⟨j, h1, h2, h3⟩ | h)
      · exact ⟨j, by omega, h2, h3⟩
      · split at h
        · cases h
        · rw [List.mem_singleton] at h; exact ⟨k, by omega, by assumption, h.symm⟩
    · rintro ⟨j, h1, h2, h3⟩
      rcases Nat.lt_or_ge j k with h | h
      · exact .inl ⟨j, h, h2, h3⟩
      · obtain rfl : j = k := by omega
        rw [if_neg h2]
        exact .inr (by rw [h3]; simp)
set_option maxRecDepth 100000 in
set_option maxHeartbeats 4000000 in
theorem without_any {PAt : PPred} {Rm : RPred} (A : KApi PAt Rm) (a : Option Addr) (c : Nat) (l : List Op9) (s : Int) (w : World) (rd : RdO w a l) (hl : l.length * 80 ≤ 140737488351232) (ok : ∀ p ∈ l, OkO p) :
    Calls Try.prog 25 #[.slice a l.length c, .int .i64 s] w fun e w' => ∃ p F, e = .returned (.pointer (some ⟨p, 0, none⟩)) ∧ POps PAt w' w.heap.size p (dropAt l s l.length) F ∧ Below w.heap.size w w' := by
  obtain ⟨n, hn⟩ : ∃ n, l.length = n := ⟨_, rfl⟩
  have HL : Hid (l.length = n ∧ (∀ p ∈ l, OkO p) ∧ RdO w a l) := ⟨hn, ok, rd⟩
  have hn2 : n * 80 ≤ 140737488351232 := by omega
  rw [hn]
  have hnw := A.new w
  clear hn ok rd hl
  go_enter Try.func25, Try.ntmps25
  go_wp2_with fail
  refine hnw.mono ?_
  rintro r w2 ⟨p, F, rfl, hP, hb2⟩
  obtain ⟨N, hN⟩ : ∃ N, w.heap.size = N := ⟨_, rfl⟩
  rw [hN] at hP hb2
  have HB3 : Hid (Below N w w2 ∧ N ≤ w2.heap.size ∧ w.heap.size = N) := ⟨hb2, by rw [← hN]; exact (hN ▸ hb2 : Below w.heap.size w w2).size, hN⟩
  have HP0 : Hid (POps PAt w2 N p [] F) := hP
  clear hnw hb2 hP hN
  go_wp2_with fail
  go_loopw [11] (fun i wx => ∃ (k : Nat) (F : Nat → Prop), k ≤ n ∧ i = .int .i64 (k : Int) ∧ POps PAt wx N p (dropAt l s k) F ∧ Below N w2 wx) (fun i _ => n - (intOf i).toNat)
  case atStart => exact ⟨0, F, by omega, rfl, HP0.out, Below.refl _ _⟩
  case round =>
    obtain ⟨k, F, hk, rfl, hP, hb⟩ := hrel
    clear HP0
    have HP : Hid (POps PAt wr N p (dropAt l s k) F) := hP
    have HB : Hid (N ≤ wr.heap.size ∧ Below N w2 wr) := ⟨Nat.le_trans HB3.out.2.1 hb.size, hb⟩
    clear hP hb
    by_cases hkn : k < n
    · have hkl : k < l.length := by rw [HL.out.1]; exact hkn
      obtain ⟨o, ho⟩ : ∃ o, l.getD k zO = o := ⟨_, rfl⟩
      have hko := HL.out.2.1 o (ho ▸ getD_of hkl)
      have HO : Hid (l.getD k zO = o) := ho
      have hbw : Below w.heap.size w wr := by rw [HB3.out.2.2]; exact HB3.out.1.trans HB.out.2
      obtain ⟨b', f', ha, c0, c1, c2, c3, c4, c5, c6, c7, c8⟩ := ops_cells (HL.out.2.2.later hbw) hkl ho
      have hln : (dropAt l s k).length < 2199023255552 := by have := dropAt_len l s k; omega
      subst ha
      obtain ⟨kd, ⟨⟨ub, us⟩, lb, ls⟩, ep, ⟨s0, s1⟩, tx⟩ := o
      dsimp only at c0 c1 c2 c3 c4 c5 c6 c7 c8
      have hdo := do_any A (wr.alloc (.cells #[.int .i64 kd, .int .i64 ub, .int .i64 us, .int .i64 lb, .int .i64 ls, .int .i64 ep, .int .i64 s0, .int .i64 s1, .string tx] 39)) N p (dropAt l s k) F kd ub us lb ls ep s0 s1 tx (A.later HP.out (Rt.below1 _ _)) (Nat.le_trans HB.out.1 (Rt.below1 _ _).size) hln hko
      have k1 : (0 : Int) ≤ (k : Int) := by omega
      have k2 : (k : Int) < (n : Int) := by omega
      clear hkl ho hko hbw hln
      by_cases hks : (k : Int) = s
      · subst hks
        go_wp2_with fail
        go_roundw
        case rel => exact ⟨k + 1, F, by omega, by go_num, by show POps PAt _ N p (dropAt l _ k ++ _) F; rw [if_pos rfl, List.append_nil]; exact A.later HP.out (Rt.below1 _ _), HB.out.2.trans ((Rt.below1 _ _).mono HB.out.1)⟩
        case measure => simp [intOf]; omega
      · have e1 : ((k : Int) == s) = false := by simpa using hks
        have HS : Hid (¬ (k : Int) = s) := hks
        clear hks
        go_wp2_with (go_at_call 11; refine hdo.mono ?_; rintro r wd ⟨rfl, hd⟩)
        go_roundw
        case rel =>
          obtain ⟨F', h1, h2, h3⟩ := hd
          refine ⟨k + 1, F', by omega, by go_num, ?_, (HB.out.2.trans ((Rt.below1 wr _).mono HB.out.1)).trans (h2.below (Nat.le_trans HB.out.1 (Rt.below1 wr _).size) fun k hk => (A.ge HP.out k hk).1)⟩
          show POps PAt _ N p (dropAt l s k ++ _) F'
          rw [if_neg HS.out, HO.out]
          exact h1
        case measure => simp [intOf]; omega
    · obtain rfl : k = n := by omega
      have dkn : decide ((k : Int) < (k : Int)) = false := by simp
      go_wp2_with fail
      go_ret
      refine ⟨p, F, rfl, ?_, ?_⟩
      · rw [HB3.out.2.2]; exact HP.out
      · rw [HB3.out.2.2]; exact HB3.out.1.trans HB.out.2
end Go.Proofs.Ytompgoaogomoaaa.Kn
