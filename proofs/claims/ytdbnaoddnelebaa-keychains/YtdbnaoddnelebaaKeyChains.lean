/- For every two keys k, l and every number n: advancing by n modulo 256 is refused just where the key isn't good or the steps would pass 255; else it leads one way, and advancing to the end by way of it or at once is the same; a key gives just those that it can be advanced to. No conditions. -/
import Derived.Test.YtdbnaoddnelebaaRows
import Derived.Test.YtdbnaoddnelebaaKeyC
import Derived.Test.YtdbnaoddnelebaaKeyD
import Derived.Test.YtdbnaoddnelebaaOpenKey
import Derived.LoopTactic
import Derived.Test.YtdbnaoddnelebaaKeyQ
namespace Go.Proofs.Ytdbnaoddnelebaa.keyChains
open Go.ChangeShapes Go.WideShapes Go.ChangeAt Go.RowKit
set_option linter.unusedVariables false

theorem mod_of (n m : Int) (hm0 : 0 < m) (hm1 : m ≤ 1000) : ∃ v, wrap64 ((IntKind.u64.wrap n).tmod m) = v ∧ 0 ≤ v ∧ v < m := by
  refine ⟨_, rfl, ?_⟩
  have h0 : 0 ≤ IntKind.u64.wrap n := by simp only [IntKind.wrap_u64]; omega
  rw [Int.tmod_eq_emod_of_nonneg h0]
  have h1 : 0 ≤ IntKind.u64.wrap n % m := Int.emod_nonneg _ (by omega)
  have h2 : IntKind.u64.wrap n % m < m := Int.emod_lt_of_pos _ hm0
  have h3 : wrap64 (IntKind.u64.wrap n % m) = IntKind.u64.wrap n % m := by unfold wrap64; omega
  rw [h3]
  exact ⟨h1, h2⟩
theorem good_below (b s : Int) (w : World) : Calls Try.prog 10 #[.agg #[.int .i64 b, .int .i64 s]] w fun r w' => r = .returned (.bool (gd b s)) ∧ Below w.heap.size w w' :=
  (good_any b s w).mono fun e w' ⟨he, hw⟩ => ⟨he, hw ▸ below1 _ _⟩

/- Is the other key among those that k steps lead to? -/
def upto (b s c t k : Int) : Bool := (b == c) && (decide (s ≤ t) && decide (t < s + k))
theorem upto_0 (b s c t : Int) : upto b s c t 0 = false := by simp [upto]
theorem upto_next (b s c t k : Int) (hk : 0 ≤ k) : upto b s c t (k + 1) = (upto b s c t k || ((b == c) && (s + k == t))) := by
  cases h : (b == c)
  · simp [upto, h]
  · have e1 : (s + k == t) = decide (s + k = t) := rfl
    simp only [upto, h, Bool.true_and, e1]
    rw [Bool.eq_iff_iff]; simp; omega
theorem upto_all (b s c t : Int) (h : Gd b s) (k : Gd c t) : upto b s c t (256 - s) = gv b s c t := by
  have e : decide (t < s + (256 - s)) = true := by have := k.2.2.2; simp; omega
  simp only [upto, gv, gd_yes h, gd_yes k, e, Bool.true_and, Bool.and_true]
theorem gv_no1 {b s c t : Int} (h : ¬ Gd b s) : gv b s c t = false := by simp [gv, gd_no h]
theorem gv_no2 {b s c t : Int} (h : ¬ Gd c t) : gv b s c t = false := by simp [gv, gd_no h]

set_option maxHeartbeats 2000000 in
theorem refused (b s c t n : Int) (m : Int) (hm : wrap64 ((IntKind.u64.wrap n).tmod 256) = m) (m0 : 0 ≤ m) (m1 : m < 256) (e g : _) (hA : ∀ w, Calls Try.prog 12 #[.agg #[.int .i64 b, .int .i64 s], .int .i64 m] w fun r w' => r = .returned (.tuple #[.agg #[.int .i64 0, .int .i64 0], .int .i64 e]) ∧ Below w.heap.size w w')
    (hg : gd b s = g) (hc : (e = 3 ∧ g = false) ∨ (e = 4 ∧ g = true ∧ 255 - m < s)) (w : World) :
    Calls Try.prog 6 #[.agg #[.int .i64 b, .int .i64 s], .agg #[.int .i64 c, .int .i64 t], .int .i64 n] w fun e w' => e = .returned (.bool true) ∧ Below w.heap.size w w' := by
  have K0 : Kp w [(w.heap.size + 1, .int .i64 c, .int .i64 t), (w.heap.size, .int .i64 b, .int .i64 s)] ((w.alloc (.cells #[.int .i64 b, .int .i64 s] 23)).alloc (.cells #[.int .i64 c, .int .i64 t] 23)) := ((Kp.start w).box _ _ _ _ rfl).box _ _ _ _ (by simp)
  rcases hc with ⟨rfl, rfl⟩ | ⟨rfl, rfl, hs⟩
  all_goals
    go_enter Try.func6, Try.ntmps6
    go_wp2_with fail
    refine (lives_any _).mono ?_
    rintro e w1 ⟨rfl, hb⟩
    have K1 := K0.call hb
    clear hb K0
    obtain ⟨-, a0, a1, a2, a3⟩ := kp2 K1
    go_wp2_with fail
    refine (hA _).mono ?_
    rintro e w2 ⟨rfl, hb⟩
    have K2 := K1.call hb
    clear hb K1 a0 a1 a2 a3
    obtain ⟨a0, a1⟩ := K2.twoa
    go_wp2_with fail
    refine (good_below _ _ _).mono ?_
    rintro e w3 ⟨rfl, hb⟩
    have K3 := (K2.alloc _).call hb
    clear hb K2 a0 a1
    obtain ⟨-, a0, a1, a2, a3⟩ := kp2 K3
    go_wp2
    go_ret
    exact ⟨ret_bool (by first | rfl | (simp [hm]; unfold wrap64; omega)), K3.1⟩

/- The way on from where the first key was advanced: m steps are there; the other key isn't good. -/
set_option maxHeartbeats 4000000 in
theorem taken (b s c t n : Int) (m : Int) (hm : wrap64 ((IntKind.u64.wrap n).tmod 256) = m) (m0 : 0 ≤ m) (h : Gd b s) (hs : s + m ≤ 255) (w : World) :
    Calls Try.prog 6 #[.agg #[.int .i64 b, .int .i64 s], .agg #[.int .i64 c, .int .i64 t], .int .i64 n] w fun e w' => e = .returned (.bool true) ∧ Below w.heap.size w w' := by
  obtain ⟨h1, h2, h3, h4⟩ := id h
  have h' : Gd b (s + m) := ⟨h1, h2, by omega, hs⟩
  have g1 : gv b s b (s + m) = true := by simp [gv, gd_yes h, gd_yes h']; omega
  have g2 : 0 < m → gv b (s + m) b s = false := by intro hp; simp [gv]; omega
  have hA1 := ahead_yes b s m h m0 (by omega)
  have hA2 := ahead_yes b (s + m) (255 - (s + m)) h' (by omega) (by omega)
  have hA3 := ahead_yes b s (255 - s) h (by omega) (by omega)
  have e2 : s + m + (255 - (s + m)) = 255 := by omega
  have e3 : s + (255 - s) = 255 := by omega
  rw [e2] at hA2
  rw [e3] at hA3
  obtain ⟨z, hz⟩ : ∃ z, z = s + m := ⟨_, rfl⟩
  rw [← hz] at hA1 hA2 g1 g2
  have z0 : 0 ≤ z := by omega
  have z1 : z ≤ 255 := by omega
  clear hz e2 e3 h' hs
  by_cases hp : 0 < m
  · go_enter Try.func6, Try.ntmps6
    go_wp2_with fail
    refine (lives_any _).mono ?_
    rintro e w1 ⟨rfl, hb⟩
    have K1 := Kq.call (((Kq.start w).box2 _ _ _ _ rfl).box2 (w.heap.size + 1) _ _ _ (by simp)) hb
    clear hb
    have a0 := K1.get 2 rfl
    have a1 := K1.get 3 rfl
    go_wp2_with fail
    refine (hA1 _).mono ?_
    rintro e w2 ⟨rfl, hb⟩
    have K2 := K1.call hb
    clear hb K1 a0 a1
    have a0 := K2.geta 2 rfl
    have a1 := K2.geta 3 rfl
    go_wp2_with fail
    refine (gives_any _ _ _ _ _).mono ?_
    rintro e w3 ⟨rfl, hb⟩
    have K3 := Kq.call (K2.box2 _ _ _ _ rfl) hb
    clear hb K2 a0 a1
    rw [g1]
    have a0 := K3.get 0 rfl
    have a1 := K3.get 1 rfl
    have a2 := K3.get 4 rfl
    have a3 := K3.get 5 rfl
    go_wp2_with fail
    refine (gives_any _ _ _ _ _).mono ?_
    rintro e w4 ⟨rfl, hb⟩
    have K4 := K3.call hb
    clear hb K3 a0 a1 a2 a3
    rw [g2 hp]
    have a0 := K4.get 0 rfl
    have a1 := K4.get 1 rfl
    go_wp2_with fail
    refine (hA2 _).mono ?_
    rintro e w5 ⟨rfl, hb⟩
    have K5 := K4.call hb
    clear hb K4 a0 a1
    have a0 := K5.geta 4 rfl
    have a1 := K5.geta 5 rfl
    go_wp2_with fail
    refine (hA3 _).mono ?_
    rintro e w6 ⟨rfl, hb⟩
    have K6 := Kq.call (K5.box2 _ _ _ _ rfl) hb
    clear hb K5 a0 a1
    have a0 := K6.geta 0 rfl
    have a1 := K6.geta 1 rfl
    have a2 := K6.geta 4 rfl
    have a3 := K6.geta 5 rfl
    have a4 := K6.geta 6 rfl
    have a5 := K6.geta 7 rfl
    go_wp2_with fail
    refine (good_below _ _ _).mono ?_
    rintro e w7 ⟨rfl, hb⟩
    have K7 := Kq.call (K6.alloc _) hb
    clear hb K6 a0 a1 a2 a3 a4 a5
    have j0 := K7.get 4 rfl
    have j1 := K7.get 5 rfl
    have k0 := K7.get 6 rfl
    have k1 := K7.get 7 rfl
    by_cases hl : Gd c t
    · rw [gd_yes hl]
      go_wp2_with fail
      go_loopw [13, 14] (fun r i wr => ∃ k : Int, 0 ≤ k ∧ k ≤ 256 - s ∧ i = .int .i64 k ∧ r = .bool (upto b s c t k) ∧ Kq w [(⟨w.heap.size + 1, 0, none⟩, .int .i64 c), (⟨w.heap.size + 1, 1, none⟩, .int .i64 t), (⟨w.heap.size, 0, none⟩, .int .i64 b), (⟨w.heap.size, 1, none⟩, .int .i64 s)] wr) (fun _ i _ => (256 - s - intOf i).toNat)
      case atStart => exact ⟨0, by omega, by omega, rfl, by rw [upto_0], K7.sub (by simp)⟩
      case round =>
        obtain ⟨k, hk0, hk1, rfl, rfl, K8⟩ := hrel
        have j0 := K8.get 0 rfl
        have j1 := K8.get 1 rfl
        have k0 := K8.get 2 rfl
        have k1 := K8.get 3 rfl
        by_cases hk : k ≤ 255 - s
        · have hu := upto_next b s c t k hk0
          have hcs : (upto b s c t k = true) ∨ (upto b s c t k = false ∧ (b == c) = false) ∨ (upto b s c t k = false ∧ (b == c) = true) := by
            cases upto b s c t k <;> cases (b == c) <;> simp
          rcases hcs with q1 | ⟨q1, q2⟩ | ⟨q1, q2⟩
          all_goals
            go_wp2_with fail
            refine (ahead_yes b s k h hk0 hk _).mono ?_
            rintro e w8 ⟨rfl, hb⟩
            have K9 := K8.call hb
            clear hb K8 j0 j1 k0 k1
            have j0 := K9.geta 0 rfl
            have j1 := K9.geta 1 rfl
            go_wp2
            all_goals
              go_roundw
              case rel => exact ⟨k + 1, by omega, by omega, by go_num, by rw [hu]; simp [*], K9.alloc _⟩
              case measure => simp [intOf]; omega
        · have hke : k = 256 - s := by omega
          have hv := upto_all b s c t h hl
          rw [← hke] at hv
          clear hke
          go_wp2_with fail
          refine (gives_any _ _ _ _ _).mono ?_
          rintro e w8 ⟨rfl, hb⟩
          have K9 := K8.call hb
          clear hb K8 j0 j1 k0 k1
          go_wp2
          go_ret
          exact ⟨ret_bool (by simp), K9.below⟩
    · rw [gd_no hl]
      go_wp2_with fail
      refine (gives_any _ _ _ _ _).mono ?_
      rintro e w8 ⟨rfl, hb⟩
      have K8 := K7.call hb
      clear hb K7 j0 j1 k0 k1
      rw [gv_no2 hl]
      have j0 := K8.get 4 rfl
      have j1 := K8.get 5 rfl
      have k0 := K8.get 6 rfl
      have k1 := K8.get 7 rfl
      go_wp2_with fail
      refine (gives_any _ _ _ _ _).mono ?_
      rintro e w9 ⟨rfl, hb⟩
      have K9 := K8.call hb
      clear hb K8 j0 j1 k0 k1
      rw [gv_no1 hl]
      go_wp2
      go_ret
      exact ⟨rfl, K9.below⟩
  · have hp' : decide (0 < m) = false := by simpa using hp
    go_enter Try.func6, Try.ntmps6
    go_wp2_with fail
    refine (lives_any _).mono ?_
    rintro e w1 ⟨rfl, hb⟩
    have K1 := Kq.call (((Kq.start w).box2 _ _ _ _ rfl).box2 (w.heap.size + 1) _ _ _ (by simp)) hb
    clear hb
    have a0 := K1.get 2 rfl
    have a1 := K1.get 3 rfl
    go_wp2_with fail
    refine (hA1 _).mono ?_
    rintro e w2 ⟨rfl, hb⟩
    have K2 := K1.call hb
    clear hb K1 a0 a1
    have a0 := K2.geta 2 rfl
    have a1 := K2.geta 3 rfl
    go_wp2_with fail
    refine (gives_any _ _ _ _ _).mono ?_
    rintro e w3 ⟨rfl, hb⟩
    have K3 := Kq.call (K2.box2 _ _ _ _ rfl) hb
    clear hb K2 a0 a1
    rw [g1]
    have a0 := K3.get 0 rfl
    have a1 := K3.get 1 rfl
    have a2 := K3.get 4 rfl
    have a3 := K3.get 5 rfl
    go_wp2_with fail
    refine (hA2 _).mono ?_
    rintro e w5 ⟨rfl, hb⟩
    have K5 := K3.call hb
    clear hb K3 a0 a1 a2 a3
    have a0 := K5.geta 4 rfl
    have a1 := K5.geta 5 rfl
    go_wp2_with fail
    refine (hA3 _).mono ?_
    rintro e w6 ⟨rfl, hb⟩
    have K6 := Kq.call (K5.box2 _ _ _ _ rfl) hb
    clear hb K5 a0 a1
    have a0 := K6.geta 0 rfl
    have a1 := K6.geta 1 rfl
    have a2 := K6.geta 4 rfl
    have a3 := K6.geta 5 rfl
    have a4 := K6.geta 6 rfl
    have a5 := K6.geta 7 rfl
    go_wp2_with fail
    refine (good_below _ _ _).mono ?_
    rintro e w7 ⟨rfl, hb⟩
    have K7 := Kq.call (K6.alloc _) hb
    clear hb K6 a0 a1 a2 a3 a4 a5
    have j0 := K7.get 4 rfl
    have j1 := K7.get 5 rfl
    have k0 := K7.get 6 rfl
    have k1 := K7.get 7 rfl
    by_cases hl : Gd c t
    · rw [gd_yes hl]
      go_wp2_with fail
      go_loopw [13, 14] (fun r i wr => ∃ k : Int, 0 ≤ k ∧ k ≤ 256 - s ∧ i = .int .i64 k ∧ r = .bool (upto b s c t k) ∧ Kq w [(⟨w.heap.size + 1, 0, none⟩, .int .i64 c), (⟨w.heap.size + 1, 1, none⟩, .int .i64 t), (⟨w.heap.size, 0, none⟩, .int .i64 b), (⟨w.heap.size, 1, none⟩, .int .i64 s)] wr) (fun _ i _ => (256 - s - intOf i).toNat)
      case atStart => exact ⟨0, by omega, by omega, rfl, by rw [upto_0], K7.sub (by simp)⟩
      case round =>
        obtain ⟨k, hk0, hk1, rfl, rfl, K8⟩ := hrel
        have j0 := K8.get 0 rfl
        have j1 := K8.get 1 rfl
        have k0 := K8.get 2 rfl
        have k1 := K8.get 3 rfl
        by_cases hk : k ≤ 255 - s
        · have hu := upto_next b s c t k hk0
          have hcs : (upto b s c t k = true) ∨ (upto b s c t k = false ∧ (b == c) = false) ∨ (upto b s c t k = false ∧ (b == c) = true) := by
            cases upto b s c t k <;> cases (b == c) <;> simp
          rcases hcs with q1 | ⟨q1, q2⟩ | ⟨q1, q2⟩
          all_goals
            go_wp2_with fail
            refine (ahead_yes b s k h hk0 hk _).mono ?_
            rintro e w8 ⟨rfl, hb⟩
            have K9 := K8.call hb
            clear hb K8 j0 j1 k0 k1
            have j0 := K9.geta 0 rfl
            have j1 := K9.geta 1 rfl
            go_wp2
            all_goals
              go_roundw
              case rel => exact ⟨k + 1, by omega, by omega, by go_num, by rw [hu]; simp [*], K9.alloc _⟩
              case measure => simp [intOf]; omega
        · have hke : k = 256 - s := by omega
          have hv := upto_all b s c t h hl
          rw [← hke] at hv
          clear hke
          go_wp2_with fail
          refine (gives_any _ _ _ _ _).mono ?_
          rintro e w8 ⟨rfl, hb⟩
          have K9 := K8.call hb
          clear hb K8 j0 j1 k0 k1
          go_wp2
          go_ret
          exact ⟨ret_bool (by simp), K9.below⟩
    · rw [gd_no hl]
      go_wp2_with fail
      refine (gives_any _ _ _ _ _).mono ?_
      rintro e w8 ⟨rfl, hb⟩
      have K8 := K7.call hb
      clear hb K7 j0 j1 k0 k1
      rw [gv_no2 hl]
      have j0 := K8.get 4 rfl
      have j1 := K8.get 5 rfl
      have k0 := K8.get 6 rfl
      have k1 := K8.get 7 rfl
      go_wp2_with fail
      refine (gives_any _ _ _ _ _).mono ?_
      rintro e w9 ⟨rfl, hb⟩
      have K9 := K8.call hb
      clear hb K8 j0 j1 k0 k1
      rw [gv_no1 hl]
      go_wp2
      go_ret
      exact ⟨rfl, K9.below⟩

theorem walk (b s c t n : Int) (w0 : (Lit.int .i64 b).wf = true) (w1 : (Lit.int .i64 s).wf = true) (w2 : (Lit.int .i64 c).wf = true) (w3 : (Lit.int .i64 t).wf = true) (w4 : (Lit.int .i64 n).wf = true) (w : World) :
    Calls Try.prog 6 #[.agg #[.int .i64 b, .int .i64 s], .agg #[.int .i64 c, .int .i64 t], .int .i64 n] w fun e w' => e = .returned (.bool true) ∧ Below w.heap.size w w' := by
  obtain ⟨m, hm, m0, m1⟩ := mod_of n 256 (by omega) (by omega)
  by_cases h : Gd b s
  · by_cases hs : s + m ≤ 255
    · exact taken b s c t n m hm m0 h hs w
    · exact refused b s c t n m hm m0 m1 4 true (ahead_far b s m h (by omega)) (gd_yes h) (Or.inr ⟨rfl, rfl, by omega⟩) w
  · exact refused b s c t n m hm m0 m1 3 false (ahead_bad b s m h) (gd_no h) (Or.inl ⟨rfl, rfl⟩) w

theorem own : ownKnob Try.prog.godebug = none := by kernel_rfl
theorem laidOut : laidOutB Try.prog = true := by kernel_rfl
set_option maxRecDepth 100000 in
theorem lifted (os : Os) (started : os.Started) (H : Type) (enc : TypeId × Value → H) :
    ReturnsInHanded {} Try.checked os 6 .any (Rows.keyChainsSpec.pre6 enc Try.prog Try.f6 Rows.keyChainsRow.domain false) (Rows.keyChainsSpec.post enc Try.prog Try.f6 false true false false) := by
  refine returnsInHanded_of_change (C := Try.checked) own started (by kernel_rfl) Try.func6
    (ChangeSpec.witness6 (enc := enc) (C := Try.checked) false ⟨#[], #[.agg #[.int .i64 0, .int .i64 0], .agg #[.int .i64 0, .int .i64 0], .int .i64 0], []⟩ 8 (by kernel_rfl) (by kernel_rfl) (by kernel_rfl) (by kernel_rfl)) ?_
  intro W base args ds gs before hval0 hW hcnd _
  have hval : ∀ (j : Nat) t v, Try.f6.params[j]? = some t → args[j]? = some v → Value.okWide Try.prog W .any base t v := hval0
  have hW' := hW
  obtain ⟨p, q, hA0, hV, rfl, hfz, hnd⟩ := hW
  have hA : DataW.TrodAll enc Try.prog W 0 (fun _ => true) true Try.f6.params.toList args.toList ds p := hA0
  rw [Try.params6] at hA hval
  obtain ⟨v0, vs0, d0, ds0, p0, q0, hargs, rfl, rfl, h0, r0⟩ := trodAll_cons hA
  obtain ⟨v1, vs1, d1, ds1, p1, q1, rfl, rfl, rfl, h1, r1⟩ := trodAll_cons r0
  obtain ⟨v2, vs2, d2, ds2, p2, q2, rfl, rfl, rfl, h2, r2⟩ := trodAll_cons r1
  obtain ⟨rfl, rfl, rfl⟩ := trodAll_nil r2
  obtain rfl : args = #[v0, v1, v2] := by cases args; simp_all
  obtain ⟨rfl, rfl⟩ := trodVars_none hV
  have k0 := h0
  have lt0 : ∀ x ∈ p0, x.block < W.heap.size := by obtain ⟨m, hm⟩ := k0; exact DataW.trod_lt m _ _ _ hm
  obtain ⟨a0_0, a0_1, rfl, w0_0, w0_1⟩ := open_pair Try.underlying23 (by kernel_rfl) (by kernel_rfl) rfl rfl Try.underlying3 (hval 0 23 v0 rfl rfl) h0
  have k1 := h1
  have lt1 : ∀ x ∈ p1, x.block < W.heap.size := by obtain ⟨m, hm⟩ := k1; exact DataW.trod_lt m _ _ _ hm
  obtain ⟨a1_0, a1_1, rfl, w1_0, w1_1⟩ := open_pair Try.underlying23 (by kernel_rfl) (by kernel_rfl) rfl rfl Try.underlying3 (hval 1 23 v1 rfl rfl) h1
  obtain ⟨a2, rfl, rfl, rfl, w2⟩ := open_int Try.underlying3 (hval 2 3 v2 rfl rfl) h2
  clear hA0 hval0
  refine (walk a0_0 a0_1 a1_0 a1_1 a2 w0_0 w0_1 w1_0 w1_1 w2 W).mono fun e W' ⟨he, bel⟩ => ?_
  subst he
  exact ⟨_, rfl, _, _, _, [], _, [], hW', trodAll_mk1 (shut_bool Try.underlying4 _), (trodAll_cons_mk (Below.trod laidOut (by kernel_rfl) (of_decide_eq_true (by kernel_rfl)) k0 bel lt0) (trodAll_cons_mk (Below.trod laidOut (by kernel_rfl) (of_decide_eq_true (by kernel_rfl)) k1 bel lt1) (trodAll_cons_mk (shut_int Try.underlying3 w2) trodAll_mk0))), rfl, bel.frame _, fun h => by cases h⟩
theorem over : Rows.keyChainsRow.holds Try.pinned (OpenSpec.ofChange Rows.keyChainsSpec) :=
  OpenClaim.holds_of_wide 6 Try.f6 rfl rfl rfl rfl rfl rfl rfl ⟨rfl, rfl, rfl, rfl, rfl⟩ rfl rfl rfl rfl rfl (by kernel_rfl) Try.func6 (by kernel_rfl)
    (of_decide_eq_true (by kernel_rfl)) (by unfold Func.isWrapper; first | (rw [if_pos (by decide +kernel)]; kernel_rfl) | (rw [if_neg (by decide +kernel)]; exact ⟨rfl, rfl⟩))
    (fun os started H enc _ => lifted os started H enc)
end Go.Proofs.Ytdbnaoddnelebaa.keyChains
namespace Go.Proofs.Ytdbnaoddnelebaa
theorem keyChains_holds : Rows.KeyChainsSaid := keyChains.over
#print axioms keyChains_holds
end Go.Proofs.Ytdbnaoddnelebaa
