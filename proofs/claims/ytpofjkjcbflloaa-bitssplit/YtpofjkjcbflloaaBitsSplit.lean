/- For every number and every cut: a number that is put in two parts, noughts ahead, gives the same bytes and the same length. No conditions. -/
import Derived.Test.YtpofjkjcbflloaaRows
import Derived.Test.YtpofjkjcbflloaaBitLives
import Derived.Test.YtpofjkjcbflloaaOpenBits
namespace Go.Proofs.Ytpofjkjcbflloaa.bitsSplit
open Go.ChangeShapes Go.WideShapes Go.ChangeAt Go.RowKit
set_option linter.unusedVariables false

theorem mod_of (n m : Int) (hm0 : 0 < m) (hm1 : m ≤ 1000) : ∃ v : Nat, wrap64 ((IntKind.u64.wrap n).tmod m) = (v : Int) ∧ (v : Int) < m := by
  have h0 : 0 ≤ IntKind.u64.wrap n := by simp only [IntKind.wrap_u64]; omega
  have h1 : 0 ≤ IntKind.u64.wrap n % m := Int.emod_nonneg _ (by omega)
  have h2 : IntKind.u64.wrap n % m < m := Int.emod_lt_of_pos _ hm0
  refine ⟨(IntKind.u64.wrap n % m).toNat, ?_, by omega⟩
  rw [Int.tmod_eq_emod_of_nonneg h0]
  have h3 : wrap64 (IntKind.u64.wrap n % m) = IntKind.u64.wrap n % m := by unfold wrap64; omega
  rw [h3]; omega
theorem and_low (v D q : Nat) (hv : v < 18446744073709551616) (hD : D ≤ 63) (hq : v % 2 ^ D = q) : bits .and .u64 (v : Int) (IntKind.u64.wrap (IntKind.u64.wrap (2 ^ D) - 1)) = (q : Int) := by
  have h1 : (2 : Nat) ^ D ≤ 2 ^ 63 := Nat.pow_le_pow_right (by decide) hD
  have h2 := Nat.two_pow_pos D
  have e : ((2 : Int) ^ D) = ((2 ^ D : Nat) : Int) := by simp
  have e2 : IntKind.u64.wrap (IntKind.u64.wrap ((2 : Int) ^ D) - 1) = ((2 ^ D - 1 : Nat) : Int) := by
    rw [e, IntKind.wrap_u64, IntKind.wrap_u64]; omega
  rw [e2, u64_and_nat v (2 ^ D - 1) hv (by omega), Nat.and_two_pow_sub_one_eq_mod, hq]
theorem Wr.fresh {B : Nat} {w : World} {g : Nat} (h : w.heap[g]? = some (.cells #[.int .i64 0, .slice none 0 0] 60)) (hB : g < B) : Wr B w g [] (.slice none 0 0) := ⟨h, World.ownsRow_nil _ _ _ _, hB⟩
/- Two writers beside one another. -/
structure Two (B : Nat) (w : World) (g h : Nat) (l m : List Bool) (x y : Value) : Prop where
  one : Wr B w g l x
  two : Wr B w h m y
  ne : g ≠ h
  far : ∀ k, x.ownBlock = some k → y.ownBlock ≠ some k
theorem Two.swap {B : Nat} {w : World} {g h : Nat} {l m : List Bool} {x y : Value} (t : Two B w g h l m x y) : Two B w h g m l y x := ⟨t.two, t.one, t.ne.symm, fun k e e' => t.far k e' e⟩
theorem Two.put {B : Nat} {w w' : World} {g h : Nat} {l l' m : List Bool} {x x' y : Value} (t : Two B w g h l m x y) (h1 : Wr B w' g l' x') (hk : Kept (Fw g x) w w') (ho : x'.ownBlock = x.ownBlock ∨ ∀ k, x'.ownBlock = some k → w.heap.size ≤ k) : Two B w' g h l' m x' y := by
  refine ⟨h1, t.two.kept hk ?_, t.ne, ?_⟩
  · rintro k (rfl | hk') (e | e)
    · exact t.ne e.symm
    · have := (t.one.row.lt _ e).1; have := t.two.lt; omega
    · subst e; have := (t.two.row.lt _ hk').1; have := t.one.lt; omega
    · exact t.far k e hk'
  · intro k e e'
    rcases ho with ho | ho
    · exact t.far k (ho ▸ e) e'
    · have := ho k e; have := (t.two.row.lt k e').2; omega
theorem Two.below {B : Nat} {w w' : World} {g h : Nat} {l m : List Bool} {x y : Value} (t : Two B w g h l m x y) (hk : Kept (Fw g x) w w') {B0 : Nat} (h0 : B0 ≤ g) : Below B0 w w' := t.one.below hk h0
set_option maxHeartbeats 2000000 in
set_option maxRecDepth 100000 in
theorem walk (a0 x y z : Int) (w0 : (Lit.int .u64 a0).wf = true) (w1 : (Lit.int .i64 x).wf = true) (w2 : (Lit.int .i64 y).wf = true) (w3 : (Lit.int .i64 z).wf = true) (w : World) :
    Calls Try.prog 7 #[.int .u64 a0, .agg #[.int .i64 x, .int .i64 y, .int .i64 z]] w fun e w' => e = .returned (.bool true) ∧ Below w.heap.size w w' := by
  have hx := bounds_u64 w0
  clear w0 w1 w2 w3
  obtain ⟨V, rfl⟩ : ∃ V : Nat, a0 = (V : Int) := ⟨a0.toNat, by omega⟩
  obtain ⟨n0, hn0, hn1⟩ := mod_of x 63 (by omega) (by omega)
  obtain ⟨h0, hh0, hh1⟩ := mod_of z 64 (by omega) (by omega)
  obtain ⟨N, hN⟩ : ∃ N : Nat, 2 + n0 = N := ⟨_, rfl⟩
  obtain ⟨A, hA⟩ : ∃ A : Nat, 1 + h0 = A := ⟨_, rfl⟩
  obtain ⟨k0, hk0, hk1⟩ := mod_of y ((N : Int) - 1) (by omega) (by omega)
  obtain ⟨K, hK⟩ : ∃ K : Nat, 1 + k0 = K := ⟨_, rfl⟩
  obtain ⟨D, hD⟩ : ∃ D : Nat, N - K = D := ⟨_, rfl⟩
  obtain ⟨v, hv⟩ : ∃ v : Nat, V / 2 ^ (64 - N) = v := ⟨_, rfl⟩
  have e1 : 2 + (n0 : Int) = (N : Int) := by omega
  have e2 : 1 + (h0 : Int) = (A : Int) := by omega
  have e3 : 1 + (k0 : Int) = (K : Int) := by omega
  have e4 : (V : Int) / 2 ^ (64 - N) = (v : Int) := by rw [← hv]; simp
  have e5 : (N : Int) - (K : Int) = (D : Int) := by omega
  have b1 : 2 ≤ N ∧ N ≤ 64 := by omega
  have b2 : 1 ≤ A ∧ A ≤ 64 := by omega
  have b3 : 1 ≤ K ∧ K < N := by omega
  have b4 : 1 ≤ D ∧ D ≤ 63 := by omega
  have HK : Hid (K + D = N) := by unfold Hid; omega
  have HV : Hid (v < 2 ^ N) := by
    unfold Hid
    rw [← hv]
    refine Nat.div_lt_of_lt_mul ?_
    rw [← Nat.pow_add, show 64 - N + N = 64 by omega]
    omega
  obtain ⟨p, hp⟩ : ∃ p : Nat, v / 2 ^ D = p := ⟨_, rfl⟩
  have e6 : (v : Int) / 2 ^ D = (p : Int) := by rw [← hp]; simp
  obtain ⟨q, hq⟩ : ∃ q : Nat, v % 2 ^ D = q := ⟨_, rfl⟩
  have HPQ : Hid (v / 2 ^ D = p ∧ v % 2 ^ D = q) := ⟨hp, hq⟩
  clear hN hA hK hD hv hp hq
  go_enter Try.func7, Try.ntmps7
  go_wp2_with fail
  refine (lives_any _).mono ?_
  rintro e w1 ⟨rfl, hb⟩
  have c0 : w1.cell? ⟨w.heap.size, 0, none⟩ = some (.int .i64 x) := cell_later hb (by simp [go_sem])
  have c1 : w1.cell? ⟨w.heap.size, 1, none⟩ = some (.int .i64 y) := cell_later hb (by simp [go_sem])
  have c2 : w1.cell? ⟨w.heap.size, 2, none⟩ = some (.int .i64 z) := cell_later hb (by simp [go_sem])
  have HB : Hid (Below w.heap.size w w1) := Below.then (below1 _ _) hb
  clear hb
  go_wp2_with fail
  refine (new_any _).mono ?_
  rintro e w2 ⟨rfl, rfl⟩
  go_wp2_with fail
  refine (new_any _).mono ?_
  rintro e w3 ⟨rfl, rfl⟩
  have HT0 : Hid (Two (w1.heap.size + 2) ((w1.alloc (.cells #[.int .i64 0, .slice none 0 0] 60)).alloc (.cells #[.int .i64 0, .slice none 0 0] 60)) w1.heap.size (w1.heap.size + 1) [] [] (.slice none 0 0) (.slice none 0 0)) := by
    refine ⟨Wr.fresh ?_ (by omega), Wr.fresh ?_ (by omega), by omega, by simp [Value.ownBlock]⟩
    · rw [Below.heap_alloc _ _ _ (by simp)]; exact heap_alloc_new w1 _
    · have := heap_alloc_new (w1.alloc (.cells #[.int .i64 0, .slice none 0 0] 60)) (.cells #[.int .i64 0, .slice none 0 0] 60); simpa using this
  have HB0 : Hid (Below w.heap.size w ((w1.alloc (.cells #[.int .i64 0, .slice none 0 0] 60)).alloc (.cells #[.int .i64 0, .slice none 0 0] 60))) := Below.more (Below.more HB.out _) _
  have hsz := HB.out.size
  clear c0 c1 c2 hn0 hn1 hh0 hh1 hk0 hk1 e1 e2 e3 e4
  go_wp2_with fail
  refine (put_yes (w1.heap.size + 2) w1.heap.size 0 A [] _ _ b2.1 b2.2 (Nat.two_pow_pos _) (by simp) HT0.out.one (by simp; omega)).mono ?_
  rintro e w4 ⟨rfl, xa, hwa, hka, hoa⟩
  have HT4 : Hid (Two (w1.heap.size + 2) w4 w1.heap.size (w1.heap.size + 1) ([] ++ bo 0 A) [] xa (.slice none 0 0)) := HT0.out.put hwa hka hoa
  have HB4 : Hid (Below w.heap.size w w4) := HB0.out.trans (HT0.out.below hka hsz)
  have hs4 : w1.heap.size + 2 ≤ w4.heap.size := by have := hka.size; simpa using this
  clear hwa hka hoa HT0 HB0
  go_wp2_with fail
  refine (put_yes (w1.heap.size + 2) (w1.heap.size + 1) 0 A [] _ _ b2.1 b2.2 (Nat.two_pow_pos _) hs4 HT4.out.two (by simp; omega)).mono ?_
  rintro e w5 ⟨rfl, xb, hwb, hkb, hob⟩
  have HT5 : Hid (Two (w1.heap.size + 2) w5 w1.heap.size (w1.heap.size + 1) ([] ++ bo 0 A) ([] ++ bo 0 A) xa xb) := (HT4.out.swap.put hwb hkb hob).swap
  have HB5 : Hid (Below w.heap.size w w5) := HB4.out.trans (HT4.out.swap.below hkb (by omega))
  have hs5 : w1.heap.size + 2 ≤ w5.heap.size := Nat.le_trans hs4 hkb.size
  clear hwb hkb hob HT4 HB4
  go_wp2_with fail
  refine (put_yes (w1.heap.size + 2) w1.heap.size v N _ _ _ (by omega) b1.2 HV.out hs5 HT5.out.one (by simp; omega)).mono ?_
  rintro e w6 ⟨rfl, xa', hwa, hka, hoa⟩
  have HT6 : Hid (Two (w1.heap.size + 2) w6 w1.heap.size (w1.heap.size + 1) ([] ++ bo 0 A ++ bo v N) ([] ++ bo 0 A) xa' xb) := HT5.out.put hwa hka hoa
  have HB6 : Hid (Below w.heap.size w w6) := HB5.out.trans (HT5.out.below hka hsz)
  have hs6 : w1.heap.size + 2 ≤ w6.heap.size := Nat.le_trans hs5 hka.size
  clear hwa hka hoa HT5 HB5
  go_wp2_with fail
  refine (put_yes (w1.heap.size + 2) (w1.heap.size + 1) p K _ _ _ b3.1 (by omega) (by rw [← HPQ.out.1]; refine Nat.div_lt_of_lt_mul ?_; rw [← Nat.pow_add, Nat.add_comm, HK.out]; exact HV.out) hs6 HT6.out.two (by simp; omega)).mono ?_
  rintro e w7 ⟨rfl, xb', hwb, hkb, hob⟩
  have HT7 : Hid (Two (w1.heap.size + 2) w7 w1.heap.size (w1.heap.size + 1) ([] ++ bo 0 A ++ bo v N) ([] ++ bo 0 A ++ bo p K) xa' xb') := (HT6.out.swap.put hwb hkb hob).swap
  have HB7 : Hid (Below w.heap.size w w7) := HB6.out.trans (HT6.out.swap.below hkb (by omega))
  have hs7 : w1.heap.size + 2 ≤ w7.heap.size := Nat.le_trans hs6 hkb.size
  clear hwb hkb hob HT6 HB6
  go_wp2_with fail
  rw [and_low v D q (Nat.lt_of_lt_of_le HV.out (by have := Nat.pow_le_pow_right (n := 2) (by decide) b1.2; simpa using this)) b4.2 HPQ.out.2]
  refine (put_yes (w1.heap.size + 2) (w1.heap.size + 1) q D _ _ _ b4.1 (by omega) (by rw [← HPQ.out.2]; exact Nat.mod_lt _ (Nat.two_pow_pos _)) hs7 HT7.out.two (by simp; omega)).mono ?_
  rintro e w8 ⟨rfl, xb'', hwb, hkb, hob⟩
  obtain ⟨L, hL⟩ : ∃ L, [] ++ bo 0 A ++ bo v N = L := ⟨_, rfl⟩
  have hL2 : [] ++ bo 0 A ++ bo p K ++ bo q D = L := by
    rw [← hL, ← HK.out, bo_split v K D, HPQ.out.1, ← HPQ.out.2, bo_mod]; simp
  have HT8 : Hid (Two (w1.heap.size + 2) w8 w1.heap.size (w1.heap.size + 1) L L xa' xb'') := by
    have := (HT7.out.swap.put hwb hkb hob).swap
    rw [hL, hL2] at this
    exact this
  have HB8 : Hid (Below w.heap.size w w8) := HB7.out.trans (HT7.out.swap.below hkb (by omega))
  have hlen : (L.length : Int) = (A : Int) + (N : Int) := by rw [← hL]; simp
  clear hwb hkb hob HT7 HB7 hL hL2
  go_wp2_with fail
  refine (bytes_any _ _ _ _ _ HT8.out.one).mono ?_
  rintro e w9 ⟨rfl, rfl⟩
  go_wp2_with fail
  refine (bytes_any _ _ _ _ _ HT8.out.two).mono ?_
  rintro e w10 ⟨rfl, rfl⟩
  have hc1 := HT8.out.one.c0
  have hc2 := HT8.out.two.c0
  go_wp2_with fail
  refine (len_any _ L.length _ hc1).mono ?_
  rintro e w11 ⟨rfl, rfl⟩
  go_wp2_with fail
  refine (len_any _ L.length _ hc2).mono ?_
  rintro e w12 ⟨rfl, rfl⟩
  go_wp2_with fail
  go_ret
  exact ⟨ret_bool (by simp), HB8.out⟩
theorem own : ownKnob Try.prog.godebug = none := by kernel_rfl
theorem laidOut : laidOutB Try.prog = true := by kernel_rfl
set_option maxRecDepth 100000 in
theorem lifted (os : Os) (started : os.Started) (H : Type) (enc : TypeId × Value → H) :
    ReturnsInHanded {} Try.checked os 7 .any (Rows.bitsSplitSpec.pre6 enc Try.prog Try.f7 Rows.bitsSplitRow.domain false) (Rows.bitsSplitSpec.post enc Try.prog Try.f7 false true false false) := by
  refine returnsInHanded_of_change (C := Try.checked) own started (by kernel_rfl) Try.func7
    (ChangeSpec.witness6 (enc := enc) (C := Try.checked) false ⟨#[], #[.int .u64 0, .agg #[.int .i64 0, .int .i64 0, .int .i64 0]], []⟩ 8 (by kernel_rfl) (by kernel_rfl) (by kernel_rfl) (by kernel_rfl)) ?_
  intro W base args ds gs before hval0 hW hcnd _
  have hval : ∀ (j : Nat) t v, Try.f7.params[j]? = some t → args[j]? = some v → Value.okWide Try.prog W .any base t v := hval0
  have hW' := hW
  obtain ⟨p, q, hA0, hV, rfl, hfz, hnd⟩ := hW
  have hA : DataW.TrodAll enc Try.prog W 0 (fun _ => true) true Try.f7.params.toList args.toList ds p := hA0
  rw [Try.params7] at hA hval
  obtain ⟨v0, vs0, d0, ds0, p0, q0, hargs, rfl, rfl, h0, r0⟩ := trodAll_cons hA
  obtain ⟨v1, vs1, d1, ds1, p1, q1, rfl, rfl, rfl, h1, r1⟩ := trodAll_cons r0
  obtain ⟨rfl, rfl, rfl⟩ := trodAll_nil r1
  obtain rfl : args = #[v0, v1] := by cases args; simp_all
  obtain ⟨rfl, rfl⟩ := trodVars_none hV
  obtain ⟨a0, rfl, rfl, rfl, w0⟩ := open_int Try.underlying33 (hval 0 33 v0 rfl rfl) h0
  have k1 := h1
  have lt1 : ∀ x ∈ p1, x.block < W.heap.size := by obtain ⟨m, hm⟩ := k1; exact DataW.trod_lt m _ _ _ hm
  obtain ⟨a1_0, a1_1, a1_2, rfl, w1_0, w1_1, w1_2⟩ := open_triple Try.underlying54 (by kernel_rfl) (by kernel_rfl) rfl rfl rfl Try.underlying3 (hval 1 54 v1 rfl rfl) h1
  clear hA0 hval0
  refine (walk a0 a1_0 a1_1 a1_2 w0 w1_0 w1_1 w1_2 W).mono fun e W' ⟨he, bel⟩ => ?_
  subst he
  exact ⟨_, rfl, _, _, _, [], _, [], hW', trodAll_mk1 (shut_bool Try.underlying4 _), (trodAll_cons_mk (shut_int Try.underlying33 w0) (trodAll_cons_mk (Below.trod laidOut (by kernel_rfl) (of_decide_eq_true (by kernel_rfl)) k1 bel lt1) trodAll_mk0)), rfl, bel.frame _, fun h => by cases h⟩
theorem over : Rows.bitsSplitRow.holds Try.pinned (OpenSpec.ofChange Rows.bitsSplitSpec) :=
  OpenClaim.holds_of_wide 7 Try.f7 rfl rfl rfl rfl rfl rfl rfl ⟨rfl, rfl, rfl, rfl, rfl⟩ rfl rfl rfl rfl rfl (by kernel_rfl) Try.func7 (by kernel_rfl)
    (of_decide_eq_true (by kernel_rfl)) (by unfold Func.isWrapper; first | (rw [if_pos (by decide +kernel)]; kernel_rfl) | (rw [if_neg (by decide +kernel)]; exact ⟨rfl, rfl⟩))
    (fun os started H enc _ => lifted os started H enc)
end Go.Proofs.Ytpofjkjcbflloaa.bitsSplit
namespace Go.Proofs.Ytpofjkjcbflloaa
theorem bitsSplit_holds : Rows.BitsSplitSaid := bitsSplit.over
#print axioms bitsSplit_holds
end Go.Proofs.Ytpofjkjcbflloaa
