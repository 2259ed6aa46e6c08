/- For all texts: of the three cut to one length and their exclusive or, byte by byte, the sums' exclusive or is 0. No conditions. -/
import Derived.Test.YtphdmlmacdklaaaRows
import Derived.Test.YtphdmlmacdklaaaSumD
import Derived.OpenShut
import Derived.SizedLaws
import Derived.ChangeMaps5
import Derived.Deep.QuietTactic
import Derived.BigQuiet
import Derived.LoopTactic
import Derived.Laws.Cover1
import Derived.WalkSmall
namespace Go.Proofs.Ytphdmlmacdklaaa.sumMixes
open Go.ChangeShapes Go.WideShapes Go.ChangeAt Go.RowKit Go.Maps
set_option linter.unusedVariables false

def xs (a b c : ByteArray) (k : Nat) : List UInt8 := List.zipWith (· ^^^ ·) (List.zipWith (· ^^^ ·) (a.data.toList.take k) (b.data.toList.take k)) (c.data.toList.take k)
theorem xs_succ (a b c : ByteArray) (k : Nat) (ha : k < a.size) (hb : k < b.size) (hc : k < c.size) : xs a b c (k + 1) = xs a b c k ++ [a[k] ^^^ b[k] ^^^ c[k]] := by
  unfold xs
  rw [take_snoc a k ha, take_snoc b k hb, take_snoc c k hc]
  have la : (a.data.toList.take k).length = k := by simp; have : a.size = a.data.size := rfl; omega
  have lb : (b.data.toList.take k).length = k := by simp; have : b.size = b.data.size := rfl; omega
  have lc : (c.data.toList.take k).length = k := by simp; have : c.size = c.data.size := rfl; omega
  rw [List.zipWith_append (by rw [la, lb]), List.zipWith_append (by rw [List.length_zipWith, la, lb, lc, Nat.min_self])]
  rfl
theorem xs_length (a b c : ByteArray) (k : Nat) (ha : k ≤ a.size) (hb : k ≤ b.size) (hc : k ≤ c.size) : (xs a b c k).length = k := by
  have e1 : a.size = a.data.size := rfl
  have e2 : b.size = b.data.size := rfl
  have e3 : c.size = c.data.size := rfl
  unfold xs
  simp
  omega
theorem cut_list (a : ByteArray) (n : Nat) : (a.extract 0 n).data.toList = a.data.toList.take n := by
  simp [ByteArray.data_extract]
theorem cut_size (a : ByteArray) (n : Nat) : (a.extract 0 n).size ≤ a.size := by
  rw [ByteArray.size_extract]; omega
theorem xor8 (x y z : UInt8) : ∃ p q : Nat, bits .xor .u8 (x.toNat : Int) (y.toNat : Int) = (p : Int) ∧ bits .xor .u8 (p : Int) (z.toNat : Int) = (q : Int) ∧ Hid ((x ^^^ y ^^^ z).toNat = q) := by
  refine ⟨(x ^^^ y).toNat, (x ^^^ y ^^^ z).toNat, ?_, ?_, rfl⟩
  · rw [u8_xor_nat _ _ x.toNat_lt y.toNat_lt, UInt8.toNat_xor]
  · rw [u8_xor_nat _ _ (x ^^^ y).toNat_lt z.toNat_lt, UInt8.toNat_xor (x ^^^ y)]
theorem mix4 (l m k : List UInt8) (h1 : l.length = m.length) (h2 : m.length = k.length) : ∃ p q : Nat, bits .xor .u32 ((ext 0 l : Nat) : Int) ((ext 0 m : Nat) : Int) = (p : Int) ∧ bits .xor .u32 (p : Int) ((ext 0 k : Nat) : Int) = (q : Int) ∧ bits .xor .u32 (q : Int) ((ext 0 (List.zipWith (· ^^^ ·) (List.zipWith (· ^^^ ·) l m) k) : Nat) : Int) = 0 := by
  have hp := Nat.xor_lt_two_pow (n := 32) (ext_lt 0 l) (ext_lt 0 m)
  have hq := Nat.xor_lt_two_pow (n := 32) hp (ext_lt 0 k)
  refine ⟨_, _, u32_xor_nat _ _ (ext_lt 0 l) (ext_lt 0 m), u32_xor_nat _ _ hp (ext_lt 0 k), ?_⟩
  rw [u32_xor_nat _ _ hq (ext_lt 0 _), ext_mixes l m k h1 h2]
  rfl
set_option maxHeartbeats 2000000 in
set_option maxRecDepth 100000 in
theorem walk (a b c : ByteArray) (hl0 : a.size ≤ 140737488351232) (hl1 : b.size ≤ 140737488351232) (hl2 : c.size ≤ 140737488351232) (w : World) :
    Calls Try.prog 5 #[.string a, .string b, .string c] w fun e w' => e = .returned (.bool true) ∧ Below w.heap.size w w' := by
  obtain ⟨i0, hi, hz0, hz1, hz2⟩ := info_parts info8
  obtain ⟨n, hn⟩ : ∃ n : Nat, min (min a.size b.size) c.size = n := ⟨_, rfl⟩
  have hmin : ∀ W, (Builtin.min_ #[3, 3, 3 ] 3 #[.int .i64 (a.size : Int), .int .i64 (b.size : Int), .int .i64 (c.size : Int)]).run Try.prog W = .ok (.int .i64 (n : Int)) W := by
    intro W
    rw [run_min_int3]
    congr 2
    split <;> split <;> omega
  have na : n ≤ a.size := by omega
  have nb : n ≤ b.size := by omega
  have nc : n ≤ c.size := by omega
  clear hn
  go_enter Try.func5, Try.ntmps5
  go_wp2_with fail
  refine (lives_any _).mono ?_
  rintro e w1 ⟨rfl, hb1⟩
  have HB1 : Hid (Below w.heap.size w w1) := hb1
  clear hb1
  go_wp2_with fail
  clear hmin
  go_loopw [8, 9] (fun v i wr => ∃ k : Nat, k ≤ n ∧ i = .int .i64 (k : Int) ∧ wr.ownsRow w1.heap.size 5 1 v k (u8b (xs a b c k)) ∧ Below w1.heap.size w1 wr) (fun _ i _ => n - (intOf i).toNat)
  case atStart => exact ⟨0, by omega, rfl, World.ownsRow_nil _ _ _ _, Below.refl _ _⟩
  case round =>
    obtain ⟨k, hk, rfl, hrow, hb⟩ := hrel
    have HB : Hid (Below w1.heap.size w1 wr) := hb
    by_cases hlt : k < n
    · have i2 : (k : Int) < (n : Int) := by omega
      have ka : k < a.size := by omega
      have kb : k < b.size := by omega
      have kc : k < c.size := by omega
      have HX : Hid (xs a b c (k + 1) = xs a b c k ++ [a[k] ^^^ b[k] ^^^ c[k]]) := xs_succ a b c k ka kb kc
      have i3 : (k : Int) < (a.size : Int) := by omega
      have i4 : (k : Int) < (b.size : Int) := by omega
      have i5 : (k : Int) < (c.size : Int) := by omega
      obtain ⟨p, q, x1, x2, HQ⟩ := xor8 a[k] b[k] c[k]
      have k47 : k ≤ 140737488351232 := by omega
      have hsz := HB.out.size
      clear hb
      go_wp2_with fail
      go_region_held3 (fun _ => True) (trivial) ((refine step_append_lies _ (by rfl) _ _ _ (by rfl) w1.heap.size 5 i0 _ 1 1 Try.underlying32 hi hz0 hz1 hz2 rfl (by omega) _ k _ (by rfl) ((hrow.alloc _).drew) ⟨wr.heap.size, 0, none⟩ 1 1 [.int .u8 (q : Int)] (by rfl) (by rfl) (World.news_of_block (cs := #[.int .u8 (q : Int)]) (t := 5) (fr := (0, 0)) (heap_alloc_new wr _)) (by simp [Value.oneCell']) (by omega) (by unfold maxLen; omega) (by omega) (by simp; omega) (wr.heap.size + 1) (by simp) ?_; intro g3 cap3 w3 hown3 hgrow3 hat3 hlt3))
      all_goals
        have HG : Hid ((wr.alloc (.cells #[.int .u8 (q : Int)] 5)).drew.grownBy w3 u8.ownBlock) := hgrow3
        have HO : Hid (w3.ownsRow w1.heap.size 5 1 (.slice (some ⟨g3, 0, none⟩) (k + 1) cap3) (k + 1) (u8b (xs a b c k) ++ [.int .u8 (q : Int)])) := hown3
        have HR : Hid (∀ j, u8.ownBlock = some j → w1.heap.size ≤ j) := fun j hj => (hrow.lt j hj).1
        clear hgrow3 hown3 hat3 hlt3 hrow x1 x2
        go_wp2_with fail
        go_roundw
        case rel =>
          refine ⟨k + 1, by omega, by go_num, ?_, Below.grown (Below.drew (HB.out.alloc HB.out.size _)) HG.out (by simp; omega) HR.out⟩
          rw [HX.out, u8b_append]
          have e : u8b [a[k] ^^^ b[k] ^^^ c[k]] = [.int .u8 (q : Int)] := by simp only [u8b, List.map_cons, List.map_nil, HQ.out]
          rw [e]
          exact HO.out
        case measure => simp [intOf]; omega
    · have i2 : decide ((k : Int) < (n : Int)) = false := by simp; omega
      obtain rfl : k = n := by omega
      have hcv : ∀ m, (convert 32 9 u8).run Try.prog (wr.drewN m) = .ok (.string ⟨(xs a b c k).toArray⟩) (wr.drewN m) := fun m => conv_u8 (xs_length a b c k na nb nc) (show (wr.drewN m).ownsRow w1.heap.size 5 1 u8 k (u8b (xs a b c k)) from hrow)
      have sa : (a.extract 0 k).size ≤ 281474976710656 := by have := cut_size a k; omega
      have sb : (b.extract 0 k).size ≤ 281474976710656 := by have := cut_size b k; omega
      have sc : (c.extract 0 k).size ≤ 281474976710656 := by have := cut_size c k; omega
      have sd : (⟨(xs a b c k).toArray⟩ : ByteArray).size ≤ 281474976710656 := by
        have e : (⟨(xs a b c k).toArray⟩ : ByteArray).size = (xs a b c k).length := by simp [ByteArray.size]
        rw [e, xs_length a b c k na nb nc]; omega
      have hA : ∀ W, Calls Try.prog 9 #[.string (a.extract 0 k)] W fun e w' => e = .returned (.int .u32 ((ext 0 (a.data.toList.take k) : Nat) : Int)) ∧ w' = W := by
        intro W; have := sum_any (a.extract 0 k) W sa; rwa [cut_list] at this
      have hB : ∀ W, Calls Try.prog 9 #[.string (b.extract 0 k)] W fun e w' => e = .returned (.int .u32 ((ext 0 (b.data.toList.take k) : Nat) : Int)) ∧ w' = W := by
        intro W; have := sum_any (b.extract 0 k) W sb; rwa [cut_list] at this
      have hC : ∀ W, Calls Try.prog 9 #[.string (c.extract 0 k)] W fun e w' => e = .returned (.int .u32 ((ext 0 (c.data.toList.take k) : Nat) : Int)) ∧ w' = W := by
        intro W; have := sum_any (c.extract 0 k) W sc; rwa [cut_list] at this
      have hD : ∀ W, Calls Try.prog 9 #[.string ⟨(xs a b c k).toArray⟩] W fun e w' => e = .returned (.int .u32 ((ext 0 (xs a b c k) : Nat) : Int)) ∧ w' = W := by
        intro W; have := sum_any ⟨(xs a b c k).toArray⟩ W sd; simpa using this
      obtain ⟨p, q, x1, x2, x3⟩ := mix4 (a.data.toList.take k) (b.data.toList.take k) (c.data.toList.take k) (by rw [List.length_take, List.length_take]; have e1 : a.size = a.data.size := rfl; have e2 : b.size = b.data.size := rfl; simp; omega) (by rw [List.length_take, List.length_take]; have e1 : b.size = b.data.size := rfl; have e2 : c.size = c.data.size := rfl; simp; omega)
      have x3' : bits .xor .u32 (q : Int) ((ext 0 (xs a b c k) : Nat) : Int) = 0 := x3
      clear x3 sa sb sc sd hrow hb
      go_wp2_with fail
      go_quiet (first
        | (go_at_call 9; exact Calls.quiet_of_same (hA _))
        | (go_at_call 9; exact Calls.quiet_of_same (hB _))
        | (go_at_call 9; exact Calls.quiet_of_same (hC _))
        | (go_at_call 9; exact Calls.quiet_of_same (hD _)))
      clear hcv hA hB hC hD x1 x2 x3'
      go_wp2_with fail
      go_ret
      exact ⟨rfl, below_drewN (HB1.out.trans (HB.out.mono HB1.out.size)) _⟩
theorem own : ownKnob Try.prog.godebug = none := by kernel_rfl
theorem laidOut : laidOutB Try.prog = true := by kernel_rfl
theorem text_reach {s : ByteArray} (h : s.data.toList.length ≤ reachBytes) : s.size ≤ 140737488351232 := by
  have e2 : s.data.toList.length = s.data.size := Array.length_toList
  have e1 : s.size = s.data.size := rfl
  unfold reachBytes at h
  omega
set_option maxRecDepth 100000 in
theorem lifted (os : Os) (started : os.Started) (H : Type) (enc : TypeId × Value → H) :
    ReturnsInHanded {} Try.checked os 5 .any (Rows.sumMixesSpec.pre6 enc Try.prog Try.f5 Rows.sumMixesRow.domain false) (Rows.sumMixesSpec.post enc Try.prog Try.f5 false true false false) := by
  refine returnsInHanded_of_change_sized (C := Try.checked) own started (by kernel_rfl) Try.func5
    (ChangeSpec.witness6 (enc := enc) (C := Try.checked) false ⟨#[], #[.string ⟨#[]⟩, .string ⟨#[]⟩, .string ⟨#[]⟩], []⟩ 8 (by kernel_rfl) (by kernel_rfl) (by kernel_rfl) (by kernel_rfl)) ?_
  intro W base args ds gs before hval0 hW hcnd hsz0 _
  have hsz : (DataW.weightsEach Try.prog (Try.f5.params.toList ++ Rows.sumMixesSpec.plain.varTypes Try.prog) (ds ++ gs)).all (· ≤ reachBytes) = true := hsz0
  clear hsz0
  have hval : ∀ (j : Nat) t v, Try.f5.params[j]? = some t → args[j]? = some v → Value.okWide Try.prog W .any base t v := hval0
  have hW' := hW
  obtain ⟨p, q, hA0, hV, rfl, hfz, hnd⟩ := hW
  have hA : DataW.TrodAll enc Try.prog W 0 (fun _ => true) true Try.f5.params.toList args.toList ds p := hA0
  rw [Try.params5] at hA hval hsz
  obtain ⟨v0, vs0, d0, ds0, p0, q0, hargs, rfl, rfl, h0, r0⟩ := trodAll_cons hA
  obtain ⟨v1, vs1, d1, ds1, p1, q1, rfl, rfl, rfl, h1, r1⟩ := trodAll_cons r0
  obtain ⟨v2, vs2, d2, ds2, p2, q2, rfl, rfl, rfl, h2, r2⟩ := trodAll_cons r1
  obtain ⟨rfl, rfl, rfl⟩ := trodAll_nil r2
  obtain rfl : args = #[v0, v1, v2] := by cases args; simp_all
  obtain ⟨rfl, rfl⟩ := trodVars_none hV
  obtain ⟨s0, rfl, rfl, rfl, hs0⟩ := Go.ChangeMaps.open_string Try.underlying9 (hval 0 9 v0 rfl rfl) h0
  have hl0 : s0.size ≤ 140737488351232 := text_reach (sized_string hsz (j := 0) (t := 9) rfl rfl)
  obtain ⟨s1, rfl, rfl, rfl, hs1⟩ := Go.ChangeMaps.open_string Try.underlying9 (hval 1 9 v1 rfl rfl) h1
  have hl1 : s1.size ≤ 140737488351232 := text_reach (sized_string hsz (j := 1) (t := 9) rfl rfl)
  obtain ⟨s2, rfl, rfl, rfl, hs2⟩ := Go.ChangeMaps.open_string Try.underlying9 (hval 2 9 v2 rfl rfl) h2
  have hl2 : s2.size ≤ 140737488351232 := text_reach (sized_string hsz (j := 2) (t := 9) rfl rfl)
  clear hA0 hval0
  refine (walk s0 s1 s2 hl0 hl1 hl2 W).mono fun e W' ⟨he, bel⟩ => ?_
  subst he
  exact ⟨_, rfl, _, _, _, [], _, [], hW', trodAll_mk1 (shut_bool Try.underlying4 _), (trodAll_cons_mk (Go.ChangeMaps.shut_string Try.underlying9 hs0) (trodAll_cons_mk (Go.ChangeMaps.shut_string Try.underlying9 hs1) (trodAll_cons_mk (Go.ChangeMaps.shut_string Try.underlying9 hs2) trodAll_mk0))), rfl, bel.frame _, fun h => by cases h⟩
theorem over : Rows.sumMixesRow.holds Try.pinned (OpenSpec.ofChange Rows.sumMixesSpec) :=
  OpenClaim.holds_of_wide 5 Try.f5 rfl rfl rfl rfl rfl rfl rfl ⟨rfl, rfl, rfl, rfl, rfl⟩ rfl rfl rfl rfl rfl (by kernel_rfl) Try.func5 (by kernel_rfl)
    (of_decide_eq_true (by kernel_rfl)) (by unfold Func.isWrapper; first | (rw [if_pos (by decide +kernel)]; kernel_rfl) | (rw [if_neg (by decide +kernel)]; exact ⟨rfl, rfl⟩))
    (fun os started H enc _ => lifted os started H enc)
end Go.Proofs.Ytphdmlmacdklaaa.sumMixes
namespace Go.Proofs.Ytphdmlmacdklaaa
theorem sumMixes_holds : Rows.SumMixesSaid := sumMixes.over
#print axioms sumMixes_holds
end Go.Proofs.Ytphdmlmacdklaaa
