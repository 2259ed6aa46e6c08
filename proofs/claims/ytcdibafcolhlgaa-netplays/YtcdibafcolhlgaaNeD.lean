/- Contract: Waiting of the document's Net. -/
import Derived.Test.YtcdibafcolhlgaaNeC
namespace Go.Proofs.Ytcdibafcolhlgaa.Ne
open Go.RowKit Go.Maps
set_option linter.unusedVariables false
set_option linter.unusedSimpArgs false

def waitN (s : Nst) : Nat → List Pt
  | 0 => []
  | k + 1 => if s.G.getD k true = true then waitN s k else waitN s k ++ [s.A.getD k zP]
def Nst.wait (s : Nst) : List Pt := waitN s s.A.length
theorem waitN_len (s : Nst) : ∀ k, (waitN s k).length ≤ k
  | 0 => Nat.le_refl _
  | k + 1 => by have := waitN_len s k; unfold waitN; split <;> simp <;> omega
set_option maxRecDepth 100000 in
set_option maxHeartbeats 4000000 in
theorem waiting_any (w : World) (N p : Nat) (s : Nst) (va vg : Value) (h : NAt w N p s va vg) (hlen : s.G.length = s.A.length) (hl : s.A.length ≤ 4398046511104) :
    Calls Try.prog 16 #[.pointer (some ⟨p, 0, none⟩)] w fun e w' => ∃ v, e = .returned v ∧ w'.ownsRow w.heap.size 35 3 v s.wait.length (s.wait.flatMap pC) ∧ Below w.heap.size w w' := by
  obtain ⟨n, hn⟩ : ∃ n, s.A.length = n := ⟨_, rfl⟩
  obtain ⟨aT, cT, hvt, -⟩ := own_spell h.all
  obtain ⟨aG, cG, hvg, -⟩ := own_spell h.gone
  have HK : Hid (NAt w N p s va vg ∧ s.A.length = n ∧ s.G.length = n) := ⟨h, hn, by rw [hlen, hn]⟩
  have HV : Hid (va = .slice aT n cT ∧ vg = .slice aG n cG) := ⟨by rw [← hn]; exact hvt, by rw [← hn, ← hlen]; exact hvg⟩
  have HC := fun W (hW : Below w.heap.size w W) i (hi : i < n) => (HK.out.1.later hW).acell (i := i) (by rw [HK.out.2.1]; exact hi)
  have HD := fun W (hW : Below w.heap.size w W) i (hi : i < n) => (HK.out.1.later hW).gcell (i := i) (by rw [HK.out.2.2]; exact hi)
  have HE := fun W (hW : Below w.heap.size w W) => (HK.out.1.later hW).c1
  have c0 := h.c0
  rw [HV.out.1] at c0
  rw [hn] at hl
  obtain ⟨i0, hi, hz0, hz1, hz2⟩ := info_parts infoP
  clear h hn hlen hvt hvg
  go_enter Try.func16, Try.ntmps16
  go_wp2_with fail
  go_loopw [3, 11] (fun o i wx => ∃ (k : Nat) (v : Value), k ≤ n ∧ i = .int .i64 (k : Int) ∧ v = o ∧ wx.ownsRow w.heap.size 35 3 v (waitN s k).length ((waitN s k).flatMap pC) ∧ Below w.heap.size w wx) (fun _ i _ => n - (intOf i).toNat)
  case atStart => exact ⟨0, _, by omega, rfl, rfl, World.ownsRow_nil _ _ _ _, Below.refl _ _⟩
  case round =>
    obtain ⟨k, o, hk, rfl, rfl, hrow, hb⟩ := hrel
    by_cases hkn : k < n
    · obtain ⟨ga, ca, hva, d0, d1, d2⟩ := HC wr hb k hkn
      obtain ⟨P, hP⟩ : ∃ P, s.A.getD k zP = P := ⟨_, rfl⟩
      have HP : Hid (s.A.getD k zP = P) := hP
      rw [hP] at d0 d1 d2
      obtain ⟨P0, P1, P2⟩ := P
      dsimp only at d0 d1 d2
      rw [HV.out.1] at hva
      have ha : aT = some ⟨ga, 0, none⟩ := by simpa using congrArg (fun v => match v with | Value.slice a _ _ => a | _ => none) hva
      clear hva
      subst ha
      have HB : Hid (Below w.heap.size w wr) := hb
      have hb1 := Below.then hb (below1 wr (.cells #[.int .i64 P0, .int .i64 P1, .string P2] 35))
      have hr1 := own_later hrow (below1 wr (.cells #[.int .i64 P0, .int .i64 P1, .string P2] 35))
      obtain ⟨x0, x1, x2⟩ := boxed3 wr (.int .i64 P0) (.int .i64 P1) (.string P2) 35
      have k1 : (0 : Int) ≤ (k : Int) := by omega
      have k2 : (k : Int) < (n : Int) := by omega
      clear hP hrow hb c0
      go_upto_region 5 with (fail)
      clear d0 d1 d2
      obtain ⟨Q, hQ⟩ : ∃ Q, wr.heap.size = Q := ⟨_, rfl⟩
      rw [hQ] at x0 x1 x2 ⊢
      generalize wr.alloc (.cells #[.int .i64 P0, .int .i64 P1, .string P2] 35) = w1 at *
      have HB1 : Hid (Below w.heap.size w w1) := hb1
      obtain ⟨g, c, hvg, cg, -⟩ := HD w1 hb1 k hkn
      have c1 := HE w1 hb1
      rw [HV.out.2] at c1 hvg
      have ha : aG = some ⟨g, 0, none⟩ := by simpa using congrArg (fun v => match v with | Value.slice a _ _ => a | _ => none) hvg
      clear hvg
      subst ha
      obtain ⟨b, hbb⟩ : ∃ b, s.G.getD k true = b := ⟨_, rfl⟩
      have HG : Hid (s.G.getD k true = b) := hbb
      rw [hbb] at cg
      have HR : Hid (w1.ownsRow w.heap.size 35 3 o (waitN s k).length ((waitN s k).flatMap pC)) := hr1
      clear hbb hQ hb1 hr1
      cases b with
      | true =>
        go_wp2_with fail
        go_roundw
        case rel => exact ⟨k + 1, _, by omega, by go_num, rfl, by unfold waitN; rw [if_pos HG.out]; exact HR.out, HB1.out⟩
        case measure => simp [intOf]; omega
      | false =>
        have hwl := waitN_len s k
        obtain ⟨m, hm⟩ : ∃ m, (waitN s k).length = m := ⟨_, rfl⟩
        have HM : Hid ((waitN s k).length = m) := hm
        have hr1 := HR.out
        rw [hm] at hr1 hwl
        have hsz := HB1.out.size
        clear hm
        go_wp2_with (at_builtin; refine wpList_append_lies _ rfl _ _ _ rfl w.heap.size 35 i0 _ 3 32 Try.underlying27 hi hz0 hz1 hz2 rfl (by omega) _ m ((waitN s k).flatMap pC) rfl (own_later hr1 (below1 _ _)) ⟨w1.heap.size, 0, none⟩ 1 1 [.int .i64 P0, .int .i64 P1, .string P2] rfl rfl (news_of (_root_.Go.heap_alloc_last _ _)) (by simp [Value.oneCell']) (by omega) (by unfold maxLen; omega) (by omega) (by simp; omega) (w1.heap.size + 1) (by simp) ?_; intro g3 cap3 w3 hown3 hgrow3 hat3 hlt3)
        go_roundw
        case rel =>
          have hr2 := own_later hr1 (below1 w1 (.cells #[.int .i64 P0, .int .i64 P1, .string P2] 35))
          have hb2 := Below.then HB1.out (below1 w1 (.cells #[.int .i64 P0, .int .i64 P1, .string P2] 35))
          refine ⟨k + 1, _, by omega, by go_num, rfl, ?_, hb2.grown hgrow3 hb2.size (fun j hj => (hr2.lt j hj).1)⟩
          unfold waitN
          rw [if_neg (by rw [HG.out]; simp), List.length_append, List.flatMap_append, HP.out, HM.out]
          exact hown3
        case measure => simp [intOf]; omega
    · obtain rfl : k = n := by omega
      have dkn : decide ((k : Int) < (k : Int)) = false := by simp
      have HR : Hid (wr.ownsRow w.heap.size 35 3 o (waitN s k).length ((waitN s k).flatMap pC) ∧ Below w.heap.size w wr) := ⟨hrow, hb⟩
      clear hrow hb hk hkn c0
      go_wp2_with fail
      go_ret
      refine ⟨_, rfl, ?_, HR.out.2⟩
      unfold Nst.wait
      rw [HK.out.2.1]
      exact HR.out.1
end Go.Proofs.Ytcdibafcolhlgaa.Ne
