/- Contract: Copy of the program's know. -/
import Derived.Test.YtompgoaogomoaaaHd
import Derived.Test.YtompgoaogomoaaaKnAc
import Derived.Maps.RangeWalk
namespace Go.Proofs.Ytompgoaogomoaaa.Kn
open Go.RowKit Go.Maps
open Rt (Gd gd gd_yes gd_no)
set_option linter.unusedVariables false
set_option linter.unusedSimpArgs false

/- The boxes whose lists were copied: what is no longer to come. -/
def pdL (pd : List B2) (left : Lit → Bool) : List B2 := pd.filter fun p => !left (kU p.1)
theorem sh_pdL (pd : List B2) (left : Lit → Bool) (u : K2) : sh (pdL pd left) u = if left (kU u) = true then [] else sh pd u := by
  unfold sh pdL
  rw [List.filter_filter]
  by_cases h : left (kU u) = true
  · rw [if_pos h, List.map_eq_nil_iff, List.filter_eq_nil_iff]
    intro p _ e
    simp at e
    rw [e.1, h] at e
    exact absurd e.2 (by simp)
  · rw [if_neg h]
    congr 1
    refine List.filter_congr fun p _ => ?_
    by_cases e : p.1 = u
    · subst e; simp [h]
    · simp [e]
theorem pdL_none (pd : List B2) {left : Lit → Bool} (h : ∀ kl, left kl = false) : pdL pd left = pd := by
  unfold pdL
  rw [List.filter_eq_self]
  intro p _
  simp [h]
section
variable {w : World} {N b n : Nat} {pd pd' : List B2} {vs : K2 → Value} {u : K2} {x : Value} {L : List K2}
/- A list is stored under a key of which nothing was there. -/
theorem Sm.set (h : Sm w N b n pd vs) (hu : Gd u.1 u.2) (hn : n < 4611686018427387904) (hx : w.ownsRow N 33 2 x L.length (L.flatMap kC)) (hL : L ≠ []) (h0 : sh pd u = []) (hap : ∀ v k, (vs v).ownBlock = some k → x.ownBlock ≠ some k) (hp : ∀ v, sh pd' v = if v = u then L else sh pd v) :
    ∃ w', (Instr.mapUpdate 67 (.map (some b)) (.agg #[.int .i64 u.1, .int .i64 u.2]) x).run Try.prog w = .ok () w' ∧ Sm w' N b (n + 1) pd' (setV vs u x) ∧ w.grownBy w' (some b) := by
  obtain ⟨D, h1, h2, h3⟩ := h.own
  have hkey := keyOf_U u (gd_wI hu).1 (gd_wI hu).2
  obtain ⟨w', hrun, hown, hg⟩ := h1.update Rt.keyLaw Try.underlying67 (by unfold maxLen; omega) hkey (d := .held x) (ps := []) (val := x) rfl
  have hk : Kept (fun k => k = b) w w' := (Kept.refl _ w).grown hg fun k e _ => by cases e; rfl
  have hD := World.ownsMap.isMap h1
  have hil := Rt.keyLaw.key hkey
  have hxb : ∀ k, x.ownBlock = some k → k ≠ b := fun k hk' e => by
    obtain ⟨_, _, cur, q⟩ := own_type hx hk'
    exact no_map q h.isMap e
  refine ⟨w', hrun, ⟨⟨_, hown, fun v hv => ?_, fun kl hkl => ?_⟩, fun v => ?_, fun v hv => ?_, fun v y k hv hy => ?_⟩, hg⟩
  · rw [hp]
    unfold setV
    by_cases e : v = u
    · subst e
      rw [if_pos rfl, if_pos rfl, Maps.atKey_put_same hD hil, Maps.has_put_same hD hil]
      refine ⟨?_, rfl⟩
      cases L with
      | nil => exact absurd rfl hL
      | cons _ _ => rfl
    · have hne : kU v ≠ kU u := fun q => e (kU_good hv hu q)
      rw [if_neg e, if_neg e, Maps.atKey_put_other hne, Maps.has_put_other hne]
      exact h2 v hv
  · by_cases e : kl = kU u
    · exact ⟨u, hu, e⟩
    · rw [Maps.has_put_other e] at hkl
      exact h3 kl hkl
  · rw [hp]
    unfold setV
    by_cases e : v = u
    · rw [if_pos e, if_pos e]
      exact hk.row hx hxb
    · rw [if_neg e, if_neg e]
      exact hk.row (h.row v) fun k hk2 => (h.at hk2).2.2
  · rw [hp] at hv
    unfold setV
    by_cases e : v = u
    · rw [if_pos e] at hv; exact absurd hv hL
    · rw [if_neg e] at hv ⊢
      exact h.nil v hv
  · unfold setV at hv hy
    by_cases e : v = u
    · rw [if_pos e] at hv
      by_cases e' : y = u
      · rw [e, e']
      · rw [if_neg e'] at hy
        exact absurd hv (hap y k hy)
    · rw [if_neg e] at hv
      by_cases e' : y = u
      · rw [if_pos e'] at hy
        exact absurd hy (hap v k hv)
      · rw [if_neg e'] at hy
        exact h.apart v y k hv hy
end
theorem own_base {w : World} {N M e z n : Nat} {v : Value} {xs : List Value} (h : w.ownsRow M e z v n xs) (hN : N ≤ M) : w.ownsRow N e z v n xs := by
  rcases h.2 with q | ⟨g, cap, cur, q0, q1, q2⟩
  · exact ⟨h.1, .inl q⟩
  · exact ⟨h.1, .inr ⟨g, cap, cur, q0, Nat.le_trans hN q1, q2⟩⟩
theorem grown_of {W W' : World} (h : Below W.heap.size W W') : W.grownBy W' none := ⟨h.os, h.tape, h.output, h.size, fun i hi _ => h.block i hi⟩
theorem sh_step {T : List K2} {B : List B2} {f : Nat → Int} {pd : List B2} (hw : Wk T B f pd []) {left : Lit → Bool} {u : K2} (hu : Gd u.1 u.2) (v : K2) : sh (pdL pd fun z => left z && !z.sameKey (kU u)) v = if v = u then sh pd u else sh (pdL pd left) v := by
  rw [sh_pdL, sh_pdL]
  by_cases e : v = u
  · subst e
    have : (kU v).sameKey (kU v) = true := by simp [kU, Lit.sameKey]
    simp [this]
  · rw [if_neg e]
    by_cases h0 : sh pd v = []
    · simp [h0]
    · obtain ⟨l, hl⟩ := List.exists_mem_of_ne_nil _ h0
      have hg := (gb_iff2.1 (hw.pin _ (mem_sh.1 hl)).2.1).1
      have : (kU v).sameKey (kU u) = false := by
        rw [Bool.eq_false_iff]
        intro q
        exact e (kU_good hg hu (WideAt.sameKey_eq q))
      simp [this]
theorem mk_len (z : Int) (w : World) : (Instr.makeMap 67 (some (.int .i64 z))).run Try.prog w = .ok (.map (some w.heap.size)) (w.alloc (.map #[] 0)) := by
  simp [Instr.makeMap, run_underlying Try.underlying67, asInt, asIntOf, Result.andThen]
set_option maxRecDepth 100000 in
set_option maxHeartbeats 4000000 in
theorem copy_p (w : World) (N p : Nat) (T : List K2) (B : List B2) (X : List Sd) (F : Nat → Prop) (h : PAt w N p T B X F) (hR : Rm T B X) :
    Calls Try.prog 29 #[.pointer (some ⟨p, 0, none⟩)] w fun e w' => ∃ p' F', e = .returned (.pointer (some ⟨p', 0, none⟩)) ∧ PAt w' w.heap.size p' T B X F' ∧ Below w.heap.size w w' := by
  obtain ⟨f, pd, bl, bb, bt, bs, vs, h1, h2, rfl⟩ := h
  have hpd := pd_len h1 hR
  have HB : Hid (B.length < 1152921504606846976 ∧ pd.length < 2748779069440) := ⟨hR.2.1, hpd⟩
  have HW : Hid (Wk T B f pd []) := h1
  have HP : Hid (Pk w N p f pd B X bl bb bt bs vs) := h2
  have c3 := h2.c3
  obtain ⟨D, hown, hD1, hD2⟩ := h2.shm.own
  have HD : Hid ((∀ u : K2, Gd u.1 u.2 → Maps.has D (kU u) = !(sh pd u).isEmpty ∧ D.atKey (kU u) (.held snil) = .held (vs u)) ∧ ∀ kl, Maps.has D kl = true → ∃ u : K2, Gd u.1 u.2 ∧ kl = kU u) := ⟨hD1, hD2⟩
  have hml := mk_len
  have b1 := Rt.below1 w (.map #[] 0)
  have hown1 := map_kept hown (Kept.ofBelow (F := fun _ => False) b1) id
  have c31 := cell_later b1 c3
  have HS1 : Hid (Sm (w.alloc (.map #[] 0)) w.heap.size w.heap.size 0 [] (fun _ => snil)) := Sm.new w w.heap.size
  have HSZ : Hid (Maps.size D ≤ B.length) := hown.size_le
  clear h1 h2 hR hpd hD1 hD2
  go_enter Try.func29, Try.ntmps29
  go_wp2_with (first
    | (at_len; refine wpList_len_own _ rfl _ 67 rfl 33 27 Try.underlying67 hvE bs B.length D rfl hown ?_)
    | (at_range; refine wpList_range_own _ rfl _ 67 rfl 33 27 Rt.keyLaw Try.underlying67 hvE bs B.length D rfl hown1 ?_; intro w0 hrg0 hg0 hs0)
    | go_in)
  have e1 : (w.alloc (.map #[] 0)).heap.size = w.heap.size + 1 := by simp
  rw [e1] at hrg0 ⊢
  have HB0 : Hid (Below w.heap.size w w0) := (b1.grown hg0 b1.size (fun j hj => by cases hj))
  have HS0 : Hid (Sm w0 w.heap.size w.heap.size 0 [] (fun _ => snil)) := HS1.out.kept ((Kept.refl (fun _ => False) _).grown hg0 fun k e _ => by cases e) id fun _ _ _ => id
  clear hown hown1 c31 b1 hg0 hs0 e1 HS1 c3
  go_frame
  go_loopw [4] (fun _ wr => ∃ left cnt vs' m, wr.ranges Try.prog 33 hvE bs (w.heap.size + 1) B.length D left cnt ∧ m + cnt ≤ B.length ∧ Sm wr w.heap.size w.heap.size m (pdL pd left) vs' ∧ Below w.heap.size w wr) (fun _ wr => wr.rangeLeft bs (w.heap.size + 1))
  case atStart =>
    refine ⟨_, _, fun _ => snil, 0, hrg0, by have := HSZ.out; omega, ?_, HB0.out⟩
    have e : pdL pd (Maps.has D) = [] := by
      unfold pdL
      rw [List.filter_eq_nil_iff]
      intro p hp
      obtain ⟨_, q2, _⟩ := HW.out.pin p hp
      have hg := ((gb_iff2 (u := p.1) (l := p.2)).1 q2).1
      have h1 := (HD.out.1 p.1 hg).1
      have h2 : (sh pd p.1).isEmpty = false := by
        cases hs : sh pd p.1 with
        | nil =>
          have : p.2 ∈ sh pd p.1 := mem_sh.2 hp
          rw [hs] at this
          cases this
        | cons _ _ => rfl
      rw [h2] at h1
      simp [h1]
    rw [e]
    exact HS0.out
  case round =>
    obtain ⟨left, cnt, vs', m, hrg, hmc, hS, hb⟩ := hrel
    clear hrg0 HB0 HS0
    go_wp2_with (first
      | (at_next; refine wpList_next_ranges _ rfl _ rfl 33 Rt.keyLaw hvE (fun p : Int × Int => .agg #[.int .i64 p.1, .int .i64 p.2]) (fun v : Value => v) (fun key kl hk => Rt.keyOf_inv hk) (fun v y hv => ⟨v, rfl⟩) bs (w.heap.size + 1) B.length D left cnt rfl hrg ?_ ?_)
      | go_in)
    · intro hc0 hl0
      rw [pdL_none pd hl0] at hS
      have hPr := HP.out.later hb
      have hcl := fun W (hW : Below wr.heap.size wr W) => mcl_any bl f W (hPr.lst.later hW)
      have hcb := fun W (hW : Below wr.heap.size wr W) => mcb_any bb _ _ W (hPr.box.later hW)
      have hcx := fun W (hW : Below wr.heap.size wr W) => mcx_any bt _ _ W (hPr.txt.later hW)
      have q0 := fun W (hW : Below wr.heap.size wr W) => cell_later hW hPr.c0
      have q1 := fun W (hW : Below wr.heap.size wr W) => cell_later hW hPr.c1
      have q2 := fun W (hW : Below wr.heap.size wr W) => cell_later hW hPr.c2
      have HSM : Hid (Sm wr w.heap.size w.heap.size m pd vs' ∧ m ≤ B.length ∧ Below w.heap.size w wr ∧ w.heap.size < wr.heap.size) := ⟨hS, by omega, hb, hS.lt⟩
      have hS0 : Below wr.heap.size wr wr.drew := Below.drew (Below.refl _ _)
      clear hS hb hrg hmc hPr hc0 hl0
      go_upto_region 6 with (fail)
      refine wp_region_held_drew (S := fun W => Below wr.heap.size wr W) (by kernel_rfl) hS0 (fun hHeld => ?_)
      refine opT 0 26 (.move (.tmp 0)) (.pointer (some ⟨p, 0, none⟩)) rfl ?_
      go_frame
      refine opT 1 27 (.nilCheck (.tmp 26)) (.pointer (some ⟨p, 0, none⟩)) rfl ?_
      go_frame
      refine opT 2 28 (.fieldAddr 69 (.tmp 27) 0) (.pointer (some ⟨p, 0, none⟩)) rfl ?_
      go_frame
      refine opR 3 29 (.load 64 (.tmp 28)) (.map (some bl)) rfl (fun w hSw => by have c := q0 w hSw; go_simp) ?_
      go_frame
      refine opT 5 31 (.move (.tmp 0)) (.pointer (some ⟨p, 0, none⟩)) rfl ?_
      go_frame
      refine opT 6 32 (.nilCheck (.tmp 31)) (.pointer (some ⟨p, 0, none⟩)) rfl ?_
      go_frame
      refine opT 7 33 (.fieldAddr 69 (.tmp 32) 1) (.pointer (some ⟨p, 1, none⟩)) rfl ?_
      go_frame
      refine opR 8 34 (.load 65 (.tmp 33)) (.map (some bb)) rfl (fun w hSw => by have c := q1 w hSw; go_simp) ?_
      go_frame
      refine opT 10 36 (.move (.tmp 0)) (.pointer (some ⟨p, 0, none⟩)) rfl ?_
      go_frame
      refine opT 11 37 (.nilCheck (.tmp 36)) (.pointer (some ⟨p, 0, none⟩)) rfl ?_
      go_frame
      refine opT 12 38 (.fieldAddr 69 (.tmp 37) 2) (.pointer (some ⟨p, 2, none⟩)) rfl ?_
      go_frame
      refine opR 13 39 (.load 66 (.tmp 38)) (.map (some bt)) rfl (fun w hSw => by have c := q2 w hSw; go_simp) ?_
      go_frame
      refine opT 15 41 (.move (.tmp 3)) (.map (some w.heap.size)) rfl ?_
      go_frame
      refine wpAnyH_ready (rs := [4]) (by kernel_rfl) (by simp) ?_
      refine AllReadyH.cons rfl (fun K hK => ?_) AllReadyH.nil
      go_simp
      refine (hcl _ hHeld).mono ?_
      rintro r wL ⟨bl', rfl, hL', gL, hbL⟩
      go_wp2_with fail
      have gL2 := hHeld.size
      refine hK.out _ _ (Rt.Below.then hHeld hbL) (fun hHeld2 => ?_)
      clear hK K
      try go_frame
      refine wpAnyH_ready (rs := [9]) (by kernel_rfl) (by simp) ?_
      refine AllReadyH.cons rfl (fun K hK => ?_) AllReadyH.nil
      go_simp
      refine (hcb _ hHeld2).mono ?_
      rintro r wfB ⟨bb', rfl, hB', gB, hbB⟩
      go_wp2_with fail
      have iL := hL'.lt
      have hL' := hL'.later hbB
      refine hK.out _ _ (Rt.Below.then hHeld2 hbB) (fun hHeld3 => ?_)
      clear hK K
      try go_frame
      refine wpAnyH_ready (rs := [14]) (by kernel_rfl) (by simp) ?_
      refine AllReadyH.cons rfl (fun K hK => ?_) AllReadyH.nil
      go_simp
      refine (hcx _ hHeld3).mono ?_
      rintro r wX ⟨bt', rfl, hX', gX, hbX⟩
      go_wp2_with fail
      have iL2 := hL'.lt
      have iB := hB'.lt
      have hL' := hL'.later hbX
      have hB' := hB'.later hbX
      refine hK.out _ _ (Rt.Below.then hHeld3 hbX) (fun hHeld4 => ?_)
      clear hK K
      try go_frame
      refine opT 16 42 (.build 69 #[(0, (.tmp 30)), (1, (.tmp 35)), (2, (.tmp 40)), (3, (.tmp 41))]) (.agg #[.map (some bl'), .map (some bb'), .map (some bt'), .map (some w.heap.size)]) rfl ?_
      go_frame
      refine wpAnyH_ready (rs := [17]) (by kernel_rfl) (by simp) ?_
      refine AllReadyH.cons rfl (fun K hK => ?_) AllReadyH.nil
      go_simp
      have hsm := HSM.out.2.2.2
      have hZ := pat_mk HW.out hL' hB' hX' ((HSM.out.1.later hHeld4).mono HSM.out.2.1) ⟨by omega, by omega, by omega, by omega, by omega, by omega⟩ ⟨by omega, by omega, by omega, Nat.le_refl _⟩
      have hbz := HSM.out.2.2.1.trans (hHeld4.mono HSM.out.2.2.1.size)
      have HZ : Hid (_ ∧ _) := ⟨hZ, hbz⟩
      refine hK.out _ _ (Rt.Below.then hHeld4 (Rt.below1 _ _)) (fun hHeld5 => ?_)
      clear hK K
      try go_frame
      refine opT 18 2 (.assign (.tmp 43)) (.pointer (some ⟨wX.heap.size, 0, none⟩)) rfl ?_
      go_frame
      refine wpAnyH_done (by kernel_rfl) ?_ _
      go_wp2_with fail
      go_ret
      exact ⟨_, _, rfl, HZ.out.1, HZ.out.2.trans ((Rt.below1 _ _).mono HZ.out.2.size)⟩
    · intro x0 x1 c kl yd yp w2 cnt2 hkey hlk hv hat hrg2 hlt hg2 hs2 hen
      simp only [hvE, Option.some.injEq, Prod.mk.injEq] at hv
      obtain ⟨rfl, rfl⟩ := hv
      obtain ⟨u, hu, rfl⟩ := HD.out.2 kl (has_true_of_atKey hat)
      have hxu : ((x0, x1) : K2) = u := by
        have := Rt.keyLaw.inj hkey (keyOf_U u (gd_wI hu).1 (gd_wI hu).2)
        simp [kV] at this
        exact Prod.ext this.1 this.2
      subst hxu
      have hcv : vs (x0, x1) = c := by
        have h1 := (HD.out.1 (x0, x1) hu).2
        rw [hat] at h1
        simpa using h1.symm
      have hne : sh pd (x0, x1) ≠ [] := by
        have h1 := (HD.out.1 (x0, x1) hu).1
        rw [has_true_of_atKey hat] at h1
        intro e
        rw [e] at h1
        simp at h1
      have hlen := sh_len pd (x0, x1)
      have hkp2 : Below w.heap.size wr w2 := ⟨hg2.os, hg2.tape, hg2.output, hg2.size, fun i hi => hg2.block i (Nat.lt_of_lt_of_le hi hb.size) (fun e => by cases e; omega)⟩
      have hb2 := hb.trans hkp2
      have hS2 : Sm w2 w.heap.size w.heap.size m (pdL pd left) vs' := hS.kept ((Kept.refl (fun k => k = w.heap.size + 1) wr).grown hg2 fun k e _ => by cases e; rfl) (by omega) (fun v k e e' => by
        subst e'
        obtain ⟨_, _, cur, q⟩ := own_type (hS.row v) e
        have := hrg.iter_walk
        obtain ⟨o, ho, hw⟩ := this
        rw [q] at ho
        cases ho
        cases hw)
      have HIT : Hid (_ ∧ _ ∧ _ ∧ _ ∧ _) := ⟨hS2, hb2, hrg2, hmc, hlt⟩
      have HRG : Hid (wr.rangeLeft bs (w.heap.size + 1) = cnt) := hrg.left_eq
      have HU : Hid (_ ∧ _ ∧ _ ∧ _ ∧ _) := ⟨hu, hne, hcv, hlk, hlen⟩
      clear hkey hlk hat hrg2 hlt hg2 hs2 hS hS2 hb hb2 hrg hmc hkp2 hu hne hcv hlen
      go_upto_region 5 with (fail)
      have hKu : KAt (w2.alloc (.cells #[.int .i64 x0, .int .i64 x1] 33)) w2.heap.size (x0, x1) := KAt.new w2 (x0, x1)
      have hbu : Below w2.heap.size w2 (w2.alloc (.cells #[.int .i64 x0, .int .i64 x1] 33)) := Rt.below1 _ _
      have hrgu := HIT.out.2.2.1.alloc (.cells #[.int .i64 x0, .int .i64 x1] 33)
      generalize w2.alloc (.cells #[.int .i64 x0, .int .i64 x1] 33) = wu at *
      obtain ⟨U, hU⟩ : ∃ U, w2.heap.size = U := ⟨_, rfl⟩
      have HUs : Hid (w2.heap.size = U) := hU
      rw [hU] at hKu ⊢
      clear hU
      have hdr : Below wu.heap.size wu wu.drew := Below.drew (Below.refl _ _)
      have hSu := (HIT.out.1.later hbu).later hdr
      have hbw := HIT.out.2.1.trans ((Rt.Below.then hbu hdr).mono HIT.out.2.1.size)
      have hPu := HP.out.later hbw
      have hcl := clone_keys N c (sh pd (x0, x1)) wu.drew (by rw [← HU.out.2.2.1]; exact hPu.shm.row (x0, x1)) HU.out.2.1 (by have := HU.out.2.2.2.2; have := HB.out.2; omega)
      have hrgd := hrgu.kept (grown_of hdr) (by simp) (by simp)
      have hmU : w.heap.size < U := by
        have := HIT.out.1.lt
        have := HUs.out
        omega
      have q0 := fun W (hW : Kept (fun k => k = w.heap.size) wu.drew W) => ((hKu.later hdr).kept hW (by omega)).cell.1
      have q1 := fun W (hW : Kept (fun k => k = w.heap.size) wu.drew W) => ((hKu.later hdr).kept hW (by omega)).cell.2
      have hS0 : Kept (fun k => k = w.heap.size) wu.drew wu.drew := Kept.refl _ _
      have HSU : Hid (_ ∧ _ ∧ _) := ⟨hSu, hbw, hrgd⟩
      have hmB : m < 4611686018427387904 := by have := HIT.out.2.2.2.1; have := HB.out.1; omega
      clear hKu hbu hrgu hdr hSu hbw hPu hrgd
      refine wp_region_held_drew (S := fun W => Kept (fun k => k = w.heap.size) wu.drew W) (by kernel_rfl) hS0 (fun hHeld => ?_)
      refine opT 0 22 (.move (.tmp 3)) (.map (some w.heap.size)) rfl ?_
      go_frame
      refine opR 1 23 (.load 33 (.tmp 4)) (.agg #[.int .i64 x0, .int .i64 x1]) rfl (fun w hSw => by have c0 := q0 w hSw; have c1 := q1 w hSw; go_simp) ?_
      go_frame
      refine opT 2 24 (.move (.tmp 5)) (c) rfl ?_
      go_frame
      refine wpAnyH_ready (rs := [3]) (by kernel_rfl) (by simp) ?_
      refine AllReadyH.cons rfl (fun K hK => ?_) AllReadyH.nil
      go_simp
      refine hcl.mono ?_
      rintro r w3 ⟨v3, rfl, hv3, hb3⟩
      go_wp2_with fail
      have hS3 := HSU.out.1.later hb3
      obtain ⟨w4, hrun4, hS4, hg4⟩ := hS3.set (u := (x0, x1)) HU.out.1 hmB (own_base hv3 HSU.out.2.1.size) HU.out.2.1 (by rw [sh_pdL, if_pos HU.out.2.2.2.1]) (fun v k e e' => by
        have h1 := (own_type (HSU.out.1.row v) e).2.1
        have h2 := (own_type hv3 e').1
        omega) (sh_step HW.out HU.out.1)
      refine hK.out _ _ ((Kept.refl _ _).trans (Kept.ofBelow (F := fun k => k = w.heap.size) hb3) fun _ _ e => e) (fun hHeld2 => ?_)
      clear hK K
      try go_frame
      refine wpAnyH_ready (rs := [4]) (by kernel_rfl) (by simp) ?_
      refine AllReadyH.cons rfl (fun Kc hK => ?_) AllReadyH.nil
      refine if_wpK rfl (wp_mapUpd 67 _ _ _ rfl rfl rfl rfl rfl hrun4 ?_)
      refine hK.out _ _ (hHeld2.grown hg4 fun k e _ => by cases e; rfl) (fun hHeld3 => ?_)
      clear hK Kc
      try go_frame
      refine wpAnyH_done (by kernel_rfl) ?_ _
      have HF : Hid (∃ left cnt vs' m, w4.ranges Try.prog 33 hvE bs (w.heap.size + 1) B.length D left cnt ∧ m + cnt ≤ B.length ∧ Sm w4 w.heap.size w.heap.size m (pdL pd left) vs' ∧ Below w.heap.size w w4) := by
        have hbs := HP.out.shm.lt
        have hr3 := HSU.out.2.2.kept (grown_of hb3) (by simp) (by simp)
        have hr4 := hr3.kept hg4 (by simp; omega) (by simp)
        refine ⟨_, cnt2, _, m + 1, hr4, by have := HIT.out.2.2.2.1; have := HIT.out.2.2.2.2; omega, hS4, ?_⟩
        exact (HSU.out.2.1.trans (hb3.mono HSU.out.2.1.size)).grown hg4 (by have := HSU.out.2.1.size; have := hb3.size; omega) (fun j hj => by cases hj; exact Nat.le_refl _)
      have HM : Hid (w4.rangeLeft bs (w.heap.size + 1) = cnt2) := ((HSU.out.2.2.kept (grown_of hb3) (by simp) (by simp)).kept hg4 (by have := HP.out.shm.lt; simp; omega) (by simp)).left_eq
      clear hHeld hHeld2 hHeld3 hS0 q0 q1 hS4 hg4 hS3 hb3 hv3 hrun4
      go_wp2_with fail
      go_roundw
      case rel => exact HF.out
      case measure => rw [HM.out, HRG.out]; exact HIT.out.2.2.2.2
end Go.Proofs.Ytompgoaogomoaaa.Kn
