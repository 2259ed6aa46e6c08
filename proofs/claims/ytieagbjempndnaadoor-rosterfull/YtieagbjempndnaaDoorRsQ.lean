/- Contracts: the document's People. -/
import Derived.Test.YtieagbjempndnaaDoorRsO
import Derived.Test.YtieagbjempndnaaDoorRsC
namespace Go.Proofs.YtieagbjempndnaaDoor
open Go.RowKit Go.Maps Go.Shelf
set_option linter.unusedVariables false
set_option linter.unusedSimpArgs false

/- The best so far. -/
def Best (f : Nat → En) (k i : Nat) (z : Int) : Prop := (z = -1 ∧ ∀ j, j < i → elg f k j = false) ∨ ∃ b : Nat, z = (b : Int) ∧ b < i ∧ elg f k b = true ∧ ∀ j, j < i → elg f k j = true → (f b).who ≤ (f j).who
theorem Best.skip {f : Nat → En} {k i : Nat} {z : Int} (h : Best f k i z) (he : elg f k i = false) : Best f k (i + 1) z := by
  rcases h with ⟨h1, h2⟩ | ⟨b, h1, h2, h3, h4⟩
  · refine .inl ⟨h1, fun j hj => ?_⟩
    by_cases e : j = i
    · subst e; exact he
    · exact h2 j (by omega)
  · refine .inr ⟨b, h1, by omega, h3, fun j hj hj2 => ?_⟩
    by_cases e : j = i
    · subst e; rw [he] at hj2; cases hj2
    · exact h4 j (by omega) hj2
theorem Best.first {f : Nat → En} {k i : Nat} (h : ∀ j, j < i → elg f k j = false) (he : elg f k i = true) : Best f k (i + 1) (i : Int) :=
  .inr ⟨i, rfl, by omega, he, fun j hj hj2 => by
    by_cases e : j = i
    · subst e; exact Int.le_refl _
    · rw [h j (by omega)] at hj2; cases hj2⟩
theorem Best.take {f : Nat → En} {k i b : Nat} (h4 : ∀ j, j < i → elg f k j = true → (f b).who ≤ (f j).who) (he : elg f k i = true) (hlt : (f i).who < (f b).who) : Best f k (i + 1) (i : Int) :=
  .inr ⟨i, rfl, by omega, he, fun j hj hj2 => by
    by_cases e : j = i
    · subst e; exact Int.le_refl _
    · have := h4 j (by omega) hj2; omega⟩
theorem Best.hold {f : Nat → En} {k i b : Nat} (h2 : b < i) (h3 : elg f k b = true) (h4 : ∀ j, j < i → elg f k j = true → (f b).who ≤ (f j).who) (hlt : ¬ (f i).who < (f b).who) : Best f k (i + 1) (b : Int) :=
  .inr ⟨b, rfl, by omega, h3, fun j hj hj2 => by
    by_cases e : j = i
    · subst e; omega
    · exact h4 j (by omega) hj2⟩
theorem take_ppl {f : Nat → En} {k : Nat} (h : k < (ppl f).length) : (ppl f).take (k + 1) = (ppl f).take k ++ [(ppl f).getD k 0] := take_getD h
theorem iv_get {l : List Int} {k : Nat} (h : k < l.length) : (iv l)[k]? = some (.int .i64 (l.getD k 0)) := by
  simp [iv, h]
set_option maxRecDepth 100000 in
set_option maxHeartbeats 4000000 in
theorem rPeople_any (f : Nat → En) (w : World) :
    Calls Tryd.prog 17 #[.agg (rcs f)] w fun e w' => (∃ v, e = .returned v ∧ w'.ownsRow (w.heap.size + 1) 3 1 v (ppl f).length (iv (ppl f))) ∧ Below w.heap.size w w' := by
  have hn := RoAt.new w f
  have hB1 := alloc_ro w f
  obtain ⟨i0, hi, hz0, hz1, hz2⟩ := info_parts infoInt
  go_enter Tryd.func17, Tryd.ntmps17
  go_upto_region 1 with (fail)
  have hs1 : w.heap.size + 1 ≤ (w.alloc (.cells (rcs f) 25)).heap.size := by simp
  generalize w.alloc (.cells (rcs f) 25) = w1 at *
  obtain ⟨c, hc⟩ : ∃ c, rcs f = c := ⟨_, rfl⟩
  rw [hc]
  clear hc
  have hp64 := ppl_len f
  go_wp2_with fail
  go_loopw [3] (fun v wx => ∃ (k : Nat) (vl : Value), k ≤ (ppl f).length ∧ vl = v ∧ RoAt wx w.heap.size f ∧ Below w.heap.size w wx ∧ wx.ownsRow (w.heap.size + 1) 3 1 vl k (iv ((ppl f).take k))) (fun v _ => (ppl f).length - (match v with | .slice _ n _ => n | _ => 0))
  case atStart => exact ⟨0, _, by omega, rfl, hn, hB1, World.ownsRow_nil _ _ _ _⟩
  case round =>
    obtain ⟨k, vl, hk, rfl, hro, hb, hrw⟩ := hrel
    obtain ⟨wo, hwo⟩ : ∃ wo, wr = wo := ⟨_, rfl⟩
    rw [hwo] at hro hb hrw ⊢
    clear hwo hn hB1
    have HB : Hid (Below w.heap.size w wo) := hb
    have HR : Hid (wo.ownsRow (w.heap.size + 1) 3 1 vl k (iv ((ppl f).take k))) := hrw
    have hso : w.heap.size + 1 ≤ wo.heap.size := hro.lt
    obtain ⟨a1, cap1, rfl⟩ := owns_slice HR.out
    clear hb hrw
    go_wp2_with fail
    go_loopw [4, 5] (fun z i wx => ∃ (m : Nat) (y : Int), m ≤ 64 ∧ i = .int .i64 (m : Int) ∧ z = .int .i64 y ∧ Best f k m y ∧ Below wo.heap.size wo wx) (fun _ i _ => 64 - (intOf i).toNat)
    case atStart => exact ⟨0, -1, by omega, rfl, rfl, .inl ⟨rfl, fun j hj => by omega⟩, Below.refl _ _⟩
    case round =>
      obtain ⟨m, y, hm, rfl, rfl, hbest, hbw⟩ := hrel
      have HBT : Hid (Best f k m y) := hbest
      have HBW : Hid (Below wo.heap.size wo wr) := hbw
      have hR := hro.later hbw
      have HRW : Hid (wr.ownsRow (w.heap.size + 1) 3 1 (.slice a1 k cap1) k (iv ((ppl f).take k))) := owns_later HR.out hbw
      clear hbest hbw
      by_cases hm8 : m < 64
      · have m8 : (m : Int) < 64 := by omega
        obtain ⟨c0, c1, c2⟩ := hR.cells m hm8
        have HEL : Hid (elg f k m = (tkn (f m) && (decide (k = 0) || decide ((ppl f).getD (k - 1) 0 < (f m).who)))) := rfl
        obtain ⟨e, he⟩ : ∃ e, f m = e := ⟨_, rfl⟩
        have HEM : Hid (f m = e) := he
        rw [he] at c0 c1 c2 HEL
        clear he
        cases ht : tkn e with
        | false =>
          have q1 : (e.bas == 0) = true := by simp [tkn_neg ht]
          have hel : elg f k m = false := by rw [HEL.out, ht]; rfl
          have HBK : Hid (Best f k (m + 1) y) := HBT.out.skip hel
          clear hel
          go_wp2_with fail
          go_quiet (fail)
          go_wp2_with fail
          go_roundw
          case rel => exact ⟨m + 1, y, by omega, by go_num, rfl, HBK.out, HBW.out.trans ((drewN_below _ _).mono HBW.out.size)⟩
          case measure => simp [intOf]; omega
        | true =>
          have q1 : (e.bas == 0) = false := by simp [tkn_pos ht]
          by_cases hk0 : k = 0
          · have hel : elg f k m = true := by rw [HEL.out, ht, decide_eq_true hk0]; rfl
            have n0 : decide ((0 : Int) < (k : Int)) = false := decide_eq_false (by omega)
            have n5 : (0 < k) = False := propext ⟨fun h => by omega, False.elim⟩
            have HK0 : Hid (k = 0) := hk0
            clear hk0
            rcases HBT.out with ⟨rfl, hnone⟩ | ⟨b, rfl, hbm, helb, hleast⟩
            · have HBK : Hid (Best f k (m + 1) (m : Int)) := Best.first hnone hel
              clear hel hnone
              go_wp2_with fail
              go_quiet (fail)
              go_wp2_with fail
              go_quiet (fail)
              go_wp2_with fail
              go_roundw
              case rel => exact ⟨m + 1, (m : Int), by omega, by go_num, rfl, HBK.out, HBW.out.trans ((drewN_below _ _).mono HBW.out.size)⟩
              case measure => simp [intOf]; omega
            · obtain ⟨d0, d1', d2⟩ := hR.cells b (by omega)
              have b8 : (b : Int) < 64 := by omega
              have b0 : ¬ ((b : Int) < 0) := by omega
              obtain ⟨eb, heb⟩ : ∃ eb, f b = eb := ⟨_, rfl⟩
              have HEB : Hid (f b = eb) := heb
              rw [heb] at d0 d1' d2 hleast
              clear heb
              by_cases hlt : e.who < eb.who
              · have HBK : Hid (Best f k (m + 1) (m : Int)) := Best.take (b := b) (by rw [HEB.out]; exact hleast) hel (by rw [HEM.out, HEB.out]; exact hlt)
                have d3 : decide (e.who < eb.who) = true := decide_eq_true hlt
                clear hel hleast helb
                go_wp2_with fail
                go_quiet (fail)
                have r0 := cell_later (drewN_below wr nq) c0
                have r1 := cell_later (drewN_below wr nq) d0
                have HB3 : Hid (Below wo.heap.size wo (wr.drewN nq)) := HBW.out.trans ((drewN_below _ _).mono HBW.out.size)
                generalize wr.drewN nq = wq at *
                go_wp2_with fail
                go_quiet (fail)
                go_wp2_with fail
                go_roundw
                case rel => exact ⟨m + 1, (m : Int), by omega, by go_num, rfl, HBK.out, HB3.out.trans ((drewN_below _ _).mono HB3.out.size)⟩
                case measure => simp [intOf]; omega
              · have HBK : Hid (Best f k (m + 1) (b : Int)) := Best.hold hbm helb (by rw [HEB.out]; exact hleast) (by rw [HEM.out, HEB.out]; exact hlt)
                have d3 : decide (e.who < eb.who) = false := decide_eq_false hlt
                clear hel hleast helb
                go_wp2_with fail
                go_quiet (fail)
                have r0 := cell_later (drewN_below wr nq) c0
                have r1 := cell_later (drewN_below wr nq) d0
                have HB3 : Hid (Below wo.heap.size wo (wr.drewN nq)) := HBW.out.trans ((drewN_below _ _).mono HBW.out.size)
                generalize wr.drewN nq = wq at *
                go_wp2_with fail
                go_quiet (fail)
                go_wp2_with fail
                go_roundw
                case rel => exact ⟨m + 1, (b : Int), by omega, by go_num, rfl, HBK.out, HB3.out.trans ((drewN_below _ _).mono HB3.out.size)⟩
                case measure => simp [intOf]; omega
          · obtain ⟨g, cap', hg, hcl⟩ : ∃ g cap', Value.slice a1 k cap1 = .slice (some ⟨g, 0, none⟩) k cap' ∧ wr.cell? ⟨g, k - 1, none⟩ = some (.int .i64 ((ppl f).getD (k - 1) 0)) := by
              rcases HRW.out.2 with ⟨h0, h1⟩ | ⟨g, cap', cur, h0, h3, h4, _⟩
              · exact absurd h1 hk0
              · refine ⟨g, cap', h0, ?_⟩
                have h := HRW.out
                rw [h0] at h
                have hc := World.ownsRow.cellAt h (k - 1) (by omega)
                rw [hc, iv_get (by rw [List.length_take]; omega)]
                rw [List.getD_eq_getElem?_getD, List.getElem?_take_of_lt (by omega), ← List.getD_eq_getElem?_getD]
            simp only [Value.slice.injEq] at hg
            obtain ⟨rfl, -, rfl⟩ := hg
            have n0 : (0 : Int) < (k : Int) := by omega
            have n6 : 0 < k := by omega
            have n7 : decide ((0 : Int) < (k : Int)) = true := decide_eq_true n0
            have n1 : IntKind.i64.wrap ((k : Int) - 1) = ((k - 1 : Nat) : Int) := by rw [i64_fit _ (by omega) (by omega)]; omega
            have n2 : (k : Int) - 1 = ((k - 1 : Nat) : Int) := by omega
            have n3 : ((k - 1 : Nat) : Int) < (k : Int) := by omega
            have n4 : (0 : Int) ≤ ((k - 1 : Nat) : Int) := by omega
            obtain ⟨p, hp⟩ : ∃ p, (ppl f).getD (k - 1) 0 = p := ⟨_, rfl⟩
            rw [hp] at hcl HEL
            obtain ⟨k1, hk1⟩ : ∃ k1, k - 1 = k1 := ⟨_, rfl⟩
            rw [hk1] at hcl n1 n2 n3 n4
            have HK0 : Hid (decide (k = 0) = false) := decide_eq_false hk0
            clear hp hk1
            by_cases hle : e.who ≤ p
            · have hel : elg f k m = false := by rw [HEL.out, ht, HK0.out, decide_eq_false (by omega)]; rfl
              have HBK : Hid (Best f k (m + 1) y) := HBT.out.skip hel
              have d1 : decide (e.who ≤ p) = true := decide_eq_true hle
              clear hel
              go_wp2_with fail
              go_quiet (fail)
              go_wp2_with fail
              go_roundw
              case rel => exact ⟨m + 1, y, by omega, by go_num, rfl, HBK.out, HBW.out.trans ((drewN_below _ _).mono HBW.out.size)⟩
              case measure => simp [intOf]; omega
            · have hel : elg f k m = true := by rw [HEL.out, ht, HK0.out, decide_eq_true (by omega)]; rfl
              have d1 : decide (e.who ≤ p) = false := decide_eq_false hle
              rcases HBT.out with ⟨rfl, hnone⟩ | ⟨b, rfl, hbm, helb, hleast⟩
              · have HBK : Hid (Best f k (m + 1) (m : Int)) := Best.first hnone hel
                clear hel hnone
                go_wp2_with fail
                go_quiet (fail)
                go_wp2_with fail
                go_quiet (fail)
                go_wp2_with fail
                go_roundw
                case rel => exact ⟨m + 1, (m : Int), by omega, by go_num, rfl, HBK.out, HBW.out.trans ((drewN_below _ _).mono HBW.out.size)⟩
                case measure => simp [intOf]; omega
              · obtain ⟨d0, d1', d2⟩ := hR.cells b (by omega)
                have b8 : (b : Int) < 64 := by omega
                have b0 : ¬ ((b : Int) < 0) := by omega
                obtain ⟨eb, heb⟩ : ∃ eb, f b = eb := ⟨_, rfl⟩
                have HEB : Hid (f b = eb) := heb
                rw [heb] at d0 d1' d2 hleast
                clear heb
                by_cases hlt : e.who < eb.who
                · have HBK : Hid (Best f k (m + 1) (m : Int)) := Best.take (b := b) (by rw [HEB.out]; exact hleast) hel (by rw [HEM.out, HEB.out]; exact hlt)
                  have d3 : decide (e.who < eb.who) = true := decide_eq_true hlt
                  clear hel hleast helb
                  go_wp2_with fail
                  go_quiet (fail)
                  have r0 := cell_later (drewN_below wr nq) c0
                  have r1 := cell_later (drewN_below wr nq) d0
                  have HB3 : Hid (Below wo.heap.size wo (wr.drewN nq)) := HBW.out.trans ((drewN_below _ _).mono HBW.out.size)
                  generalize wr.drewN nq = wq at *
                  go_wp2_with fail
                  go_quiet (fail)
                  go_wp2_with fail
                  go_roundw
                  case rel => exact ⟨m + 1, (m : Int), by omega, by go_num, rfl, HBK.out, HB3.out.trans ((drewN_below _ _).mono HB3.out.size)⟩
                  case measure => simp [intOf]; omega
                · have HBK : Hid (Best f k (m + 1) (b : Int)) := Best.hold hbm helb (by rw [HEB.out]; exact hleast) (by rw [HEM.out, HEB.out]; exact hlt)
                  have d3 : decide (e.who < eb.who) = false := decide_eq_false hlt
                  clear hel hleast helb
                  go_wp2_with fail
                  go_quiet (fail)
                  have r0 := cell_later (drewN_below wr nq) c0
                  have r1 := cell_later (drewN_below wr nq) d0
                  have HB3 : Hid (Below wo.heap.size wo (wr.drewN nq)) := HBW.out.trans ((drewN_below _ _).mono HBW.out.size)
                  generalize wr.drewN nq = wq at *
                  go_wp2_with fail
                  go_quiet (fail)
                  go_wp2_with fail
                  go_roundw
                  case rel => exact ⟨m + 1, (b : Int), by omega, by go_num, rfl, HBK.out, HB3.out.trans ((drewN_below _ _).mono HB3.out.size)⟩
                  case measure => simp [intOf]; omega
      · obtain rfl : m = 64 := by omega
        rcases HBT.out with ⟨rfl, hnone⟩ | ⟨b, rfl, hb64, helb, hleast⟩
        · have hkl := elg_none hk hnone
          have HRW2 : Hid (wr.ownsRow (w.heap.size + 1) 3 1 (.slice a1 k cap1) (ppl f).length (iv (ppl f))) := by
            have h := HRW.out
            rw [hkl, List.take_length] at h
            rw [hkl]
            exact h
          have HB2 : Hid (Below w.heap.size w wr) := HB.out.trans (HBW.out.mono HB.out.size)
          clear hkl hnone
          go_wp2_with fail
          go_ret
          exact ⟨⟨_, rfl, HRW2.out⟩, HB2.out⟩
        · obtain ⟨hkl, hwho⟩ := elg_least hk hb64 helb hleast
          obtain ⟨c0, c1, c2⟩ := hR.cells b hb64
          rw [hwho] at c0
          have b8 : (b : Int) < 64 := by omega
          have b0 : ¬ ((b : Int) < 0) := by omega
          have HT : Hid ((ppl f).take (k + 1) = (ppl f).take k ++ [(ppl f).getD k 0]) := take_ppl hkl
          have hrow := HRW.out
          have hsz : w.heap.size + 1 ≤ wr.heap.size := Nat.le_trans hso HBW.out.size
          have HB2 : Hid (Below w.heap.size w wr) := HB.out.trans (HBW.out.mono HB.out.size)
          obtain ⟨x, hx⟩ : ∃ x, (ppl f).getD k 0 = x := ⟨_, rfl⟩
          rw [hx] at c0 HT
          clear hx hwho hleast helb
          go_wp2_with (at_builtin; (refine wpList_append_own _ rfl _ _ 32 rfl (w.heap.size + 1) 3 i0 _ 1 8 Tryd.underlying32 hi hz0 hz1 hz2 rfl (by decide) (.slice a1 k cap1) k (iv ((ppl f).take k)) rfl (hrow.alloc _) ⟨wr.heap.size, 0, none⟩ 1 1 [.int .i64 x] rfl rfl (cell_one_new _ _ _) (by simp [Value.oneCell']) (by unfold maxLen; omega) (by omega) (by simp; omega) ?_); intro v' w3 hown' hg3 _; obtain ⟨g', cap', rfl⟩ := ownsRow_succ hown')
          go_roundw
          case rel =>
            have hlow : w3.heap[w.heap.size]? = wr.heap[w.heap.size]? := by
              rw [hg3.block _ (by simp; omega) (row_far hrow (by omega))]
              exact ((Below.refl _ wr).alloc (Nat.le_refl _) _).block _ (by omega)
            refine ⟨k + 1, _, by omega, rfl, hlow.trans hR, ?_, ?_⟩
            · exact below_grown (HB2.out.alloc HB2.out.size _) hg3 (by have := HB2.out.size; simp; omega) fun j hj => by
                rcases Nat.lt_or_ge j (w.heap.size + 1) with hlt | hge
                · exact absurd hj.symm (row_far hrow hlt)
                · omega
            · rw [HT.out, iv_snoc]
              exact hown'
          case measure => simp; omega
end Go.Proofs.YtieagbjempndnaaDoor
