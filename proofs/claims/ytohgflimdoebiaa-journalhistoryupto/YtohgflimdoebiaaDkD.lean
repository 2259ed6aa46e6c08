/- Contract: Image. -/
import Derived.Test.YtohgflimdoebiaaDkC
namespace Go.Proofs.Ytohgflimdoebiaa.Dk
open Go.RowKit Go.Maps
set_option linter.unusedVariables false
set_option maxRecDepth 4000
set_option linter.unusedSimpArgs false

/- The greatest place so far. -/
structure Lst (B : Bl) (left : Lit → Bool) (l : Int) : Prop where
  lo : -1 ≤ l
  hi : l < 2048
  at' : l = -1 ∨ (B l).size ≠ 0
  rest : ∀ x, (B x).size ≠ 0 → left (.int .i64 x) = true ∨ x ≤ l
theorem Lst.start {B : Bl} {D : DataW Unit} (h : MapIs D B) : Lst B (Maps.has D) (-1) := ⟨by omega, by omega, .inl rfl, fun x hx => .inl (h.has x hx)⟩
theorem sameKey_int (x y : Int) : (Lit.int .i64 x).sameKey (.int .i64 y) = decide (x = y) := by
  by_cases e : x = y
  · subst e; simp [Lit.sameKey]
  · rw [Maps.sameKey_ne (fun h => e (by cases h; rfl))]; simp [e]
theorem Lst.step {B : Bl} {left : Lit → Bool} {l x : Int} (h : Lst B left l) (hB : Dom B) (hx : (B x).size ≠ 0) (n : Int) (hn : n = max l x) : Lst B (fun z => left z && !z.sameKey (.int .i64 x)) n := by
  have d := hB.at' x hx
  have h1 := h.lo
  have h2 := h.hi
  refine ⟨by omega, by omega, ?_, fun y hy => ?_⟩
  · rcases h.at' with e | e
    · right; have : n = x := by omega
      rw [this]; exact hx
    · right
      by_cases hlx : l ≤ x
      · have : n = x := by omega
        rw [this]; exact hx
      · have : n = l := by omega
        rw [this]; exact e
  · by_cases e : y = x
    · right; omega
    · rcases h.rest y hy with hl | hl
      · left; simp [hl, sameKey_int, e]
      · right; omega
theorem Lst.fin {B : Bl} {left : Lit → Bool} {l : Int} (h : Lst B left l) (hl : ∀ kl, left kl = false) : l + 1 = (top B : Int) := by
  have h1 := h.lo
  have h2 := h.hi
  have e : top B = (l + 1).toNat := by
    refine top_eq (by omega) ?_ (fun i hi hi2 => ?_)
    · rcases h.at' with e | e
      · left; omega
      · right; rw [show (((l + 1).toNat : Nat) : Int) - 1 = l by omega]; exact e
    · by_cases hz : (B (i : Int)).size = 0
      · exact hz
      · rcases h.rest _ hz with h' | h'
        · rw [hl] at h'; cases h'
        · omega
  omega
/- Texts that are filled in. -/
def filled (B : Bl) (left : Lit → Bool) : Bl := fun x => if left (.int .i64 x) = true then ⟨#[]⟩ else B x
theorem filled_start {B : Bl} {D : DataW Unit} (h : MapIs D B) (n : Nat) : tx (filled B (Maps.has D)) n = List.replicate n ⟨#[]⟩ := by
  apply List.ext_getElem
  · simp
  · intro i h1 h2
    simp only [tx, List.getElem_map, List.getElem_range, List.getElem_replicate, filled]
    split
    · rfl
    · rename_i hh
      by_cases hz : (B (i : Int)).size = 0
      · exact nob_of hz
      · exact absurd (h.has _ hz) hh
theorem filled_step (B : Bl) (left : Lit → Bool) (x : Int) (h0 : 0 ≤ x) (n : Nat) : tx (filled B (fun z => left z && !z.sameKey (.int .i64 x))) n = (tx (filled B left) n).set x.toNat (B x) := by
  apply List.ext_getElem
  · simp
  · intro i h1 h2
    simp only [tx, List.getElem_map, List.getElem_range, List.getElem_set, filled, sameKey_int]
    by_cases e : x.toNat = i
    · have e' : (i : Int) = x := by omega
      simp [e, e']
    · have e' : ¬ (i : Int) = x := by omega
      simp [e, e']
theorem filled_fin (B : Bl) (left : Lit → Bool) (hl : ∀ kl, left kl = false) (n : Nat) : tx (filled B left) n = tx B n := by
  have : filled B left = B := by funext x; simp [filled, hl]
  rw [this]
set_option maxHeartbeats 2000000 in
theorem image_any (N : Nat) (w : World) (p : Nat) (s : St) (b m : Nat) (x : Value) (h : Dk N w p s b m x) (hl : s.log.length ≤ 5864062014805) : Calls Try.prog 23 #[.pointer (some ⟨p, 0, none⟩)] w fun e w' => ∃ v', e = .returned v' ∧ RwS w' w.heap.size v' (im s.bl) ∧ Below w.heap.size w w' := by
  have c0 := h.c0
  have hpl := h.plt
  obtain ⟨i0, hi, hz0, hz1, hz2⟩ := info_parts infoS
  obtain ⟨D, hown, hM⟩ := h.mb
  have hdom := h.ok.dom
  have HDOM : Hid (Dom s.bl) := hdom
  obtain ⟨B, hB⟩ : ∃ B, s.bl = B := ⟨_, rfl⟩
  obtain ⟨n, hn⟩ : ∃ n, 2048 + s.log.length = n := ⟨_, rfl⟩
  rw [hB] at hM HDOM ⊢
  rw [hn] at hown
  have HM : Hid (MapIs D B) := hM
  have hblt := h.mb.lt
  have hown : w.ownsMap Try.prog 3 (plainElem Try.prog 9) b n D := hown
  clear h hB hM hn hdom
  go_enter Try.func23, Try.ntmps23
  go_wp2_with (first
    | (at_range; refine wpList_range_own _ rfl _ 75 rfl 3 9 intK Try.underlying75 _ b n D rfl hown ?_; intro w0 hrg0 hg0 hs0)
    | fail)
  go_frame
  go_loopw [3] (fun v wr' => ∃ left cnt l, v = .int .i64 l ∧ wr'.ranges Try.prog 3 (plainElem Try.prog 9) b w.heap.size n D left cnt ∧ Lst B left l ∧ Below w.heap.size w wr') (fun _ wr' => wr'.rangeLeft b w.heap.size)
  case atStart => exact ⟨_, _, _, rfl, hrg0, Lst.start HM.out, Below.grown (Below.refl _ _) hg0 (Nat.le_refl _) (fun j hj => by cases hj)⟩
  case round =>
    obtain ⟨left, cnt, l, rfl, hrg, hL, hbw⟩ := hrel
    have HL : Hid (Lst B left l) := hL
    have HB : Hid (Below w.heap.size w wr) := hbw
    have l1 := hL.lo
    have l2 := hL.hi
    clear hL hbw
    go_wp2_with (first
      | (at_next; refine wpList_next_ranges_is _ rfl _ rfl 3 9 .i64 intK Try.underlying3 Try.underlying9 b w.heap.size n D left cnt rfl hrg ?_ ?_)
      | fail)
    · intro hc0 hl0
      have hT := HL.out.fin hl0
      have hTl := top_le B
      obtain ⟨T, eT⟩ : ∃ T, top B = T := ⟨_, rfl⟩
      have HT : Hid (top B = T) := eT
      rw [eT] at hT hTl
      have c0' := cell_later HB.out (Nat.le_refl _) c0
      have hownr := hrg.owns
      have hs1 := HB.out.size
      clear eT hrg
      go_wp2_with (first
        | (at_make; refine wpList_make_full _ rfl _ _ 22 rfl w.heap.size 9 i0 _ 1 Try.underlying22 hi hz0 hz1 .i64 .i64 _ _ T rfl rfl rfl rfl (by rw [hz2]; omega) (by unfold maxLen; omega) hs1 ?_; intro w1 hrow1 hg1; have c01 : w1.cell? ⟨p, 0, none⟩ = some (.map (some b)) := ((Kept.refl (fun _ => False) _).grown hg1 (fun k e _ => by cases e)).cell c0' (fun e => e); have hs2 := hg1.size)
        | (at_range; refine wpList_range_own _ rfl _ 75 rfl 3 9 intK Try.underlying75 _ b n D rfl (hownr.kept hg1 (by simp)) ?_; intro w2 hrg2 hg2 hs3)
        | fail)
      go_frame
      have hrow2 := hrow1.kept hg2 (Or.inr (by simp [Value.ownBlock]))
      have HB2 : Hid (Below w.heap.size w w2) := (HB.out.grown hg1 hs1 (fun j hj => by cases hj)).grown hg2 (by omega) (fun j hj => by cases hj)
      have HR2 : Hid (w2.ownsRow w.heap.size 9 1 (.slice (some ⟨wr.heap.size, 0, none⟩) T T) T (cellsS (tx (filled B (Maps.has D)) T))) := by
        rw [filled_start HM.out, cellsS, List.map_replicate]
        have := hrow2
        rw [show (Value.string ⟨#[]⟩).cells = #[.string ⟨#[]⟩] from rfl, toList_madeCells_one, Nat.mul_one] at this
        exact this
      obtain ⟨g, eg⟩ : ∃ g, wr.heap.size = g := ⟨_, rfl⟩
      obtain ⟨r, er⟩ : ∃ r, w1.heap.size = r := ⟨_, rfl⟩
      rw [eg] at HR2
      rw [er] at hrg2
      rw [eg, er]
      have hgr : g < r := by
        have := (hrow1.lt wr.heap.size rfl).2
        omega
      have hwg : w.heap.size ≤ g := by omega
      clear hrow1 hrow2 hg1 hg2 hs2 hs3 c0' c01 hownr er eg hs1
      go_loopw [] (fun wr' => ∃ left cnt, wr'.ranges Try.prog 3 (plainElem Try.prog 9) b r n D left cnt ∧ wr'.ownsRow w.heap.size 9 1 (.slice (some ⟨g, 0, none⟩) T T) T (cellsS (tx (filled B left) T)) ∧ Below w.heap.size w wr') (fun wr' => wr'.rangeLeft b r)
      case atStart => exact ⟨_, _, hrg2, HR2.out, HB2.out⟩
      case round =>
        obtain ⟨left2, cnt2, hrg, hrow, hbw⟩ := hrel
        have HRW : Hid (wr.ownsRow w.heap.size 9 1 (.slice (some ⟨g, 0, none⟩) T T) T (cellsS (tx (filled B left2) T))) := hrow
        have HBW : Hid _ := hbw
        clear hrow hbw
        go_wp2_with (first
          | (at_next; refine wpList_next_ranges_is _ rfl _ rfl 3 9 .i64 intK Try.underlying3 Try.underlying9 b r n D left2 cnt2 rfl hrg ?_ ?_)
          | fail)
        · intro hc0 hl0
          go_wp2
          go_ret
          refine ⟨_, rfl, ?_, HBW.out⟩
          have := HRW.out
          rw [filled_fin B left2 hl0] at this
          unfold RwS im
          rw [tx_length, HT.out]
          exact this
        · intro y c w' cnt' hwy hwc hly hat hrg' hlt hgr' hsz hen
          have hy : (B y).size ≠ 0 ∧ c = B y := by
            obtain ⟨y', e, hz, hz'⟩ := HM.out.keys _ (has_true_of_atKey hat)
            cases e
            refine ⟨hz, ?_⟩
            have := hz' (.lit (.bool true))
            rw [hat] at this
            exact el_inj this
          have hd := HDOM.out.at' y hy.1
          have HC : Hid (c = B y) := hy.2
          have hyT : y < (T : Int) := by
            have h1 := hd.2
            rcases Nat.lt_or_ge y.toNat (top B) with hlt | hge
            · rw [HT.out] at hlt; omega
            · have := topn_above B 2048 y.toNat hge (by omega)
              rw [show ((y.toNat : Nat) : Int) = y by omega] at this
              exact absurd this hy.1
          obtain ⟨k, rfl⟩ : ∃ k : Nat, y = (k : Int) := ⟨y.toNat, by omega⟩
          have hrow' : w'.ownsRow w.heap.size 9 1 (.slice (some ⟨g, 0, none⟩) T T) T (cellsS (tx (filled B left2) T)) := World.ownsRow.kept HRW.out hgr' (Or.inr (by simp [Value.ownBlock]; omega))
          have hkT : k < T := by omega
          have hcl : w'.cell? ⟨g, k, none⟩ = some (.string ((tx (filled B left2) T).getD k ⟨#[]⟩)) := by rw [hrow'.cellAt k (by omega)]; exact cellsS_get _ k (by simpa using hkT)
          have hfz := hrow'.frozenAt k
          have HST : Hid _ := hrow'.stored k (.string c)
          have k1 : (0 : Int) ≤ (k : Int) := by omega
          have hk8 : k < 2048 := by omega
          have hrg3 := hrg'.kept (hrow'.stored k (.string c)).2 (by simp; have := hrg.owns.lt; omega) (by simp; omega)
          have hBW' : Below w.heap.size w w' := HBW.out.grown hgr' HBW.out.size (fun j hj => by cases hj; omega)
          have HBW' : Hid _ := hBW'.grown (hrow'.stored k (.string c)).2 hBW'.size (fun j hj => by cases hj; exact hwg)
          clear hat hd hwy hrow' hy hBW'
          go_wp2
          go_roundw
          case rel =>
            refine ⟨_, cnt', hrg3, ?_, HBW'.out⟩
            have := HST.out.1
            rw [cellsS_set] at this
            rw [filled_step B left2 (k : Int) (by omega), ← HC.out]
            exact this
          case measure => rw [hrg3.left_eq, hrg.left_eq]; exact hlt
    · intro y c w' cnt' hwy hwc hly hat hrg' hlt hgr hsz hen
      have hy : (B y).size ≠ 0 := by
        obtain ⟨y', e, hz, _⟩ := HM.out.keys _ (has_true_of_atKey hat)
        cases e; exact hz
      have hd := HDOM.out.at' y hy
      have HLS : Hid _ := HL.out.step HDOM.out hy _ rfl
      have y1 := hd.1
      have y2 := hd.2
      clear hat hd hwy
      by_cases hmx : l < y
      · have em : max l y = y := by omega
        rw [em] at HLS
        go_wp2
        go_roundw
        case rel => exact ⟨_, cnt', y, rfl, hrg', HLS.out, HB.out.grown hgr HB.out.size (fun j hj => by cases hj; exact Nat.le_refl _)⟩
        case measure => rw [hrg'.left_eq, hrg.left_eq]; exact hlt
      · have em : max l y = l := by omega
        rw [em] at HLS
        have dmx : decide (l < y) = false := by simp; omega
        go_wp2
        go_roundw
        case rel => exact ⟨_, cnt', l, rfl, hrg', HLS.out, HB.out.grown hgr HB.out.size (fun j hj => by cases hj; exact Nat.le_refl _)⟩
        case measure => rw [hrg'.left_eq, hrg.left_eq]; exact hlt
end Go.Proofs.Ytohgflimdoebiaa.Dk
