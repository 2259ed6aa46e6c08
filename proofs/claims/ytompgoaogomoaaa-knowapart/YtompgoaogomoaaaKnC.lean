/- Contract: the document's Closed. -/
import Derived.Test.YtompgoaogomoaaaHd
import Derived.Test.YtompgoaogomoaaaKnB
import Derived.Deep.WholeRow
namespace Go.Proofs.Ytompgoaogomoaaa.Kn
open Go.RowKit Go.Maps
open Rt (Gd gd gd_yes gd_no)
set_option linter.unusedVariables false
set_option linter.unusedSimpArgs false

theorem infoI : (Try.prog.info? 3).map (fun i => (i.zero, i.size, i.bytes)) = some (some (.int .i64 0), 1, 8) := by kernel_rfl
theorem boxed2 (w : World) (x y : Value) (t : TypeId) (k : Nat) : ((w.alloc (.cells #[x, y] t)).drewN k).cell? ⟨w.heap.size, 0, none⟩ = some x ∧ ((w.alloc (.cells #[x, y] t)).drewN k).cell? ⟨w.heap.size, 1, none⟩ = some y := by
  have h : ((w.alloc (.cells #[x, y] t)).drewN k).heap[w.heap.size]? = some (.cells #[x, y] t (0, 0)) := by
    rw [(_root_.Go.below_drewN (Below.refl (w.heap.size + 1) (w.alloc (.cells #[x, y] t))) k).block w.heap.size (by omega)]
    exact _root_.Go.heap_alloc_last w _
  exact ⟨cell_of_row _ _ 0 _ _ _ h, cell_of_row _ _ 1 _ _ _ h⟩
def mW (W : World) (g n : Nat) : Nat := mz (fun i => match W.cell? ⟨g, i, none⟩ with | some (.int _ v) => v | _ => 0) n
theorem CL.mw {w W : World} {N g c : Nat} {f : Nat → Int} (h : CL w W N g c f) : mW W g N = mz f N := mz_congr fun i hi => by rw [(h.cell hi).1]
theorem Snd.bd {T : List K2} {B : List B2} {f : Nat → Int} (h : Snd T B f) (i : Nat) : 0 ≤ f i ∧ f i ≤ 256 := by
  rcases h.out i with h | ⟨_, h1, h2, _⟩ <;> omega
/- A round over the boxes: what is boxed. -/
structure BS (w W : World) (N g c : Nat) (f : Nat → Int) (P Q : Nat) (u l : K2) : Prop where
  cl : CL w W N g c f
  p0 : W.cell? ⟨P, 0, none⟩ = some (.int .i64 u.1)
  p1 : W.cell? ⟨P, 1, none⟩ = some (.int .i64 u.2)
  q0 : W.cell? ⟨Q, 0, none⟩ = some (.int .i64 l.1)
  q1 : W.cell? ⟨Q, 1, none⟩ = some (.int .i64 l.2)
theorem BS.later {w W W' : World} {N g c : Nat} {f : Nat → Int} {P Q : Nat} {u l : K2} (h : BS w W N g c f P Q u l) (hb : Below W.heap.size W W') : BS w W' N g c f P Q u l :=
  ⟨h.cl.later hb, cell_later hb h.p0, cell_later hb h.p1, cell_later hb h.q0, cell_later hb h.q1⟩
theorem BS.ld {w W : World} {N g c : Nat} {f : Nat → Int} {P Q : Nat} {u l : K2} (h : BS w W N g c f P Q u l) : (Instr.loadAt 33 (.pointer (some ⟨P, 0, none⟩))).run Try.prog W = .ok (.agg #[.int .i64 u.1, .int .i64 u.2]) W := by
  obtain ⟨_, c0, c1, _, _⟩ := h
  go_simp
theorem BS.new {w W : World} {N g c : Nat} {f : Nat → Int} (h : CL w W N g c f) (u l : K2) :
    BS w (((W.alloc (.cells #[.int .i64 u.1, .int .i64 u.2, .int .i64 l.1, .int .i64 l.2] 35)).alloc (.cells #[.int .i64 l.1, .int .i64 l.2] 33)).drew) N g c f W.heap.size (W.heap.size + 1) u l := by
  have h1 := _root_.Go.heap_alloc_last W (.cells #[.int .i64 u.1, .int .i64 u.2, .int .i64 l.1, .int .i64 l.2] 35)
  have hs : (W.alloc (.cells #[.int .i64 u.1, .int .i64 u.2, .int .i64 l.1, .int .i64 l.2] 35)).heap.size = W.heap.size + 1 := World.size_alloc _ _
  have hc := h.alloc (.cells #[.int .i64 u.1, .int .i64 u.2, .int .i64 l.1, .int .i64 l.2] 35)
  generalize W.alloc (.cells #[.int .i64 u.1, .int .i64 u.2, .int .i64 l.1, .int .i64 l.2] 35) = W1 at *
  have h2 := _root_.Go.heap_alloc_last W1 (.cells #[.int .i64 l.1, .int .i64 l.2] 33)
  rw [hs] at h2
  have hb := Rt.below1 W1 (.cells #[.int .i64 l.1, .int .i64 l.2] 33)
  have hb2 : Below W1.heap.size W1 (W1.alloc (.cells #[.int .i64 l.1, .int .i64 l.2] 33)).drew := hb.drew
  exact ⟨hc.later hb2, cell_later hb2 (cell_of_row _ _ 0 _ _ _ h1), cell_later hb2 (cell_of_row _ _ 1 _ _ _ h1), cell_of_row _ _ 0 _ _ _ h2, cell_of_row _ _ 1 _ _ _ h2⟩
def Stb (B : List B2) (f : Nat → Int) (n : Nat) : Prop := ∀ j, j < n → inT f (B.getD j ((0, 0), (0, 0))).1 = true → (B.getD j ((0, 0), (0, 0))).2.1 < 32768 → Low f (B.getD j ((0, 0), (0, 0))).2
def bitV (m : Value) : Nat := match m with | .bool true => 1 | _ => 0
section
variable {T : List K2} {B : List B2} {f : Nat → Int} {i k n : Nat} {s : Int}
theorem getD_of {α : Type} {l : List α} {z : α} (h : n < l.length) : l.getD n z ∈ l := by
  rw [List.getD_eq_getElem?_getD, List.getElem?_eq_getElem h]; exact List.getElem_mem _
theorem told_put (hX : ((i : Int), s) ∈ T) (hG : Gd (i : Int) s) (hb : i < 32768) (hS : Snd T B f ∧ ∀ j, j < k → (T.getD j (0, 0)).1 < 32768 → Low f (T.getD j (0, 0))) (hE : T.getD k (0, 0) = ((i : Int), s)) (hc : f i = 0 ∨ s + 1 < f i) :
    Snd T B (upT f i (s + 1)) ∧ ∀ j, j < k + 1 → (T.getD j (0, 0)).1 < 32768 → Low (upT f i (s + 1)) (T.getD j (0, 0)) := by
  refine ⟨Snd.put (k := ((i : Int), s)) hS.1 (had_told hG hX) (by show (i : Int) < 32768; omega), fun j hj hb => ?_⟩
  rcases Nat.lt_or_ge j k with h | h
  · exact Low.put (l := ((i : Int), s)) (hS.2 j h hb) hc hG.2.2.1
  · obtain rfl : j = k := by omega
    rw [hE]
    exact Low.own (l := ((i : Int), s)) hG.2.2.1
theorem told_keep {x : K2} (hS : Snd T B f ∧ ∀ j, j < k → (T.getD j (0, 0)).1 < 32768 → Low f (T.getD j (0, 0))) (hE : T.getD k (0, 0) = x) (hc : x.1 < 32768 → Low f x) : ∀ j, j < k + 1 → (T.getD j (0, 0)).1 < 32768 → Low f (T.getD j (0, 0)) := by
  intro j hj hb
  rcases Nat.lt_or_ge j k with h | h
  · exact hS.2 j h hb
  · obtain rfl : j = k := by omega
    rw [hE] at hb ⊢
    exact hc hb
theorem stb_keep {b : B2} (h : Stb B f k) (hE : B.getD k ((0, 0), (0, 0)) = b) (hc : inT f b.1 = true → b.2.1 < 32768 → Low f b.2) : Stb B f (k + 1) := by
  intro j hj h1 h2
  rcases Nat.lt_or_ge j k with h' | h'
  · exact h j h' h1 h2
  · obtain rfl : j = k := by omega
    rw [hE] at h1 h2 ⊢
    exact hc h1 h2
theorem up_less {h : Nat → Int} {mb : Bool} {N : Nat} (h1 : mb = true → mz h N < mz f N) (h2 : mb = false → h = f) (hc : h i = 0 ∨ s + 1 < h i) (hG : Gd (i : Int) s) (hi : i < N) : mz (upT h i (s + 1)) N < mz f N := by
  have h3 := mz_put hc (by have := hG.2.2.1; omega) (by have := hG.2.2.2; omega) hi
  cases mb with
  | true => exact Nat.lt_trans h3 (h1 rfl)
  | false => rw [← h2 rfl]; exact h3
theorem stb_all (h : Stb B f B.length) : ∀ u l : K2, (u, l) ∈ B → inT f u = true → l.1 < 32768 → Low f l := by
  intro u l hm h1 h2
  obtain ⟨j, hj, e⟩ := List.mem_iff_getElem.1 hm
  have e' : B.getD j ((0, 0), (0, 0)) = (u, l) := by rw [List.getD_eq_getElem?_getD, List.getElem?_eq_getElem hj]; exact e
  have := h j hj
  rw [e'] at this
  exact this h1 h2
end
set_option maxRecDepth 100000 in
set_option maxHeartbeats 4000000 in
theorem closed_any (p : Nat) (aT aB : Option Addr) (cT cB : Nat) (T : List K2) (B : List B2) (w : World) (h0 : w.cell? ⟨p, 0, none⟩ = some (.slice aT T.length cT)) (h1 : w.cell? ⟨p, 1, none⟩ = some (.slice aB B.length cB))
    (rT : RdK w aT T) (rB : RdB w aB B) (lT : T.length < 4611686018427387904) (lB : B.length < 4611686018427387904) (gT : ∀ k ∈ T, Gd k.1 k.2) (gB : ∀ b ∈ B, Gd b.1.1 b.1.2 ∧ Gd b.2.1 b.2.2) :
    Calls Try.prog 13 #[.pointer (some ⟨p, 0, none⟩)] w fun e w' => ∃ g c f, e = .returned (.slice (some ⟨g, 0, none⟩) 32768 c) ∧ CL w w' 32768 g c f ∧ Tab T B f := by
  obtain ⟨N, hN⟩ : ∃ N : Nat, N = 32768 := ⟨_, rfl⟩
  have HN : Hid (N = 32768) := hN
  clear hN
  obtain ⟨i0, hi, hz0, hz1, hz2⟩ := info_parts infoI
  obtain ⟨nT, hnT⟩ : ∃ n, T.length = n := ⟨_, rfl⟩
  obtain ⟨nB, hnB⟩ : ∃ n, B.length = n := ⟨_, rfl⟩
  have HRT : Hid (RdK w aT T ∧ T.length = nT ∧ ∀ k ∈ T, Gd k.1 k.2) := ⟨rT, hnT, gT⟩
  have HRB : Hid (RdB w aB B ∧ B.length = nB ∧ ∀ b ∈ B, Gd b.1.1 b.1.2 ∧ Gd b.2.1 b.2.2) := ⟨rB, hnB, gB⟩
  rw [hnT] at h0 lT
  rw [hnB] at h1 lB
  clear rT rB gT gB hnT hnB
  go_enter Try.func13, Try.ntmps13
  go_upto_region 2 with (at_make; refine wpList_make_full _ rfl _ _ 42 rfl w.heap.size 3 i0 _ 1 Try.underlying42 hi hz0 hz1 .i64 .i64 _ _ N rfl rfl (by rw [HN.out]; rfl) (by rw [HN.out]; rfl) (by rw [hz2, HN.out]; omega) (by rw [HN.out]; unfold maxLen; omega) (Nat.le_refl _) ?_; intro w1 hrow1 hg1)
  have hb1 : Below w.heap.size w w1 := Below.grown (Below.refl _ _) hg1 (Nat.le_refl _) (fun j hj => by cases hj)
  have hC0 : CL w w1 N w.heap.size N fun _ => 0 := by
    refine ⟨?_, hb1⟩
    rw [show (Value.int .i64 0).cells = #[.int .i64 0] from rfl, toList_madeCells_one, Nat.mul_one] at hrow1
    rw [tbl_zero]
    exact hrow1
  obtain ⟨g, hg⟩ : ∃ g, w.heap.size = g := ⟨_, rfl⟩
  rw [hg] at hC0
  have h0' := cell_later hb1 h0
  have h1' := cell_later hb1 h1
  have HP : Hid (w.cell? ⟨p, 0, none⟩ = some (.slice aT nT cT) ∧ w.cell? ⟨p, 1, none⟩ = some (.slice aB nB cB)) := ⟨h0, h1⟩
  have HG : Hid (w.heap.size = g) := hg
  rw [hg]
  clear hi hz0 hz1 hz2 hrow1 hg1 hb1 h0 h1 hg i0
  go_wp2_with fail
  go_loopw [16] (fun i wx => ∃ (k : Nat) (f : Nat → Int), k ≤ nT ∧ i = .int .i64 (k : Int) ∧ CL w wx N g N f ∧ Snd T B f ∧ ∀ j, j < k → (T.getD j (0, 0)).1 < 32768 → Low f (T.getD j (0, 0))) (fun i _ => nT - (intOf i).toNat)
  case atStart => exact ⟨0, _, by omega, rfl, hC0, Snd.zero, fun j hj => by omega⟩
  case round =>
    obtain ⟨k, f, hk, rfl, hC, hS, hL⟩ := hrel
    have HS : Hid (Snd T B f ∧ ∀ j, j < k → (T.getD j (0, 0)).1 < 32768 → Low f (T.getD j (0, 0))) := ⟨hS, hL⟩
    clear hS hL hC0 h0' h1'
    by_cases hkn : k < nT
    · obtain ⟨b, o, ha, c0, c1⟩ := (HRT.out.1.later hC.bel) k (by rw [HRT.out.2.1]; exact hkn)
      have hgk := HRT.out.2.2 (T.getD k (0, 0)) (by rw [List.getD_eq_getElem?_getD, List.getElem?_eq_getElem (by rw [HRT.out.2.1]; exact hkn)]; exact List.getElem_mem _)
      have HX : Hid (T.getD k (0, 0) ∈ T) := by show T.getD k (0, 0) ∈ T; rw [List.getD_eq_getElem?_getD, List.getElem?_eq_getElem (by rw [HRT.out.2.1]; exact hkn)]; exact List.getElem_mem _
      obtain ⟨x, hx⟩ : ∃ x, T.getD k (0, 0) = x := ⟨_, rfl⟩
      have HXE : Hid (T.getD k (0, 0) = x) := hx
      rw [hx] at c0 c1 hgk
      rw [hx] at HX
      clear hx
      subst ha
      obtain ⟨xb, xs⟩ := x
      dsimp only at c0 c1 hgk
      obtain ⟨q1, q2, q3, q4⟩ := hgk
      obtain ⟨i, rfl⟩ : ∃ i : Nat, xb = (i : Int) := ⟨xb.toNat, by omega⟩
      have HQ : Hid (Gd (i : Int) xs) := ⟨q1, q2, q3, q4⟩
      have HC : Hid (CL w wr N g N f) := hC
      have k1 : (0 : Int) ≤ (k : Int) := by omega
      have k2 : (k : Int) < (nT : Int) := by omega
      have hws : IntKind.i64.wrap (xs + 1) = xs + 1 := i64_fit _ (by omega) (by omega)
      have i1 : (0 : Int) ≤ (i : Int) := by omega
      clear q1 q2 q3 q4
      by_cases hb : i < N
      · have i2 : (i : Int) < (N : Int) := by omega
        have i3 : (i : Int) < 32768 := by have := HN.out; omega
        obtain ⟨t0, t1⟩ := hC.cell hb
        obtain ⟨v, hv⟩ : ∃ v, f i = v := ⟨_, rfl⟩
        have HE : Hid (f i = v) := hv
        rw [hv] at t0
        have e0 := (World.cell?_alloc_some wr ⟨g, i, none⟩ (.cells #[.int .i64 (i : Int), .int .i64 xs] 33) (by rw [t0]; rfl)).trans t0
        clear hC hv
        by_cases hv0 : v = 0
        · subst hv0
          go_wp2_with fail
          go_quiet (fail)
          clear i3
          have hC2 := (HC.out.alloc (.cells #[.int .i64 (i : Int), .int .i64 xs] 33)).drawn nq
          obtain ⟨x0, x1⟩ := boxed2 wr (.int .i64 (i : Int)) (.int .i64 xs) 33 nq
          generalize (wr.alloc (.cells #[.int .i64 (i : Int), .int .i64 xs] 33)).drewN nq = W1 at *
          obtain ⟨P, hP⟩ : ∃ P, wr.heap.size = P := ⟨_, rfl⟩
          rw [hP] at x0 x1 ⊢
          clear t0 t1 e0 c0 c1 hP
          obtain ⟨t0, t1⟩ := hC2.cell hb
          have HC2 : Hid (CL w W1 N g N f) := hC2
          clear hC2
          go_wp2_with fail
          go_roundw
          case rel =>
            exact ⟨k + 1, upT f i (xs + 1), by omega, by go_num, HC2.out.put i (xs + 1), told_put HX.out HQ.out (by have := HN.out; omega) HS.out HXE.out (.inl HE.out)⟩
          case measure => simp [intOf]; omega
        · have d1 : (v == 0) = false := by simpa using hv0
          by_cases hlt : xs + 1 < v
          · have d2 : decide (xs + 1 < v) = true := decide_eq_true hlt
            go_wp2_with fail
            go_quiet (fail)
            clear i3
            have hC2 := (HC.out.alloc (.cells #[.int .i64 (i : Int), .int .i64 xs] 33)).drawn nq
            obtain ⟨x0, x1⟩ := boxed2 wr (.int .i64 (i : Int)) (.int .i64 xs) 33 nq
            generalize (wr.alloc (.cells #[.int .i64 (i : Int), .int .i64 xs] 33)).drewN nq = W1 at *
            obtain ⟨P, hP⟩ : ∃ P, wr.heap.size = P := ⟨_, rfl⟩
            rw [hP] at x0 x1 ⊢
            clear t0 t1 e0 c0 c1 hP
            obtain ⟨t0, t1⟩ := hC2.cell hb
            have HC2 : Hid (CL w W1 N g N f) := hC2
            clear hC2
            go_wp2_with fail
            go_roundw
            case rel =>
              exact ⟨k + 1, upT f i (xs + 1), by omega, by go_num, HC2.out.put i (xs + 1), told_put HX.out HQ.out (by have := HN.out; omega) HS.out HXE.out (.inr (by rw [HE.out]; exact hlt))⟩
            case measure => simp [intOf]; omega
          · have d2 : decide (xs + 1 < v) = false := decide_eq_false hlt
            go_wp2_with fail
            go_quiet (fail)
            clear i3
            have hC2 := (HC.out.alloc (.cells #[.int .i64 (i : Int), .int .i64 xs] 33)).drawn nq
            obtain ⟨x0, x1⟩ := boxed2 wr (.int .i64 (i : Int)) (.int .i64 xs) 33 nq
            generalize (wr.alloc (.cells #[.int .i64 (i : Int), .int .i64 xs] 33)).drewN nq = W1 at *
            obtain ⟨P, hP⟩ : ∃ P, wr.heap.size = P := ⟨_, rfl⟩
            rw [hP] at x0 x1 ⊢
            clear t0 t1 e0 c0 c1 hP
            obtain ⟨t0, t1⟩ := hC2.cell hb
            have HC2 : Hid (CL w W1 N g N f) := hC2
            clear hC2
            go_wp2_with fail
            go_roundw
            case rel =>
              exact ⟨k + 1, f, by omega, by go_num, HC2.out, HS.out.1, told_keep HS.out HXE.out (fun _ => by have h := HE.out; show ¬ f i = 0 ∧ f i - 1 ≤ xs; omega)⟩
            case measure => simp [intOf]; omega
      · have d0 : decide ((i : Int) < 32768) = false := decide_eq_false (by have := HN.out; omega)
        clear hC
        go_wp2_with fail
        go_quiet (fail)
        go_wp2_with fail
        go_roundw
        case rel =>
          exact ⟨k + 1, f, by omega, by go_num, (HC.out.alloc _).drawn _, HS.out.1, told_keep HS.out HXE.out (fun h => by exfalso; have h' : (i : Int) < 32768 := h; have := HN.out; omega)⟩
        case measure => simp [intOf]; omega
    · obtain rfl : k = nT := by omega
      have hlo : ∀ x ∈ T, x.1 < 32768 → Low f x := by
        intro x hx hb
        obtain ⟨j, hj, e⟩ := List.mem_iff_getElem.1 hx
        have e' : T.getD j (0, 0) = x := by rw [List.getD_eq_getElem?_getD, List.getElem?_eq_getElem hj]; exact e
        have h := HS.out.2 j (by rw [← HRT.out.2.1]; exact hj)
        rw [e'] at h
        exact h hb
      have HS1 : Hid (Snd T B f ∧ ∀ x ∈ T, x.1 < 32768 → Low f x) := ⟨HS.out.1, hlo⟩
      have HC : Hid (CL w wr N g N f) := hC
      have dkn : decide ((k : Int) < (k : Int)) = false := by simp
      clear HS hlo hC hk hkn
      go_wp2_with fail
      go_loopw [6] (fun m wx => ∃ (mb : Bool) (f : Nat → Int), m = .bool mb ∧ CL w wx N g N f ∧ Snd T B f ∧ (∀ x ∈ T, x.1 < 32768 → Low f x) ∧ (mb = false → Stb B f nB)) (fun m wx => 2 * mW wx g N + bitV m)
      case atStart => exact ⟨true, f, rfl, HC.out, HS1.out.1, HS1.out.2, fun h => by cases h⟩
      case round =>
        obtain ⟨mb, f, rfl, hC, hS, hL, hSt⟩ := hrel
        clear HC HS1
        have HS : Hid (Snd T B f ∧ (∀ x ∈ T, x.1 < 32768 → Low f x) ∧ (mb = false → Stb B f nB)) := ⟨hS, hL, hSt⟩
        have HC : Hid (CL w wr N g N f) := hC
        have h1 := cell_later hC.bel HP.out.2
        clear hS hL hSt hC
        cases mb with
        | false =>
          clear h1
          go_wp2_with fail
          go_ret
          refine ⟨g, 32768, by rw [HN.out]; rfl, f, HN.out ▸ HC.out, Tab.of HS.out.1 (fun x hx _ => HS.out.2.1 x hx) fun u l hm _ _ => stb_all (by rw [HRB.out.2.1]; exact HS.out.2.2 (by first | rfl | trivial)) u l hm⟩
        | true =>
          go_wp2_with fail
          go_loopw [6, 56] (fun m i wx => ∃ (k : Nat) (h : Nat → Int) (mb : Bool), k ≤ nB ∧ m = .bool mb ∧ i = .int .i64 (k : Int) ∧ CL w wx N g N h ∧ Snd T B h ∧ (∀ x ∈ T, x.1 < 32768 → Low h x) ∧ (mb = true → mz h N < mz f N) ∧ (mb = false → h = f ∧ Stb B h k)) (fun _ i _ => nB - (intOf i).toNat)
          case atStart => exact ⟨0, f, false, by omega, rfl, rfl, HC.out, HS.out.1, HS.out.2.1, by simp, fun _ => ⟨rfl, fun j hj => by omega⟩⟩
          case round =>
            obtain ⟨k, h, mb, hk, rfl, rfl, hC, hS, hL, hmt, hmf⟩ := hrel
            have HF := HC
            clear HC HS
            have HC : Hid (CL w wr N g N h) := hC
            have HS : Hid (Snd T B h ∧ (∀ x ∈ T, x.1 < 32768 → Low h x) ∧ (mb = true → mz h N < mz f N) ∧ (mb = false → h = f ∧ Stb B h k)) := ⟨hS, hL, hmt, hmf⟩
            clear hS hL hmt hmf
            by_cases hkn : k < nB
            · have hkB : k < B.length := by rw [HRB.out.2.1]; exact hkn
              obtain ⟨b, o, ha, c0, c1, c2, c3⟩ := (HRB.out.1.later hC.bel) k hkB
              have hgb := HRB.out.2.2 _ (getD_of (z := ((0, 0), (0, 0))) hkB)
              have HX : Hid (B.getD k ((0, 0), (0, 0)) ∈ B) := getD_of hkB
              obtain ⟨x, hx⟩ : ∃ x, B.getD k ((0, 0), (0, 0)) = x := ⟨_, rfl⟩
              have HXE : Hid (B.getD k ((0, 0), (0, 0)) = x) := hx
              rw [hx] at c0 c1 c2 c3 hgb HX
              clear hx
              subst ha
              obtain ⟨u, lb, ls⟩ := x
              dsimp only at c0 c1 c2 c3 hgb
              obtain ⟨q1, q2, q3, q4⟩ := hgb.2
              obtain ⟨i, rfl⟩ : ∃ i : Nat, lb = (i : Int) := ⟨lb.toNat, by omega⟩
              have HG2 : Hid (Gd u.1 u.2 ∧ Gd (i : Int) ls) := hgb
              have hws : IntKind.i64.wrap (ls + 1) = ls + 1 := i64_fit _ (by omega) (by omega)
              have i1 : (0 : Int) ≤ (i : Int) := by omega
              clear q1 q2 q3 q4
              have k1 : (0 : Int) ≤ (k : Int) := by omega
              have k2 : (k : Int) < (nB : Int) := by omega
              have hS0 := BS.new hC u ((i : Int), ls)
              clear hgb hC
              go_upto_region 15 with (fail)
              have hin := fun W (hW : CL w W N g N h) => in_any g N h u.1 u.2 W (hW.rd HN.out) HS.out.1.bd
              rw [← HN.out] at hin
              obtain ⟨P, hP⟩ : ∃ P, wr.heap.size = P := ⟨_, rfl⟩
              rw [hP] at hS0 ⊢
              obtain ⟨Q, hQ⟩ : ∃ Q, P + 1 = Q := ⟨_, rfl⟩
              rw [hQ] at hS0 ⊢
              generalize (wr.alloc (.cells #[.int .i64 u.1, .int .i64 u.2, .int .i64 (i : Int), .int .i64 ls] 35)).alloc (.cells #[.int .i64 (i : Int), .int .i64 ls] 33) = W0 at *
              clear c0 c1 c2 c3 hP hQ
              cases hbu : inT h (u.1, u.2) with
              | false =>
                rw [hbu] at hin
                have HBU : Hid (inT h u = false) := hbu
                clear hbu
                refine wp_region_held_drew (S := fun W => BS w W N g N h P Q u ((i : Int), ls)) (by kernel_rfl) hS0 (fun hHeld => ?_)
                refine opT 0 62 (.move (.tmp 3)) (.slice (some ⟨g, 0, none⟩) N N) rfl ?_
                go_frame
                refine opT 1 63 (.fieldAddr 35 (.tmp 8) 0) (.pointer (some ⟨P, 0, none⟩)) rfl ?_
                go_frame
                refine opR 2 64 (.load 33 (.tmp 63)) (.agg #[.int .i64 u.1, .int .i64 u.2]) rfl (fun w hSw => by obtain ⟨_, c0, c1, _, _⟩ := hSw; go_simp) ?_
                go_frame
                refine wpAnyH_ready (rs := [3]) (by kernel_rfl) (by simp) ?_
                refine AllReadyH.cons rfl (fun K hK => ?_) AllReadyH.nil
                go_simp
                refine (hin _ hHeld.cl).mono ?_
                rintro r w3 ⟨rfl, hb3⟩
                go_wp2_with fail
                refine hK.out _ _ (hHeld.later hb3) (fun hHeld2 => ?_)
                clear hHeld hb3
                clear hK K
                try go_frame
                refine opT 4 66 (.move (.tmp 65)) (.bool false) rfl ?_
                go_frame
                refine opN 5 67 (.fieldAddr 33 (.tmp 9) 0) (some (4, true)) rfl ?_
                go_frame
                refine opN 6 68 (.load 3 (.tmp 67)) (some (4, true)) rfl ?_
                go_frame
                refine opN 7 69 (.binOp .lss 3 (.tmp 68) (.const (.int .i64 32768)) 3) (some (4, true)) rfl ?_
                go_frame
                refine opT 8 70 (.pick (.tmp 66) (.tmp 69) (.const (.bool false))) (.bool false) rfl ?_
                go_frame
                refine opT 9 71 (.move (.tmp 70)) (.bool false) rfl ?_
                go_frame
                refine opN 10 72 (.move (.tmp 3)) (some (9, true)) rfl ?_
                go_frame
                refine opN 11 73 (.fieldAddr 33 (.tmp 9) 0) (some (9, true)) rfl ?_
                go_frame
                refine opN 12 74 (.load 3 (.tmp 73)) (some (9, true)) rfl ?_
                go_frame
                refine opN 13 75 (.indexAddr 42 (.tmp 72) (.tmp 74)) (some (9, true)) rfl ?_
                go_frame
                refine opN 14 76 (.load 3 (.tmp 75)) (some (9, true)) rfl ?_
                go_frame
                refine opN 15 77 (.binOp .eql 3 (.tmp 76) (.const (.int .i64 0)) 3) (some (9, true)) rfl ?_
                go_frame
                refine opN 16 78 (.move (.tmp 77)) (some (9, true)) rfl ?_
                go_frame
                refine opN 17 79 (.fieldAddr 33 (.tmp 9) 1) (some (16, false)) rfl ?_
                go_frame
                refine opN 18 80 (.load 3 (.tmp 79)) (some (16, false)) rfl ?_
                go_frame
                refine opN 19 81 (.binOp .add 3 (.tmp 80) (.const (.int .i64 1)) 3) (some (16, false)) rfl ?_
                go_frame
                refine opN 20 82 (.move (.tmp 3)) (some (16, false)) rfl ?_
                go_frame
                refine opN 21 83 (.fieldAddr 33 (.tmp 9) 0) (some (16, false)) rfl ?_
                go_frame
                refine opN 22 84 (.load 3 (.tmp 83)) (some (16, false)) rfl ?_
                go_frame
                refine opN 23 85 (.indexAddr 42 (.tmp 82) (.tmp 84)) (some (16, false)) rfl ?_
                go_frame
                refine opN 24 86 (.load 3 (.tmp 85)) (some (16, false)) rfl ?_
                go_frame
                refine opN 25 87 (.binOp .lss 3 (.tmp 81) (.tmp 86) 3) (some (16, false)) rfl ?_
                go_frame
                refine opN 26 88 (.pick (.tmp 78) (.const (.bool true)) (.tmp 87)) (some (9, true)) rfl ?_
                go_frame
                refine opT 27 89 (.pick (.tmp 71) (.tmp 88) (.const (.bool false))) (.bool false) rfl ?_
                go_frame
                refine wpAnyH_done (by kernel_rfl) ?_ _
                go_wp2_with fail
                go_roundw
                case rel => exact ⟨k + 1, h, mb, by omega, rfl, by go_num, hHeld2.cl, HS.out.1, HS.out.2.1, HS.out.2.2.1, fun hm => ⟨(HS.out.2.2.2 hm).1, stb_keep (HS.out.2.2.2 hm).2 HXE.out fun h' => absurd h' (by rw [HBU.out]; decide)⟩⟩
                case measure => simp [intOf]; omega
              | true =>
                rw [hbu] at hin
                have HBU : Hid (inT h u = true) := hbu
                clear hbu
                by_cases hb : i < N
                · have i2 : (i : Int) < (N : Int) := by omega
                  have d7 : decide ((i : Int) < 32768) = true := decide_eq_true (by have := HN.out; omega)
                  obtain ⟨v, hv⟩ : ∃ v, h i = v := ⟨_, rfl⟩
                  have HV : Hid (h i = v) := hv
                  clear hv
                  by_cases hv0 : v = 0
                  · subst hv0
                    refine wp_region_held_drew (S := fun W => BS w W N g N h P Q u ((i : Int), ls)) (by kernel_rfl) hS0 (fun hHeld => ?_)
                    refine opT 0 62 (.move (.tmp 3)) (.slice (some ⟨g, 0, none⟩) N N) rfl ?_
                    go_frame
                    refine opT 1 63 (.fieldAddr 35 (.tmp 8) 0) (.pointer (some ⟨P, 0, none⟩)) rfl ?_
                    go_frame
                    refine opR 2 64 (.load 33 (.tmp 63)) (.agg #[.int .i64 u.1, .int .i64 u.2]) rfl (fun w hSw => by obtain ⟨_, c0, c1, _, _⟩ := hSw; go_simp) ?_
                    go_frame
                    refine wpAnyH_ready (rs := [3]) (by kernel_rfl) (by simp) ?_
                    refine AllReadyH.cons rfl (fun K hK => ?_) AllReadyH.nil
                    go_simp
                    refine (hin _ hHeld.cl).mono ?_
                    rintro r w3 ⟨rfl, hb3⟩
                    go_wp2_with fail
                    refine hK.out _ _ (hHeld.later hb3) (fun hHeld2 => ?_)
                    clear hHeld hb3
                    clear hK K
                    try go_frame
                    refine opT 4 66 (.move (.tmp 65)) (.bool true) rfl ?_
                    go_frame
                    refine opTg 5 67 (.fieldAddr 33 (.tmp 9) 0) (some (4, true)) (.pointer (some ⟨Q, 0, none⟩)) rfl ?_
                    go_frame
                    refine opRg 6 68 (.load 3 (.tmp 67)) (some (4, true)) (.int .i64 (i : Int)) rfl (fun w hSw => by obtain ⟨_, _, _, c0, c1⟩ := hSw; go_simp) ?_
                    go_frame
                    refine opTg 7 69 (.binOp .lss 3 (.tmp 68) (.const (.int .i64 32768)) 3) (some (4, true)) (.bool true) rfl ?_
                    go_frame
                    refine opT 8 70 (.pick (.tmp 66) (.tmp 69) (.const (.bool false))) (.bool true) rfl ?_
                    go_frame
                    refine opT 9 71 (.move (.tmp 70)) (.bool true) rfl ?_
                    go_frame
                    refine opTg 10 72 (.move (.tmp 3)) (some (9, true)) (.slice (some ⟨g, 0, none⟩) N N) rfl ?_
                    go_frame
                    refine opTg 11 73 (.fieldAddr 33 (.tmp 9) 0) (some (9, true)) (.pointer (some ⟨Q, 0, none⟩)) rfl ?_
                    go_frame
                    refine opRg 12 74 (.load 3 (.tmp 73)) (some (9, true)) (.int .i64 (i : Int)) rfl (fun w hSw => by obtain ⟨_, _, _, c0, c1⟩ := hSw; go_simp) ?_
                    go_frame
                    refine opTg 13 75 (.indexAddr 42 (.tmp 72) (.tmp 74)) (some (9, true)) (.pointer (some ⟨g, i, none⟩)) rfl ?_
                    go_frame
                    refine opRg 14 76 (.load 3 (.tmp 75)) (some (9, true)) (.int .i64 0) rfl (fun w hSw => by have c0 := (hSw.cl.cell hb).1; clear hSw; rw [HV.out] at c0; go_simp) ?_
                    go_frame
                    refine opTg 15 77 (.binOp .eql 3 (.tmp 76) (.const (.int .i64 0)) 3) (some (9, true)) (.bool true) rfl ?_
                    go_frame
                    refine opTg 16 78 (.move (.tmp 77)) (some (9, true)) (.bool true) rfl ?_
                    go_frame
                    refine opN 17 79 (.fieldAddr 33 (.tmp 9) 1) (some (16, false)) rfl ?_
                    go_frame
                    refine opN 18 80 (.load 3 (.tmp 79)) (some (16, false)) rfl ?_
                    go_frame
                    refine opN 19 81 (.binOp .add 3 (.tmp 80) (.const (.int .i64 1)) 3) (some (16, false)) rfl ?_
                    go_frame
                    refine opN 20 82 (.move (.tmp 3)) (some (16, false)) rfl ?_
                    go_frame
                    refine opN 21 83 (.fieldAddr 33 (.tmp 9) 0) (some (16, false)) rfl ?_
                    go_frame
                    refine opN 22 84 (.load 3 (.tmp 83)) (some (16, false)) rfl ?_
                    go_frame
                    refine opN 23 85 (.indexAddr 42 (.tmp 82) (.tmp 84)) (some (16, false)) rfl ?_
                    go_frame
                    refine opN 24 86 (.load 3 (.tmp 85)) (some (16, false)) rfl ?_
                    go_frame
                    refine opN 25 87 (.binOp .lss 3 (.tmp 81) (.tmp 86) 3) (some (16, false)) rfl ?_
                    go_frame
                    refine opTg 26 88 (.pick (.tmp 78) (.const (.bool true)) (.tmp 87)) (some (9, true)) (.bool true) rfl ?_
                    go_frame
                    refine opT 27 89 (.pick (.tmp 71) (.tmp 88) (.const (.bool false))) (.bool true) rfl ?_
                    go_frame
                    refine wpAnyH_done (by kernel_rfl) ?_ _
                    have HB3 : Hid (BS w w3 N g N h P Q u ((i : Int), ls)) := hHeld2
                    obtain ⟨hc2, _, _, x0, x1⟩ := hHeld2
                    obtain ⟨t0, t1⟩ := hc2.cell hb
                    clear hc2
                    go_wp2_with fail
                    go_roundw
                    case rel => exact ⟨k + 1, upT h i (ls + 1), true, by omega, rfl, by go_num, HB3.out.cl.put i (ls + 1), Snd.put (k := ((i : Int), ls)) HS.out.1 (had_box HX.out HG2.out.2 (snd_in HS.out.1 HBU.out)) (by have := HN.out; show (i : Int) < 32768; omega), fun x hx hb' => Low.put (l := ((i : Int), ls)) (HS.out.2.1 x hx hb') (.inl HV.out) HG2.out.2.2.2.1, fun _ => up_less HS.out.2.2.1 (fun hm => (HS.out.2.2.2 hm).1) (.inl HV.out) HG2.out.2 hb, by simp⟩
                    case measure => simp [intOf]; omega
                  · have d1 : (v == 0) = false := by simpa using hv0
                    by_cases hlt : ls + 1 < v
                    · have d2 : decide (ls + 1 < v) = true := decide_eq_true hlt
                      refine wp_region_held_drew (S := fun W => BS w W N g N h P Q u ((i : Int), ls)) (by kernel_rfl) hS0 (fun hHeld => ?_)
                      refine opT 0 62 (.move (.tmp 3)) (.slice (some ⟨g, 0, none⟩) N N) rfl ?_
                      go_frame
                      refine opT 1 63 (.fieldAddr 35 (.tmp 8) 0) (.pointer (some ⟨P, 0, none⟩)) rfl ?_
                      go_frame
                      refine opR 2 64 (.load 33 (.tmp 63)) (.agg #[.int .i64 u.1, .int .i64 u.2]) rfl (fun w hSw => by obtain ⟨_, c0, c1, _, _⟩ := hSw; go_simp) ?_
                      go_frame
                      refine wpAnyH_ready (rs := [3]) (by kernel_rfl) (by simp) ?_
                      refine AllReadyH.cons rfl (fun K hK => ?_) AllReadyH.nil
                      go_simp
                      refine (hin _ hHeld.cl).mono ?_
                      rintro r w3 ⟨rfl, hb3⟩
                      go_wp2_with fail
                      refine hK.out _ _ (hHeld.later hb3) (fun hHeld2 => ?_)
                      clear hHeld hb3
                      clear hK K
                      try go_frame
                      refine opT 4 66 (.move (.tmp 65)) (.bool true) rfl ?_
                      go_frame
                      refine opTg 5 67 (.fieldAddr 33 (.tmp 9) 0) (some (4, true)) (.pointer (some ⟨Q, 0, none⟩)) rfl ?_
                      go_frame
                      refine opRg 6 68 (.load 3 (.tmp 67)) (some (4, true)) (.int .i64 (i : Int)) rfl (fun w hSw => by obtain ⟨_, _, _, c0, c1⟩ := hSw; go_simp) ?_
                      go_frame
                      refine opTg 7 69 (.binOp .lss 3 (.tmp 68) (.const (.int .i64 32768)) 3) (some (4, true)) (.bool true) rfl ?_
                      go_frame
                      refine opT 8 70 (.pick (.tmp 66) (.tmp 69) (.const (.bool false))) (.bool true) rfl ?_
                      go_frame
                      refine opT 9 71 (.move (.tmp 70)) (.bool true) rfl ?_
                      go_frame
                      refine opTg 10 72 (.move (.tmp 3)) (some (9, true)) (.slice (some ⟨g, 0, none⟩) N N) rfl ?_
                      go_frame
                      refine opTg 11 73 (.fieldAddr 33 (.tmp 9) 0) (some (9, true)) (.pointer (some ⟨Q, 0, none⟩)) rfl ?_
                      go_frame
                      refine opRg 12 74 (.load 3 (.tmp 73)) (some (9, true)) (.int .i64 (i : Int)) rfl (fun w hSw => by obtain ⟨_, _, _, c0, c1⟩ := hSw; go_simp) ?_
                      go_frame
                      refine opTg 13 75 (.indexAddr 42 (.tmp 72) (.tmp 74)) (some (9, true)) (.pointer (some ⟨g, i, none⟩)) rfl ?_
                      go_frame
                      refine opRg 14 76 (.load 3 (.tmp 75)) (some (9, true)) (.int .i64 v) rfl (fun w hSw => by have c0 := (hSw.cl.cell hb).1; clear hSw; rw [HV.out] at c0; go_simp) ?_
                      go_frame
                      refine opTg 15 77 (.binOp .eql 3 (.tmp 76) (.const (.int .i64 0)) 3) (some (9, true)) (.bool false) rfl ?_
                      go_frame
                      refine opTg 16 78 (.move (.tmp 77)) (some (9, true)) (.bool false) rfl ?_
                      go_frame
                      refine opTg 17 79 (.fieldAddr 33 (.tmp 9) 1) (some (16, false)) (.pointer (some ⟨Q, 1, none⟩)) rfl ?_
                      go_frame
                      refine opRg 18 80 (.load 3 (.tmp 79)) (some (16, false)) (.int .i64 ls) rfl (fun w hSw => by obtain ⟨_, _, _, c0, c1⟩ := hSw; go_simp) ?_
                      go_frame
                      refine opTg 19 81 (.binOp .add 3 (.tmp 80) (.const (.int .i64 1)) 3) (some (16, false)) (.int .i64 (ls + 1)) rfl ?_
                      go_frame
                      refine opTg 20 82 (.move (.tmp 3)) (some (16, false)) (.slice (some ⟨g, 0, none⟩) N N) rfl ?_
                      go_frame
                      refine opTg 21 83 (.fieldAddr 33 (.tmp 9) 0) (some (16, false)) (.pointer (some ⟨Q, 0, none⟩)) rfl ?_
                      go_frame
                      refine opRg 22 84 (.load 3 (.tmp 83)) (some (16, false)) (.int .i64 (i : Int)) rfl (fun w hSw => by obtain ⟨_, _, _, c0, c1⟩ := hSw; go_simp) ?_
                      go_frame
                      refine opTg 23 85 (.indexAddr 42 (.tmp 82) (.tmp 84)) (some (16, false)) (.pointer (some ⟨g, i, none⟩)) rfl ?_
                      go_frame
                      refine opRg 24 86 (.load 3 (.tmp 85)) (some (16, false)) (.int .i64 v) rfl (fun w hSw => by have c0 := (hSw.cl.cell hb).1; clear hSw; rw [HV.out] at c0; go_simp) ?_
                      go_frame
                      refine opTg 25 87 (.binOp .lss 3 (.tmp 81) (.tmp 86) 3) (some (16, false)) (.bool true) rfl ?_
                      go_frame
                      refine opTg 26 88 (.pick (.tmp 78) (.const (.bool true)) (.tmp 87)) (some (9, true)) (.bool true) rfl ?_
                      go_frame
                      refine opT 27 89 (.pick (.tmp 71) (.tmp 88) (.const (.bool false))) (.bool true) rfl ?_
                      go_frame
                      refine wpAnyH_done (by kernel_rfl) ?_ _
                      have HB3 : Hid (BS w w3 N g N h P Q u ((i : Int), ls)) := hHeld2
                      obtain ⟨hc2, _, _, x0, x1⟩ := hHeld2
                      obtain ⟨t0, t1⟩ := hc2.cell hb
                      clear hc2
                      go_wp2_with fail
                      go_roundw
                      case rel => exact ⟨k + 1, upT h i (ls + 1), true, by omega, rfl, by go_num, HB3.out.cl.put i (ls + 1), Snd.put (k := ((i : Int), ls)) HS.out.1 (had_box HX.out HG2.out.2 (snd_in HS.out.1 HBU.out)) (by have := HN.out; show (i : Int) < 32768; omega), fun x hx hb' => Low.put (l := ((i : Int), ls)) (HS.out.2.1 x hx hb') (.inr (by have := HV.out; show ls + 1 < h i; omega)) HG2.out.2.2.2.1, fun _ => up_less HS.out.2.2.1 (fun hm => (HS.out.2.2.2 hm).1) (.inr (by have := HV.out; show ls + 1 < h i; omega)) HG2.out.2 hb, by simp⟩
                      case measure => simp [intOf]; omega
                    · have d2 : decide (ls + 1 < v) = false := decide_eq_false hlt
                      refine wp_region_held_drew (S := fun W => BS w W N g N h P Q u ((i : Int), ls)) (by kernel_rfl) hS0 (fun hHeld => ?_)
                      refine opT 0 62 (.move (.tmp 3)) (.slice (some ⟨g, 0, none⟩) N N) rfl ?_
                      go_frame
                      refine opT 1 63 (.fieldAddr 35 (.tmp 8) 0) (.pointer (some ⟨P, 0, none⟩)) rfl ?_
                      go_frame
                      refine opR 2 64 (.load 33 (.tmp 63)) (.agg #[.int .i64 u.1, .int .i64 u.2]) rfl (fun w hSw => by obtain ⟨_, c0, c1, _, _⟩ := hSw; go_simp) ?_
                      go_frame
                      refine wpAnyH_ready (rs := [3]) (by kernel_rfl) (by simp) ?_
                      refine AllReadyH.cons rfl (fun K hK => ?_) AllReadyH.nil
                      go_simp
                      refine (hin _ hHeld.cl).mono ?_
                      rintro r w3 ⟨rfl, hb3⟩
                      go_wp2_with fail
                      refine hK.out _ _ (hHeld.later hb3) (fun hHeld2 => ?_)
                      clear hHeld hb3
                      clear hK K
                      try go_frame
                      refine opT 4 66 (.move (.tmp 65)) (.bool true) rfl ?_
                      go_frame
                      refine opTg 5 67 (.fieldAddr 33 (.tmp 9) 0) (some (4, true)) (.pointer (some ⟨Q, 0, none⟩)) rfl ?_
                      go_frame
                      refine opRg 6 68 (.load 3 (.tmp 67)) (some (4, true)) (.int .i64 (i : Int)) rfl (fun w hSw => by obtain ⟨_, _, _, c0, c1⟩ := hSw; go_simp) ?_
                      go_frame
                      refine opTg 7 69 (.binOp .lss 3 (.tmp 68) (.const (.int .i64 32768)) 3) (some (4, true)) (.bool true) rfl ?_
                      go_frame
                      refine opT 8 70 (.pick (.tmp 66) (.tmp 69) (.const (.bool false))) (.bool true) rfl ?_
                      go_frame
                      refine opT 9 71 (.move (.tmp 70)) (.bool true) rfl ?_
                      go_frame
                      refine opTg 10 72 (.move (.tmp 3)) (some (9, true)) (.slice (some ⟨g, 0, none⟩) N N) rfl ?_
                      go_frame
                      refine opTg 11 73 (.fieldAddr 33 (.tmp 9) 0) (some (9, true)) (.pointer (some ⟨Q, 0, none⟩)) rfl ?_
                      go_frame
                      refine opRg 12 74 (.load 3 (.tmp 73)) (some (9, true)) (.int .i64 (i : Int)) rfl (fun w hSw => by obtain ⟨_, _, _, c0, c1⟩ := hSw; go_simp) ?_
                      go_frame
                      refine opTg 13 75 (.indexAddr 42 (.tmp 72) (.tmp 74)) (some (9, true)) (.pointer (some ⟨g, i, none⟩)) rfl ?_
                      go_frame
                      refine opRg 14 76 (.load 3 (.tmp 75)) (some (9, true)) (.int .i64 v) rfl (fun w hSw => by have c0 := (hSw.cl.cell hb).1; clear hSw; rw [HV.out] at c0; go_simp) ?_
                      go_frame
                      refine opTg 15 77 (.binOp .eql 3 (.tmp 76) (.const (.int .i64 0)) 3) (some (9, true)) (.bool false) rfl ?_
                      go_frame
                      refine opTg 16 78 (.move (.tmp 77)) (some (9, true)) (.bool false) rfl ?_
                      go_frame
                      refine opTg 17 79 (.fieldAddr 33 (.tmp 9) 1) (some (16, false)) (.pointer (some ⟨Q, 1, none⟩)) rfl ?_
                      go_frame
                      refine opRg 18 80 (.load 3 (.tmp 79)) (some (16, false)) (.int .i64 ls) rfl (fun w hSw => by obtain ⟨_, _, _, c0, c1⟩ := hSw; go_simp) ?_
                      go_frame
                      refine opTg 19 81 (.binOp .add 3 (.tmp 80) (.const (.int .i64 1)) 3) (some (16, false)) (.int .i64 (ls + 1)) rfl ?_
                      go_frame
                      refine opTg 20 82 (.move (.tmp 3)) (some (16, false)) (.slice (some ⟨g, 0, none⟩) N N) rfl ?_
                      go_frame
                      refine opTg 21 83 (.fieldAddr 33 (.tmp 9) 0) (some (16, false)) (.pointer (some ⟨Q, 0, none⟩)) rfl ?_
                      go_frame
                      refine opRg 22 84 (.load 3 (.tmp 83)) (some (16, false)) (.int .i64 (i : Int)) rfl (fun w hSw => by obtain ⟨_, _, _, c0, c1⟩ := hSw; go_simp) ?_
                      go_frame
                      refine opTg 23 85 (.indexAddr 42 (.tmp 82) (.tmp 84)) (some (16, false)) (.pointer (some ⟨g, i, none⟩)) rfl ?_
                      go_frame
                      refine opRg 24 86 (.load 3 (.tmp 85)) (some (16, false)) (.int .i64 v) rfl (fun w hSw => by have c0 := (hSw.cl.cell hb).1; clear hSw; rw [HV.out] at c0; go_simp) ?_
                      go_frame
                      refine opTg 25 87 (.binOp .lss 3 (.tmp 81) (.tmp 86) 3) (some (16, false)) (.bool false) rfl ?_
                      go_frame
                      refine opTg 26 88 (.pick (.tmp 78) (.const (.bool true)) (.tmp 87)) (some (9, true)) (.bool false) rfl ?_
                      go_frame
                      refine opT 27 89 (.pick (.tmp 71) (.tmp 88) (.const (.bool false))) (.bool false) rfl ?_
                      go_frame
                      refine wpAnyH_done (by kernel_rfl) ?_ _
                      go_wp2_with fail
                      go_roundw
                      case rel => exact ⟨k + 1, h, mb, by omega, rfl, by go_num, hHeld2.cl, HS.out.1, HS.out.2.1, HS.out.2.2.1, fun hm => ⟨(HS.out.2.2.2 hm).1, stb_keep (HS.out.2.2.2 hm).2 HXE.out fun _ h' => (by have := HV.out; show ¬ h i = 0 ∧ h i - 1 ≤ ls; omega)⟩⟩
                      case measure => simp [intOf]; omega
                · have d7 : decide ((i : Int) < 32768) = false := decide_eq_false (by have := HN.out; omega)
                  refine wp_region_held_drew (S := fun W => BS w W N g N h P Q u ((i : Int), ls)) (by kernel_rfl) hS0 (fun hHeld => ?_)
                  refine opT 0 62 (.move (.tmp 3)) (.slice (some ⟨g, 0, none⟩) N N) rfl ?_
                  go_frame
                  refine opT 1 63 (.fieldAddr 35 (.tmp 8) 0) (.pointer (some ⟨P, 0, none⟩)) rfl ?_
                  go_frame
                  refine opR 2 64 (.load 33 (.tmp 63)) (.agg #[.int .i64 u.1, .int .i64 u.2]) rfl (fun w hSw => by obtain ⟨_, c0, c1, _, _⟩ := hSw; go_simp) ?_
                  go_frame
                  refine wpAnyH_ready (rs := [3]) (by kernel_rfl) (by simp) ?_
                  refine AllReadyH.cons rfl (fun K hK => ?_) AllReadyH.nil
                  go_simp
                  refine (hin _ hHeld.cl).mono ?_
                  rintro r w3 ⟨rfl, hb3⟩
                  go_wp2_with fail
                  refine hK.out _ _ (hHeld.later hb3) (fun hHeld2 => ?_)
                  clear hHeld hb3
                  clear hK K
                  try go_frame
                  refine opT 4 66 (.move (.tmp 65)) (.bool true) rfl ?_
                  go_frame
                  refine opTg 5 67 (.fieldAddr 33 (.tmp 9) 0) (some (4, true)) (.pointer (some ⟨Q, 0, none⟩)) rfl ?_
                  go_frame
                  refine opRg 6 68 (.load 3 (.tmp 67)) (some (4, true)) (.int .i64 (i : Int)) rfl (fun w hSw => by obtain ⟨_, _, _, c0, c1⟩ := hSw; go_simp) ?_
                  go_frame
                  refine opTg 7 69 (.binOp .lss 3 (.tmp 68) (.const (.int .i64 32768)) 3) (some (4, true)) (.bool false) rfl ?_
                  go_frame
                  refine opT 8 70 (.pick (.tmp 66) (.tmp 69) (.const (.bool false))) (.bool false) rfl ?_
                  go_frame
                  refine opT 9 71 (.move (.tmp 70)) (.bool false) rfl ?_
                  go_frame
                  refine opN 10 72 (.move (.tmp 3)) (some (9, true)) rfl ?_
                  go_frame
                  refine opN 11 73 (.fieldAddr 33 (.tmp 9) 0) (some (9, true)) rfl ?_
                  go_frame
                  refine opN 12 74 (.load 3 (.tmp 73)) (some (9, true)) rfl ?_
                  go_frame
                  refine opN 13 75 (.indexAddr 42 (.tmp 72) (.tmp 74)) (some (9, true)) rfl ?_
                  go_frame
                  refine opN 14 76 (.load 3 (.tmp 75)) (some (9, true)) rfl ?_
                  go_frame
                  refine opN 15 77 (.binOp .eql 3 (.tmp 76) (.const (.int .i64 0)) 3) (some (9, true)) rfl ?_
                  go_frame
                  refine opN 16 78 (.move (.tmp 77)) (some (9, true)) rfl ?_
                  go_frame
                  refine opN 17 79 (.fieldAddr 33 (.tmp 9) 1) (some (16, false)) rfl ?_
                  go_frame
                  refine opN 18 80 (.load 3 (.tmp 79)) (some (16, false)) rfl ?_
                  go_frame
                  refine opN 19 81 (.binOp .add 3 (.tmp 80) (.const (.int .i64 1)) 3) (some (16, false)) rfl ?_
                  go_frame
                  refine opN 20 82 (.move (.tmp 3)) (some (16, false)) rfl ?_
                  go_frame
                  refine opN 21 83 (.fieldAddr 33 (.tmp 9) 0) (some (16, false)) rfl ?_
                  go_frame
                  refine opN 22 84 (.load 3 (.tmp 83)) (some (16, false)) rfl ?_
                  go_frame
                  refine opN 23 85 (.indexAddr 42 (.tmp 82) (.tmp 84)) (some (16, false)) rfl ?_
                  go_frame
                  refine opN 24 86 (.load 3 (.tmp 85)) (some (16, false)) rfl ?_
                  go_frame
                  refine opN 25 87 (.binOp .lss 3 (.tmp 81) (.tmp 86) 3) (some (16, false)) rfl ?_
                  go_frame
                  refine opN 26 88 (.pick (.tmp 78) (.const (.bool true)) (.tmp 87)) (some (9, true)) rfl ?_
                  go_frame
                  refine opT 27 89 (.pick (.tmp 71) (.tmp 88) (.const (.bool false))) (.bool false) rfl ?_
                  go_frame
                  refine wpAnyH_done (by kernel_rfl) ?_ _
                  go_wp2_with fail
                  go_roundw
                  case rel => exact ⟨k + 1, h, mb, by omega, rfl, by go_num, hHeld2.cl, HS.out.1, HS.out.2.1, HS.out.2.2.1, fun hm => ⟨(HS.out.2.2.2 hm).1, stb_keep (HS.out.2.2.2 hm).2 HXE.out fun _ h' => absurd h' (by have := HN.out; show ¬ (i : Int) < 32768; omega)⟩⟩
                  case measure => simp [intOf]; omega
            · obtain rfl : k = nB := by omega
              have dkn2 : decide ((k : Int) < (k : Int)) = false := by simp
              clear hk hkn hC
              go_wp2_with fail
              go_roundw
              case rel => exact ⟨mb, h, rfl, HC.out, HS.out.1, HS.out.2.1, fun hm => (HS.out.2.2.2 hm).2⟩
              case measure =>
                rw [HC.out.mw, HF.out.mw]
                cases mb with
                | false => rw [(HS.out.2.2.2 rfl).1]; simp [bitV]
                | true => have := HS.out.2.2.1 rfl; simp [bitV]; omega
end Go.Proofs.Ytompgoaogomoaaa.Kn
