/- The law's lives, by what is asked of the program's know; a list of calls, element by element. -/
import Derived.Test.YtompgoaogomoaaaKnL
namespace Go.Proofs.Ytompgoaogomoaaa.Kn
open Go.RowKit Go.Maps
open Rt (Gd gd gd_yes gd_no rGood_any)
set_option linter.unusedVariables false
set_option linter.unusedSimpArgs false

theorem no70 : ¬ Had [] [((6, 1), (7, 0))] (7, 0) := fun h => by
  have := had_least (P := fun k : K2 => 32768 ≤ k.1) (fun k _ h => h) (fun k _ h => by cases h) (fun b s t h _ _ => h) (fun u l hm _ _ hu => by
    rw [List.mem_singleton] at hm
    injection hm with h1 h2
    subst h1
    exact absurd hu (by decide)) h
  exact absurd this (by decide)
theorem no80 : ¬ Had [(6, 0)] [((6, 1), (7, 0))] (8, 0) := fun h => by
  have := had_least (P := fun k : K2 => k.1 ≠ 8) (fun k _ h => by omega) (fun k _ h => by rw [List.mem_singleton] at h; subst h; decide) (fun b s t h _ _ => h) (fun u l hm _ _ hu => by
    rw [List.mem_singleton] at hm
    injection hm with h1 h2
    subst h2
    decide) h
  exact this rfl
theorem yes73 : Had [(6, 0)] [((6, 1), (7, 0))] (7, 3) := by
  have g : ∀ b s : Int, 1 ≤ b → b ≤ 65535 → 0 ≤ s → s ≤ 255 → Gd b s := fun b s h1 h2 h3 h4 => ⟨h1, h2, h3, h4⟩
  have h0 : Had [(6, 0)] [((6, 1), (7, 0))] (6, 0) := had_told (g 6 0 (by decide) (by decide) (by decide) (by decide)) (by simp)
  have h1 := had_on h0 (show (0 : Int) ≤ 1 by decide) (g 6 1 (by decide) (by decide) (by decide) (by decide))
  have h2 : Had [(6, 0)] [((6, 1), (7, 0))] (7, 0) := had_box (u := (6, 1)) (l := (7, 0)) (by simp) (g 7 0 (by decide) (by decide) (by decide) (by decide)) h1
  exact had_on h2 (show (0 : Int) ≤ 3 by decide) (g 7 3 (by decide) (by decide) (by decide) (by decide))
set_option maxRecDepth 100000 in
set_option maxHeartbeats 2000000 in
theorem lives_any {PAt : PPred} {Rm : RPred} (A : KApi PAt Rm) (w : World) : Calls Try.prog 9 #[] w fun e w' => e = .returned (.bool true) ∧ Below w.heap.size w w' := by
  have w67 : wI 6 ∧ wI 1 ∧ wI 7 ∧ wI 0 := by unfold wI; decide
  have w83 : wI 8 ∧ wI 3 := by unfold wI; decide
  have HR : Hid (Rm [] [] [] ∧ Rm [] [((6, 1), (7, 0))] [] ∧ Rm [(6, 0)] [((6, 1), (7, 0))] []) := ⟨A.rm [] (by simp), A.rm [(2, (((6, 1), (7, 0)), zO.2.2))] (by simp), A.rm [(1, (((6, 0), (7, 0)), zO.2.2)), (2, (((6, 1), (7, 0)), zO.2.2))] (by simp)⟩
  have hn := A.new w
  go_enter Try.func9, Try.ntmps9
  go_wp2_with fail
  refine hn.mono ?_
  rintro e w1 ⟨p, F, rfl, hP, hb⟩
  have h1 := A.see 6 1 7 0 hP hb.size HR.out.1 w67
  have HB1 : Hid (Below w.heap.size w w1 ∧ PAt w1 w.heap.size p [] [] [] F) := ⟨hb, hP⟩
  clear hn hP hb
  go_upto_region 5 with (go_at_call 31; refine h1.mono ?_; rintro r w2 ⟨rfl, hd⟩)
  clear h1
  have hb2 := PP.below A hd HB1.out.2 HB1.out.1.size
  obtain ⟨F2, hP2, -, -⟩ := hd
  have HB2 : Hid (Below w.heap.size w w2 ∧ PAt w2 w.heap.size p [] [((6, 1), (7, 0))] [] F2) := ⟨HB1.out.1.trans hb2, by simpa using hP2⟩
  have h2 := A.has (v := false) 7 0 HB2.out.2 HR.out.2.1 ⟨w67.2.2.1, w67.2.2.2⟩ (by simpa using no70)
  clear hb2 hP2
  go_upto_region 7 with (go_at_call 14; refine h2.mono ?_; rintro r w3 ⟨rfl, hb3⟩)
  clear h2
  have HB3 : Hid (Below w.heap.size w w3 ∧ PAt w3 w.heap.size p [] [((6, 1), (7, 0))] [] F2) := ⟨HB2.out.1.trans (hb3.mono HB2.out.1.size), A.later HB2.out.2 hb3⟩
  have h3 := A.learn 6 0 HB3.out.2 HB3.out.1.size HR.out.2.1 w67.1 w67.2.2.2
  clear hb3
  go_upto_region 8 with (go_at_call 23; refine h3.mono ?_; rintro r w4 ⟨rfl, hd⟩)
  clear h3
  have hb4 := PP.below A hd HB3.out.2 HB3.out.1.size
  obtain ⟨F4, hP4, -, -⟩ := hd
  have HB4 : Hid (Below w.heap.size w w4 ∧ PAt w4 w.heap.size p [(6, 0)] [((6, 1), (7, 0))] [] F4) := ⟨HB3.out.1.trans hb4, by simpa using hP4⟩
  have h4 := fun W (hW : Below w4.heap.size w4 W) => A.has (v := true) 7 3 (A.later HB4.out.2 hW) HR.out.2.2 ⟨w67.2.2.1, w83.2⟩ (by simpa using yes73)
  have h5 := fun W (hW : Below w4.heap.size w4 W) => A.has (v := false) 8 0 (A.later HB4.out.2 hW) HR.out.2.2 ⟨w83.1, w67.2.2.2⟩ (by simpa using no80)
  have h6 := fun W (hW : Below w4.heap.size w4 W) => A.copy (A.later HB4.out.2 hW) HR.out.2.2
  have h0 := Below.refl w4.heap.size w4
  clear hb4 hP4 w67 w83
  go_wp2_with (first
    | (go_at_call 14; refine (h5 _ hb5).mono ?_; rintro r w6 ⟨rfl, hb6⟩; have hb6 := Rt.Below.then hb5 hb6)
    | (go_at_call 14; refine (h4 _ h0).mono ?_; rintro r w5 ⟨rfl, hb5⟩)
    | (go_at_call 29; refine (h6 _ hb6).mono ?_; rintro r w7 ⟨p', F', rfl, -, hb7⟩; have hb7 := Rt.Below.then hb6 hb7))
  go_ret
  exact ⟨rfl, HB4.out.1.trans (hb7.mono HB4.out.1.size)⟩
theorem ops_cells {w : World} {a : Option Addr} {l : List Op9} (h : RdO w a l) {i : Nat} (hi : i < l.length) {o : Op9} (e : l.getD i zO = o) : ∃ b f, a = some ⟨b, f, none⟩ ∧
    w.cell? ⟨b, f + i * 9, none⟩ = some (.int .i64 o.1) ∧ w.cell? ⟨b, f + i * 9 + 1, none⟩ = some (.int .i64 o.2.1.1.1) ∧ w.cell? ⟨b, f + i * 9 + 2, none⟩ = some (.int .i64 o.2.1.1.2) ∧ w.cell? ⟨b, f + i * 9 + 3, none⟩ = some (.int .i64 o.2.1.2.1) ∧ w.cell? ⟨b, f + i * 9 + 4, none⟩ = some (.int .i64 o.2.1.2.2) ∧
    w.cell? ⟨b, f + i * 9 + 5, none⟩ = some (.int .i64 o.2.2.1) ∧ w.cell? ⟨b, f + i * 9 + 6, none⟩ = some (.int .i64 o.2.2.2.1.1) ∧ w.cell? ⟨b, f + i * 9 + 7, none⟩ = some (.int .i64 o.2.2.2.1.2) ∧ w.cell? ⟨b, f + i * 9 + 8, none⟩ = some (.string o.2.2.2.2) := by
  obtain ⟨b, f, ha, hc⟩ := h i hi
  rw [e] at hc
  exact ⟨b, f, ha, hc 0 _ rfl, hc 1 _ rfl, hc 2 _ rfl, hc 3 _ rfl, hc 4 _ rfl, hc 5 _ rfl, hc 6 _ rfl, hc 7 _ rfl, hc 8 _ rfl⟩
end Go.Proofs.Ytompgoaogomoaaa.Kn
