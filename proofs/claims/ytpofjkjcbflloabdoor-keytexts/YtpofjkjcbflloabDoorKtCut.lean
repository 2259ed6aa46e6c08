/- strings.Cut at one byte ('.'): of a text of any length. -/
import Derived.Test.YtpofjkjcbflloabDoorKtA
import Derived.Laws.Rows
import Derived.BigQuiet
namespace Go.Proofs.YtpofjkjcbflloabDoor
open Go.RowKit Go.Lib Go.Sort
set_option linter.unusedVariables false

set_option maxHeartbeats 2000000 in
set_option maxRecDepth 100000 in
theorem index_dot (s sep : ByteArray) (w : World) (hp : sep = ⟨#[46]⟩) : Calls Tryd.prog 29 #[.string s, .string sep] w fun e w' => e = .returned (.int .i64 (Lib.index s.data.toList sep.data.toList)) ∧ w' = w := by
  have h1 : sep.size = 1 := by rw [hp]; rfl
  have cB : ∀ c w0, Calls Tryd.prog 41 #[.string s, .int .u8 c] w0 fun e w' => e = .returned (.int .i64 (Lib.indexByte s.data.toList c.toNat.toUInt8)) ∧ w' = w0 := fun c w0 => Any.stringslite_IndexByte { Tryd.lays145 with } s c w0
  have i1 : ((sep.size : Nat) : Int) = 1 := by omega
  have i2 : (((sep.size : Nat) : Int) == 0) = false := by rw [i1]; rfl
  have i3 : (((sep.size : Nat) : Int) == 1) = true := by rw [i1]; rfl
  by_cases h : (sep.toList == s.toList) = true
  · have e : Lib.index s.data.toList sep.data.toList = 0 := Lib.zero s sep (Or.inr h)
    rw [e]
    clear hp e i1
    go_enter Tryd.func29, Tryd.ntmps29
    go_wp2_with fail
    go_ret
    exact ⟨rfl, rfl⟩
  · have h' : (sep.toList == s.toList) = false := by simpa using h
    have e : Lib.index s.data.toList sep.data.toList = _ := Lib.one s sep h1
    rw [e]
    clear hp e i1
    go_enter Tryd.func29, Tryd.ntmps29
    go_wp2_with fail
    refine (cB _ _).mono ?_
    rintro e w1 ⟨rfl, rfl⟩
    go_wp2_with fail
    go_ret
    exact ⟨by first | rfl | simp, rfl⟩
set_option maxHeartbeats 2000000 in
set_option maxRecDepth 100000 in
theorem cut_dot0 (s sep : ByteArray) (w : World) (hp : sep = ⟨#[46]⟩) (hs : s.size ≤ 140737488351232) : Calls Tryd.prog 21 #[.string s, .string sep] w fun e w' => e = .returned (.tuple #[.string ⟨(cut s.data.toList sep.data.toList).1.toArray⟩, .string ⟨(cut s.data.toList sep.data.toList).2.1.toArray⟩, .bool (cut s.data.toList sep.data.toList).2.2]) ∧ Below w.heap.size w w' := by
  have cI := fun w0 => index_dot s sep w0 hp
  have h1 : sep.size = 1 := by rw [hp]; rfl
  rcases Lib.indexB_cases s sep with hix | ⟨i, hix, hroom⟩
  · obtain ⟨e1, e2, e3⟩ := Lib.cutB_miss s sep hix
    rw [e1, e2, e3]
    have hi : Lib.index s.data.toList sep.data.toList = -1 := hix
    rw [hi] at cI
    clear hp e1 e2 e3 hi hix
    go_enter Tryd.func21, Tryd.ntmps21
    go_wp2_with fail
    refine (cI _).mono ?_
    rintro e w1 ⟨rfl, rfl⟩
    go_wp2_with fail
    go_ret3
    exact ⟨rfl, Below.refl _ _⟩
  · obtain ⟨e1, e2, e3⟩ := Lib.cutB_hit s sep i hix
    rw [e1, e2, e3, h1]
    have hi : Lib.index s.data.toList sep.data.toList = i := hix
    rw [hi] at cI
    have c1 : (0 : Int) ≤ ↑i := by omega
    have c2 : (↑i : Int) ≤ ↑s.size := by omega
    have c3 : (0 : Int) ≤ ↑i + ↑sep.size := by omega
    have c4 : (↑i + ↑sep.size : Int) ≤ ↑s.size := by omega
    clear hp e1 e2 e3 hi hix
    go_enter Tryd.func21, Tryd.ntmps21
    go_wp2_with fail
    refine (cI _).mono ?_
    rintro e w1 ⟨rfl, rfl⟩
    go_wp2_with fail
    go_quiet (fail)
    go_wp2_with fail
    go_ret3
    exact ⟨rfl, ⟨rfl, rfl, rfl, Nat.le_refl _, fun _ _ => rfl⟩⟩
set_option maxHeartbeats 2000000 in
set_option maxRecDepth 100000 in
theorem cut_dot (s : ByteArray) (w : World) (hs : s.size ≤ 140737488351232) : Calls Tryd.prog 17 #[.string s, .string ⟨#[46]⟩] w fun e w' => e = .returned (.tuple #[.string ⟨(cut s.data.toList [46]).1.toArray⟩, .string ⟨(cut s.data.toList [46]).2.1.toArray⟩, .bool (cut s.data.toList [46]).2.2]) ∧ Below w.heap.size w w' := by
  have cC := fun w0 => cut_dot0 s ⟨#[46]⟩ w0 rfl hs
  have e46 : (⟨#[46]⟩ : ByteArray).data.toList = [46] := rfl
  rw [e46] at cC
  generalize (⟨(cut s.data.toList [46]).1.toArray⟩ : ByteArray) = X at cC ⊢
  generalize (⟨(cut s.data.toList [46]).2.1.toArray⟩ : ByteArray) = Y at cC ⊢
  generalize (cut s.data.toList [46]).2.2 = fl at cC ⊢
  clear hs e46
  go_enter Tryd.func17, Tryd.ntmps17
  go_wp2_with fail
  refine (cC _).mono ?_
  rintro e w1 ⟨rfl, hb⟩
  go_wp2_with fail
  go_ret3
  exact ⟨rfl, hb⟩
end Go.Proofs.YtpofjkjcbflloabDoor
