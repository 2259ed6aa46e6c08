/- Lengths of what a step answers. -/
import Derived.Test.YtpimbpfefhkojabGreatDoorPlJ4
import Derived.Test.YtpimbpfefhkojabGreatDoorPlJ1
namespace Go.Proofs.YtpimbpfefhkojabGreatDoor
set_option linter.unusedVariables false
set_option linter.unusedSimpArgs false

theorem pnL_len (t : Tr) (L J : List Int) : (pnL t L J).length ≤ 64 := by
  unfold pnL
  split
  · rename_i h; rw [Rs.evl_length]; exact (plE_stp h).fit.lenL
  · simp
theorem jns_len (t : Tr) (L J : List Int) : (jns t L J).length = J.length := by unfold jns; rw [Rs.adl_length]
theorem pnJ_len (t : Tr) (L J : List Int) : (pnJ t L J).length ≤ 64 := by
  unfold pnJ
  split
  · rename_i h; rw [jns_len]; exact (plE_stp h).fit.lenJ
  · simp
theorem pnI_len (t : Tr) (L J : List Int) : (pnI t L J).length ≤ 12 * ((pnL t L J).length + (pnJ t L J).length) := by
  unfold pnI pnL pnJ
  split
  · exact its_len _ _ _
  · simp
theorem pnI_short (t : Tr) (L J : List Int) : (pnI t L J).length ≤ 4096 := by
  have h1 := pnI_len t L J
  have h2 := pnL_len t L J
  have h3 := pnJ_len t L J
  omega
end Go.Proofs.YtpimbpfefhkojabGreatDoor
