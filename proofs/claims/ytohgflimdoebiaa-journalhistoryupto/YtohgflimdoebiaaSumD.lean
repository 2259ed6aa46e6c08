/- Rows of bytes in memory, and their conversion to a text. -/
import Derived.Test.YtohgflimdoebiaaSumC
import Derived.Deep.RegionHeld3
import Derived.Deep.AppendLies
import Derived.Laws.OwnMore
namespace Go.Proofs.Ytohgflimdoebiaa.Sm
open Go.RowKit Go.Maps
set_option linter.unusedVariables false

def u8b (l : List UInt8) : List Value := l.map fun b : UInt8 => Value.int .u8 (b.toNat : Int)
@[simp] theorem u8b_length (l : List UInt8) : (u8b l).length = l.length := by simp [u8b]
theorem u8b_append (a b : List UInt8) : u8b (a ++ b) = u8b a ++ u8b b := by simp [u8b]
theorem info8 : (Try.prog.info? 5).map (fun i => (i.zero, i.size, i.bytes)) = some (some (.int .u8 0), 1, 1) := by kernel_rfl
theorem conv_u8 {w : World} {B : Nat} {v : Value} {l : List UInt8} {n : Nat} (hn : l.length = n) (h : w.ownsRow B 5 1 v n (u8b l)) : (convert 120 9 v).run Try.prog w = .ok (.string ⟨l.toArray⟩) w := by
  subst hn
  rcases h.2 with ⟨h0, hn⟩ | ⟨r, cap, cur, hv, _⟩
  · subst h0
    have hp : l = [] := List.length_eq_zero_iff.1 hn
    subst hp
    rw [run_convert_bytes_string w 120 9 5 none 0 0 Try.underlying120 Try.underlying5 Try.underlying9 ]
    rfl
  · subst hv
    exact run_convert_bytes_back (P := Try.prog) w 120 9 5 ⟨r, 0, none⟩ cap l Try.underlying120 Try.underlying5 Try.underlying9 (fun j hj => by
      have e : ((⟨r, 0, none⟩ : Addr).add j) = ⟨r, j, none⟩ := by unfold Addr.add; split <;> simp_all
      rw [e, h.cellAt j (by omega)]
      simp [u8b, hj])
end Go.Proofs.Ytohgflimdoebiaa.Sm
