/- Contracts of Bytes, Unbytes, Hex: sum's and the document's. -/
import Derived.Test.YtohgflimdoebiaaSumA
import Derived.Laws.IdiomStrings
namespace Go.Proofs.Ytohgflimdoebiaa.Sm
open Go.RowKit Go.Maps
set_option linter.unusedVariables false

theorem ret_str {a b : ByteArray} (h : a = b) : Ending.returned (.string a) = .returned (.string b) := by rw [h]
def tx (l : List Nat) : ByteArray := ⟨(l.map UInt8.ofNat).toArray⟩
theorem tx_size (l : List Nat) : (tx l).size = l.length := by simp [tx, ByteArray.size]
theorem conv_at (w : World) (g cap n : Nat) (l : List Nat) (hn : l.length = n) (hc : ∀ j (h : j < l.length), w.cell? ⟨g, j, none⟩ = some (.int .u8 ((l[j] : Nat) : Int))) (hlt : ∀ x ∈ l, x < 256) : (convert 120 9 (.slice (some ⟨g, 0, none⟩) n cap)).run Try.prog w = .ok (.string (tx l)) w := by
  subst hn
  have hc := run_convert_bytes_back (P := Try.prog) w 120 9 5 ⟨g, 0, none⟩ cap (l.map UInt8.ofNat) Try.underlying120 Try.underlying5 Try.underlying9 (fun j hj => by
      simp at hj
      have e : ((⟨g, 0, none⟩ : Addr).add j) = ⟨g, j, none⟩ := by unfold Addr.add; split <;> simp_all
      rw [e, hc j hj]
      have hlt := hlt l[j] (List.getElem_mem hj)
      simp [UInt8.toNat_ofNat']; omega)
  rw [List.length_map] at hc
  exact hc
def b4 (n : Nat) : List Nat := [n / 16777216, n / 65536 % 256, n / 256 % 256, n % 256]
theorem b4_lt (n : Nat) (h : n < 4294967296) : ∀ x ∈ b4 n, x < 256 := by intro x hx; simp [b4] at hx; omega
theorem conv_b4 (n : Nat) (h : n < 4294967296) (w : World) (T : TypeId) : (convert 120 9 (.slice (some ⟨w.heap.size, 0, none⟩) 4 4)).run Try.prog (w.alloc (.cells #[.int .u8 ((n : Int) / 16777216), .int .u8 ((n : Int) / 65536 % 256), .int .u8 ((n : Int) / 256 % 256), .int .u8 ((n : Int) % 256)] T)) = .ok (.string (tx (b4 n))) (w.alloc (.cells #[.int .u8 ((n : Int) / 16777216), .int .u8 ((n : Int) / 65536 % 256), .int .u8 ((n : Int) / 256 % 256), .int .u8 ((n : Int) % 256)] T)) := by
  refine conv_at _ w.heap.size 4 4 (b4 n) rfl ?_ (b4_lt n h)
  intro j hj
  have hj4 : j < 4 := hj
  have : j = 0 ∨ j = 1 ∨ j = 2 ∨ j = 3 := by omega
  rcases this with rfl | rfl | rfl | rfl <;> simp [go_sem, b4]
set_option maxRecDepth 100000 in
set_option maxHeartbeats 400000 in
theorem bytes_any (n : Nat) (w : World) (hn : n < 4294967296) : Calls Try.prog 65 #[.int .u32 (n : Int)] w fun e w' => e = .returned (.string (tx (b4 n))) ∧ Below w.heap.size w w' := by
  go_enter Try.func65, Try.ntmps65
  go_wp2_with fail
  refine wp_loop_rounds 5 ?_
  rw [rounds_succ]; go_wp2_with fail
  rw [rounds_succ]; go_wp2_with fail
  rw [rounds_succ]; go_wp2_with fail
  rw [rounds_succ]; go_wp2_with fail
  rw [rounds_succ]; go_wp2_with fail
  rw [conv_b4 n hn w _]
  go_wp2_with fail
  go_ret
  exact ⟨rfl, (Below.refl _ _).alloc (Nat.le_refl _) _⟩
set_option maxRecDepth 100000 in
set_option maxHeartbeats 400000 in
theorem rBytes_any (n : Nat) (w : World) (hn : n < 4294967296) : Calls Try.prog 68 #[.int .u32 (n : Int)] w fun e w' => e = .returned (.string (tx (b4 n))) ∧ Below w.heap.size w w' := by
  go_enter Try.func68, Try.ntmps68
  go_wp2_with fail
  rw [conv_b4 n hn w _]
  go_wp2_with fail
  go_ret
  exact ⟨rfl, (Below.refl _ _).alloc (Nat.le_refl _) _⟩
def dg (d : Nat) : Nat := if d < 10 then 48 + d else 87 + d
theorem dg_lt (d : Nat) (h : d < 16) : dg d < 256 := by unfold dg; split <;> omega
theorem dg_inj {a b : Nat} (ha : a < 16) (hb : b < 16) (h : dg a = dg b) : a = b := by unfold dg at h; split at h <;> split at h <;> omega
theorem dgs : ∀ (d : Nat) (h : d < 16), (({ data := #[48, 49, 50, 51, 52, 53, 54, 55, 56, 57, 97, 98, 99, 100, 101, 102] } : ByteArray)[d]'h).toNat = dg d := by
  have : ∀ d : Fin 16, (({ data := #[48, 49, 50, 51, 52, 53, 54, 55, 56, 57, 97, 98, 99, 100, 101, 102] } : ByteArray)[d.1]'d.2).toNat = dg d.1 := by decide
  exact fun d h => this ⟨d, h⟩
def hx (n : Nat) : List Nat := [dg (n / 268435456), dg (n / 16777216 % 16), dg (n / 1048576 % 16), dg (n / 65536 % 16), dg (n / 4096 % 16), dg (n / 256 % 16), dg (n / 16 % 16), dg (n % 16)]
theorem hx_lt (n : Nat) (h : n < 4294967296) : ∀ x ∈ hx n, x < 256 := by
  intro x hx'
  simp only [hx, List.mem_cons, List.not_mem_nil, or_false] at hx'
  rcases hx' with rfl | rfl | rfl | rfl | rfl | rfl | rfl | rfl <;> exact dg_lt _ (by omega)
theorem and15 (z d : Nat) (hz : z < 4294967296) (hd : z % 16 = d) : bits .and .u32 (z : Int) 15 = (d : Int) := by
  have := u32_and_nat z 15 hz (by decide)
  rw [nat_mask4, hd] at this
  exact this
theorem conv_hx (c7 c6 c5 c4 c3 c2 c1 c0 : Nat) (w : World) (T : TypeId) (h : ∀ x ∈ [c7, c6, c5, c4, c3, c2, c1, c0], x < 256) : (convert 120 9 (.slice (some ⟨w.heap.size, 0, none⟩) 8 8)).run Try.prog (w.alloc (.cells #[.int .u8 ((c7 : Nat) : Int), .int .u8 ((c6 : Nat) : Int), .int .u8 ((c5 : Nat) : Int), .int .u8 ((c4 : Nat) : Int), .int .u8 ((c3 : Nat) : Int), .int .u8 ((c2 : Nat) : Int), .int .u8 ((c1 : Nat) : Int), .int .u8 ((c0 : Nat) : Int)] T)) = .ok (.string (tx [c7, c6, c5, c4, c3, c2, c1, c0])) (w.alloc (.cells #[.int .u8 ((c7 : Nat) : Int), .int .u8 ((c6 : Nat) : Int), .int .u8 ((c5 : Nat) : Int), .int .u8 ((c4 : Nat) : Int), .int .u8 ((c3 : Nat) : Int), .int .u8 ((c2 : Nat) : Int), .int .u8 ((c1 : Nat) : Int), .int .u8 ((c0 : Nat) : Int)] T)) := by
  refine conv_at _ w.heap.size 8 8 [c7, c6, c5, c4, c3, c2, c1, c0] rfl ?_ h
  intro j hj
  have hj4 : j < 8 := hj
  have : j = 0 ∨ j = 1 ∨ j = 2 ∨ j = 3 ∨ j = 4 ∨ j = 5 ∨ j = 6 ∨ j = 7 := by omega
  rcases this with rfl | rfl | rfl | rfl | rfl | rfl | rfl | rfl <;> simp [go_sem]
theorem tx_cons (a : Nat) (l : List Nat) : tx [a] ++ tx l = tx (a :: l) := by
  unfold tx
  apply ByteArray.ext
  simp [ByteArray.data_append]
theorem dg_cut (d : Nat) (h : d < 16) : ({ data := #[48, 49, 50, 51, 52, 53, 54, 55, 56, 57, 97, 98, 99, 100, 101, 102] } : ByteArray).extract d (d + 1) = tx [dg d] := by
  have : ∀ d : Fin 16, (({ data := #[48, 49, 50, 51, 52, 53, 54, 55, 56, 57, 97, 98, 99, 100, 101, 102] } : ByteArray).extract d.1 (d.1 + 1)).data = (tx [dg d.1]).data := by decide
  exact ByteArray.ext (this ⟨d, h⟩)
def hk (n : Nat) : Nat → List Nat
  | 0 => []
  | k + 1 => dg (n / 16 ^ k % 16) :: hk n k
theorem hk_eight (n : Nat) (h : n < 4294967296) : hk n 8 = hx n := by
  have e : n / 16 ^ 7 % 16 = n / 268435456 := by omega
  simp only [hk, hx, e]
  simp
theorem hk_length (n k : Nat) : (hk n k).length = k := by induction k with
  | zero => rfl
  | succ k ih => simp [hk, ih]
end Go.Proofs.Ytohgflimdoebiaa.Sm
