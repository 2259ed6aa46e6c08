/- Plain functions on numbers: what the functions of package shape answer, and small facts on them. -/
import Derived.WalkKit
import Derived.ProofKit
import Derived.Laws.Bits64
namespace Go.Proofs.Ytdkfifnhmfbagaa.Sh
open Go.RowKit

theorem ret_int {k : IntKind} {a b : Int} (h : a = b) : Ending.returned (.int k a) = .returned (.int k b) := by rw [h]
theorem ret_bool {a b : Bool} (h : a = b) : Ending.returned (.bool a) = .returned (.bool b) := by rw [h]

def par (v : Int) : Int := if 1 ≤ v ∧ v < 85 then (v - 1) / 4 else -1
def chd (v i : Int) : Int := if 0 ≤ v ∧ v < 21 ∧ 0 ≤ i ∧ i < 4 then 4 * v + 1 + i else -1
def whc (v : Int) : Int := if 1 ≤ v ∧ v < 85 then (v - 1) % 4 else -1
def lef (s : Int) : Int := if 0 ≤ s ∧ s < 64 then 21 + s else -1
def slo (v : Int) : Int := if 21 ≤ v ∧ v < 85 then v - 21 else -1
def lev (v : Int) : Int := if v < 0 then -1 else if v < 1 then 0 else if v < 5 then 1 else if v < 21 then 2 else if v < 85 then 3 else -1
def fst (k : Int) : Int := if k < 1 then 0 else if k < 2 then 1 else if k < 3 then 5 else if k < 4 then 21 else 85
def nodeB (v : Int) : Bool := decide (0 ≤ v ∧ v < 85)

theorem par_yes {v : Int} (h0 : 1 ≤ v) (h1 : v < 85) : par v = (v - 1) / 4 := by simp [par, h0, h1]
theorem par_no {v : Int} (h : v < 1 ∨ 85 ≤ v) : par v = -1 := by simp [par]; omega
theorem chd_yes {v i : Int} (h0 : 0 ≤ v) (h1 : v < 21) (h2 : 0 ≤ i) (h3 : i < 4) : chd v i = 4 * v + 1 + i := by simp [chd, h0, h1, h2, h3]
theorem chd_no {v i : Int} (h : v < 0 ∨ 21 ≤ v ∨ i < 0 ∨ 4 ≤ i) : chd v i = -1 := by simp [chd]; omega
theorem whc_yes {v : Int} (h0 : 1 ≤ v) (h1 : v < 85) : whc v = (v - 1) % 4 := by simp [whc, h0, h1]
theorem whc_no {v : Int} (h : v < 1 ∨ 85 ≤ v) : whc v = -1 := by simp [whc]; omega
theorem lef_yes {v : Int} (h0 : 0 ≤ v) (h1 : v < 64) : lef v = 21 + v := by simp [lef, h0, h1]
theorem lef_no {v : Int} (h : v < 0 ∨ 64 ≤ v) : lef v = -1 := by simp [lef]; omega
theorem slo_yes {v : Int} (h0 : 21 ≤ v) (h1 : v < 85) : slo v = v - 21 := by simp [slo, h0, h1]
theorem slo_no {v : Int} (h : v < 21 ∨ 85 ≤ v) : slo v = -1 := by simp [slo]; omega
theorem nodeB_yes {v : Int} (h0 : 0 ≤ v) (h1 : v < 85) : nodeB v = true := by simp [nodeB, h0, h1]
theorem nodeB_no {v : Int} (h : v < 0 ∨ 85 ≤ v) : nodeB v = false := by simp [nodeB]; omega

theorem and3_64 : ∀ n : Fin 85, bits .and .i64 (n.val : Int) 3 = (n.val : Int) % 4 := by decide +kernel
theorem and3 (x : Int) (h0 : 0 ≤ x) (h1 : x < 85) : bits .and .i64 x 3 = x % 4 := by
  have h := and3_64 ⟨x.toNat, by omega⟩
  rwa [Int.toNat_of_nonneg h0] at h

theorem and3u_64 : ∀ n : Fin 64, bits .and .u8 (n.val : Int) 3 = (n.val : Int) % 4 := by decide +kernel
theorem and3u (x : Int) (h0 : 0 ≤ x) (h1 : x < 64) : bits .and .u8 x 3 = x % 4 := by
  have h := and3u_64 ⟨x.toNat, by omega⟩
  rwa [Int.toNat_of_nonneg h0] at h
theorem or4_64 : ∀ n : Fin 16, ∀ m : Fin 4, bits .or .i64 ((n.val : Int) * 4) (m.val : Int) = (n.val : Int) * 4 + (m.val : Int) := by decide +kernel
theorem or4 (x y : Int) (h0 : 0 ≤ x) (h1 : x < 16) (h2 : 0 ≤ y) (h3 : y < 4) : bits .or .i64 (x * 4) y = x * 4 + y := by
  have h := or4_64 ⟨x.toNat, by omega⟩ ⟨y.toNat, by omega⟩
  simpa [Int.toNat_of_nonneg h0, Int.toNat_of_nonneg h2] using h
def und (a b c : Int) : Int := if 0 ≤ a ∧ a < 4 ∧ 0 ≤ b ∧ b < 4 ∧ 0 ≤ c ∧ c < 4 then (a * 4 + b) * 4 + c else -1
theorem und_yes {a b c : Int} (h0 : 0 ≤ a) (h1 : a < 4) (h2 : 0 ≤ b) (h3 : b < 4) (h4 : 0 ≤ c) (h5 : c < 4) : und a b c = (a * 4 + b) * 4 + c := by simp [und, h0, h1, h2, h3, h4, h5]
theorem und_no {a b c : Int} (h : 4 ≤ a ∨ 4 ≤ b ∨ 4 ≤ c) : und a b c = -1 := by simp [und]; omega

theorem mod_of (n m : Int) (hm0 : 0 < m) (hm1 : m ≤ 1000) : ∃ v, wrap64 ((IntKind.u64.wrap n).tmod m) = v ∧ 0 ≤ v ∧ v < m := by
  refine ⟨_, rfl, ?_⟩
  have h0 : 0 ≤ IntKind.u64.wrap n := by simp only [IntKind.wrap_u64]; omega
  rw [Int.tmod_eq_emod_of_nonneg h0]
  have h1 : 0 ≤ IntKind.u64.wrap n % m := Int.emod_nonneg _ (by omega)
  have h2 : IntKind.u64.wrap n % m < m := Int.emod_lt_of_pos _ hm0
  have h3 : wrap64 (IntKind.u64.wrap n % m) = IntKind.u64.wrap n % m := by unfold wrap64; omega
  rw [h3]
  exact ⟨h1, h2⟩

theorem lev_par {v : Int} (h0 : 1 ≤ v) (h1 : v < 85) : lev (par v) = lev v - 1 := by
  rw [par_yes h0 h1]; simp only [lev]; repeat' split
  all_goals omega
theorem chd_par {v : Int} (h0 : 1 ≤ v) (h1 : v < 85) : chd (par v) (whc v) = v := by
  rw [par_yes h0 h1, whc_yes h0 h1, chd_yes (by omega) (by omega) (by omega) (by omega)]; omega
theorem par_chd {v i : Int} (h0 : 0 ≤ v) (h1 : v < 21) (h2 : 0 ≤ i) (h3 : i < 4) : par (chd v i) = v := by
  rw [chd_yes h0 h1 h2 h3, par_yes (by omega) (by omega)]; omega
theorem whc_chd {v i : Int} (h0 : 0 ≤ v) (h1 : v < 21) (h2 : 0 ≤ i) (h3 : i < 4) : whc (chd v i) = i := by
  rw [chd_yes h0 h1 h2 h3, whc_yes (by omega) (by omega)]; omega
theorem lef_slo {v : Int} (h0 : 21 ≤ v) (h1 : v < 85) : lef (slo v) = v := by
  rw [slo_yes h0 h1, lef_yes (by omega) (by omega)]; omega
theorem lev_leaf {v : Int} (h0 : 21 ≤ v) (h1 : v < 85) : lev v = 3 := by
  simp only [lev]; repeat' split
  all_goals omega
theorem lev_bd {v : Int} (h0 : 0 ≤ v) (h1 : v < 85) : 0 ≤ lev v ∧ lev v ≤ 3 := by
  simp only [lev]; repeat' split
  all_goals omega
end Go.Proofs.Ytdkfifnhmfbagaa.Sh
