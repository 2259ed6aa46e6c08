/- BitDone, BitSpec, BitUnpack, BitBack, BitPack, joined. -/
import Derived.Test.YtohgflimdoebiaaBitTake
import Derived.BigQuiet
import Derived.Laws.IdiomStrings
import Derived.Test.YtohgflimdoebiaaBitPut
/- Contracts: Bytes of a writer, Done of a reader. -/
namespace Go.Proofs.Ytohgflimdoebiaa.Bt
open Go.RowKit Go.Maps
set_option linter.unusedVariables false
attribute [local go_sem ↓] Go.wp_at_zero Go.wp_at_succ

/- A text of these bytes. -/
def tx (l : List Nat) : ByteArray := ⟨(l.map UInt8.ofNat).toArray⟩
theorem tx_size (l : List Nat) : (tx l).size = l.length := by simp [tx, ByteArray.size]
theorem bys_tx (l : List Nat) (h : ∀ x ∈ l, x < 256) : bys (tx l) = l := by
  simp only [bys, tx, List.map_map]
  conv => rhs; rw [← List.map_id l]
  apply List.map_congr_left
  intro x hx
  have := h x hx
  simp [UInt8.toNat_ofNat']; omega
theorem tx_bys (s : ByteArray) : tx (bys s) = s := by
  cases s with
  | mk d => simp [bys, tx, List.map_map, Function.comp_def]
theorem bytes_any (B g : Nat) (l : List Bool) (x : Value) (w : World) (h : Wr B w g l x) : Calls Try.prog 76 #[.pointer (some ⟨g, 0, none⟩)] w fun e w' => e = .returned (.string (tx (pk l))) ∧ w' = w := by
  have h1 := h.c1
  rcases h.row.2 with ⟨h0, hn⟩ | ⟨r, cap, cur, hv, _⟩
  · subst h0
    have hp : pk l = [] := List.length_eq_zero_iff.1 hn
    rw [hp]
    have hc : (convert 120 9 (.slice none 0 0)).run Try.prog w = .ok (.string (tx [])) w := by
      rw [run_convert_bytes_string w 120 9 5 none 0 0 Try.underlying120 Try.underlying5 Try.underlying9 ]
      rfl
    go_enter Try.func76, Try.ntmps76
    go_wp2
    go_ret
    exact ⟨rfl, rfl⟩
  · subst hv
    have hr := h.row
    have hc := run_convert_bytes_back (P := Try.prog) w 120 9 5 ⟨r, 0, none⟩ cap ((pk l).map UInt8.ofNat) Try.underlying120 Try.underlying5 Try.underlying9 (fun j hj => by
      simp at hj
      have e : ((⟨r, 0, none⟩ : Addr).add j) = ⟨r, j, none⟩ := by unfold Addr.add; split <;> simp_all
      rw [e, hr.cellAt j (by omega)]
      have hlt := pk_lt l (pk l)[j] (List.getElem_mem hj)
      simp [u8s, hj, UInt8.toNat_ofNat']; omega)
    rw [List.length_map] at hc
    have HC : Hid _ := hc
    clear hc
    generalize hm : (pk l).length = m at h1 HC
    have hc := HC.out
    clear HC hm hr
    go_enter Try.func76, Try.ntmps76
    go_wp2
    go_ret
    exact ⟨rfl, rfl⟩
theorem done_any (g c : Nat) (s : ByteArray) (w : World) (h : Rr w g c s) (hs : s.size < 1099511627776) :
    Calls Try.prog 101 #[.pointer (some ⟨g, 0, none⟩)] w fun e w' => e = .returned (.bool (dn (tb (bys s)) c)) ∧ Below w.heap.size w w' := by
  have hl := left_any g c s w h hs
  have hle := h.le
  have hlen : (tb (bys s)).length = 8 * s.size := by rw [tb_length, bys_length]
  obtain ⟨m, hm⟩ : ∃ m, 8 * s.size - c = m := ⟨_, rfl⟩
  rw [hm] at hl
  by_cases h0 : m = 0
  · have hd : dn (tb (bys s)) c = true := by
      have : (tb (bys s)).drop c = [] := List.drop_eq_nil_of_le (by omega)
      simp only [dn, this, hlen]; simp [bv]; omega
    rw [hd]
    subst h0
    clear hm hle hlen hd
    go_enter Try.func101, Try.ntmps101
    go_wp2_with fail
    refine hl.mono ?_
    rintro e w2 ⟨rfl, rfl⟩
    go_wp2
    go_ret
    exact ⟨rfl, (Below.refl _ _).drew⟩
  · by_cases h8 : m < 8
    · obtain ⟨p, hp⟩ : ∃ p, c / 8 = p := ⟨_, rfl⟩
      have hps : p < s.size := by omega
      obtain ⟨y, hy⟩ : ∃ y, (s[p]'hps).toNat = y := ⟨_, rfl⟩
      have hy256 : y < 256 := by rw [← hy]; exact UInt8.toNat_lt _
      have hwy : IntKind.u64.wrap ((s[p]'hps).toNat : Int) = (y : Int) := by rw [hy, IntKind.wrap_u64]; omega
      obtain ⟨t, ht⟩ : ∃ t, y % 2 ^ m = t := ⟨_, rfl⟩
      have hand : bits .and .u64 (y : Int) ((2 ^ m - 1 : Nat) : Int) = (t : Int) := by rw [← ht]; exact and64 y m (by omega) (by omega)
      have hd : dn (tb (bys s)) c = decide ((t : Int) = 0) := by
        have e : bv ((tb (bys s)).drop c) = t := by
          have h1 : (tb (bys s)).drop c = ((tb (bys s)).drop c).take m := (List.take_of_length_le (by simp [bys_length]; omega)).symm
          rw [h1, tb_part (bys s) c m (by omega) (by rw [bys_length]; omega)]
          subst hp
          rw [bys_get s (c / 8) hps, hy, show 8 - c % 8 - m = 0 by omega, Nat.pow_zero, Nat.div_one, ht]
        unfold dn
        rw [e, hlen, hm]
        simp [h8]
      rw [hd]
      have hplace := fun w0 h => place_any g c w0 (by omega) h
      rw [hp] at hplace
      have hlow := fun w0 => lowest_any m (by omega) w0
      have hc0 : w.drew.cell? ⟨g, 0, none⟩ = some (.int .i64 (c : Int)) := h.c0
      have hc1 : w.drew.cell? ⟨g, 1, none⟩ = some (.string s) := h.c1
      have p1 : (0 : Int) ≤ (p : Int) := by omega
      have p2 : (p : Int) < (s.size : Int) := by omega
      have m1 : decide ((m : Int) = 0) = false := by simp; omega
      have m2 : ((m : Int) == 0) = false := by simp; omega
      have m3 : (m : Int) < 8 := by omega
      clear hm hle hlen hd hp hy ht
      go_enter Try.func101, Try.ntmps101
      go_wp2_with fail
      refine hl.mono ?_
      rintro e w2 ⟨rfl, rfl⟩
      go_wp2_with fail
      go_region_held3 (fun w' => w'.cell? ⟨g, 0, none⟩ = some (.int .i64 (c : Int)) ∧ w'.cell? ⟨g, 1, none⟩ = some (.string s)) (go_keep) (first | (go_at_call 86; refine (hplace _ ?_).mono ?_; (simp [*]); rintro e w' ⟨rfl, rfl⟩) | (go_at_call 88; refine (hlow _).mono ?_; rintro e w' ⟨rfl, rfl⟩))
      all_goals go_wp2_with fail
      all_goals go_ret
      all_goals exact ⟨ret_bool (by first | rfl | simp), (Below.refl _ _).drew.drew⟩
    · have hd : dn (tb (bys s)) c = false := by
        unfold dn
        rw [hlen, hm]
        simp [h8]
      rw [hd]
      have m1 : decide ((m : Int) = 0) = false := by simp; omega
      have m2 : ((m : Int) == 0) = false := by simp; omega
      have m3 : decide ((m : Int) < 8) = false := by simp; omega
      clear hm hle hlen hd
      go_enter Try.func101, Try.ntmps101
      go_wp2_with fail
      refine hl.mono ?_
      rintro e w2 ⟨rfl, rfl⟩
      go_wp2_with fail
      go_quiet (fail)
      go_wp2_with fail
      go_ret
      exact ⟨rfl, ⟨rfl, rfl, rfl, Nat.le_refl _, fun _ _ => rfl⟩⟩
end Go.Proofs.Ytohgflimdoebiaa.Bt
/- What Pack and Unpack answer, as plain functions. -/
namespace Go.Proofs.Ytohgflimdoebiaa.Bt
open Go.RowKit Go.Maps
set_option linter.unusedVariables false

def okF (f : Nat × Int) : Bool := gw f.2 && decide (f.1 < 2 ^ f.2.toNat)
def bitsF (fs : List (Nat × Int)) : List Bool := fs.flatMap fun f => bo f.1 f.2.toNat
theorem bitsF_append (a b : List (Nat × Int)) : bitsF (a ++ b) = bitsF a ++ bitsF b := by simp [bitsF]
theorem okF_width {f : Nat × Int} (h : okF f = true) : 1 ≤ f.2 ∧ f.2 ≤ 64 ∧ f.1 < 2 ^ f.2.toNat := by simp [okF, gw] at h; omega
theorem bitsF_le (fs : List (Nat × Int)) (h : ∀ f ∈ fs, okF f = true) : (bitsF fs).length ≤ 64 * fs.length := by
  induction fs with
  | nil => simp [bitsF]
  | cons f fs ih =>
    have h1 := ih (fun g hg => h g (by simp [hg]))
    have h2 := okF_width (h f (by simp))
    have e : bitsF (f :: fs) = bo f.1 f.2.toNat ++ bitsF fs := rfl
    rw [e, List.length_append, bo_length, List.length_cons]
    omega
def pkS (fs : List (Nat × Int)) : ByteArray := if fs.all okF then tx (pk (bitsF fs)) else tx []
def pkE (fs : List (Nat × Int)) : Int := if fs.all okF then 0 else 6
theorem take_snoc {α : Type} (l : List α) (k : Nat) (d : α) (hk : k < l.length) : l.take (k + 1) = l.take k ++ [l.getD k d] := by
  rw [List.take_add_one]; simp [List.getElem?_eq_getElem hk]
theorem all_take {α : Type} (p : α → Bool) (l : List α) (k : Nat) (d : α) (hk : k < l.length) (h : p (l.getD k d) = false) : l.all p = false := by
  rw [Bool.eq_false_iff]
  intro ha
  rw [List.all_eq_true] at ha
  have := ha (l.getD k d) (by simp [hk])
  rw [h] at this
  cases this
/- Taking bits by widths. -/
def tks (T : List Bool) (st : Option (Nat × List Nat)) (w : Int) : Option (Nat × List Nat) :=
  match st with
  | none => none
  | some (c, vs) => if 1 ≤ w ∧ w ≤ 64 ∧ w ≤ ((T.length - c : Nat) : Int) then some (c + w.toNat, vs ++ [bv ((T.drop c).take w.toNat)]) else none
def tk (T : List Bool) (ws : List Int) : Option (Nat × List Nat) := ws.foldl (tks T) (some (0, []))
theorem tks_none (T : List Bool) (ws : List Int) : ws.foldl (tks T) none = none := by
  induction ws with
  | nil => rfl
  | cons w ws ih => simpa [tks] using ih
theorem tk_snoc (T : List Bool) (ws : List Int) (w : Int) : tk T (ws ++ [w]) = tks T (tk T ws) w := by simp [tk]
theorem tk_take (T : List Bool) (ws : List Int) (k : Nat) (hk : k < ws.length) : tk T (ws.take (k + 1)) = tks T (tk T (ws.take k)) (ws.getD k 0) := by
  rw [take_snoc ws k 0 hk, tk_snoc]
theorem tk_none (T : List Bool) (ws : List Int) (k : Nat) (h : tk T (ws.take k) = none) : tk T ws = none := by
  have e : ws = ws.take k ++ ws.drop k := by simp
  unfold tk at *
  rw [e, List.foldl_append, h, tks_none]
theorem tk_le (T : List Bool) : ∀ (ws : List Int) (c0 : Nat) (v0 : List Nat) (c : Nat) (vs : List Nat), c0 ≤ T.length → ws.foldl (tks T) (some (c0, v0)) = some (c, vs) → c ≤ T.length ∧ vs.length = v0.length + ws.length
  | [], c0, v0, c, vs, h0, h => by simp at h; obtain ⟨rfl, rfl⟩ := h; simp; omega
  | w :: ws, c0, v0, c, vs, h0, h => by
    simp only [List.foldl_cons, tks] at h
    split at h
    · rename_i hw
      have := tk_le T ws _ _ c vs (by omega) h
      simp at this ⊢; omega
    · rw [tks_none] at h; cases h
def un (T : List Bool) (ws : List Int) : Option (List Nat) :=
  match tk T ws with
  | none => none
  | some (c, vs) => if dn T c then some vs else none
def unL (T : List Bool) (ws : List Int) : List Nat := (un T ws).getD []
def unE (T : List Bool) (ws : List Int) : Int := if (un T ws).isSome then 0 else 6
theorem un_bad {T : List Bool} {ws : List Int} (h : tk T ws = none) : unL T ws = [] ∧ unE T ws = 6 := by simp [unL, unE, un, h]
theorem un_open {T : List Bool} {ws : List Int} {c : Nat} {vs : List Nat} (h : tk T ws = some (c, vs)) (hd : dn T c = false) : unL T ws = [] ∧ unE T ws = 6 := by simp [unL, unE, un, h, hd]
theorem un_good {T : List Bool} {ws : List Int} {c : Nat} {vs : List Nat} (h : tk T ws = some (c, vs)) (hd : dn T c = true) : unL T ws = vs ∧ unE T ws = 0 := by simp [unL, unE, un, h, hd]
/- Fields in memory. -/
def RdF (w : World) (a : Option Addr) (fs : List (Nat × Int)) : Prop :=
  ∀ i, i < fs.length → ∃ b o, a = some ⟨b, o, none⟩ ∧ w.cell? ⟨b, o + i * 2, none⟩ = some (.int .u64 ((fs.getD i (0, 0)).1 : Int)) ∧ w.cell? ⟨b, o + i * 2 + 1, none⟩ = some (.int .i64 (fs.getD i (0, 0)).2) ∧ (fs.getD i (0, 0)).1 < 18446744073709551616
theorem RdF.later {w w' : World} {a : Option Addr} {fs : List (Nat × Int)} (h : RdF w a fs) (hb : Below w.heap.size w w') : RdF w' a fs := fun i hi => by
  obtain ⟨b, o, e, c0, c1, c2⟩ := h i hi
  exact ⟨b, o, e, cell_later hb c0, cell_later hb c1, c2⟩
theorem RdF.nil (w : World) (a : Option Addr) : RdF w a [] := fun i hi => by cases hi
theorem RdF.spot {w : World} {a : Option Addr} {fs : List (Nat × Int)} (h : RdF w a fs) (h0 : fs ≠ []) : ∃ b o, a = some ⟨b, o, none⟩ ∧ ∀ i, i < fs.length → w.cell? ⟨b, o + i * 2, none⟩ = some (.int .u64 ((fs.getD i (0, 0)).1 : Int)) ∧ w.cell? ⟨b, o + i * 2 + 1, none⟩ = some (.int .i64 (fs.getD i (0, 0)).2) ∧ (fs.getD i (0, 0)).1 < 18446744073709551616 := by
  have hp : 0 < fs.length := List.length_pos_iff.2 h0
  obtain ⟨b, o, e, _⟩ := h 0 hp
  refine ⟨b, o, e, fun i hi => ?_⟩
  obtain ⟨b', o', e', c0, c1⟩ := h i hi
  rw [e] at e'
  simp at e'
  obtain ⟨rfl, rfl⟩ := e'
  exact ⟨c0, c1⟩
/- Integers in memory. -/
def RdI (w : World) (a : Option Addr) (ws : List Int) : Prop :=
  ∀ i, i < ws.length → ∃ b o, a = some ⟨b, o, none⟩ ∧ w.cell? ⟨b, o + i, none⟩ = some (.int .i64 (ws.getD i 0))
theorem RdI.later {w w' : World} {a : Option Addr} {ws : List Int} (h : RdI w a ws) (hb : Below w.heap.size w w') : RdI w' a ws := fun i hi => by
  obtain ⟨b, o, e, c0⟩ := h i hi
  exact ⟨b, o, e, cell_later hb c0⟩
theorem RdI.nil (w : World) (a : Option Addr) : RdI w a [] := fun i hi => by cases hi
theorem RdI.spot {w : World} {a : Option Addr} {ws : List Int} (h : RdI w a ws) (h0 : ws ≠ []) : ∃ b o, a = some ⟨b, o, none⟩ ∧ ∀ i, i < ws.length → w.cell? ⟨b, o + i, none⟩ = some (.int .i64 (ws.getD i 0)) := by
  have hp : 0 < ws.length := List.length_pos_iff.2 h0
  obtain ⟨b, o, e, _⟩ := h 0 hp
  refine ⟨b, o, e, fun i hi => ?_⟩
  obtain ⟨b', o', e', c0⟩ := h i hi
  rw [e] at e'
  simp at e'
  obtain ⟨rfl, rfl⟩ := e'
  exact c0
def u64s (l : List Nat) : List Value := l.map fun n : Nat => Value.int .u64 (n : Int)
@[simp] theorem u64s_length (l : List Nat) : (u64s l).length = l.length := by simp [u64s]
theorem u64s_snoc (l : List Nat) (x : Nat) : u64s (l ++ [x]) = u64s l ++ [.int .u64 (x : Int)] := by simp [u64s]
theorem info64 : (Try.prog.info? 112).map (fun i => (i.zero, i.size, i.bytes)) = some (some (.int .u64 0), 1, 8) := by kernel_rfl
theorem Wr.below {B : Nat} {w w' : World} {g : Nat} {l : List Bool} {x : Value} (h : Wr B w g l x) (hk : Kept (Fw g x) w w') {B0 : Nat} (h0 : B0 ≤ g) : Below B0 w w' := by
  have hg := (Array.getElem?_eq_some_iff.1 h.blk).1
  refine hk.below (by omega) (fun k hk => ?_)
  rcases hk with rfl | hk
  · exact h0
  · have := (h.row.lt k hk).1; have := h.lt; omega
theorem below1 (w : World) (o : Obj) : Below w.heap.size w (w.alloc o) := (Below.refl _ _).alloc (Nat.le_refl _) _
theorem Below.more {w0 w : World} (h : Below w0.heap.size w0 w) (o : Obj) : Below w0.heap.size w0 (w.alloc o) := h.alloc h.size _
theorem Below.then {w0 w w' : World} (h : Below w0.heap.size w0 w) (hb : Below w.heap.size w w') : Below w0.heap.size w0 w' := h.trans (hb.mono h.size)
end Go.Proofs.Ytohgflimdoebiaa.Bt
/- Contract: Unpack. -/
namespace Go.Proofs.Ytohgflimdoebiaa.Bt
open Go.RowKit Go.Maps
set_option linter.unusedVariables false

theorem Kept.toBelow {F : Nat → Prop} {w0 w w' : World} (h : Below w0.heap.size w0 w) (hk : Kept F w w') (hF : ∀ k, F k → w0.heap.size ≤ k) : Below w0.heap.size w0 w' := h.trans (hk.below h.size hF)
theorem tk_lt {T : List Bool} {ws : List Int} {c : Nat} {vs : List Nat} (h : tk T ws = some (c, vs)) : c ≤ T.length ∧ vs.length = ws.length := by
  have := tk_le T ws 0 [] c vs (Nat.zero_le _) h
  simpa using this
set_option maxHeartbeats 2000000 in
set_option maxRecDepth 100000 in
theorem unpack_some (b o cp n : Nat) (ws : List Int) (T : List Bool) (s : ByteArray) (hn : ws.length = n) (hT : tb (bys s) = T) (w : World) (hl : n ≤ 16777216) (hs : s.size < 1099511627776)
    (h1 : ∀ i, i < n → w.cell? ⟨b, o + i, none⟩ = some (.int .i64 (ws.getD i 0))) :
    Calls Try.prog 95 #[.string s, .slice (some ⟨b, o, none⟩) n cp] w fun e w' => ∃ v, e = .returned (.tuple #[v, .int .i64 (unE T ws)]) ∧ w'.ownsRow (w.heap.size + 1) 112 1 v (unL T ws).length (u64s (unL T ws)) ∧ Below w.heap.size w w' := by
  obtain ⟨i0, hi, hz0, hz1, hz2⟩ := info_parts info64
  have HN : Hid (ws.length = n) := hn
  have HT : Hid (tb (bys s) = T) := hT
  have HTL : Hid (T.length = 8 * s.size) := by unfold Hid; rw [← hT, tb_length, bys_length]
  clear hn hT
  go_enter Try.func95, Try.ntmps95
  go_wp2_with fail
  refine (read_any s w).mono ?_
  rintro e w1 ⟨rfl, rfl⟩
  go_wp2_with fail
  go_loopw [7, 16] (fun v i wr => ∃ k : Nat, k ≤ n ∧ i = .int .i64 (k : Int) ∧ Below w.heap.size w wr ∧ w.heap.size + 1 ≤ wr.heap.size ∧ ∃ c vs, tk T (ws.take k) = some (c, vs) ∧ Rr wr w.heap.size c s ∧ wr.ownsRow (w.heap.size + 1) 112 1 v vs.length (u64s vs)) (fun _ i _ => n - (intOf i).toNat)
  case atStart => exact ⟨0, by omega, rfl, below1 _ _, by simp, 0, [], rfl, Rr.new w s, World.ownsRow_nil _ _ _ _⟩
  case round =>
    obtain ⟨k, hk, rfl, hb, hsz, c, vs, htk, hr, hrow⟩ := hrel
    have HB : Hid (Below w.heap.size w wr) := hb
    have HR : Hid (Rr wr w.heap.size c s) := hr
    have HROW : Hid (wr.ownsRow (w.heap.size + 1) 112 1 u7 vs.length (u64s vs)) := hrow
    have HVL : Hid (vs.length = k) := by
      unfold Hid
      have := (tk_lt htk).2
      rw [List.length_take, HN.out] at this
      omega
    have HTK : Hid (tk T (ws.take k) = some (c, vs)) := htk
    clear hr hrow htk
    by_cases hkn : k < n
    · have c0 := cell_later hb (h1 k hkn)
      have i1 : (0 : Int) ≤ (k : Int) := by omega
      have i2 : (k : Int) < (n : Int) := by omega
      have HS : Hid (tk T (ws.take (k + 1)) = tks T (tk T (ws.take k)) (ws.getD k 0)) := tk_take T ws k (by rw [HN.out]; exact hkn)
      obtain ⟨d, ed⟩ : ∃ d, ws.getD k 0 = d := ⟨_, rfl⟩
      rw [ed] at c0 HS
      clear h1 ed hb
      by_cases hd : Gw d ∧ d ≤ ((8 * s.size - c : Nat) : Int)
      · obtain ⟨⟨d1, d2⟩, d3⟩ := hd
        obtain ⟨q, rfl⟩ : ∃ q : Nat, d = (q : Int) := ⟨d.toNat, by omega⟩
        have HP := take_yes w.heap.size c q s wr HR.out hs (by omega) (by omega) (by have := HR.out.le; omega)
        rw [HT.out] at HP
        obtain ⟨y, hy⟩ : ∃ y, bv ((T.drop c).take q) = y := ⟨_, rfl⟩
        rw [hy] at HP
        have HS2 : Hid (tk T (ws.take (k + 1)) = some (c + q, vs ++ [y])) := by
          unfold Hid
          rw [HS.out, HTK.out]
          unfold tks
          simp only []
          rw [if_pos ⟨d1, d2, by rw [HTL.out]; exact d3⟩]
          simp [hy]
        clear d3 HS hy
        go_wp2_with fail
        refine HP.mono ?_
        rintro e w2 ⟨rfl, hr2, hkp⟩
        have HR2 : Hid (Rr w2 w.heap.size (c + q) s) := hr2
        have HK2 : Hid (Kept (fun k => k = w.heap.size) wr w2) := hkp
        have HO2 : Hid (w2.ownsRow (w.heap.size + 1) 112 1 u7 vs.length (u64s vs)) := hkp.row HROW.out (fun j hj e => by have := (HROW.out.lt j hj).1; omega)
        have hs2 : w.heap.size + 1 ≤ w2.heap.size := Nat.le_trans hsz hkp.size
        clear hr2 hkp HP
        go_wp2_with (at_builtin; refine wpList_append_lies _ rfl _ _ _ rfl (w.heap.size + 1) 112 i0 _ 1 8 Try.underlying151 hi hz0 hz1 hz2 rfl (by omega) _ vs.length (u64s vs) rfl (HO2.out.alloc _) ⟨w2.heap.size, 0, none⟩ 1 1 [.int .u64 (y : Int)] rfl rfl (cell_one_at _ _ _ _ rfl) (by simp [Value.oneCell']) (by omega) (by have := HVL.out; unfold maxLen; omega) (by have := HVL.out; omega) (by simp; omega) (w2.heap.size + 1) (by simp) ?_; intro g3 cap3 w3 hown3 hgrow3 hat3 hlt3; have HG3 : Hid ((w2.alloc (.cells #[.int .u64 (y : Int)] 112)).grownBy w3 u7.ownBlock) := hgrow3; have HO3 : Hid (w3.ownsRow (w.heap.size + 1) 112 1 (.slice (some ⟨g3, 0, none⟩) (vs.length + 1) cap3) (vs.length + 1) (u64s vs ++ [.int .u64 (y : Int)])) := hown3; clear hown3 hgrow3 hat3 hlt3)
        go_roundw
        case rel =>
          have hfar : ∀ j, u7.ownBlock = some j → w.heap.size + 1 ≤ j := fun j hj => (HROW.out.lt j hj).1
          have k3 : Kept (fun j => u7.ownBlock = some j) w2 w3 := ((Kept.refl _ w2).alloc _).grown HG3.out (fun j hj _ => hj)
          refine ⟨k + 1, by omega, by go_num, ?_, Nat.le_trans hs2 k3.size, c + q, vs ++ [y], HS2.out, HR2.out.kept k3 (fun e => by have := hfar _ e; omega), ?_⟩
          · exact Kept.toBelow (Kept.toBelow HB.out HK2.out (fun j hj => by have hj' : j = w.heap.size := hj; omega)) k3 (fun j hj => by have := hfar j hj; omega)
          · rw [u64s_snoc, List.length_append]; exact HO3.out
        case measure => simp [intOf]; omega
      · have HP := take_no w.heap.size c s d wr HR.out hs hd
        have HE : Hid (tk T ws = none) := by
          refine tk_none T ws (k + 1) ?_
          rw [HS.out, HTK.out]
          unfold tks
          simp only []
          rw [if_neg]
          rintro ⟨e1, e2, e3⟩
          exact hd ⟨⟨e1, e2⟩, by rw [HTL.out] at e3; exact e3⟩
        clear hd HS
        go_wp2_with fail
        refine HP.mono ?_
        rintro e w2 ⟨rfl, hw2⟩
        have HB2 : Hid (Below w.heap.size w w2) := by
          rcases hw2 with rfl | rfl
          · exact HB.out
          · exact HB.out.drew
        clear hw2 HP
        go_wp2_with fail
        go_ret2
        obtain ⟨e1, e2⟩ := un_bad HE.out
        exact ⟨.slice none 0 0, by rw [e2]; rfl, by rw [e1]; exact World.ownsRow_nil _ _ _ _, HB2.out⟩
    · have hkn' : decide ((k : Int) < (n : Int)) = false := by simp; omega
      have e : ws.take k = ws := List.take_of_length_le (by rw [HN.out]; omega)
      rw [e] at HTK
      clear e hb h1
      have hdone := done_any w.heap.size c s wr HR.out hs
      rw [HT.out] at hdone
      go_wp2_with fail
      refine hdone.mono ?_
      rintro e w2 ⟨rfl, hb2⟩
      have HB2 : Hid (Below w.heap.size w w2) := Below.then HB.out hb2
      have HO2 : Hid (w2.ownsRow (w.heap.size + 1) 112 1 u7 vs.length (u64s vs)) := (Kept.ofBelow (F := fun _ => False) hb2).row HROW.out (fun _ _ h => h)
      clear hb2 hdone
      cases hd : dn T c with
      | true =>
        have HD : Hid (dn T c = true) := hd
        clear hd
        go_wp2_with fail
        go_ret2
        obtain ⟨e1, e2⟩ := un_good HTK.out HD.out
        exact ⟨u7, by rw [e2]; rfl, by rw [e1]; exact HO2.out, HB2.out⟩
      | false =>
        have HD : Hid (dn T c = false) := hd
        clear hd
        go_wp2_with fail
        go_ret2
        obtain ⟨e1, e2⟩ := un_open HTK.out HD.out
        exact ⟨.slice none 0 0, by rw [e2]; rfl, by rw [e1]; exact World.ownsRow_nil _ _ _ _, HB2.out⟩
set_option maxHeartbeats 2000000 in
set_option maxRecDepth 100000 in
theorem unpack_none (a : Option Addr) (cp : Nat) (T : List Bool) (s : ByteArray) (hT : tb (bys s) = T) (w : World) (hs : s.size < 1099511627776) :
    Calls Try.prog 95 #[.string s, .slice a 0 cp] w fun e w' => ∃ v, e = .returned (.tuple #[v, .int .i64 (unE T [])]) ∧ w'.ownsRow (w.heap.size + 1) 112 1 v (unL T []).length (u64s (unL T [])) ∧ Below w.heap.size w w' := by
  have hdone := done_any w.heap.size 0 s _ (Rr.new w s) hs
  rw [hT] at hdone
  go_enter Try.func95, Try.ntmps95
  go_wp2_with fail
  refine (read_any s w).mono ?_
  rintro e w1 ⟨rfl, rfl⟩
  go_wp2_with fail
  refine wp_loop_rounds 1 ?_
  rw [rounds_succ]
  go_wp2_with fail
  refine hdone.mono ?_
  rintro e w2 ⟨rfl, hb2⟩
  have HB2 : Hid (Below w.heap.size w w2) := Below.then (below1 _ _) hb2
  clear hb2 hdone
  cases hd : dn T 0 with
  | true =>
    have HD : Hid (dn T 0 = true) := hd
    clear hd
    go_wp2_with fail
    go_ret2
    obtain ⟨e1, e2⟩ := un_good (ws := []) (c := 0) (vs := []) rfl HD.out
    exact ⟨.slice none 0 0, by rw [e2]; rfl, by rw [e1]; exact World.ownsRow_nil _ _ _ _, HB2.out⟩
  | false =>
    have HD : Hid (dn T 0 = false) := hd
    clear hd
    go_wp2_with fail
    go_ret2
    obtain ⟨e1, e2⟩ := un_open (ws := []) (c := 0) (vs := []) rfl HD.out
    exact ⟨.slice none 0 0, by rw [e2]; rfl, by rw [e1]; exact World.ownsRow_nil _ _ _ _, HB2.out⟩
theorem unpack_any (a : Option Addr) (cp n : Nat) (ws : List Int) (T : List Bool) (s : ByteArray) (hn : ws.length = n) (hT : tb (bys s) = T) (w : World) (hl : n ≤ 16777216) (hs : s.size < 1099511627776) (h : RdI w a ws) :
    Calls Try.prog 95 #[.string s, .slice a n cp] w fun e w' => ∃ v, e = .returned (.tuple #[v, .int .i64 (unE T ws)]) ∧ w'.ownsRow (w.heap.size + 1) 112 1 v (unL T ws).length (u64s (unL T ws)) ∧ Below w.heap.size w w' := by
  subst hn
  by_cases h0 : ws = []
  · subst h0; exact unpack_none a cp T s hT w hs
  · obtain ⟨b, o, rfl, k1⟩ := h.spot h0
    exact unpack_some b o cp ws.length ws T s rfl hT w hl hs k1
end Go.Proofs.Ytohgflimdoebiaa.Bt
/- Packed and unpacked again: on plain lists. -/
namespace Go.Proofs.Ytohgflimdoebiaa.Bt
open Go.RowKit Go.Maps
set_option linter.unusedVariables false

theorem tk_bits : ∀ (fs : List (Nat × Int)) (P Z : List Bool) (v0 : List Nat), (∀ f ∈ fs, okF f = true) →
    (fs.map (·.2)).foldl (tks (P ++ (bitsF fs ++ Z))) (some (P.length, v0)) = some (P.length + (bitsF fs).length, v0 ++ fs.map (·.1))
  | [], P, Z, v0, _ => by simp [bitsF]
  | (v, d) :: fs, P, Z, v0, h => by
    obtain ⟨d1, d2, d3⟩ := okF_width (h (v, d) (by simp))
    obtain ⟨q, rfl⟩ : ∃ q : Nat, d = (q : Int) := ⟨d.toNat, by omega⟩
    have e : bitsF ((v, (q : Int)) :: fs) = bo v q ++ bitsF fs := rfl
    have d1' : (1 : Int) ≤ (q : Int) := d1
    have d2' : (q : Int) ≤ 64 := d2
    have d3' : v < 2 ^ q := d3
    simp only [List.map_cons, List.foldl_cons]
    rw [e]
    have hstep : tks (P ++ (bo v q ++ bitsF fs ++ Z)) (some (P.length, v0)) (q : Int) = some (P.length + q, v0 ++ [v]) := by
      unfold tks
      simp only []
      rw [if_pos ⟨d1', d2', by simp; omega⟩]
      have e2 : ((P ++ (bo v q ++ bitsF fs ++ Z)).drop P.length).take (q : Int).toNat = bo v q := by
        rw [List.drop_left' rfl, List.append_assoc]
        exact List.take_left' (by simp)
      rw [e2, bv_bo, Nat.mod_eq_of_lt d3']
      simp
    rw [hstep]
    have ih := tk_bits fs (P ++ bo v q) Z (v0 ++ [v]) (fun f hf => h f (by simp [hf]))
    have e3 : P ++ (bo v q ++ bitsF fs ++ Z) = P ++ bo v q ++ (bitsF fs ++ Z) := by simp
    rw [e3]
    rw [List.length_append, bo_length] at ih
    rw [ih]
    simp; omega
theorem tk_all (fs : List (Nat × Int)) (Z : List Bool) (h : ∀ f ∈ fs, okF f = true) : tk (bitsF fs ++ Z) (fs.map (·.2)) = some ((bitsF fs).length, fs.map (·.1)) := by
  have := tk_bits fs [] Z [] h
  simpa [tk] using this
theorem dn_pad (l : List Bool) (k : Nat) : dn (l ++ List.replicate k false) l.length = decide (k < 8) := by
  unfold dn
  rw [List.drop_left' rfl, (bv_zero_iff (List.replicate k false)).2 (by simp)]
  simp
theorem bits_of_pack (l : List Bool) : tb (bys (tx (pk l))) = l ++ List.replicate (8 * ((l.length + 7) / 8) - l.length) false := by
  rw [bys_tx _ (pk_lt l), tb_pk]
theorem un_pack (fs : List (Nat × Int)) (h : ∀ f ∈ fs, okF f = true) : unL (tb (bys (tx (pk (bitsF fs))))) (fs.map (·.2)) = fs.map (·.1) ∧ unE (tb (bys (tx (pk (bitsF fs))))) (fs.map (·.2)) = 0 := by
  rw [bits_of_pack]
  refine un_good (tk_all fs _ h) ?_
  rw [dn_pad]
  simp; omega
theorem bys_append (a b : ByteArray) : bys (a ++ b) = bys a ++ bys b := by
  simp [bys, ByteArray.data_append]
theorem un_more (fs : List (Nat × Int)) (h : ∀ f ∈ fs, okF f = true) : unL (tb (bys (tx (pk (bitsF fs)) ++ ⟨#[0]⟩))) (fs.map (·.2)) = [] ∧ unE (tb (bys (tx (pk (bitsF fs)) ++ ⟨#[0]⟩))) (fs.map (·.2)) = 6 := by
  have e : tb (bys (tx (pk (bitsF fs)) ++ ⟨#[0]⟩)) = bitsF fs ++ List.replicate (8 * (((bitsF fs).length + 7) / 8) - (bitsF fs).length + 8) false := by
    rw [bys_append, tb_append, bits_of_pack]
    have e0 : tb (bys ⟨#[0]⟩) = List.replicate 8 false := rfl
    rw [e0, List.append_assoc, List.replicate_append_replicate]
  rw [e]
  refine un_open (tk_all fs _ h) ?_
  rw [dn_pad]
  simp
theorem tk_back (T : List Bool) : ∀ (ws : List Int) (c0 : Nat) (v0 : List Nat) (c : Nat) (vs : List Nat), c0 ≤ T.length → ws.foldl (tks T) (some (c0, v0)) = some (c, vs) →
    ∃ vs', vs = v0 ++ vs' ∧ vs'.length = ws.length ∧ c0 ≤ c ∧ c ≤ T.length ∧ (∀ f ∈ vs'.zip ws, okF f = true ∧ f.1 < 18446744073709551616) ∧ T.take c0 ++ bitsF (vs'.zip ws) = T.take c
  | [], c0, v0, c, vs, h0, h => by
    simp at h
    obtain ⟨rfl, rfl⟩ := h
    exact ⟨[], by simp, rfl, Nat.le_refl _, h0, by simp, by simp [bitsF]⟩
  | w :: ws, c0, v0, c, vs, h0, h => by
    simp only [List.foldl_cons, tks] at h
    split at h
    · rename_i hw
      obtain ⟨q, rfl⟩ : ∃ q : Nat, w = (q : Int) := ⟨w.toNat, by omega⟩
      simp only [Int.toNat_natCast] at h
      obtain ⟨vs', e1, e2, e3, e4, e5, e6⟩ := tk_back T ws (c0 + q) _ c vs (by omega) h
      have hlen : ((T.drop c0).take q).length = q := by simp; omega
      have hlt : bv ((T.drop c0).take q) < 2 ^ q := by have := bv_lt ((T.drop c0).take q); rw [hlen] at this; exact this
      refine ⟨bv ((T.drop c0).take q) :: vs', by rw [e1]; simp, by simp [e2], by omega, e4, ?_, ?_⟩
      · intro f hf
        simp only [List.zip_cons_cons, List.mem_cons] at hf
        rcases hf with rfl | hf
        · refine ⟨by simp [okF, gw, hlt]; omega, ?_⟩
          refine Nat.lt_of_lt_of_le hlt ?_
          have := Nat.pow_le_pow_right (n := 2) (by decide) (show q ≤ 64 by omega)
          simpa using this
        · exact e5 f hf
      · have e : bitsF ((bv ((T.drop c0).take q) :: vs').zip ((q : Int) :: ws)) = bo (bv ((T.drop c0).take q)) q ++ bitsF (vs'.zip ws) := rfl
        have e7 : bo (bv ((T.drop c0).take q)) q = (T.drop c0).take q := by
          have := bo_bv ((T.drop c0).take q)
          rw [hlen] at this
          exact this
        rw [e, e7, ← List.append_assoc, ← List.take_add, e6]
    · rw [tks_none] at h; cases h
theorem un_back (s : ByteArray) (ws : List Int) (h : unE (tb (bys s)) ws = 0) : (unL (tb (bys s)) ws).length = ws.length ∧ (∀ f ∈ (unL (tb (bys s)) ws).zip ws, okF f = true ∧ f.1 < 18446744073709551616) ∧ tx (pk (bitsF ((unL (tb (bys s)) ws).zip ws))) = s := by
  cases ht : tk (tb (bys s)) ws with
  | none => rw [(un_bad ht).2] at h; simp at h
  | some p =>
    obtain ⟨c, vs⟩ := p
    cases hd : dn (tb (bys s)) c with
    | false => rw [(un_open ht hd).2] at h; simp at h
    | true =>
      rw [(un_good ht hd).1]
      obtain ⟨vs', e1, e2, _, e4, e5, e6⟩ := tk_back (tb (bys s)) ws 0 [] c vs (Nat.zero_le _) ht
      simp at e1 e6
      subst e1
      refine ⟨e2, e5, ?_⟩
      rw [e6]
      simp only [dn, Bool.and_eq_true, decide_eq_true_eq] at hd
      obtain ⟨h8, hz⟩ := hd
      have e7 : tb (bys s) = (tb (bys s)).take c ++ List.replicate ((tb (bys s)).length - c) false := by
        have := (bv_zero_iff _).1 hz
        rw [List.length_drop] at this
        rw [← this, List.take_append_drop]
      have e8 : pk (tb (bys s)) = pk ((tb (bys s)).take c) := by
        have hp := pk_pad ((tb (bys s)).take c) ((tb (bys s)).length - c) (by
          have h9 : (tb (bys s)).length = 8 * (bys s).length := tb_length _
          rw [List.length_take]; omega)
        rw [← e7] at hp
        exact hp
      rw [← e8, pk_tb _ (by intro x hx; simp [bys] at hx; obtain ⟨b, _, rfl⟩ := hx; exact UInt8.toNat_lt _), tx_bys]
end Go.Proofs.Ytohgflimdoebiaa.Bt
/- Contract: Pack. -/
namespace Go.Proofs.Ytohgflimdoebiaa.Bt
open Go.RowKit Go.Maps
set_option linter.unusedVariables false

set_option maxHeartbeats 2000000 in
set_option maxRecDepth 100000 in
theorem pack_some (b o c n : Nat) (fs : List (Nat × Int)) (hn : fs.length = n) (w : World) (hl : n ≤ 16777216)
    (h1 : ∀ i, i < n → w.cell? ⟨b, o + i * 2, none⟩ = some (.int .u64 ((fs.getD i (0, 0)).1 : Int)) ∧ w.cell? ⟨b, o + i * 2 + 1, none⟩ = some (.int .i64 (fs.getD i (0, 0)).2) ∧ (fs.getD i (0, 0)).1 < 18446744073709551616) :
    Calls Try.prog 63 #[.slice (some ⟨b, o, none⟩) n c] w fun e w' => e = .returned (.tuple #[.string (pkS fs), .int .i64 (pkE fs)]) ∧ Below w.heap.size w w' := by
  have HN : Hid (fs.length = n) := hn
  clear hn
  go_enter Try.func63, Try.ntmps63
  go_wp2_with fail
  refine (new_any w).mono ?_
  rintro e w1 ⟨rfl, rfl⟩
  go_wp2_with fail
  go_loopw [11] (fun i wr => ∃ k : Nat, k ≤ n ∧ i = .int .i64 (k : Int) ∧ (∀ f ∈ fs.take k, okF f = true) ∧ Below w.heap.size w wr ∧ w.heap.size + 1 ≤ wr.heap.size ∧ ∃ x, Wr (w.heap.size + 1) wr w.heap.size (bitsF (fs.take k)) x) (fun i _ => n - (intOf i).toNat)
  case atStart => exact ⟨0, by omega, rfl, by simp, below1 _ _, by simp, _, Wr.new w⟩
  case round =>
    obtain ⟨k, hk, rfl, hok, hb, hsz, x, hw⟩ := hrel
    have HB : Hid (Below w.heap.size w wr) := hb
    have HW : Hid (Wr (w.heap.size + 1) wr w.heap.size (bitsF (fs.take k)) x) := hw
    have HOK : Hid (∀ f ∈ fs.take k, okF f = true) := hok
    clear hw hok
    by_cases hkn : k < n
    · obtain ⟨c0, c1, hv64⟩ := h1 k hkn
      have c0 := cell_later hb c0
      have c1 := cell_later hb c1
      have i1 : (0 : Int) ≤ (k : Int) := by omega
      have i2 : (k : Int) < (n : Int) := by omega
      have HS : Hid (fs.take (k + 1) = fs.take k ++ [fs.getD k (0, 0)]) := take_snoc fs k (0, 0) (by rw [HN.out]; exact hkn)
      have HF : Hid (okF (fs.getD k (0, 0)) = false → fs.all okF = false) := all_take okF fs k (0, 0) (by rw [HN.out]; exact hkn)
      have hlen : Hid ((bitsF (fs.take k)).length ≤ 64 * k) := by
        have := bitsF_le _ HOK.out
        rw [List.length_take] at this
        unfold Hid; omega
      obtain ⟨v, d, evd⟩ : ∃ v d, fs.getD k (0, 0) = (v, d) := ⟨_, _, rfl⟩
      rw [evd] at c0 c1 hv64 HS HF
      clear h1 evd hb
      cases hf : okF (v, d) with
      | true =>
        obtain ⟨d1, d2, d3⟩ := okF_width hf
        obtain ⟨q, rfl⟩ : ∃ q : Nat, d = (q : Int) := ⟨d.toNat, by omega⟩
        have HP := fun o => put_yes (w.heap.size + 1) w.heap.size v q (bitsF (fs.take k)) x (wr.alloc o) (by omega) (by omega) (by simpa using d3) (by simp; omega) (HW.out.alloc o) (by have := hlen.out; omega)
        have HP' : Hid _ := HP
        have HFT : Hid (okF (v, (q : Int)) = true) := hf
        clear HP hf d3
        go_wp2_with fail
        refine (HP'.out _).mono ?_
        rintro e w2 ⟨rfl, x', hw2, hkp, _⟩
        have HW2 : Hid (Wr (w.heap.size + 1) w2 w.heap.size (bitsF (fs.take k) ++ bo v q) x') := hw2
        have HK2 : Hid (Kept (Fw w.heap.size x) (wr.alloc (.cells #[.int .u64 (v : Int), .int .i64 (q : Int)] 114)) w2) := hkp
        clear hw2 hkp HP'
        go_wp2_with fail
        go_roundw
        case rel =>
          have hb2 := (HW.out.alloc _).below HK2.out (Nat.le_refl _)
          refine ⟨k + 1, by omega, by go_num, ?_, (Below.more HB.out _).trans hb2, by have := HK2.out.size; simp at this; omega, x', ?_⟩
          · rw [HS.out]
            intro f hf
            rcases List.mem_append.1 hf with hf | hf
            · exact HOK.out f hf
            · simp at hf; subst hf; exact HFT.out
          · rw [HS.out, bitsF_append]
            have e : bitsF [(v, (q : Int))] = bo v q := by simp [bitsF]
            rw [e]; exact HW2.out
        case measure => simp [intOf]; omega
      | false =>
        have HP := fun w0 => put_no w.heap.size v d w0 hv64 hf
        have HP' : Hid _ := HP
        have hall : Hid (fs.all okF = false) := HF.out hf
        clear HP hf
        go_wp2_with fail
        refine (HP'.out _).mono ?_
        rintro e w2 ⟨rfl, rfl⟩
        go_wp2_with fail
        go_ret2
        exact ⟨by simp [pkS, pkE, hall.out]; rfl, Below.more HB.out _⟩
    · have hkn' : decide ((k : Int) < (n : Int)) = false := by simp; omega
      have e : fs.take k = fs := List.take_of_length_le (by rw [HN.out]; omega)
      have HE : Hid (fs.take k = fs) := e
      clear e hb h1
      go_wp2_with fail
      refine (bytes_any _ _ _ _ _ HW.out).mono ?_
      rintro e w2 ⟨rfl, rfl⟩
      go_wp2_with fail
      go_ret2
      have hall : fs.all okF = true := by
        rw [List.all_eq_true]; intro f hf; exact HOK.out f (by rw [HE.out]; exact hf)
      exact ⟨by simp [pkS, pkE, hall, HE.out], HB.out⟩
set_option maxHeartbeats 2000000 in
set_option maxRecDepth 100000 in
theorem pack_none (a : Option Addr) (c : Nat) (w : World) :
    Calls Try.prog 63 #[.slice a 0 c] w fun e w' => e = .returned (.tuple #[.string (pkS []), .int .i64 (pkE [])]) ∧ Below w.heap.size w w' := by
  go_enter Try.func63, Try.ntmps63
  go_wp2_with fail
  refine (new_any w).mono ?_
  rintro e w1 ⟨rfl, rfl⟩
  go_wp2_with fail
  refine wp_loop_rounds 1 ?_
  rw [rounds_succ]
  go_wp2_with fail
  refine (bytes_any _ _ _ _ _ (Wr.new w)).mono ?_
  rintro e w2 ⟨rfl, rfl⟩
  go_wp2_with fail
  go_ret2
  exact ⟨rfl, below1 _ _⟩
theorem pack_any (a : Option Addr) (c n : Nat) (fs : List (Nat × Int)) (hn : fs.length = n) (w : World) (hl : n ≤ 16777216) (h : RdF w a fs) :
    Calls Try.prog 63 #[.slice a n c] w fun e w' => e = .returned (.tuple #[.string (pkS fs), .int .i64 (pkE fs)]) ∧ Below w.heap.size w w' := by
  subst hn
  by_cases h0 : fs = []
  · subst h0; exact pack_none a c w
  · obtain ⟨b, o, rfl, k1⟩ := h.spot h0
    exact pack_some b o c fs.length fs rfl w hl k1
end Go.Proofs.Ytohgflimdoebiaa.Bt
