/- For every list of fields, text and list of widths, together of bulk at most 1048576: packed fields are unpacked again, with eight bits more they are refused, and what is unpacked was packed so. Condition: that bulk. -/
import Derived.Test.YtpofjkjcbflloaaRows
import Derived.Test.YtpofjkjcbflloaaBitLives
import Derived.Test.YtpofjkjcbflloaaBitBack
import Derived.Test.YtpofjkjcbflloaaOpenSl
namespace Go.Proofs.Ytpofjkjcbflloaa.bitsBack
open Go.ChangeShapes Go.WideShapes Go.ChangeAt Go.RowKit Go.Maps
set_option linter.unusedVariables false

def i64s (l : List Int) : List Value := l.map fun n : Int => Value.int .i64 n
@[simp] theorem i64s_length (l : List Int) : (i64s l).length = l.length := by simp [i64s]
theorem i64s_snoc (l : List Int) (x : Int) : i64s (l ++ [x]) = i64s l ++ [.int .i64 x] := by simp [i64s]
theorem infoInt : (Try.prog.info? 3).map (fun i => (i.zero, i.size, i.bytes)) = some (some (.int .i64 0), 1, 8) := by kernel_rfl
theorem infoField : (Try.prog.info? 35).map (fun i => (i.zero, i.size, i.bytes)) = some (some (.agg #[.int .u64 0, .int .i64 0]), 2, 16) := by kernel_rfl
def fls (l : List (Nat × Int)) : List Value := l.flatMap fun p : Nat × Int => [Value.int .u64 (p.1 : Int), Value.int .i64 p.2]
theorem fls_snoc (l : List (Nat × Int)) (p : Nat × Int) : fls (l ++ [p]) = fls l ++ [.int .u64 (p.1 : Int), .int .i64 p.2] := by simp [fls]
theorem fls_get : ∀ (l : List (Nat × Int)) (i : Nat), i < l.length → (fls l)[i * 2]? = some (.int .u64 ((l.getD i (0, 0)).1 : Int)) ∧ (fls l)[i * 2 + 1]? = some (.int .i64 (l.getD i (0, 0)).2)
  | [], i, h => by cases h
  | p :: l, 0, h => by simp [fls]
  | p :: l, i + 1, h => by
    have := fls_get l i (by simpa using h)
    have e : fls (p :: l) = .int .u64 (p.1 : Int) :: .int .i64 p.2 :: fls l := rfl
    rw [e, show (i + 1) * 2 = i * 2 + 1 + 1 by omega]
    simpa using this
theorem cell_two_at (w : World) (x y : Value) (t : TypeId) (n : Nat) (hn : n = w.heap.size) : ∀ j u, [x, y][j]? = some u → (w.alloc (.cells #[x, y] t)).cell? ((⟨n, 0, none⟩ : Addr).add j) = some u := by
  subst hn
  intro j u hj
  match j, hj with
  | 0, hj => simp at hj; subst hj; simp [Addr.add, go_sem]
  | 1, hj => simp at hj; subst hj; simp [Addr.add, go_sem]
theorem rdi_row {w : World} {B n : Nat} {v : Value} {ws : List Int} (hn : ws.length = n) (h : w.ownsRow B 3 1 v n (i64s ws)) : ∃ a cap, v = .slice a n cap ∧ RdI w a ws := by
  subst hn
  rcases h.2 with ⟨h0, h1⟩ | ⟨r, cap, cur, hv, _⟩
  · have : ws = [] := List.length_eq_zero_iff.1 h1
    subst this
    exact ⟨none, 0, h0, fun i hi => by cases hi⟩
  · subst hv
    refine ⟨_, cap, rfl, fun i hi => ⟨r, 0, rfl, ?_⟩⟩
    rw [Nat.zero_add, h.cellAt i (by omega)]
    simp [i64s, hi]
theorem rdf_row {w : World} {B n : Nat} {v : Value} {fs : List (Nat × Int)} (hn : fs.length = n) (hf : ∀ f ∈ fs, f.1 < 18446744073709551616) (h : w.ownsRow B 35 2 v n (fls fs)) : ∃ a cap, v = .slice a n cap ∧ RdF w a fs := by
  subst hn
  rcases h.2 with ⟨h0, h1⟩ | ⟨r, cap, cur, hv, _⟩
  · have : fs = [] := List.length_eq_zero_iff.1 h1
    subst this
    exact ⟨none, 0, h0, fun i hi => by cases hi⟩
  · subst hv
    refine ⟨_, cap, rfl, fun i hi => ⟨r, 0, rfl, ?_, ?_, hf _ (by simp [hi])⟩⟩
    · rw [Nat.zero_add, h.cellAt (i * 2) (by omega)]; exact (fls_get fs i hi).1
    · rw [Nat.zero_add, h.cellAt (i * 2 + 1) (by omega)]; exact (fls_get fs i hi).2
theorem rdu_row {w : World} {B e n cap : Nat} {a : Option Addr} {l : List Nat} (hn : l.length = n) (h : w.ownsRow B e 1 (.slice a n cap) n (u64s l)) : RdU w a l := by
  subst hn
  obtain ⟨a', cap', e', hr⟩ := rdu_of_row h
  obtain ⟨rfl, -⟩ : a = a' ∧ cap = cap' := by simpa using e'
  exact hr
theorem spell {w : World} {B e k n : Nat} {v : Value} {xs : List Value} (h : w.ownsRow B e k v n xs) : ∃ a cap, v = .slice a n cap := by
  rcases h.2 with ⟨h0, h1⟩ | ⟨r, cap, cur, hv, _⟩
  · exact ⟨none, 0, by rw [h0, h1]⟩
  · exact ⟨_, cap, hv⟩
theorem row_later {w w' : World} {B e k n : Nat} {v : Value} {xs : List Value} (h : w.ownsRow B e k v n xs) (hb : Below w.heap.size w w') : w'.ownsRow B e k v n xs := (Kept.ofBelow (F := fun _ => False) hb).row h (fun _ _ h => h)

/- From here on: what is unpacked was packed so. -/
set_option maxHeartbeats 4000000 in
set_option maxRecDepth 100000 in
theorem walk (a : Option Addr) (c : Nat) (fs : List (Nat × Int)) (s : ByteArray) (a' : Option Addr) (c' : Nat) (ws : List Int) (w : World) (h1 : RdF w a fs) (h2 : fs.length ≤ 1048576) (h3 : s.size ≤ 1048576) (h4 : RdI w a' ws) (h5 : ws.length ≤ 1048576) (h6 : a' = none → c' = 0) :
    Calls Try.prog 4 #[.slice a fs.length c, .string s, .slice a' ws.length c'] w fun e w' => e = .returned (.bool true) ∧ Below w.heap.size w w' := by
  have H1 : Hid (RdF w a fs) := h1
  have H4 : Hid (RdI w a' ws) := h4
  obtain ⟨n, hn⟩ : ∃ n, fs.length = n := ⟨_, rfl⟩
  obtain ⟨m, hm⟩ : ∃ m, ws.length = m := ⟨_, rfl⟩
  obtain ⟨T, hT⟩ : ∃ T, tb (bys s) = T := ⟨_, rfl⟩
  have HN : Hid (fs.length = n) := hn
  have HM : Hid (ws.length = m) := hm
  have HT : Hid (tb (bys s) = T) := hT
  rw [hn] at h2 ⊢
  rw [hm] at h5 ⊢
  clear h1 h4 h6 hn hm hT
  go_enter Try.func4, Try.ntmps4
  go_wp2_with fail
  refine (lives_any _).mono ?_
  rintro e w1 ⟨rfl, hb⟩
  have HB1 : Hid (Below w.heap.size w w1) := hb
  clear hb
  have hp1 := pack_any a c n fs HN.out w1 (by omega) (H1.out.later HB1.out)
  cases hall : fs.all okF with
  | false =>
    have e1 : pkS fs = tx [] := by unfold pkS; rw [hall]; rfl
    have e2 : pkE fs = 6 := by unfold pkE; rw [hall]; rfl
    rw [e1, e2] at hp1
    clear hall e1 e2
    go_wp2_with fail
    refine hp1.mono ?_
    rintro e wb ⟨rfl, hb⟩
    have HBb : Hid (Below w.heap.size w wb) := Below.then HB1.out hb
    clear hb hp1
    have hp2 := unpack_any a' c' m ws T s HM.out HT.out wb (by omega) (by omega) (H4.out.later HBb.out)
    obtain ⟨L, hL⟩ : ∃ L, unL T ws = L := ⟨_, rfl⟩
    obtain ⟨E, hE⟩ : ∃ E, unE T ws = E := ⟨_, rfl⟩
    obtain ⟨r, hr⟩ : ∃ r, L.length = r := ⟨_, rfl⟩
    rw [hL, hE, hr] at hp2
    have HLE : Hid (unL T ws = L ∧ unE T ws = E ∧ L.length = r) := ⟨hL, hE, hr⟩
    clear hL hE hr
    go_wp2_with fail
    refine hp2.mono ?_
    rintro e wc ⟨v, rfl, hrow, hbc⟩
    obtain ⟨aL, cL, rfl⟩ := spell hrow
    have HRL : Hid (wc.ownsRow (wb.heap.size + 1) 33 1 (.slice aL r cL) r (u64s L)) := hrow
    have HBc : Hid (Below w.heap.size w wc) := Below.then HBb.out hbc
    clear hp2 hrow hbc
    by_cases hE0 : E = 0
    · subst hE0
      obtain ⟨z1, z2, z3⟩ := un_back s ws (by rw [HT.out]; exact HLE.out.2.1)
      rw [HT.out, HLE.out.1] at z1 z2 z3
      have hrm : r = m := by rw [← HLE.out.2.2, z1, HM.out]
      subst hrm
      have HZ : Hid ((∀ f ∈ L.zip ws, okF f = true ∧ f.1 < 18446744073709551616) ∧ tx (pk (bitsF (L.zip ws))) = s) := ⟨z2, z3⟩
      have HZL : Hid ((L.zip ws).length = r) := by unfold Hid; rw [List.length_zip, HLE.out.2.2, HM.out]; omega
      clear z1 z2 z3
      obtain ⟨if0, hif, hf0, hf1, hf2⟩ := info_parts infoField
      go_wp2_with fail
      go_loopw [16, 86] (fun x i wr => ∃ k : Nat, k ≤ r ∧ i = .int .i64 (k : Int) ∧ Below wc.heap.size wc wr ∧ wr.ownsRow wc.heap.size 35 2 x k (fls ((L.zip ws).take k))) (fun _ i _ => r - (intOf i).toNat)
      case atStart => exact ⟨0, by omega, rfl, Below.refl _ _, World.ownsRow_nil _ _ _ _⟩
      case round =>
        obtain ⟨k, hk, rfl, hb, hrow⟩ := hrel
        have HBr : Hid (Below wc.heap.size wc wr) := hb
        have HRr : Hid (wr.ownsRow wc.heap.size 35 2 u16 k (fls ((L.zip ws).take k))) := hrow
        clear hrow
        by_cases hkn : k < r
        · obtain ⟨b1, o1, e1, c1⟩ := ((H4.out.later HBc.out).later hb) k (by rw [HM.out]; exact hkn)
          subst e1
          obtain ⟨b2, o2, e2, c2⟩ := ((rdu_row HLE.out.2.2 HRL.out).later hb) k (by rw [HLE.out.2.2]; exact hkn)
          subst e2
          have HS : Hid ((L.zip ws).take (k + 1) = (L.zip ws).take k ++ [(L.getD k 0, ws.getD k 0)]) := by
            have := take_snoc (L.zip ws) k (0, 0) (by rw [HZL.out]; exact hkn)
            unfold Hid
            rw [this]
            have h1 : k < L.length := by rw [HLE.out.2.2]; exact hkn
            have h2 : k < ws.length := by rw [HM.out]; exact hkn
            have h3 : k < (L.zip ws).length := by rw [HZL.out]; exact hkn
            have e4 : (L.zip ws).getD k (0, 0) = (L.getD k 0, ws.getD k 0) := by
              simp only [List.getD_eq_getElem?_getD, List.getElem?_eq_getElem h1, List.getElem?_eq_getElem h2, List.getElem?_eq_getElem h3, Option.getD_some, List.getElem_zip]
            rw [e4]
          obtain ⟨y, hy⟩ : ∃ y, L.getD k 0 = y := ⟨_, rfl⟩
          obtain ⟨d, hd⟩ : ∃ d, ws.getD k 0 = d := ⟨_, rfl⟩
          rw [hy] at c2 HS
          rw [hd] at c1 HS
          clear hy hd hb
          have i1 : (0 : Int) ≤ (k : Int) := by omega
          have i2 : (k : Int) < (r : Int) := by omega
          have hsz := HBr.out.size
          go_wp2_with (at_builtin; refine wpList_append_lies _ rfl _ _ _ rfl wc.heap.size 35 if0 _ 2 16 Try.underlying22 hif hf0 hf1 hf2 rfl (by omega) _ k _ rfl (HRr.out.alloc _) ⟨wr.heap.size, 0, none⟩ 1 1 [.int .u64 (y : Int), .int .i64 d] rfl rfl (cell_two_at _ _ _ _ _ rfl) (by simp [Value.oneCell']) (by omega) (by unfold maxLen; omega) (by omega) (by simp; omega) (wr.heap.size + 1) (by simp) ?_; intro g3 cap3 w3 hown3 hgrow3 hat3 hlt3; have HG3 : Hid ((wr.alloc (.cells #[.int .u64 (y : Int), .int .i64 d] 35)).grownBy w3 u16.ownBlock) := hgrow3; have HO3 : Hid (w3.ownsRow wc.heap.size 35 2 (.slice (some ⟨g3, 0, none⟩) (k + 1) cap3) (k + 1) (fls ((L.zip ws).take k) ++ [.int .u64 (y : Int), .int .i64 d])) := hown3; clear hown3 hgrow3 hat3 hlt3)
          go_roundw
          case rel =>
            refine ⟨k + 1, by omega, by go_num, Below.grown (Below.more HBr.out _) HG3.out (by simp; omega) (fun j hj => (HRr.out.lt j hj).1), ?_⟩
            rw [HS.out, fls_snoc]
            exact HO3.out
          case measure => simp [intOf]; omega
        · have hkn' : decide ((k : Int) < (r : Int)) = false := by simp; omega
          obtain rfl : k = r := by omega
          have e : (L.zip ws).take k = L.zip ws := List.take_of_length_le (by rw [HZL.out]; exact Nat.le_refl _)
          rw [e] at HRr
          obtain ⟨a16, c16, rfl, hrd⟩ := rdf_row HZL.out (fun f hf => (HZ.out.1 f hf).2) HRr.out
          have hpp := pack_any a16 c16 k (L.zip ws) HZL.out wr (by omega) hrd
          have hall : (L.zip ws).all okF = true := by rw [List.all_eq_true]; intro f hf; exact (HZ.out.1 f hf).1
          have e2 : pkS (L.zip ws) = s := by unfold pkS; rw [if_pos hall]; exact HZ.out.2
          have e3 : pkE (L.zip ws) = 0 := by unfold pkE; rw [if_pos hall]
          rw [e2, e3] at hpp
          clear hb e hrd hall e2 e3
          go_wp2_with fail
          refine hpp.mono ?_
          rintro e wd ⟨rfl, hbd⟩
          have HBd : Hid (Below w.heap.size w wd) := Below.then (Below.then HBc.out HBr.out) hbd
          clear hpp hbd
          go_wp2_with fail
          go_ret
          exact ⟨ret_bool (by simp), HBd.out⟩
    · have hE6 : E = 6 := by
        have h := HLE.out.2.1
        unfold unE at h
        split at h <;> omega
      subst hE6
      have hr0 : r = 0 := by
        have h := HLE.out.2.1
        have h2 := HLE.out.1
        have h3 := HLE.out.2.2
        unfold unE at h
        unfold unL at h2
        cases hu : un T ws with
        | none =>
          rw [hu] at h2
          have h4 : L = [] := h2.symm
          rw [← h3, h4]; rfl
        | some x => rw [hu] at h; simp at h
      subst hr0
      go_wp2_with fail
      go_ret
      exact ⟨ret_bool (by simp), HBc.out⟩
  | true =>
    have HAL : Hid (∀ f ∈ fs, okF f = true) := by unfold Hid; rw [List.all_eq_true] at hall; exact hall
    have e1 : pkS fs = tx (pk (bitsF fs)) := by unfold pkS; rw [hall]; rfl
    have e2 : pkE fs = 0 := by unfold pkE; rw [hall]; rfl
    have HUP := un_pack fs HAL.out
    have HUM := un_more fs HAL.out
    have hpsz : (tx (pk (bitsF fs))).size ≤ 8388609 := by
      rw [tx_size, pk_length]
      have := bitsF_le fs HAL.out
      rw [HN.out] at this
      omega
    obtain ⟨S, hS⟩ : ∃ S, tx (pk (bitsF fs)) = S := ⟨_, rfl⟩
    rw [hS] at e1 HUP HUM hpsz
    rw [e1, e2] at hp1
    have HUPM : Hid _ := And.intro HUP HUM
    clear hall e1 e2 hS HUP HUM
    obtain ⟨ii, hii, hi0, hi1, hi2⟩ := info_parts infoInt
    obtain ⟨iu, hiu, hu0, hu1, hu2⟩ := info_parts info64
    go_wp2_with fail
    refine hp1.mono ?_
    rintro e w2 ⟨rfl, hb⟩
    have HB2 : Hid (Below w.heap.size w w2) := Below.then HB1.out hb
    clear hb hp1
    go_wp2_with fail
    go_loopw [9, 10, 30] (fun x y i wr => ∃ k : Nat, k ≤ n ∧ i = .int .i64 (k : Int) ∧ Below w2.heap.size w2 wr ∧ wr.ownsRow w2.heap.size 3 1 x k (i64s ((fs.take k).map (·.2))) ∧ wr.ownsRow w2.heap.size 33 1 y k (u64s ((fs.take k).map (·.1))) ∧ (∀ j, x.ownBlock = some j → y.ownBlock ≠ some j)) (fun _ _ i _ => n - (intOf i).toNat)
    case atStart => exact ⟨0, by omega, rfl, Below.refl _ _, World.ownsRow_nil _ _ _ _, World.ownsRow_nil _ _ _ _, by simp [Value.ownBlock]⟩
    case round =>
      obtain ⟨k, hk, rfl, hb, hr1, hr2, hfar⟩ := hrel
      have HBr : Hid (Below w2.heap.size w2 wr) := hb
      have HR1 : Hid (wr.ownsRow w2.heap.size 3 1 u9 k (i64s ((fs.take k).map (·.2)))) := hr1
      have HR2 : Hid (wr.ownsRow w2.heap.size 33 1 u10 k (u64s ((fs.take k).map (·.1)))) := hr2
      have HFAR : Hid (∀ j, u9.ownBlock = some j → u10.ownBlock ≠ some j) := hfar
      clear hr1 hr2 hfar
      by_cases hkn : k < n
      · obtain ⟨b1, o1, e1, c0, c1, hv64⟩ := ((H1.out.later HB2.out).later hb) k (by rw [HN.out]; exact hkn)
        subst e1
        have HS : Hid (fs.take (k + 1) = fs.take k ++ [fs.getD k (0, 0)]) := take_snoc fs k (0, 0) (by rw [HN.out]; exact hkn)
        obtain ⟨v, d, evd⟩ : ∃ v d, fs.getD k (0, 0) = (v, d) := ⟨_, _, rfl⟩
        rw [evd] at c0 c1 hv64 HS
        clear evd hb
        have i1 : (0 : Int) ≤ (k : Int) := by omega
        have i2 : (k : Int) < (n : Int) := by omega
        have hsz := HBr.out.size
        go_wp2_with (first
          | (at_builtin; refine wpList_append_lies _ rfl _ _ _ rfl w2.heap.size 3 ii _ 1 8 Try.underlying23 hii hi0 hi1 hi2 rfl (by omega) _ k _ rfl ((HR1.out.alloc _).alloc _) ⟨wr.heap.size + 1, 0, none⟩ 1 1 [.int .i64 d] rfl rfl (cell_one_at _ _ _ _ (by simp)) (by simp [Value.oneCell']) (by omega) (by unfold maxLen; omega) (by omega) (by simp; omega) (wr.heap.size + 2) (by simp) ?_; intro g3 cap3 w3 hown3 hgrow3 hat3 hlt3; have d0 : w3.cell? ⟨wr.heap.size, 0, none⟩ = some (.int .u64 (v : Int)) := hgrow3.cell (by simp [go_sem]) (fun e => by have h := (HR1.out.lt _ e.symm).2; simp at h); have HG3 : Hid (((wr.alloc (.cells #[.int .u64 (v : Int), .int .i64 d] 35)).alloc (.cells #[.int .i64 d] 3)).grownBy w3 u9.ownBlock) := hgrow3; have HO3 : Hid (w3.ownsRow w2.heap.size 3 1 (.slice (some ⟨g3, 0, none⟩) (k + 1) cap3) (k + 1) (i64s ((fs.take k).map (·.2)) ++ [.int .i64 d])) := hown3; have HA3 : Hid (u9.ownBlock = some g3 ∨ g3 = wr.heap.size + 2) := hat3; have HR3 : Hid (w3.ownsRow w2.heap.size 33 1 u10 k (u64s ((fs.take k).map (·.1)))) := ((HR2.out.alloc _).alloc _).kept hgrow3 (by rcases hh : u10.ownBlock with _ | j; exact .inl rfl; exact .inr (fun e => HFAR.out j e.symm hh)); have hs3 : wr.heap.size + 2 ≤ w3.heap.size := (by have := hgrow3.size; simpa using this); clear hown3 hgrow3 hat3 hlt3)
          | (at_builtin; refine wpList_append_lies _ rfl _ _ _ rfl w2.heap.size 33 iu _ 1 8 Try.underlying28 hiu hu0 hu1 hu2 rfl (by omega) _ k _ rfl (HR3.out.alloc _) ⟨w3.heap.size, 0, none⟩ 1 1 [.int .u64 (v : Int)] rfl rfl (cell_one_at _ _ _ _ rfl) (by simp [Value.oneCell']) (by omega) (by unfold maxLen; omega) (by omega) (by simp; omega) (w3.heap.size + 1) (by simp) ?_; intro g4 cap4 w4 hown4 hgrow4 hat4 hlt4; have HG4 : Hid ((w3.alloc (.cells #[.int .u64 (v : Int)] 33)).grownBy w4 u10.ownBlock) := hgrow4; have HO4 : Hid (w4.ownsRow w2.heap.size 33 1 (.slice (some ⟨g4, 0, none⟩) (k + 1) cap4) (k + 1) (u64s ((fs.take k).map (·.1)) ++ [.int .u64 (v : Int)])) := hown4; have HA4 : Hid (u10.ownBlock = some g4 ∨ g4 = w3.heap.size + 1) := hat4; clear hown4 hgrow4 hat4 hlt4)
          | fail)
        go_roundw
        case rel =>
          have hg3l : g3 < w3.heap.size := (HO3.out.lt g3 rfl).2
          have hne : u10.ownBlock ≠ some g3 := by
            intro e
            rcases HA3.out with h | h
            · exact HFAR.out g3 h e
            · have := (HR2.out.lt g3 e).2; omega
          refine ⟨k + 1, by omega, by go_num, ?_, ?_, ?_, ?_⟩
          · have b3 : Below w2.heap.size w2 w3 := Below.grown (Below.more (Below.more HBr.out _) _) HG3.out (by simp; omega) (fun j hj => (HR1.out.lt j hj).1)
            exact Below.grown (Below.more b3 _) HG4.out (by simp; omega) (fun j hj => (HR2.out.lt j hj).1)
          · rw [HS.out, List.map_append, List.map_cons, List.map_nil, i64s_snoc]
            exact (HO3.out.alloc _).kept HG4.out (.inr (fun e => hne e.symm))
          · rw [HS.out, List.map_append, List.map_cons, List.map_nil, u64s_snoc]
            exact HO4.out
          · intro j hj e
            cases hj
            have e' : some g4 = some g3 := e
            simp at e'
            rcases HA4.out with h | h
            · exact hne (by rw [h, e'])
            · omega
        case measure => simp [intOf]; omega
      · have hkn' : decide ((k : Int) < (n : Int)) = false := by simp; omega
        obtain rfl : k = n := by omega
        have e : fs.take k = fs := List.take_of_length_le (by rw [HN.out]; exact Nat.le_refl _)
        rw [e] at HR1 HR2
        obtain ⟨a9, c9, rfl, hrd9⟩ := rdi_row (by simp [HN.out]) HR1.out
        obtain ⟨a10, c10, rfl⟩ := spell HR2.out
        have HD9 : Hid (RdI wr a9 (fs.map (·.2))) := hrd9
        have HBx : Hid (Below w.heap.size w wr) := Below.then HB2.out HBr.out
        have hpu := unpack_any a9 c9 k (fs.map (·.2)) _ S (by simp [HN.out]) rfl wr (by omega) (by omega) hrd9
        rw [HUPM.out.1.1, HUPM.out.1.2] at hpu
        have HVL : Hid ((fs.map (·.1)).length = k) := by unfold Hid; simp [HN.out]
        rw [HVL.out] at hpu
        clear hb e hrd9
        go_wp2_with fail
        refine hpu.mono ?_
        rintro e w5 ⟨v, rfl, hrow, hb5⟩
        obtain ⟨a13, c13, rfl⟩ := spell hrow
        have HR13 : Hid (w5.ownsRow (wr.heap.size + 1) 33 1 (.slice a13 k c13) k (u64s (fs.map (·.1)))) := hrow
        have HR10 : Hid (w5.ownsRow w2.heap.size 33 1 (.slice a10 k c10) k (u64s (fs.map (·.1)))) := row_later HR2.out hb5
        have HD9' : Hid (RdI w5 a9 (fs.map (·.2))) := HD9.out.later hb5
        have HB5 : Hid (Below w.heap.size w w5) := Below.then HBx.out hb5
        clear hpu hrow hb5
        go_wp2_with fail
        refine (same_any _ _ _ _ k _ HVL.out w5 (by omega) (rdu_row HVL.out HR13.out) (rdu_row HVL.out HR10.out)).mono ?_
        rintro e w6 ⟨rfl, hb6⟩
        have HB6 : Hid (Below w.heap.size w w6) := Below.then HB5.out hb6
        have HD6 : Hid (RdI w6 a9 (fs.map (·.2))) := HD9'.out.later hb6
        clear hb6
        have hs1 : (S ++ (⟨#[0]⟩ : ByteArray)).size < 1099511627776 := by
          rw [ByteArray.size_append]
          have : (⟨#[0]⟩ : ByteArray).size = 1 := rfl
          omega
        have hpu := unpack_any a9 c9 k (fs.map (·.2)) _ (S ++ ⟨#[0]⟩) (by simp [HN.out]) rfl w6 (by omega) hs1 HD6.out
        rw [HUPM.out.2.1, HUPM.out.2.2] at hpu
        clear hs1
        go_wp2_with fail
        refine hpu.mono ?_
        rintro e wb ⟨v, rfl, hrow, hb7⟩
        obtain ⟨a59, c59, rfl⟩ := spell hrow
        have HBb : Hid (Below w.heap.size w wb) := Below.then HB6.out hb7
        clear hpu hrow hb7
        have hp2 := unpack_any a' c' m ws T s HM.out HT.out wb (by omega) (by omega) (H4.out.later HBb.out)
        obtain ⟨L, hL⟩ : ∃ L, unL T ws = L := ⟨_, rfl⟩
        obtain ⟨E, hE⟩ : ∃ E, unE T ws = E := ⟨_, rfl⟩
        obtain ⟨r, hr⟩ : ∃ r, L.length = r := ⟨_, rfl⟩
        rw [hL, hE, hr] at hp2
        have HLE : Hid (unL T ws = L ∧ unE T ws = E ∧ L.length = r) := ⟨hL, hE, hr⟩
        clear hL hE hr
        go_wp2_with fail
        refine hp2.mono ?_
        rintro e wc ⟨v, rfl, hrow, hbc⟩
        obtain ⟨aL, cL, rfl⟩ := spell hrow
        have HRL : Hid (wc.ownsRow (wb.heap.size + 1) 33 1 (.slice aL r cL) r (u64s L)) := hrow
        have HBc : Hid (Below w.heap.size w wc) := Below.then HBb.out hbc
        clear hp2 hrow hbc
        by_cases hE0 : E = 0
        · subst hE0
          obtain ⟨z1, z2, z3⟩ := un_back s ws (by rw [HT.out]; exact HLE.out.2.1)
          rw [HT.out, HLE.out.1] at z1 z2 z3
          have hrm : r = m := by rw [← HLE.out.2.2, z1, HM.out]
          subst hrm
          have HZ : Hid ((∀ f ∈ L.zip ws, okF f = true ∧ f.1 < 18446744073709551616) ∧ tx (pk (bitsF (L.zip ws))) = s) := ⟨z2, z3⟩
          have HZL : Hid ((L.zip ws).length = r) := by unfold Hid; rw [List.length_zip, HLE.out.2.2, HM.out]; omega
          clear z1 z2 z3
          obtain ⟨if0, hif, hf0, hf1, hf2⟩ := info_parts infoField
          go_wp2_with fail
          go_loopw [16, 86] (fun x i wr => ∃ k : Nat, k ≤ r ∧ i = .int .i64 (k : Int) ∧ Below wc.heap.size wc wr ∧ wr.ownsRow wc.heap.size 35 2 x k (fls ((L.zip ws).take k))) (fun _ i _ => r - (intOf i).toNat)
          case atStart => exact ⟨0, by omega, rfl, Below.refl _ _, World.ownsRow_nil _ _ _ _⟩
          case round =>
            obtain ⟨k, hk, rfl, hb, hrow⟩ := hrel
            have HBr : Hid (Below wc.heap.size wc wr) := hb
            have HRr : Hid (wr.ownsRow wc.heap.size 35 2 u16 k (fls ((L.zip ws).take k))) := hrow
            clear hrow
            by_cases hkn : k < r
            · obtain ⟨b1, o1, e1, c1⟩ := ((H4.out.later HBc.out).later hb) k (by rw [HM.out]; exact hkn)
              subst e1
              obtain ⟨b2, o2, e2, c2⟩ := ((rdu_row HLE.out.2.2 HRL.out).later hb) k (by rw [HLE.out.2.2]; exact hkn)
              subst e2
              have HS : Hid ((L.zip ws).take (k + 1) = (L.zip ws).take k ++ [(L.getD k 0, ws.getD k 0)]) := by
                have := take_snoc (L.zip ws) k (0, 0) (by rw [HZL.out]; exact hkn)
                unfold Hid
                rw [this]
                have h1 : k < L.length := by rw [HLE.out.2.2]; exact hkn
                have h2 : k < ws.length := by rw [HM.out]; exact hkn
                have h3 : k < (L.zip ws).length := by rw [HZL.out]; exact hkn
                have e4 : (L.zip ws).getD k (0, 0) = (L.getD k 0, ws.getD k 0) := by
                  simp only [List.getD_eq_getElem?_getD, List.getElem?_eq_getElem h1, List.getElem?_eq_getElem h2, List.getElem?_eq_getElem h3, Option.getD_some, List.getElem_zip]
                rw [e4]
              obtain ⟨y, hy⟩ : ∃ y, L.getD k 0 = y := ⟨_, rfl⟩
              obtain ⟨d, hd⟩ : ∃ d, ws.getD k 0 = d := ⟨_, rfl⟩
              rw [hy] at c2 HS
              rw [hd] at c1 HS
              clear hy hd hb
              have i1 : (0 : Int) ≤ (k : Int) := by omega
              have i2 : (k : Int) < (r : Int) := by omega
              have hsz := HBr.out.size
              go_wp2_with (at_builtin; refine wpList_append_lies _ rfl _ _ _ rfl wc.heap.size 35 if0 _ 2 16 Try.underlying22 hif hf0 hf1 hf2 rfl (by omega) _ k _ rfl (HRr.out.alloc _) ⟨wr.heap.size, 0, none⟩ 1 1 [.int .u64 (y : Int), .int .i64 d] rfl rfl (cell_two_at _ _ _ _ _ rfl) (by simp [Value.oneCell']) (by omega) (by unfold maxLen; omega) (by omega) (by simp; omega) (wr.heap.size + 1) (by simp) ?_; intro g3 cap3 w3 hown3 hgrow3 hat3 hlt3; have HG3 : Hid ((wr.alloc (.cells #[.int .u64 (y : Int), .int .i64 d] 35)).grownBy w3 u16.ownBlock) := hgrow3; have HO3 : Hid (w3.ownsRow wc.heap.size 35 2 (.slice (some ⟨g3, 0, none⟩) (k + 1) cap3) (k + 1) (fls ((L.zip ws).take k) ++ [.int .u64 (y : Int), .int .i64 d])) := hown3; clear hown3 hgrow3 hat3 hlt3)
              go_roundw
              case rel =>
                refine ⟨k + 1, by omega, by go_num, Below.grown (Below.more HBr.out _) HG3.out (by simp; omega) (fun j hj => (HRr.out.lt j hj).1), ?_⟩
                rw [HS.out, fls_snoc]
                exact HO3.out
              case measure => simp [intOf]; omega
            · have hkn' : decide ((k : Int) < (r : Int)) = false := by simp; omega
              obtain rfl : k = r := by omega
              have e : (L.zip ws).take k = L.zip ws := List.take_of_length_le (by rw [HZL.out]; exact Nat.le_refl _)
              rw [e] at HRr
              obtain ⟨a16, c16, rfl, hrd⟩ := rdf_row HZL.out (fun f hf => (HZ.out.1 f hf).2) HRr.out
              have hpp := pack_any a16 c16 k (L.zip ws) HZL.out wr (by omega) hrd
              have hall : (L.zip ws).all okF = true := by rw [List.all_eq_true]; intro f hf; exact (HZ.out.1 f hf).1
              have e2 : pkS (L.zip ws) = s := by unfold pkS; rw [if_pos hall]; exact HZ.out.2
              have e3 : pkE (L.zip ws) = 0 := by unfold pkE; rw [if_pos hall]
              rw [e2, e3] at hpp
              clear hb e hrd hall e2 e3
              go_wp2_with fail
              refine hpp.mono ?_
              rintro e wd ⟨rfl, hbd⟩
              have HBd : Hid (Below w.heap.size w wd) := Below.then (Below.then HBc.out HBr.out) hbd
              clear hpp hbd
              go_wp2_with fail
              go_ret
              exact ⟨ret_bool (by simp), HBd.out⟩
        · have hE6 : E = 6 := by
            have h := HLE.out.2.1
            unfold unE at h
            split at h <;> omega
          subst hE6
          have hr0 : r = 0 := by
            have h := HLE.out.2.1
            have h2 := HLE.out.1
            have h3 := HLE.out.2.2
            unfold unE at h
            unfold unL at h2
            cases hu : un T ws with
            | none =>
              rw [hu] at h2
              have h4 : L = [] := h2.symm
              rw [← h3, h4]; rfl
            | some x => rw [hu] at h; simp at h
          subst hr0
          go_wp2_with fail
          go_ret
          exact ⟨ret_bool (by simp), HBc.out⟩
theorem own : ownKnob Try.prog.godebug = none := by kernel_rfl
theorem laidOut : laidOutB Try.prog = true := by kernel_rfl
theorem contract (H : Type) (enc : TypeId × Value → H) (W : World) (base : Nat) (args : Array Value) (ds gs : List (DataW H)) (before : List MemPlace)
    (hval : ∀ (j : Nat) t v, Try.f4.params[j]? = some t → args[j]? = some v → Value.okWide Try.prog W .any base t v)
    (hW : DataW.Whole enc Try.prog Try.f4.params.toList Rows.bitsBackSpec.vars false W args.toList ds gs before) (hk : Rows.uptoSmall H (ds ++ gs) = true) :
    Calls Try.prog 4 args W fun e W' => ∃ v, e = .returned v ∧ Rows.bitsBackSpec.post enc Try.prog Try.f4 false true false false W args v W' := by
  have hW' := hW
  obtain ⟨p, q, hA0, hV, rfl, hfz, hnd⟩ := hW
  have hA : DataW.TrodAll enc Try.prog W 0 (fun _ => true) true Try.f4.params.toList args.toList ds p := hA0
  rw [Try.params4] at hA hval
  obtain ⟨v0, vs0, d0, ds0, p0, q0, hargs, rfl, rfl, h0, r0⟩ := trodAll_cons hA
  obtain ⟨v1, vs1, d1, ds1, p1, q1, rfl, rfl, rfl, h1, r1⟩ := trodAll_cons r0
  obtain ⟨v2, vs2, d2, ds2, p2, q2, rfl, rfl, rfl, h2, r2⟩ := trodAll_cons r1
  obtain ⟨rfl, rfl, rfl⟩ := trodAll_nil r2
  obtain rfl : args = #[v0, v1, v2] := by cases args; simp_all
  obtain ⟨rfl, rfl⟩ := trodVars_none hV
  have hk2 : Rows.uptoSmall H [d0, d1, d2] = true := by simpa using hk
  have hb : Rows.uptoBulkAll [d0, d1, d2] ≤ 1048576 := of_decide_eq_true hk2
  simp only [Rows.uptoBulkAll] at hb
  have k0 := h0
  have lt0 : ∀ x ∈ p0, x.block < W.heap.size := by obtain ⟨m, hm⟩ := k0; exact DataW.trod_lt m _ _ _ hm
  obtain ⟨a0, c0, l0, rfl, rd0, hl0⟩ := fields_of (by omega) (okWide_slice Try.underlying22 (hval 0 22 v0 rfl rfl)) h0
  have k1 := h1
  have lt1 : ∀ x ∈ p1, x.block < W.heap.size := by obtain ⟨m, hm⟩ := k1; exact DataW.trod_lt m _ _ _ hm
  obtain ⟨s1, rfl, rfl, rfl, hs1⟩ := Go.ChangeMaps.open_string Try.underlying9 (hval 1 9 v1 rfl rfl) h1
  have hl1 := bulk_text (H := H) (s := s1) (by omega)
  have k2 := h2
  have lt2 : ∀ x ∈ p2, x.block < W.heap.size := by obtain ⟨m, hm⟩ := k2; exact DataW.trod_lt m _ _ _ hm
  obtain ⟨a2, c2, l2, rfl, rd2, hl2, hc2⟩ := ints_of (by omega) (okWide_slice Try.underlying23 (hval 2 23 v2 rfl rfl)) h2
  clear hA0
  refine (walk a0 c0 l0 s1 a2 c2 l2 W rd0 hl0 hl1 rd2 hl2 hc2).mono fun e W' ⟨he, bel⟩ => ?_
  subst he
  exact ⟨_, rfl, _, _, _, [], _, [], hW', trodAll_mk1 (shut_bool Try.underlying4 _), (trodAll_cons_mk (Below.trod laidOut (by kernel_rfl) (of_decide_eq_true (by kernel_rfl)) k0 bel lt0) (trodAll_cons_mk (Below.trod laidOut (by kernel_rfl) (of_decide_eq_true (by kernel_rfl)) k1 bel lt1) (trodAll_cons_mk (Below.trod laidOut (by kernel_rfl) (of_decide_eq_true (by kernel_rfl)) k2 bel lt2) trodAll_mk0))), rfl, bel.frame _, fun h => by cases h⟩
set_option maxRecDepth 100000 in
theorem lifted (os : Os) (started : os.Started) (H : Type) (enc : TypeId × Value → H) (F : Stop.Interp) :
    ReturnsInHanded {} Try.checked os 4 .any ((Rows.OpenSpec.upto Rows.bitsBackSpec).pre6 enc Try.prog Try.f4 Rows.bitsBackUptoRow.domain false) (((Rows.OpenSpec.upto Rows.bitsBackSpec).at F).post enc Try.prog Try.f4 false true false false) := by
  refine returnsInHanded_of_cond (C := Try.checked) (s := Rows.OpenSpec.upto Rows.bitsBackSpec) (k := Rows.uptoSmall) rfl own started (by kernel_rfl) Try.func4
    (OpenSpec.witness (enc := enc) (C := Try.checked) (s := Rows.OpenSpec.upto Rows.bitsBackSpec) (k := Rows.uptoSmall) rfl false ⟨#[], #[.slice none 0 0, .string ⟨#[]⟩, .slice none 0 0], []⟩ 8 (by kernel_rfl) (by kernel_rfl) (by kernel_rfl)
      (x := ([.nil, .lit (.string []), .nil], [], [])) (by kernel_rfl) rfl (by kernel_rfl)) ?_
  intro W base args ds gs before hval hW _ hk _
  exact contract H enc W base args ds gs before hval hW hk
theorem over : Rows.bitsBackUptoRow.holds Try.pinned (Rows.OpenSpec.upto Rows.bitsBackSpec) :=
  OpenClaim.holds_of_cond 4 Try.f4 rfl rfl rfl rfl rfl rfl rfl ⟨rfl, rfl, rfl, rfl, rfl⟩ rfl rfl rfl rfl rfl (by kernel_rfl) Try.func4 (by kernel_rfl)
    (of_decide_eq_true (by kernel_rfl)) (by unfold Func.isWrapper; first | (rw [if_pos (by decide +kernel)]; kernel_rfl) | (rw [if_neg (by decide +kernel)]; exact ⟨rfl, rfl⟩))
    (fun os started H enc _ F => lifted os started H enc F)
end Go.Proofs.Ytpofjkjcbflloaa.bitsBack
namespace Go.Proofs.Ytpofjkjcbflloaa
theorem bitsBack_holds : Rows.BitsBackUptoSaid := bitsBack.over
#print axioms bitsBack_holds
end Go.Proofs.Ytpofjkjcbflloaa
