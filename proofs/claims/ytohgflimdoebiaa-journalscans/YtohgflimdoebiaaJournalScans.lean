/- For every list of texts: Scan answers as the document's; the texts stay; the payloads are new memory. No conditions. -/
import Derived.Test.YtohgflimdoebiaaRows
import Derived.Test.YtohgflimdoebiaaJnL
import Derived.Test.YtohgflimdoebiaaOpenDk
import Derived.Laws.AppendOwnNone
import Derived.Laws.OwnMore
import Derived.OpenShut
import Derived.SizedLaws
import Derived.ChangeMaps5
namespace Go.Proofs.Ytohgflimdoebiaa.Dk.journalScans
open Go.ChangeShapes Go.WideShapes Go.ChangeAt Go.RowKit Go.Maps
set_option linter.unusedVariables false
set_option linter.unusedSimpArgs false

def spare : ByteArray := ⟨#[115, 112, 97, 114, 101]⟩
theorem row_cap {w : World} {B e z m g cap : Nat} {xs : List Value} (h : w.ownsRow B e z (.slice (some ⟨g, 0, none⟩) m cap) m xs) : m ≤ cap := by
  rcases h.2 with ⟨h0, _⟩ | ⟨g', cap', cur, hv, hb, hh, h1, _⟩
  · cases h0
  · cases hv; exact h1
theorem row_some {w : World} {B e m cap : Nat} {a : Option Addr} {xs : List Value} (h : w.ownsRow B e 1 (.slice a m cap) m xs) (hm : 0 < m) : ∃ g, a = some ⟨g, 0, none⟩ := by
  rcases h.2 with ⟨h0, h1⟩ | ⟨g', cap', cur, hv, hb, hh, h1, _⟩
  · omega
  · cases hv; exact ⟨g', rfl⟩
/- The row that is written to, the others. -/
theorem own_other {w w' : World} {B B' e z m m' : Nat} {v v' : Value} {xs xs' : List Value} (h : w.ownsRow B e z v m xs) (h' : w'.ownsRow B' e z v' m' xs') (hB : w.heap.size ≤ B') : ∀ k, v.ownBlock = some k → v'.ownBlock ≠ some k := fun k hk hk' => by
  have := (h.lt k hk).2
  have := (h'.lt k hk').1
  omega
set_option maxHeartbeats 8000000 in
set_option maxRecDepth 100000 in
theorem walk_some (b o c : Nat) (l : List ByteArray) (w : World) (rd : RdS w (some ⟨b, o, none⟩) l) (hl : l.length * 16 ≤ 140737488351232) (h0 : 0 < l.length) :
    Calls Try.prog 3 #[.slice (some ⟨b, o, none⟩) l.length c] w fun e w' => e = .returned (.bool true) ∧ Below w.heap.size w w' := by
  obtain ⟨i0, hi, hz0, hz1, hz2⟩ := info_parts infoS
  have HRD' : Hid (RdS w (some ⟨b, o, none⟩) l) := rd
  obtain ⟨n, hn⟩ : ∃ n, l.length = n := ⟨_, rfl⟩
  rw [hn] at hl h0 ⊢
  have HLN : Hid (l.length = n) := hn
  have HCL : Hid ((cellsS l).length = n * 1) := by unfold Hid; rw [cellsS_length, hn, Nat.mul_one]
  clear rd hn
  go_enter Try.func3, Try.ntmps3
  go_wp2_with fail
  refine (lives_any _).mono ?_
  rintro e w1 ⟨rfl, hb1⟩
  have HB1 : Hid (Below w.heap.size w w1) := hb1
  have hs1 := hb1.size
  have HE0 : Hid ((w1.alloc (.cells #[] 9)).ownsRow w1.heap.size 9 1 (.slice (some ⟨w1.heap.size, 0, none⟩) 0 0) 0 []) := row_empty w1 9 1
  have HNW : Hid (∀ j u, (cellsS l)[j]? = some u → (w1.alloc (.cells #[] 9)).cell? ((⟨b, o, none⟩ : Addr).add j) = some u) := ((HRD'.out.later hb1).later (below1 w1 (.cells #[] 9))).news
  clear hb1
  go_wp2_with (first
    | (at_builtin; refine wpList_append_lies _ rfl _ _ _ rfl w1.heap.size 9 i0 _ 1 16 Try.underlying22 hi hz0 hz1 hz2 rfl (by omega) _ 0 [] rfl HE0.out ⟨b, o, none⟩ n c (cellsS l) rfl HCL.out HNW.out (cellsS_one _) h0 (by unfold maxLen; omega) (by omega) (by simp) (w1.heap.size + 1) (by simp) ?_; intro g2 cap2 w2 hown2 hgrow2 hat2 hlt2; rw [Nat.zero_add, List.nil_append] at hown2; have HO2 : Hid (w2.ownsRow w1.heap.size 9 1 (.slice (some ⟨g2, 0, none⟩) n cap2) n (cellsS l)) := hown2; have HG2 : Hid ((w1.alloc (.cells #[] 9)).grownBy w2 (some w1.heap.size)) := hgrow2; have hs2 : w1.heap.size + 1 ≤ w2.heap.size := (by have := hgrow2.size; simpa using this); clear hown2 hgrow2 hat2 hlt2)
    | (at_builtin; refine wpList_append_lies _ rfl _ _ _ rfl w1.heap.size 9 i0 _ 1 16 Try.underlying22 hi hz0 hz1 hz2 rfl (by omega) _ n _ rfl (HO2.out.alloc _) ⟨w2.heap.size, 0, none⟩ 1 1 [.string spare] rfl rfl (cell_one_at _ _ _ _ rfl) (by simp [Value.oneCell']) (by omega) (by unfold maxLen; omega) (by omega) (by simp; omega) (w2.heap.size + 1) (by simp) ?_; intro g3 cap3 w3 hown3 hgrow3 hat3 hlt3; have hcap3 : n + 1 ≤ cap3 := row_cap hown3; have t1 : (0 : Int) ≤ (n : Int) := (by omega); have t2 : (n : Int) ≤ (cap3 : Int) := (by omega); have t3 : n ≤ cap3 := (by omega); have HG3 : Hid _ := hgrow3; have HO3 : Hid (w3.ownsRow w1.heap.size 9 1 (.slice (some ⟨g3, 0, none⟩) (n + 1) cap3) (n + 1) (cellsS l ++ [.string spare])) := hown3; clear hown3 hgrow3 hat3 hlt3))
  have HB2 : Hid (Below w.heap.size w w2) := (HB1.out.alloc hs1 _).grown HG2.out (by simp; omega) (fun j hj => by cases hj; exact hs1)
  obtain ⟨A, hA⟩ : ∃ A : Option Addr, some ⟨b, o, none⟩ = A := ⟨_, rfl⟩
  have HRD : Hid (RdS w A l) := by rw [← hA]; exact HRD'.out
  rw [hA]
  clear hA
  have HB3 : Hid (Below w.heap.size w w3) := (HB2.out.alloc HB2.out.size _).grown HG3.out (by have := HB2.out.size; simp; omega) (fun j hj => by have := (HO2.out.lt j hj).1; omega)
  have hl9 : (l ++ [spare]).length = n + 1 := by rw [List.length_append, HLN.out]; rfl
  have hrow3 : RwS w3 w1.heap.size (.slice (some ⟨g3, 0, none⟩) (n + 1) cap3) (l ++ [spare]) := by
    unfold RwS
    rw [hl9]
    have : cellsS (l ++ [spare]) = cellsS l ++ [.string spare] := by simp [cellsS]
    rw [this]
    exact HO3.out
  have hrd3 := RwS.rd hrow3
  have HRL : Hid (RdS w3 (some ⟨g3, 0, none⟩) l) := by
    intro i hi
    obtain ⟨b', o', e', x⟩ := hrd3 i (by rw [List.length_append]; omega)
    have eg : (l ++ [spare]).getD i ⟨#[]⟩ = l.getD i ⟨#[]⟩ := by simp [List.getD_eq_getElem?_getD, List.getElem?_append_left hi]
    rw [eg] at x
    exact ⟨b', o', e', x⟩
  have HSP : Hid (w3.cell? ⟨g3, n, none⟩ = some (.string spare)) := by
    obtain ⟨b', o', e', x⟩ := hrd3 n (by rw [hl9]; omega)
    obtain ⟨eb, eo⟩ : g3 = b' ∧ 0 = o' := by simpa using e'
    have eg : (l ++ [spare]).getD n ⟨#[]⟩ = spare := by
      have := HLN.out
      subst this
      simp [List.getD_eq_getElem?_getD]
    rw [eg, ← eb, ← eo, Nat.zero_add] at x
    exact x
  have hg3 : g3 < w3.heap.size := (HO3.out.lt g3 rfl).2
  have HRA : Hid (RdS w3 A l) := HRD.out.later HB3.out
  have hrs := rScan_any A c l w3 (by rw [HLN.out]; omega) HRA.out
  have hss := fun W (hW : Below w3.heap.size w3 W) => scan_any (some ⟨g3, 0, none⟩) cap3 l W (by rw [HLN.out]; omega) (.inr ⟨g3, 0, rfl, by have := hW.size; omega, by rw [HLN.out]; omega, RdS.later HRL.out hW⟩)
  have hsp := (sc_len 65535 l 1).2.2
  have hPE := (sc_len 65535 l 1).1
  have hEl := (sc_len 65535 l 1).2.1
  unfold ScanP at hrs hss
  rw [HLN.out] at hrs hEl
  simp only [HLN.out] at hss
  obtain ⟨P, hP⟩ : ∃ P, (sc 65535 l 1).1 = P := ⟨_, rfl⟩
  obtain ⟨E, hE⟩ : ∃ E, (sc 65535 l 1).2 = E := ⟨_, rfl⟩
  rw [hP, hE] at hrs
  rw [hP] at hsp
  rw [hP, hE] at hPE
  rw [hE] at hEl
  simp only [hP, hE] at hss
  obtain ⟨m, hm⟩ : ∃ m, P.length = m := ⟨_, rfl⟩
  have HM : Hid (P.length = m) := hm
  have hsm := fun (a a' : Option Addr) (c c' : Nat) (W : World) (h1 : RdS W a P) (h2 : RdS W a' P) => same_any a a' c c' P W (by omega) h1 h2
  have hsl := fun (c c' : Nat) (W : World) (h1 : RdS W (some ⟨g3, 0, none⟩) l) (h2 : RdS W A l) => same_any (some ⟨g3, 0, none⟩) A c c' l W (by rw [HLN.out]; omega) h1 h2
  simp only [hm] at hsm
  simp only [HLN.out] at hsl
  rw [hm] at hsp hPE
  have HSM : Hid (∀ (a a' : Option Addr) (c c' : Nat) (W : World), RdS W a P → RdS W a' P → Calls Try.prog 10 #[.slice a m c, .slice a' m c'] W fun e w' => e = .returned (.bool true) ∧ Below W.heap.size W w') := hsm
  have HSL : Hid (∀ (c c' : Nat) (W : World), RdS W (some ⟨g3, 0, none⟩) l → RdS W A l → Calls Try.prog 10 #[.slice (some ⟨g3, 0, none⟩) n c, .slice A n c'] W fun e w' => e = .returned (.bool true) ∧ Below W.heap.size W w') := hsl
  have HSS : Hid (∀ W, Below w3.heap.size w3 W → Calls Try.prog 9 #[.slice (some ⟨g3, 0, none⟩) n cap3] W fun e w' => (∃ v, e = .returned (.tuple #[v, .int .i64 (E : Int)]) ∧ RwS w' W.heap.size v P) ∧ Below W.heap.size W w') := hss
  clear hrow3 hl9 hrd3 HO3 HG3 hP hE hm hsm hsl hss
  go_wp2_with fail
  refine hrs.mono ?_
  rintro e w4 ⟨⟨v4, rfl, hr4⟩, hb4⟩
  have hr4' : RwS w4 w3.heap.size v4 P := hr4
  obtain ⟨a4, cap4, e4⟩ := row_spell hr4'
  subst e4
  have HR4 : Hid (RwS w4 w3.heap.size (.slice a4 m cap4) P) := by have h := hr4'; rw [HM.out] at h; exact h
  have HB4 : Hid (Below w3.heap.size w3 w4) := hb4
  have hs5 := HSS.out w4 hb4
  rw [HM.out]
  clear hrs hr4 hr4' hb4
  go_wp2_with fail
  refine hs5.mono ?_
  rintro e w5 ⟨⟨v5, rfl, hr5⟩, hb5⟩
  obtain ⟨a5, cap5, e5⟩ := row_spell hr5
  subst e5
  have HR5 : Hid (RwS w5 w4.heap.size (.slice a5 m cap5) P) := by have h := hr5; rw [HM.out] at h; exact h
  have HB5 : Hid (Below w3.heap.size w3 w5) := thenB HB4.out hb5
  have HR45 : Hid (RwS w5 w3.heap.size (.slice a4 m cap4) P) := row_later HR4.out hb5
  have hs6 := HSS.out w5 HB5.out
  rw [HM.out]
  have hsz4 := HB4.out.size
  have hsz5 := hb5.size
  clear hs5 hr5 hb5
  go_wp2_with fail
  refine hs6.mono ?_
  rintro e w6 ⟨⟨v6, rfl, hr6⟩, hb6⟩
  obtain ⟨a6, cap6, e6⟩ := row_spell hr6
  subst e6
  have HR6 : Hid (RwS w6 w5.heap.size (.slice a6 m cap6) P) := by have h := hr6; rw [HM.out] at h; exact h
  have HB6 : Hid (Below w3.heap.size w3 w6) := thenB HB5.out hb6
  have HR46 : Hid (RwS w6 w3.heap.size (.slice a4 m cap4) P) := row_later HR45.out hb6
  have HR56 : Hid (RwS w6 w4.heap.size (.slice a5 m cap5) P) := row_later HR5.out hb6
  rw [HM.out]
  have hsz6 := hb6.size
  have hE0 : ((E : Int) != (E : Int)) = false := by simp
  clear hs6 hr6 hb6
  go_wp2_with fail
  refine (HSM.out a5 a4 cap5 cap4 w6 (RwS.rd HR56.out) (RwS.rd HR46.out)).mono ?_
  rintro e w7 ⟨rfl, hb7⟩
  have HB67 : Hid (Below w6.heap.size w6 w7) := hb7
  clear hb7
  go_wp2_with fail
  refine (HSM.out a6 a4 cap6 cap4 w7 (RdS.later (RwS.rd HR6.out) HB67.out) (RdS.later (RwS.rd HR46.out) HB67.out)).mono ?_
  rintro e w8 ⟨rfl, hb8⟩
  have HB68 : Hid (Below w6.heap.size w6 w8) := thenB HB67.out hb8
  have HB38 : Hid (Below w3.heap.size w3 w8) := thenB HB6.out HB68.out
  clear hb8
  go_wp2_with fail
  refine (HSL.out cap3 c w8 (RdS.later HRL.out HB38.out) (RdS.later HRA.out HB38.out)).mono ?_
  rintro e w9 ⟨rfl, hb9⟩
  have HB69 : Hid (Below w6.heap.size w6 w9) := thenB HB68.out hb9
  have HB39 : Hid (Below w3.heap.size w3 w9) := thenB HB38.out hb9
  have cs := cell_later hb9 (Nat.le_refl _) (cell_later HB38.out (Nat.le_refl _) HSP.out)
  have hspl : (spare.toList == [115, 112, 97, 114, 101]) = true := by rw [ByteArray.toList_eq]; decide
  have x1 : (0 : Int) ≤ (n : Int) := by omega
  have x2 : (n : Int) < (n : Int) + 1 := by omega
  clear hb9
  go_wp2_with fail
  go_loopw [78] (fun i wr => ∃ (k : Nat) (xs : List Value), k ≤ m ∧ i = .int .i64 (k : Int) ∧ wr.ownsRow w4.heap.size 9 1 (.slice a5 m cap5) m xs ∧ Kept (fun k => (Value.slice a5 m cap5).ownBlock = some k) w9 wr) (fun i _ => m - (intOf i).toNat)
  case atStart =>
    have h := row_later HR56.out HB69.out
    rw [HM.out] at h
    exact ⟨0, cellsS P, by omega, rfl, h, Kept.refl _ _⟩
  case round =>
    obtain ⟨k, xs, hk, rfl, hrow, hkp⟩ := hrel
    try clear hn1
    have HKP : Hid (Kept (fun k => (Value.slice a5 m cap5).ownBlock = some k) w9 wr) := hkp
    by_cases hkm : k < m
    · obtain ⟨g5, eg⟩ := row_some hrow (by omega)
      subst eg
      have hxl : xs.length = m * 1 := hrow.1
      obtain ⟨u, hu⟩ : ∃ u, wr.cell? ⟨g5, k, none⟩ = some u := by
        rw [hrow.cellAt k (by omega)]
        exact ⟨_, List.getElem?_eq_getElem (by omega)⟩
      have ff := hrow.frozenAt k
      obtain ⟨hr', hg'⟩ := hrow.stored k (.string ⟨#[109, 97, 114, 107]⟩)
      have HR' : Hid ((wr.setCell ⟨g5, k, none⟩ (.string ⟨#[109, 97, 114, 107]⟩)).ownsRow w4.heap.size 9 1 (.slice (some ⟨g5, 0, none⟩) m cap5) m (xs.set k (.string ⟨#[109, 97, 114, 107]⟩))) := hr'
      have HG' : Hid (wr.grownBy (wr.setCell ⟨g5, k, none⟩ (.string ⟨#[109, 97, 114, 107]⟩)) (some g5)) := hg'
      have j1 : (0 : Int) ≤ (k : Int) := by omega
      have j2 : (k : Int) < (m : Int) := by omega
      clear hrow hkp hr' hg' cs
      go_wp2_with fail
      go_roundw
      case rel => exact ⟨k + 1, _, by omega, by go_num, HR'.out, HKP.out.grown HG'.out (fun j e _ => by cases e; rfl)⟩
      case measure => simp [intOf]; omega
    · have i2 : decide ((k : Int) < (m : Int)) = false := by simp; omega
      have HRW : Hid (wr.ownsRow w4.heap.size 9 1 (.slice a5 m cap5) m xs) := hrow
      have hszr := hkp.size
      have hsz9 := HB69.out.size
      have m1 : IntKind.i64.wrap ((m : Int) + 1) = (m : Int) + 1 := Bt.wrap_fit _ (by omega) (by omega)
      clear hrow hkp cs
      go_wp2_with (at_builtin; refine wpList_append_lies _ rfl _ _ _ rfl w4.heap.size 9 i0 _ 1 16 Try.underlying22 hi hz0 hz1 hz2 rfl (by omega) _ m _ rfl (HRW.out.alloc _) ⟨wr.heap.size, 0, none⟩ 1 1 [.string ⟨#[109, 111, 114, 101]⟩] rfl rfl (cell_one_at _ _ _ _ rfl) (by simp [Value.oneCell']) (by omega) (by unfold maxLen; omega) (by omega) (by simp; omega) (wr.heap.size + 1) (by simp) ?_; intro g10 cap10 w10 hown10 hgrow10 hat10 hlt10; have HG10 : Hid _ := hgrow10; clear hown10 hgrow10 hat10 hlt10)
      have HK10 : Hid (Kept (fun k => (Value.slice a5 m cap5).ownBlock = some k) w9 w10) := (HKP.out.alloc _).grown HG10.out (fun j e _ => e)
      have HR6' : Hid (RdS w10 a6 P) := RwS.rd (HK10.out.row (row_later HR6.out HB69.out) (fun k hv hF => by
        have h1 := (HR6.out.lt k hv).1
        have h2 := (HR5.out.lt k hF).2
        omega))
      have HR4' : Hid (RdS w10 a4 P) := RwS.rd (HK10.out.row (row_later HR46.out HB69.out) (fun k hv hF => by
        have h1 := (HR4.out.lt k hv).2
        have h2 := (HR5.out.lt k hF).1
        omega))
      have HB10 : Hid (Below w.heap.size w w10) := by
        have h1 : Below w3.heap.size w9 w10 := HK10.out.below (by omega) (fun k hk => by have := (HR5.out.lt k hk).1; omega)
        have h2 := HB39.out.trans h1
        exact HB3.out.trans (h2.mono HB3.out.size)
      refine (HSM.out a6 a4 cap6 cap4 w10 HR6'.out HR4'.out).mono ?_
      rintro e w11 ⟨rfl, hb11⟩
      have HB11 : Hid (Below w.heap.size w w11) := thenB HB10.out hb11
      clear hb11
      go_wp2_with fail
      go_ret
      exact ⟨ret_bool (by simp), HB11.out⟩
set_option maxHeartbeats 8000000 in
set_option maxRecDepth 100000 in
theorem walk_zero (ad : Addr) (c : Nat) (w : World) :
    Calls Try.prog 3 #[.slice (some ad) 0 c] w fun e w' => e = .returned (.bool true) ∧ Below w.heap.size w w' := by
  obtain ⟨i0, hi, hz0, hz1, hz2⟩ := info_parts infoS
  obtain ⟨l, hlz⟩ : ∃ l : List ByteArray, l = [] := ⟨_, rfl⟩
  obtain ⟨n, hnz⟩ : ∃ n : Nat, n = 0 := ⟨_, rfl⟩
  have HLN : Hid (l.length = n) := by rw [hlz, hnz]; rfl
  have HNZ : Hid (n = 0) := hnz
  have HLZ : Hid (cellsS l = []) := by rw [hlz]; rfl
  rw [← hnz]
  go_enter Try.func3, Try.ntmps3
  go_wp2_with fail
  refine (lives_any _).mono ?_
  rintro e w1 ⟨rfl, hb1⟩
  have HB1 : Hid (Below w.heap.size w w1) := hb1
  have hs1 := hb1.size
  have hl : n * 16 ≤ 140737488351232 := by omega
  have HE0 : Hid ((w1.alloc (.cells #[] 9)).ownsRow w1.heap.size 9 1 (.slice (some ⟨w1.heap.size, 0, none⟩) 0 0) 0 []) := row_empty w1 9 1
  clear hb1
  have HOO : Hid (∀ w2 : World, w2.ownsRow w1.heap.size 9 1 (.slice (some ⟨w1.heap.size, 0, none⟩) 0 0) 0 [] → w2.ownsRow w1.heap.size 9 1 (.slice (some ⟨w1.heap.size, 0, none⟩) n 0) n (cellsS l)) := fun w2 h => by rw [HNZ.out, HLZ.out]; exact h
  clear hnz hlz
  go_wp2_with (first
    | (at_builtin; refine wpList_append_fits _ rfl _ _ _ rfl w1.heap.size 9 i0 1 Try.underlying22 hi hz1 w1.heap.size 0 0 [] rfl HE0.out ad n c [] rfl (by rw [HNZ.out]; rfl) (fun j u hu => by simp at hu) (fun u hu => by simp at hu) (by rw [HNZ.out]; omega) ?_; intro w2 hown2 hgrow2; have HO2 : Hid (w2.ownsRow w1.heap.size 9 1 (.slice (some ⟨w1.heap.size, 0, none⟩) n 0) n (cellsS l)) := (by rw [Nat.zero_add] at hown2; rw [HLZ.out]; exact hown2); have HG2 : Hid ((w1.alloc (.cells #[] 9)).grownBy w2 (some w1.heap.size)) := hgrow2; have hs2 : w1.heap.size + 1 ≤ w2.heap.size := (by have := hgrow2.size; simpa using this); clear hown2 hgrow2)
    | (at_builtin; refine wpList_append_lies _ rfl _ _ _ rfl w1.heap.size 9 i0 _ 1 16 Try.underlying22 hi hz0 hz1 hz2 rfl (by omega) _ n _ rfl (HO2.out.alloc _) ⟨w2.heap.size, 0, none⟩ 1 1 [.string spare] rfl rfl (cell_one_at _ _ _ _ rfl) (by simp [Value.oneCell']) (by omega) (by unfold maxLen; omega) (by omega) (by simp; omega) (w2.heap.size + 1) (by simp) ?_; intro g3 cap3 w3 hown3 hgrow3 hat3 hlt3; have hcap3 : n + 1 ≤ cap3 := row_cap hown3; have t1 : (0 : Int) ≤ (n : Int) := (by omega); have t2 : (n : Int) ≤ (cap3 : Int) := (by omega); have t3 : n ≤ cap3 := (by omega); have HG3 : Hid _ := hgrow3; have HO3 : Hid (w3.ownsRow w1.heap.size 9 1 (.slice (some ⟨g3, 0, none⟩) (n + 1) cap3) (n + 1) (cellsS l ++ [.string spare])) := hown3; clear hown3 hgrow3 hat3 hlt3))
  have HB2 : Hid (Below w.heap.size w w2) := (HB1.out.alloc hs1 _).grown HG2.out (by simp; omega) (fun j hj => by cases hj; exact hs1)
  obtain ⟨A, hA⟩ : ∃ A : Option Addr, some ad = A := ⟨_, rfl⟩
  have HRD : Hid (RdS w A l) := by intro i hi; rw [HLN.out, HNZ.out] at hi; omega
  rw [hA]
  clear hA
  have HB3 : Hid (Below w.heap.size w w3) := (HB2.out.alloc HB2.out.size _).grown HG3.out (by have := HB2.out.size; simp; omega) (fun j hj => by have := (HO2.out.lt j hj).1; omega)
  have hl9 : (l ++ [spare]).length = n + 1 := by rw [List.length_append, HLN.out]; rfl
  have hrow3 : RwS w3 w1.heap.size (.slice (some ⟨g3, 0, none⟩) (n + 1) cap3) (l ++ [spare]) := by
    unfold RwS
    rw [hl9]
    have : cellsS (l ++ [spare]) = cellsS l ++ [.string spare] := by simp [cellsS]
    rw [this]
    exact HO3.out
  have hrd3 := RwS.rd hrow3
  have HRL : Hid (RdS w3 (some ⟨g3, 0, none⟩) l) := by
    intro i hi
    obtain ⟨b', o', e', x⟩ := hrd3 i (by rw [List.length_append]; omega)
    have eg : (l ++ [spare]).getD i ⟨#[]⟩ = l.getD i ⟨#[]⟩ := by simp [List.getD_eq_getElem?_getD, List.getElem?_append_left hi]
    rw [eg] at x
    exact ⟨b', o', e', x⟩
  have HSP : Hid (w3.cell? ⟨g3, n, none⟩ = some (.string spare)) := by
    obtain ⟨b', o', e', x⟩ := hrd3 n (by rw [hl9]; omega)
    obtain ⟨eb, eo⟩ : g3 = b' ∧ 0 = o' := by simpa using e'
    have eg : (l ++ [spare]).getD n ⟨#[]⟩ = spare := by
      have := HLN.out
      subst this
      simp [List.getD_eq_getElem?_getD]
    rw [eg, ← eb, ← eo, Nat.zero_add] at x
    exact x
  have hg3 : g3 < w3.heap.size := (HO3.out.lt g3 rfl).2
  have HRA : Hid (RdS w3 A l) := HRD.out.later HB3.out
  have hrs := rScan_any A c l w3 (by rw [HLN.out]; omega) HRA.out
  have hss := fun W (hW : Below w3.heap.size w3 W) => scan_any (some ⟨g3, 0, none⟩) cap3 l W (by rw [HLN.out]; omega) (.inr ⟨g3, 0, rfl, by have := hW.size; omega, by rw [HLN.out]; omega, RdS.later HRL.out hW⟩)
  have hsp := (sc_len 65535 l 1).2.2
  have hPE := (sc_len 65535 l 1).1
  have hEl := (sc_len 65535 l 1).2.1
  unfold ScanP at hrs hss
  rw [HLN.out] at hrs hEl
  simp only [HLN.out] at hss
  obtain ⟨P, hP⟩ : ∃ P, (sc 65535 l 1).1 = P := ⟨_, rfl⟩
  obtain ⟨E, hE⟩ : ∃ E, (sc 65535 l 1).2 = E := ⟨_, rfl⟩
  rw [hP, hE] at hrs
  rw [hP] at hsp
  rw [hP, hE] at hPE
  rw [hE] at hEl
  simp only [hP, hE] at hss
  obtain ⟨m, hm⟩ : ∃ m, P.length = m := ⟨_, rfl⟩
  have HM : Hid (P.length = m) := hm
  have hsm := fun (a a' : Option Addr) (c c' : Nat) (W : World) (h1 : RdS W a P) (h2 : RdS W a' P) => same_any a a' c c' P W (by omega) h1 h2
  have hsl := fun (c c' : Nat) (W : World) (h1 : RdS W (some ⟨g3, 0, none⟩) l) (h2 : RdS W A l) => same_any (some ⟨g3, 0, none⟩) A c c' l W (by rw [HLN.out]; omega) h1 h2
  simp only [hm] at hsm
  simp only [HLN.out] at hsl
  rw [hm] at hsp hPE
  have HSM : Hid (∀ (a a' : Option Addr) (c c' : Nat) (W : World), RdS W a P → RdS W a' P → Calls Try.prog 10 #[.slice a m c, .slice a' m c'] W fun e w' => e = .returned (.bool true) ∧ Below W.heap.size W w') := hsm
  have HSL : Hid (∀ (c c' : Nat) (W : World), RdS W (some ⟨g3, 0, none⟩) l → RdS W A l → Calls Try.prog 10 #[.slice (some ⟨g3, 0, none⟩) n c, .slice A n c'] W fun e w' => e = .returned (.bool true) ∧ Below W.heap.size W w') := hsl
  have HSS : Hid (∀ W, Below w3.heap.size w3 W → Calls Try.prog 9 #[.slice (some ⟨g3, 0, none⟩) n cap3] W fun e w' => (∃ v, e = .returned (.tuple #[v, .int .i64 (E : Int)]) ∧ RwS w' W.heap.size v P) ∧ Below W.heap.size W w') := hss
  clear hrow3 hl9 hrd3 HO3 HG3 hP hE hm hsm hsl hss
  go_wp2_with fail
  refine hrs.mono ?_
  rintro e w4 ⟨⟨v4, rfl, hr4⟩, hb4⟩
  have hr4' : RwS w4 w3.heap.size v4 P := hr4
  obtain ⟨a4, cap4, e4⟩ := row_spell hr4'
  subst e4
  have HR4 : Hid (RwS w4 w3.heap.size (.slice a4 m cap4) P) := by have h := hr4'; rw [HM.out] at h; exact h
  have HB4 : Hid (Below w3.heap.size w3 w4) := hb4
  have hs5 := HSS.out w4 hb4
  rw [HM.out]
  clear hrs hr4 hr4' hb4
  go_wp2_with fail
  refine hs5.mono ?_
  rintro e w5 ⟨⟨v5, rfl, hr5⟩, hb5⟩
  obtain ⟨a5, cap5, e5⟩ := row_spell hr5
  subst e5
  have HR5 : Hid (RwS w5 w4.heap.size (.slice a5 m cap5) P) := by have h := hr5; rw [HM.out] at h; exact h
  have HB5 : Hid (Below w3.heap.size w3 w5) := thenB HB4.out hb5
  have HR45 : Hid (RwS w5 w3.heap.size (.slice a4 m cap4) P) := row_later HR4.out hb5
  have hs6 := HSS.out w5 HB5.out
  rw [HM.out]
  have hsz4 := HB4.out.size
  have hsz5 := hb5.size
  clear hs5 hr5 hb5
  go_wp2_with fail
  refine hs6.mono ?_
  rintro e w6 ⟨⟨v6, rfl, hr6⟩, hb6⟩
  obtain ⟨a6, cap6, e6⟩ := row_spell hr6
  subst e6
  have HR6 : Hid (RwS w6 w5.heap.size (.slice a6 m cap6) P) := by have h := hr6; rw [HM.out] at h; exact h
  have HB6 : Hid (Below w3.heap.size w3 w6) := thenB HB5.out hb6
  have HR46 : Hid (RwS w6 w3.heap.size (.slice a4 m cap4) P) := row_later HR45.out hb6
  have HR56 : Hid (RwS w6 w4.heap.size (.slice a5 m cap5) P) := row_later HR5.out hb6
  rw [HM.out]
  have hsz6 := hb6.size
  have hE0 : ((E : Int) != (E : Int)) = false := by simp
  clear hs6 hr6 hb6
  go_wp2_with fail
  refine (HSM.out a5 a4 cap5 cap4 w6 (RwS.rd HR56.out) (RwS.rd HR46.out)).mono ?_
  rintro e w7 ⟨rfl, hb7⟩
  have HB67 : Hid (Below w6.heap.size w6 w7) := hb7
  clear hb7
  go_wp2_with fail
  refine (HSM.out a6 a4 cap6 cap4 w7 (RdS.later (RwS.rd HR6.out) HB67.out) (RdS.later (RwS.rd HR46.out) HB67.out)).mono ?_
  rintro e w8 ⟨rfl, hb8⟩
  have HB68 : Hid (Below w6.heap.size w6 w8) := thenB HB67.out hb8
  have HB38 : Hid (Below w3.heap.size w3 w8) := thenB HB6.out HB68.out
  clear hb8
  go_wp2_with fail
  refine (HSL.out cap3 c w8 (RdS.later HRL.out HB38.out) (RdS.later HRA.out HB38.out)).mono ?_
  rintro e w9 ⟨rfl, hb9⟩
  have HB69 : Hid (Below w6.heap.size w6 w9) := thenB HB68.out hb9
  have HB39 : Hid (Below w3.heap.size w3 w9) := thenB HB38.out hb9
  have cs := cell_later hb9 (Nat.le_refl _) (cell_later HB38.out (Nat.le_refl _) HSP.out)
  have hspl : (spare.toList == [115, 112, 97, 114, 101]) = true := by rw [ByteArray.toList_eq]; decide
  have x1 : (0 : Int) ≤ (n : Int) := by omega
  have x2 : (n : Int) < (n : Int) + 1 := by omega
  clear hb9
  go_wp2_with fail
  go_loopw [78] (fun i wr => ∃ (k : Nat) (xs : List Value), k ≤ m ∧ i = .int .i64 (k : Int) ∧ wr.ownsRow w4.heap.size 9 1 (.slice a5 m cap5) m xs ∧ Kept (fun k => (Value.slice a5 m cap5).ownBlock = some k) w9 wr) (fun i _ => m - (intOf i).toNat)
  case atStart =>
    have h := row_later HR56.out HB69.out
    rw [HM.out] at h
    exact ⟨0, cellsS P, by omega, rfl, h, Kept.refl _ _⟩
  case round =>
    obtain ⟨k, xs, hk, rfl, hrow, hkp⟩ := hrel
    try clear hn1
    have HKP : Hid (Kept (fun k => (Value.slice a5 m cap5).ownBlock = some k) w9 wr) := hkp
    by_cases hkm : k < m
    · obtain ⟨g5, eg⟩ := row_some hrow (by omega)
      subst eg
      have hxl : xs.length = m * 1 := hrow.1
      obtain ⟨u, hu⟩ : ∃ u, wr.cell? ⟨g5, k, none⟩ = some u := by
        rw [hrow.cellAt k (by omega)]
        exact ⟨_, List.getElem?_eq_getElem (by omega)⟩
      have ff := hrow.frozenAt k
      obtain ⟨hr', hg'⟩ := hrow.stored k (.string ⟨#[109, 97, 114, 107]⟩)
      have HR' : Hid ((wr.setCell ⟨g5, k, none⟩ (.string ⟨#[109, 97, 114, 107]⟩)).ownsRow w4.heap.size 9 1 (.slice (some ⟨g5, 0, none⟩) m cap5) m (xs.set k (.string ⟨#[109, 97, 114, 107]⟩))) := hr'
      have HG' : Hid (wr.grownBy (wr.setCell ⟨g5, k, none⟩ (.string ⟨#[109, 97, 114, 107]⟩)) (some g5)) := hg'
      have j1 : (0 : Int) ≤ (k : Int) := by omega
      have j2 : (k : Int) < (m : Int) := by omega
      clear hrow hkp hr' hg' cs
      go_wp2_with fail
      go_roundw
      case rel => exact ⟨k + 1, _, by omega, by go_num, HR'.out, HKP.out.grown HG'.out (fun j e _ => by cases e; rfl)⟩
      case measure => simp [intOf]; omega
    · have i2 : decide ((k : Int) < (m : Int)) = false := by simp; omega
      have HRW : Hid (wr.ownsRow w4.heap.size 9 1 (.slice a5 m cap5) m xs) := hrow
      have hszr := hkp.size
      have hsz9 := HB69.out.size
      have m1 : IntKind.i64.wrap ((m : Int) + 1) = (m : Int) + 1 := Bt.wrap_fit _ (by omega) (by omega)
      clear hrow hkp cs
      go_wp2_with (at_builtin; refine wpList_append_lies _ rfl _ _ _ rfl w4.heap.size 9 i0 _ 1 16 Try.underlying22 hi hz0 hz1 hz2 rfl (by omega) _ m _ rfl (HRW.out.alloc _) ⟨wr.heap.size, 0, none⟩ 1 1 [.string ⟨#[109, 111, 114, 101]⟩] rfl rfl (cell_one_at _ _ _ _ rfl) (by simp [Value.oneCell']) (by omega) (by unfold maxLen; omega) (by omega) (by simp; omega) (wr.heap.size + 1) (by simp) ?_; intro g10 cap10 w10 hown10 hgrow10 hat10 hlt10; have HG10 : Hid _ := hgrow10; clear hown10 hgrow10 hat10 hlt10)
      have HK10 : Hid (Kept (fun k => (Value.slice a5 m cap5).ownBlock = some k) w9 w10) := (HKP.out.alloc _).grown HG10.out (fun j e _ => e)
      have HR6' : Hid (RdS w10 a6 P) := RwS.rd (HK10.out.row (row_later HR6.out HB69.out) (fun k hv hF => by
        have h1 := (HR6.out.lt k hv).1
        have h2 := (HR5.out.lt k hF).2
        omega))
      have HR4' : Hid (RdS w10 a4 P) := RwS.rd (HK10.out.row (row_later HR46.out HB69.out) (fun k hv hF => by
        have h1 := (HR4.out.lt k hv).2
        have h2 := (HR5.out.lt k hF).1
        omega))
      have HB10 : Hid (Below w.heap.size w w10) := by
        have h1 : Below w3.heap.size w9 w10 := HK10.out.below (by omega) (fun k hk => by have := (HR5.out.lt k hk).1; omega)
        have h2 := HB39.out.trans h1
        exact HB3.out.trans (h2.mono HB3.out.size)
      refine (HSM.out a6 a4 cap6 cap4 w10 HR6'.out HR4'.out).mono ?_
      rintro e w11 ⟨rfl, hb11⟩
      have HB11 : Hid (Below w.heap.size w w11) := thenB HB10.out hb11
      clear hb11
      go_wp2_with fail
      go_ret
      exact ⟨ret_bool (by simp), HB11.out⟩
set_option maxHeartbeats 8000000 in
set_option maxRecDepth 100000 in
theorem walk_nil (w : World) :
    Calls Try.prog 3 #[.slice none 0 0] w fun e w' => e = .returned (.bool true) ∧ Below w.heap.size w w' := by
  obtain ⟨i0, hi, hz0, hz1, hz2⟩ := info_parts infoS
  obtain ⟨l, hlz⟩ : ∃ l : List ByteArray, l = [] := ⟨_, rfl⟩
  obtain ⟨n, hnz⟩ : ∃ n : Nat, n = 0 := ⟨_, rfl⟩
  have HLN : Hid (l.length = n) := by rw [hlz, hnz]; rfl
  have HNZ : Hid (n = 0) := hnz
  have HLZ : Hid (cellsS l = []) := by rw [hlz]; rfl
  obtain ⟨c, hcz⟩ : ∃ c : Nat, c = 0 := ⟨_, rfl⟩
  have HCZ : Hid (c = 0) := hcz
  rw [show (Value.slice none 0 0) = Value.slice none n c from by rw [hnz, hcz]]
  go_enter Try.func3, Try.ntmps3
  go_wp2_with fail
  refine (lives_any _).mono ?_
  rintro e w1 ⟨rfl, hb1⟩
  have HB1 : Hid (Below w.heap.size w w1) := hb1
  have hs1 := hb1.size
  have hl : n * 16 ≤ 140737488351232 := by omega
  have HE0 : Hid ((w1.alloc (.cells #[] 9)).ownsRow w1.heap.size 9 1 (.slice (some ⟨w1.heap.size, 0, none⟩) 0 0) 0 []) := row_empty w1 9 1
  clear hb1
  have hn1 : (n : Int) < 1 := by omega
  clear hnz hlz hcz
  go_wp2_with (first
    | (at_builtin; refine wpList_append_own_none rfl _ _ _ rfl w1.heap.size 9 i0 1 Try.underlying22 hi _ 0 [] rfl HE0.out (by show Value.slice none n c = _; rw [HNZ.out, HCZ.out]) ?_)
    | (at_builtin; refine wpList_append_lies _ rfl _ _ _ rfl w1.heap.size 9 i0 _ 1 16 Try.underlying22 hi hz0 hz1 hz2 rfl (by omega) _ 0 _ rfl (HE0.out.alloc _) ⟨w1.heap.size + 1, 0, none⟩ 1 1 [.string spare] rfl rfl (cell_one_at _ _ _ _ (by simp)) (by simp [Value.oneCell']) (by omega) (by unfold maxLen; omega) (by omega) (by simp; omega) (w1.heap.size + 2) (by simp) ?_; intro g3 cap3 w3 hown3 hgrow3 hat3 hlt3; have hcap3 : n + 1 ≤ cap3 := (by have h := row_cap hown3; have := HNZ.out; omega); have t1 : (0 : Int) ≤ (n : Int) := (by omega); have t2 : (n : Int) ≤ (cap3 : Int) := (by omega); have t3 : n ≤ cap3 := (by omega); have HG3 : Hid _ := hgrow3; have HO3 : Hid (w3.ownsRow w1.heap.size 9 1 (.slice (some ⟨g3, 0, none⟩) (n + 1) cap3) (n + 1) (cellsS l ++ [.string spare])) := (by rw [HNZ.out, HLZ.out]; exact hown3); clear hown3 hgrow3 hat3 hlt3))
  obtain ⟨w2, hw2⟩ : ∃ w2, w1.alloc (.cells #[] 9) = w2 := ⟨_, rfl⟩
  have HO2 : Hid (w2.ownsRow w1.heap.size 9 1 (.slice (some ⟨w1.heap.size, 0, none⟩) 0 0) 0 []) := by rw [← hw2]; exact HE0.out
  have HB2 : Hid (Below w.heap.size w w2) := by rw [← hw2]; exact HB1.out.alloc hs1 _
  rw [hw2] at HG3
  clear hw2
  obtain ⟨A, hA⟩ : ∃ A : Option Addr, none = A := ⟨_, rfl⟩
  have HRD : Hid (RdS w A l) := by intro i hi; rw [HLN.out, HNZ.out] at hi; omega
  rw [show (Value.slice none n c) = Value.slice A n c from by rw [← hA]]
  clear hA
  have HB3 : Hid (Below w.heap.size w w3) := (HB2.out.alloc HB2.out.size _).grown HG3.out (by have := HB2.out.size; simp; omega) (fun j hj => by have := (HO2.out.lt j hj).1; omega)
  have hl9 : (l ++ [spare]).length = n + 1 := by rw [List.length_append, HLN.out]; rfl
  have hrow3 : RwS w3 w1.heap.size (.slice (some ⟨g3, 0, none⟩) (n + 1) cap3) (l ++ [spare]) := by
    unfold RwS
    rw [hl9]
    have : cellsS (l ++ [spare]) = cellsS l ++ [.string spare] := by simp [cellsS]
    rw [this]
    exact HO3.out
  have hrd3 := RwS.rd hrow3
  have HRL : Hid (RdS w3 (some ⟨g3, 0, none⟩) l) := by
    intro i hi
    obtain ⟨b', o', e', x⟩ := hrd3 i (by rw [List.length_append]; omega)
    have eg : (l ++ [spare]).getD i ⟨#[]⟩ = l.getD i ⟨#[]⟩ := by simp [List.getD_eq_getElem?_getD, List.getElem?_append_left hi]
    rw [eg] at x
    exact ⟨b', o', e', x⟩
  have HSP : Hid (w3.cell? ⟨g3, n, none⟩ = some (.string spare)) := by
    obtain ⟨b', o', e', x⟩ := hrd3 n (by rw [hl9]; omega)
    obtain ⟨eb, eo⟩ : g3 = b' ∧ 0 = o' := by simpa using e'
    have eg : (l ++ [spare]).getD n ⟨#[]⟩ = spare := by
      have := HLN.out
      subst this
      simp [List.getD_eq_getElem?_getD]
    rw [eg, ← eb, ← eo, Nat.zero_add] at x
    exact x
  have hg3 : g3 < w3.heap.size := (HO3.out.lt g3 rfl).2
  have HRA : Hid (RdS w3 A l) := HRD.out.later HB3.out
  have hrs := rScan_any A c l w3 (by rw [HLN.out]; omega) HRA.out
  have hss := fun W (hW : Below w3.heap.size w3 W) => scan_any (some ⟨g3, 0, none⟩) cap3 l W (by rw [HLN.out]; omega) (.inr ⟨g3, 0, rfl, by have := hW.size; omega, by rw [HLN.out]; omega, RdS.later HRL.out hW⟩)
  have hsp := (sc_len 65535 l 1).2.2
  have hPE := (sc_len 65535 l 1).1
  have hEl := (sc_len 65535 l 1).2.1
  unfold ScanP at hrs hss
  rw [HLN.out] at hrs hEl
  simp only [HLN.out] at hss
  obtain ⟨P, hP⟩ : ∃ P, (sc 65535 l 1).1 = P := ⟨_, rfl⟩
  obtain ⟨E, hE⟩ : ∃ E, (sc 65535 l 1).2 = E := ⟨_, rfl⟩
  rw [hP, hE] at hrs
  rw [hP] at hsp
  rw [hP, hE] at hPE
  rw [hE] at hEl
  simp only [hP, hE] at hss
  obtain ⟨m, hm⟩ : ∃ m, P.length = m := ⟨_, rfl⟩
  have HM : Hid (P.length = m) := hm
  have hsm := fun (a a' : Option Addr) (c c' : Nat) (W : World) (h1 : RdS W a P) (h2 : RdS W a' P) => same_any a a' c c' P W (by omega) h1 h2
  have hsl := fun (c c' : Nat) (W : World) (h1 : RdS W (some ⟨g3, 0, none⟩) l) (h2 : RdS W A l) => same_any (some ⟨g3, 0, none⟩) A c c' l W (by rw [HLN.out]; omega) h1 h2
  simp only [hm] at hsm
  simp only [HLN.out] at hsl
  rw [hm] at hsp hPE
  have HSM : Hid (∀ (a a' : Option Addr) (c c' : Nat) (W : World), RdS W a P → RdS W a' P → Calls Try.prog 10 #[.slice a m c, .slice a' m c'] W fun e w' => e = .returned (.bool true) ∧ Below W.heap.size W w') := hsm
  have HSL : Hid (∀ (c c' : Nat) (W : World), RdS W (some ⟨g3, 0, none⟩) l → RdS W A l → Calls Try.prog 10 #[.slice (some ⟨g3, 0, none⟩) n c, .slice A n c'] W fun e w' => e = .returned (.bool true) ∧ Below W.heap.size W w') := hsl
  have HSS : Hid (∀ W, Below w3.heap.size w3 W → Calls Try.prog 9 #[.slice (some ⟨g3, 0, none⟩) n cap3] W fun e w' => (∃ v, e = .returned (.tuple #[v, .int .i64 (E : Int)]) ∧ RwS w' W.heap.size v P) ∧ Below W.heap.size W w') := hss
  clear hrow3 hl9 hrd3 HO3 HG3 hP hE hm hsm hsl hss
  go_wp2_with fail
  refine hrs.mono ?_
  rintro e w4 ⟨⟨v4, rfl, hr4⟩, hb4⟩
  have hr4' : RwS w4 w3.heap.size v4 P := hr4
  obtain ⟨a4, cap4, e4⟩ := row_spell hr4'
  subst e4
  have HR4 : Hid (RwS w4 w3.heap.size (.slice a4 m cap4) P) := by have h := hr4'; rw [HM.out] at h; exact h
  have HB4 : Hid (Below w3.heap.size w3 w4) := hb4
  have hs5 := HSS.out w4 hb4
  rw [HM.out]
  clear hrs hr4 hr4' hb4
  go_wp2_with fail
  refine hs5.mono ?_
  rintro e w5 ⟨⟨v5, rfl, hr5⟩, hb5⟩
  obtain ⟨a5, cap5, e5⟩ := row_spell hr5
  subst e5
  have HR5 : Hid (RwS w5 w4.heap.size (.slice a5 m cap5) P) := by have h := hr5; rw [HM.out] at h; exact h
  have HB5 : Hid (Below w3.heap.size w3 w5) := thenB HB4.out hb5
  have HR45 : Hid (RwS w5 w3.heap.size (.slice a4 m cap4) P) := row_later HR4.out hb5
  have hs6 := HSS.out w5 HB5.out
  rw [HM.out]
  have hsz4 := HB4.out.size
  have hsz5 := hb5.size
  clear hs5 hr5 hb5
  go_wp2_with fail
  refine hs6.mono ?_
  rintro e w6 ⟨⟨v6, rfl, hr6⟩, hb6⟩
  obtain ⟨a6, cap6, e6⟩ := row_spell hr6
  subst e6
  have HR6 : Hid (RwS w6 w5.heap.size (.slice a6 m cap6) P) := by have h := hr6; rw [HM.out] at h; exact h
  have HB6 : Hid (Below w3.heap.size w3 w6) := thenB HB5.out hb6
  have HR46 : Hid (RwS w6 w3.heap.size (.slice a4 m cap4) P) := row_later HR45.out hb6
  have HR56 : Hid (RwS w6 w4.heap.size (.slice a5 m cap5) P) := row_later HR5.out hb6
  rw [HM.out]
  have hsz6 := hb6.size
  have hE0 : ((E : Int) != (E : Int)) = false := by simp
  clear hs6 hr6 hb6
  go_wp2_with fail
  refine (HSM.out a5 a4 cap5 cap4 w6 (RwS.rd HR56.out) (RwS.rd HR46.out)).mono ?_
  rintro e w7 ⟨rfl, hb7⟩
  have HB67 : Hid (Below w6.heap.size w6 w7) := hb7
  clear hb7
  go_wp2_with fail
  refine (HSM.out a6 a4 cap6 cap4 w7 (RdS.later (RwS.rd HR6.out) HB67.out) (RdS.later (RwS.rd HR46.out) HB67.out)).mono ?_
  rintro e w8 ⟨rfl, hb8⟩
  have HB68 : Hid (Below w6.heap.size w6 w8) := thenB HB67.out hb8
  have HB38 : Hid (Below w3.heap.size w3 w8) := thenB HB6.out HB68.out
  clear hb8
  go_wp2_with fail
  refine (HSL.out cap3 c w8 (RdS.later HRL.out HB38.out) (RdS.later HRA.out HB38.out)).mono ?_
  rintro e w9 ⟨rfl, hb9⟩
  have HB69 : Hid (Below w6.heap.size w6 w9) := thenB HB68.out hb9
  have HB39 : Hid (Below w3.heap.size w3 w9) := thenB HB38.out hb9
  have cs := cell_later hb9 (Nat.le_refl _) (cell_later HB38.out (Nat.le_refl _) HSP.out)
  have hspl : (spare.toList == [115, 112, 97, 114, 101]) = true := by rw [ByteArray.toList_eq]; decide
  have x1 : (0 : Int) ≤ (n : Int) := by omega
  have x2 : (n : Int) < (n : Int) + 1 := by omega
  clear hb9
  go_wp2_with fail
  go_loopw [78] (fun i wr => ∃ (k : Nat) (xs : List Value), k ≤ m ∧ i = .int .i64 (k : Int) ∧ wr.ownsRow w4.heap.size 9 1 (.slice a5 m cap5) m xs ∧ Kept (fun k => (Value.slice a5 m cap5).ownBlock = some k) w9 wr) (fun i _ => m - (intOf i).toNat)
  case atStart =>
    have h := row_later HR56.out HB69.out
    rw [HM.out] at h
    exact ⟨0, cellsS P, by omega, rfl, h, Kept.refl _ _⟩
  case round =>
    obtain ⟨k, xs, hk, rfl, hrow, hkp⟩ := hrel
    try clear hn1
    have HKP : Hid (Kept (fun k => (Value.slice a5 m cap5).ownBlock = some k) w9 wr) := hkp
    by_cases hkm : k < m
    · obtain ⟨g5, eg⟩ := row_some hrow (by omega)
      subst eg
      have hxl : xs.length = m * 1 := hrow.1
      obtain ⟨u, hu⟩ : ∃ u, wr.cell? ⟨g5, k, none⟩ = some u := by
        rw [hrow.cellAt k (by omega)]
        exact ⟨_, List.getElem?_eq_getElem (by omega)⟩
      have ff := hrow.frozenAt k
      obtain ⟨hr', hg'⟩ := hrow.stored k (.string ⟨#[109, 97, 114, 107]⟩)
      have HR' : Hid ((wr.setCell ⟨g5, k, none⟩ (.string ⟨#[109, 97, 114, 107]⟩)).ownsRow w4.heap.size 9 1 (.slice (some ⟨g5, 0, none⟩) m cap5) m (xs.set k (.string ⟨#[109, 97, 114, 107]⟩))) := hr'
      have HG' : Hid (wr.grownBy (wr.setCell ⟨g5, k, none⟩ (.string ⟨#[109, 97, 114, 107]⟩)) (some g5)) := hg'
      have j1 : (0 : Int) ≤ (k : Int) := by omega
      have j2 : (k : Int) < (m : Int) := by omega
      clear hrow hkp hr' hg' cs
      go_wp2_with fail
      go_roundw
      case rel => exact ⟨k + 1, _, by omega, by go_num, HR'.out, HKP.out.grown HG'.out (fun j e _ => by cases e; rfl)⟩
      case measure => simp [intOf]; omega
    · have i2 : decide ((k : Int) < (m : Int)) = false := by simp; omega
      have HRW : Hid (wr.ownsRow w4.heap.size 9 1 (.slice a5 m cap5) m xs) := hrow
      have hszr := hkp.size
      have hsz9 := HB69.out.size
      have m1 : IntKind.i64.wrap ((m : Int) + 1) = (m : Int) + 1 := Bt.wrap_fit _ (by omega) (by omega)
      clear hrow hkp cs
      go_wp2_with (at_builtin; refine wpList_append_lies _ rfl _ _ _ rfl w4.heap.size 9 i0 _ 1 16 Try.underlying22 hi hz0 hz1 hz2 rfl (by omega) _ m _ rfl (HRW.out.alloc _) ⟨wr.heap.size, 0, none⟩ 1 1 [.string ⟨#[109, 111, 114, 101]⟩] rfl rfl (cell_one_at _ _ _ _ rfl) (by simp [Value.oneCell']) (by omega) (by unfold maxLen; omega) (by omega) (by simp; omega) (wr.heap.size + 1) (by simp) ?_; intro g10 cap10 w10 hown10 hgrow10 hat10 hlt10; have HG10 : Hid _ := hgrow10; clear hown10 hgrow10 hat10 hlt10)
      have HK10 : Hid (Kept (fun k => (Value.slice a5 m cap5).ownBlock = some k) w9 w10) := (HKP.out.alloc _).grown HG10.out (fun j e _ => e)
      have HR6' : Hid (RdS w10 a6 P) := RwS.rd (HK10.out.row (row_later HR6.out HB69.out) (fun k hv hF => by
        have h1 := (HR6.out.lt k hv).1
        have h2 := (HR5.out.lt k hF).2
        omega))
      have HR4' : Hid (RdS w10 a4 P) := RwS.rd (HK10.out.row (row_later HR46.out HB69.out) (fun k hv hF => by
        have h1 := (HR4.out.lt k hv).2
        have h2 := (HR5.out.lt k hF).1
        omega))
      have HB10 : Hid (Below w.heap.size w w10) := by
        have h1 : Below w3.heap.size w9 w10 := HK10.out.below (by omega) (fun k hk => by have := (HR5.out.lt k hk).1; omega)
        have h2 := HB39.out.trans h1
        exact HB3.out.trans (h2.mono HB3.out.size)
      refine (HSM.out a6 a4 cap6 cap4 w10 HR6'.out HR4'.out).mono ?_
      rintro e w11 ⟨rfl, hb11⟩
      have HB11 : Hid (Below w.heap.size w w11) := thenB HB10.out hb11
      clear hb11
      go_wp2_with fail
      go_ret
      exact ⟨ret_bool (by simp), HB11.out⟩
theorem walk (a0 : Option Addr) (c0 : Nat) (l0 : List ByteArray) (w : World) (rd0 : RdS w a0 l0) (hl0 : l0.length * 16 ≤ 140737488351232) (hn0 : a0 = none → c0 = 0) (hg0 : ∀ t ∈ l0, t.size ≤ 9223372036854775807) :
    Calls Try.prog 3 #[.slice a0 l0.length c0] w fun e w' => e = .returned (.bool true) ∧ Below w.heap.size w w' := by
  by_cases h0 : l0 = []
  · subst h0
    cases a0 with
    | none =>
      have := hn0 rfl
      subst this
      exact walk_nil w
    | some ad => exact walk_zero ad c0 w
  · obtain ⟨b, o, rfl, -⟩ := rd0.spot h0
    exact walk_some b o c0 l0 w rd0 hl0 (List.length_pos_iff.2 h0)
theorem own : ownKnob Try.prog.godebug = none := by kernel_rfl
theorem laidOut : laidOutB Try.prog = true := by kernel_rfl
set_option maxRecDepth 100000 in
theorem lifted (os : Os) (started : os.Started) (H : Type) (enc : TypeId × Value → H) :
    ReturnsInHanded {} Try.checked os 3 .any (Rows.journalScansSpec.pre6 enc Try.prog Try.f3 Rows.journalScansRow.domain false) (Rows.journalScansSpec.post enc Try.prog Try.f3 false true false false) := by
  refine returnsInHanded_of_change_sized (C := Try.checked) own started (by kernel_rfl) Try.func3
    (ChangeSpec.witness6 (enc := enc) (C := Try.checked) false ⟨#[], #[.slice none 0 0], []⟩ 8 (by kernel_rfl) (by kernel_rfl) (by kernel_rfl) (by kernel_rfl)) ?_
  intro W base args ds gs before hval0 hW hcnd hsz0 _
  have hsz : (DataW.weightsEach Try.prog (Try.f3.params.toList ++ Rows.journalScansSpec.plain.varTypes Try.prog) (ds ++ gs)).all (· ≤ reachBytes) = true := hsz0
  clear hsz0
  have hval : ∀ (j : Nat) t v, Try.f3.params[j]? = some t → args[j]? = some v → Value.okWide Try.prog W .any base t v := hval0
  have hW' := hW
  obtain ⟨p, q, hA0, hV, rfl, hfz, hnd⟩ := hW
  have hA : DataW.TrodAll enc Try.prog W 0 (fun _ => true) true Try.f3.params.toList args.toList ds p := hA0
  rw [Try.params3] at hA hval hsz
  obtain ⟨v0, vs0, d0, ds0, p0, q0, hargs, rfl, rfl, h0, r0⟩ := trodAll_cons hA
  obtain ⟨rfl, rfl, rfl⟩ := trodAll_nil r0
  obtain rfl : args = #[v0] := by cases args; simp_all
  obtain ⟨rfl, rfl⟩ := trodVars_none hV
  have k0 := h0
  have lt0 : ∀ x ∈ p0, x.block < W.heap.size := by obtain ⟨m, hm⟩ := k0; exact DataW.trod_lt m _ _ _ hm
  obtain ⟨a0, c0, l0, rfl, rd0, hl0, hn0, hg0⟩ := strs_of (fun es sp e => by subst e; have h := sized_slice hsz (j := 0) (t := 22) (e := 9) rfl rfl Try.underlying22; rw [bytesS] at h; exact h) (okWide_slice Try.underlying22 (hval 0 22 v0 rfl rfl)) h0
  clear hA0 hval0
  refine (walk a0 c0 l0 W rd0 hl0 hn0 hg0).mono fun e W' ⟨he, bel⟩ => ?_
  subst he
  exact ⟨_, rfl, _, _, _, [], _, [], hW', trodAll_mk1 (shut_bool Try.underlying4 _), (trodAll_cons_mk (Below.trod laidOut (by kernel_rfl) (of_decide_eq_true (by kernel_rfl)) k0 bel lt0) trodAll_mk0), rfl, bel.frame _, fun h => by cases h⟩
theorem over : Rows.journalScansRow.holds Try.pinned (OpenSpec.ofChange Rows.journalScansSpec) :=
  OpenClaim.holds_of_wide 3 Try.f3 rfl rfl rfl rfl rfl rfl rfl ⟨rfl, rfl, rfl, rfl, rfl⟩ rfl rfl rfl rfl rfl (by kernel_rfl) Try.func3 (by kernel_rfl)
    (of_decide_eq_true (by kernel_rfl)) (by unfold Func.isWrapper; first | (rw [if_pos (by decide +kernel)]; kernel_rfl) | (rw [if_neg (by decide +kernel)]; exact ⟨rfl, rfl⟩))
    (fun os started H enc _ => lifted os started H enc)
end Go.Proofs.Ytohgflimdoebiaa.Dk.journalScans
namespace Go.Proofs.Ytohgflimdoebiaa
theorem journalScans_holds : Rows.JournalScansSaid := Dk.journalScans.over
#print axioms journalScans_holds
end Go.Proofs.Ytohgflimdoebiaa
