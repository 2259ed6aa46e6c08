/- RsD, RsE, RsF, joined. -/
import Derived.Test.YtpimbpfefhkojabGreatDoorRsJ2
import Derived.Test.YtpimbpfefhkojabGreatDoorRsJ1
import Derived.Deep.RegionHeld3
import Derived.Test.YtpimbpfefhkojabGreatDoorStJ3
namespace Go.Proofs.YtpimbpfefhkojabGreatDoor.Rs
open Go.RowKit
set_option linter.unusedVariables false
set_option linter.unusedSimpArgs false

/- Marks lie in a block. -/
def SnAt (w : World) (B : Nat) (t : TypeId) (l : List Int) : Prop := w.heap[B]? = some (.cells (sns l) t (0, 0))
theorem SnAt.lt {w : World} {B : Nat} {t : TypeId} {l : List Int} (h : SnAt w B t l) : B < w.heap.size := (Array.getElem?_eq_some_iff.1 h).1
theorem SnAt.below {n : Nat} {w w' : World} {B : Nat} {t : TypeId} {l : List Int} (h : SnAt w B t l) (hb : Below n w w') (hn : B < n) : SnAt w' B t l := (hb.block B hn).trans h
theorem SnAt.later {w w' : World} {B : Nat} {t : TypeId} {l : List Int} (h : SnAt w B t l) (hb : Below w.heap.size w w') : SnAt w' B t l := h.below hb h.lt
theorem SnAt.new (w : World) (t : TypeId) (l : List Int) : SnAt (w.alloc (.cells (sns l) t)) w.heap.size t l := heap_alloc_last w _
theorem SnAt.cell {w : World} {B : Nat} {t : TypeId} {l : List Int} (h : SnAt w B t l) (k : Nat) (hk : k < 256) : w.cell? ⟨B, k, none⟩ = some (.bool (decide ((k : Int) ∈ l))) := (cell_of_row w B _ _ _ _ h).trans (sns_get l k hk)
theorem row_frozen {w : World} {B : Nat} {cs : Array Value} {t : TypeId} (h : w.heap[B]? = some (.cells cs t (0, 0))) (k : Nat) : w.frozen? ⟨B, k, none⟩ = false := by
  simp [World.frozen?, h]
theorem row_setCell {w : World} {B : Nat} {cs : Array Value} {t : TypeId} (h : w.heap[B]? = some (.cells cs t (0, 0))) (k : Nat) (v : Value) : (w.setCell ⟨B, k, none⟩ v).heap[B]? = some (.cells (cs.setIfInBounds k v) t (0, 0)) := by
  simp only [World.setCell, Array.getElem?_modify]
  rw [if_pos trivial, h]
  rfl
theorem other_setCell {w : World} {B C : Nat} (h : C ≠ B) (k : Nat) (v : Value) : (w.setCell ⟨B, k, none⟩ v).heap[C]? = w.heap[C]? := by
  simp only [World.setCell, Array.getElem?_modify]
  rw [if_neg (fun e => h e.symm)]
theorem SnAt.set {w : World} {B : Nat} {t : TypeId} {l : List Int} (h : SnAt w B t l) (k : Nat) (hk : k < 256) : SnAt (w.setCell ⟨B, k, none⟩ (.bool true)) B t (l ++ [(k : Int)]) := by
  have := row_setCell h k (.bool true)
  rw [sns_set l k hk] at this
  exact this
theorem RoAt.other {w : World} {B C : Nat} {f : Nat → En} (h : RoAt w C f) (hne : C ≠ B) (k : Nat) (v : Value) : RoAt (w.setCell ⟨B, k, none⟩ v) C f := (other_setCell hne k v).trans h
theorem zero62 : Tryz.zeroCells146 = sns [] := by kernel_rfl
theorem add_who (p : Value) (x : Int) (h : wok x = false) (w : World) : Calls Tryz.prog 86 #[p, .int .i64 x] w fun e w' => e = .returned (.int .i64 14) ∧ w' = w := by
  have hw := isWho_any x
  rw [h] at hw
  go_enter Tryz.func86, Tryz.ntmps86
  go_wp2_with (go_at_call 100; refine (hw _).mono ?_; rintro r w' ⟨rfl, rfl⟩)
  go_ret
  exact ⟨rfl, rfl⟩
theorem add_twice {w : World} {B : Nat} {l : List Int} (hS : SnAt w B 146 l) (x : Int) (h : wok x = true) (h2 : decide (x ∈ l) = true) : Calls Tryz.prog 86 #[.pointer (some ⟨B, 0, none⟩), .int .i64 x] w fun e w' => e = .returned (.int .i64 15) ∧ w' = w := by
  have hw := isWho_any x
  rw [h] at hw
  obtain ⟨k, rfl, hk⟩ := wok_nat h
  have hc := hS.cell k hk
  rw [h2] at hc
  have k1 : (k : Int) < 256 := by omega
  clear h2
  go_enter Tryz.func86, Tryz.ntmps86
  go_wp2_with (go_at_call 100; refine (hw _).mono ?_; rintro r w' ⟨rfl, rfl⟩)
  go_ret
  exact ⟨rfl, rfl⟩
theorem add_ok {w : World} {B : Nat} {l : List Int} (hS : SnAt w B 146 l) (k : Nat) (hk : k < 256) (h : wok (k : Int) = true) (h2 : decide ((k : Int) ∈ l) = false) : Calls Tryz.prog 86 #[.pointer (some ⟨B, 0, none⟩), .int .i64 (k : Int)] w fun e w' => e = .returned (.int .i64 0) ∧ w' = w.setCell ⟨B, k, none⟩ (.bool true) := by
  have hw := isWho_any (k : Int)
  rw [h] at hw
  have hc := hS.cell k hk
  rw [h2] at hc
  have hf := row_frozen hS k
  have k1 : (k : Int) < 256 := by omega
  clear h2
  go_enter Tryz.func86, Tryz.ntmps86
  go_wp2_with (go_at_call 100; refine (hw _).mono ?_; rintro r w' ⟨rfl, rfl⟩)
  go_ret
  exact ⟨rfl, rfl⟩

/- What stands while a batch is looked at: the roster and the batch, boxed. -/
structure FS (w W : World) (f : Nat → En) (aL aJ : Option Addr) (nL nJ cL cJ : Nat) : Prop where
  ro : RoAt W w.heap.size f
  bt : W.heap[w.heap.size + 1]? = some (.cells #[.slice aL nL cL, .slice aJ nJ cJ] 66 (0, 0))
  bel : Below w.heap.size w W
theorem FS.later {w W W' : World} {f : Nat → En} {aL aJ : Option Addr} {nL nJ cL cJ : Nat} (h : FS w W f aL aJ nL nJ cL cJ) (hb : Below W.heap.size W W') : FS w W' f aL aJ nL nJ cL cJ :=
  ⟨h.ro.later hb, (hb.block _ (Array.getElem?_eq_some_iff.1 h.bt).1).trans h.bt, h.bel.trans (hb.mono h.bel.size)⟩
theorem FS.set {w W : World} {f : Nat → En} {aL aJ : Option Addr} {nL nJ cL cJ : Nat} (h : FS w W f aL aJ nL nJ cL cJ) {M : Nat} (hM : w.heap.size + 1 < M) (k : Nat) (v : Value) : FS w (W.setCell ⟨M, k, none⟩ v) f aL aJ nL nJ cL cJ :=
  ⟨h.ro.other (by omega) k v, (other_setCell (by omega) k v).trans h.bt, h.bel.setCell (p := ⟨M, k, none⟩) (by show w.heap.size ≤ M; omega) v⟩
theorem FS.cells {w W : World} {f : Nat → En} {aL aJ : Option Addr} {nL nJ cL cJ : Nat} (h : FS w W f aL aJ nL nJ cL cJ) : W.cell? ⟨w.heap.size + 1, 0, none⟩ = some (.slice aL nL cL) ∧ W.cell? ⟨w.heap.size + 1, 1, none⟩ = some (.slice aJ nJ cJ) :=
  ⟨cell_of_row W _ 0 _ _ _ h.bt, cell_of_row W _ 1 _ _ _ h.bt⟩
theorem FS.new (w : World) (f : Nat → En) (aL aJ : Option Addr) (nL nJ cL cJ : Nat) : FS w ((w.alloc (.cells (rcs f) 45)).alloc (.cells #[.slice aL nL cL, .slice aJ nJ cJ] 66)) f aL aJ nL nJ cL cJ := by
  have b2 : Below (w.alloc (.cells (rcs f) 45)).heap.size (w.alloc (.cells (rcs f) 45)) ((w.alloc (.cells (rcs f) 45)).alloc (.cells #[.slice aL nL cL, .slice aJ nJ cJ] 66)) := (Below.refl _ _).alloc (Nat.le_refl _) _
  refine ⟨(RoAt.new w f).later b2, ?_, (alloc_ro w f).trans (b2.mono (by simp))⟩
  have := heap_alloc_last (w.alloc (.cells (rcs f) 45)) (.cells #[.slice aL nL cL, .slice aJ nJ cJ] 66)
  rw [World.size_alloc] at this
  exact this
theorem ld25_run {w : World} {B : Nat} {f : Nat → En} (h : RoAt w B f) : (Instr.loadAt 45 (.pointer (some ⟨B, 0, none⟩))).run Tryz.prog w = .ok (.agg (rcs f)) w := by
  simp only [Instr.loadAt, Instr.sureAddr, Sem.run_bind, Sem.run_pure, Result.andThen]
  exact run_loadVar_row w B _ _ _ _ _ h Tryz.underlying45 rfl (by rw [rcs_size]; exact info25)
theorem ld25_exec {w : World} {B : Nat} {f : Nat → En} (h : RoAt w B f) {a : Act} {o : Oper} {x : Operand} (ho : o.op = .load 45 x) (hx : a.eval x = .pointer (some ⟨B, 0, none⟩)) : (execOp a.eval o).run Tryz.prog w = .ok (.value (.agg (rcs f))) w := by
  have := ld25_run h
  simp [execOp, ho, hx, this, Sem.run_bind, Result.andThen]
set_option maxRecDepth 100000 in
set_option maxHeartbeats 4000000 in
theorem fits_any (f : Nat → En) (aL aJ : Option Addr) (cL cJ : Nat) (L J : List Int) (w : World) (lL : L.length < 1152921504606846976) (lJ : J.length < 1152921504606846976) (hL : RdI w aL L) (hJ : RdI w aJ J) :
    Calls Tryz.prog 48 #[.agg (rcs f), .agg #[.slice aL L.length cL, .slice aJ J.length cJ]] w fun e w' => e = .returned (.int .i64 (ft f L J)) ∧ Below w.heap.size w w' := by
  have hF2 := FS.new w f aL aJ L.length J.length cL cJ
  go_enter Tryz.func48, Tryz.ntmps48
  go_upto_region 1 with (fail)
  generalize (w.alloc (.cells (rcs f) 45)).alloc (.cells #[.slice aL L.length cL, .slice aJ J.length cJ] 66) = w2 at *
  refine wp_region_lit ?_
  refine ld25 hF2.ro rfl _ rfl rfl ?_
  have hck := check_any f w2
  go_wp2_with fail
  refine hck.mono ?_
  rintro r w3 ⟨rfl, hb3⟩
  have hF3 := hF2.later hb3
  clear hck hb3 hF2
  cases hck : chk f with
  | false =>
    rw [chkE_ff hck]
    go_wp2_with fail
    go_ret
    exact ⟨ret_int (by rw [ft_tree L J hck]), hF3.bel⟩
  | true =>
    rw [chkE_tt hck]
    go_upto_region 5 with (fail)
    rw [zero62]
    have hM : w.heap.size + 1 < w3.heap.size := (Array.getElem?_eq_some_iff.1 hF3.bt).1
    have hb4 : Below w3.heap.size w3 (w3.alloc (.cells (sns []) 146)) := (Below.refl _ w3).alloc (Nat.le_refl _) _
    have hN4 := SnAt.new w3 146 []
    have hF4 := hF3.later hb4
    generalize w3.alloc (.cells (sns []) 146) = w4 at *
    generalize w3.heap.size = M at *
    obtain ⟨cl, cj⟩ := hF4.cells
    have HFS : Hid (FS w w4 f aL aJ L.length J.length cL cJ) := hF4
    have HSN : Hid (SnAt w4 M 146 []) := hN4
    clear hb4 hF3 hF4 hN4
    obtain ⟨c, hc⟩ : ∃ c, rcs f = c := ⟨_, rfl⟩
    rw [hc]
    clear hc
    go_wp2_with fail
    go_loopw [21] (fun i wx => ∃ k : Nat, k ≤ L.length ∧ i = .int .i64 (k : Int) ∧ FS w wx f aL aJ L.length J.length cL cJ ∧ SnAt wx M 146 ([] ++ L.take k) ∧ fr' f true [] L = fr' f true ([] ++ L.take k) (L.drop k)) (fun i _ => L.length - (intOf i).toNat)
    case atStart => exact ⟨0, by omega, rfl, HFS.out, by simpa using HSN.out, by simp⟩
    case round =>
      obtain ⟨k, hk, rfl, hfs, hsn, heq⟩ := hrel
      have HF : Hid (FS w wr f aL aJ L.length J.length cL cJ) := hfs
      have HN : Hid (SnAt wr M 146 ([] ++ L.take k)) := hsn
      have HQ : Hid (fr' f true [] L = fr' f true ([] ++ L.take k) (L.drop k)) := heq
      clear hfs hsn heq HFS HSN
      by_cases hkN : k < L.length
      · have i1 : (0 : Int) ≤ (k : Int) := by omega
        have i2 : (k : Int) < (L.length : Int) := by omega
        obtain ⟨b, o, hal, hcell⟩ := (hL.later HF.out.bel) k hkN
        have HS : Hid (fr' f true [] L = if er f true ([] ++ L.take k) (L.getD k 0) = 0 then fr' f true ([] ++ L.take (k + 1)) (L.drop (k + 1)) else er f true ([] ++ L.take k) (L.getD k 0)) := by rw [← fr_step f true [] L hkN]; exact HQ.out
        have HT : Hid (L.take (k + 1) = L.take k ++ [L.getD k 0]) := take_getD hkN
        obtain ⟨x, hx⟩ : ∃ x, L.getD k 0 = x := ⟨_, rfl⟩
        rw [hx] at hcell HS HT
        obtain ⟨pr, hpr⟩ : ∃ pr, [] ++ L.take k = pr := ⟨_, rfl⟩
        rw [hpr] at HS HN
        have HER : Hid (er f true pr x = if wok x then (if decide (x ∈ pr) then 15 else if true then (if on f x then 0 else 16) else (if on f x then 17 else 0)) else 14) := rfl
        have HPR : Hid ([] ++ L.take k = pr) := hpr
        clear hx hpr HQ
        subst hal
        cases hw : wok x with
        | false =>
          have ha := add_who (.pointer (some ⟨M, 0, none⟩)) x hw
          go_wp2_with (go_at_call 86; refine (ha _).mono ?_; rintro r w5 ⟨rfl, rfl⟩)
          go_ret
          have he : er f true pr x = 14 := by rw [HER.out, hw]; rfl
          exact ⟨ret_int (by rw [ft_left J hck (by rw [HS.out, he]; simp), HS.out, he]; rfl), HF.out.bel⟩
        | true =>
          cases hm : decide (x ∈ pr) with
          | true =>
            have ha := add_twice HN.out x hw hm
            have HM : Hid (decide (x ∈ pr) = true) := hm
            clear hm
            go_wp2_with (go_at_call 86; refine ha.mono ?_; rintro r w5 ⟨rfl, rfl⟩)
            go_ret
            have he : er f true pr x = 15 := by rw [HER.out, hw, HM.out]; rfl
            exact ⟨ret_int (by rw [ft_left J hck (by rw [HS.out, he]; simp), HS.out, he]; rfl), HF.out.bel⟩
          | false =>
            obtain ⟨xn, rfl, hxn⟩ := wok_nat hw
            have ha := add_ok HN.out xn hxn hw hm
            have hm' : Hid (decide ((xn : Int) ∈ pr) = false) := hm
            have HF5 : Hid (FS w (wr.setCell ⟨M, xn, none⟩ (.bool true)) f (some ⟨b, o, none⟩) aJ L.length J.length cL cJ) := HF.out.set hM xn _
            have HN5 : Hid (SnAt (wr.setCell ⟨M, xn, none⟩ (.bool true)) M 146 (pr ++ [(xn : Int)])) := HN.out.set xn hxn
            clear hm
            go_upto_region 11 with (go_at_call 86; refine ha.mono ?_; rintro r w5 ⟨rfl, rfl⟩)
            generalize wr.setCell ⟨M, xn, none⟩ (.bool true) = w5 at *
            refine wp_region_lit ?_
            refine ld25 HF5.out.ro rfl _ rfl rfl ?_
            have hfi := find_any f (xn : Int) w5
            go_wp2_with fail
            refine hfi.mono ?_
            rintro r w6 ⟨rfl, hb6⟩
            have HF6 : Hid (FS w w6 f (some ⟨b, o, none⟩) aJ L.length J.length cL cJ) := HF5.out.later hb6
            have HN6 : Hid (SnAt w6 M 146 (pr ++ [(xn : Int)])) := HN5.out.later hb6
            clear hfi hb6 ha
            have hon := on_ne f (xn : Int)
            have HON : Hid (on f (xn : Int) = !decide (fnd f (xn : Int) = -1)) := hon
            clear hon
            by_cases hfd : fnd f (xn : Int) = -1
            · have q1 : (fnd f (xn : Int) == -1) = true := by simp [hfd]
              have HFD : Hid (fnd f (xn : Int) = -1) := hfd
              clear hfd
              generalize fnd f (xn : Int) = fi at *
              go_wp2_with fail
              go_ret
              have he : er f true pr (xn : Int) = 16 := by rw [HER.out, hw, hm'.out, HON.out, decide_eq_true HFD.out]; rfl
              exact ⟨ret_int (by rw [ft_left J hck (by rw [HS.out, he]; simp), HS.out, he]; rfl), HF6.out.bel⟩
            · have q1 : (fnd f (xn : Int) == -1) = false := by simp [hfd]
              have HFD : Hid (¬ fnd f (xn : Int) = -1) := hfd
              clear hfd
              generalize fnd f (xn : Int) = fi at *
              go_wp2_with fail
              go_roundw
              case rel =>
                have he : er f true pr (xn : Int) = 0 := by rw [HER.out, hw, hm'.out, HON.out, decide_eq_false HFD.out]; rfl
                refine ⟨k + 1, by omega, by go_num, HF6.out, ?_, ?_⟩
                · rw [HT.out, ← List.append_assoc, HPR.out]; exact HN6.out
                · rw [HS.out, he]; rfl
              case measure => simp [intOf]; omega
      · obtain rfl : k = L.length := by omega
        have hdk : decide ((L.length : Int) < (L.length : Int)) = false := by simp
        have HZ : Hid (fr' f true [] L = 0) := by show fr' f true [] L = 0; rw [HQ.out]; exact fr_end f true [] L
        have HFS : Hid (FS w wr f aL aJ L.length J.length cL cJ) := HF.out
        have HSN : Hid (SnAt wr M 146 L) := by have h := HN.out; rw [List.take_length, List.nil_append] at h; exact h
        obtain ⟨cl, cj⟩ := HF.out.cells
        clear HF HN HQ hk hkN
        go_wp2_with fail
        go_loopw [38] (fun i wx => ∃ k : Nat, k ≤ J.length ∧ i = .int .i64 (k : Int) ∧ FS w wx f aL aJ L.length J.length cL cJ ∧ SnAt wx M 146 (L ++ J.take k) ∧ fr' f false L J = fr' f false (L ++ J.take k) (J.drop k)) (fun i _ => J.length - (intOf i).toNat)
        case atStart => exact ⟨0, by omega, rfl, HFS.out, by simpa using HSN.out, by simp⟩
        case round =>
          obtain ⟨k, hk, rfl, hfs, hsn, heq⟩ := hrel
          have HF : Hid (FS w wr f aL aJ L.length J.length cL cJ) := hfs
          have HN : Hid (SnAt wr M 146 (L ++ J.take k)) := hsn
          have HQ : Hid (fr' f false L J = fr' f false (L ++ J.take k) (J.drop k)) := heq
          clear hfs hsn heq HFS HSN
          by_cases hkN : k < J.length
          · have i1 : (0 : Int) ≤ (k : Int) := by omega
            have i2 : (k : Int) < (J.length : Int) := by omega
            obtain ⟨b, o, hal, hcell⟩ := (hJ.later HF.out.bel) k hkN
            have HS : Hid (fr' f false L J = if er f false (L ++ J.take k) (J.getD k 0) = 0 then fr' f false (L ++ J.take (k + 1)) (J.drop (k + 1)) else er f false (L ++ J.take k) (J.getD k 0)) := by rw [← fr_step f false L J hkN]; exact HQ.out
            have HT : Hid (J.take (k + 1) = J.take k ++ [J.getD k 0]) := take_getD hkN
            obtain ⟨x, hx⟩ : ∃ x, J.getD k 0 = x := ⟨_, rfl⟩
            rw [hx] at hcell HS HT
            obtain ⟨pr, hpr⟩ : ∃ pr, L ++ J.take k = pr := ⟨_, rfl⟩
            rw [hpr] at HS HN
            have HER : Hid (er f false pr x = if wok x then (if decide (x ∈ pr) then 15 else if false then (if on f x then 0 else 16) else (if on f x then 17 else 0)) else 14) := rfl
            have HPR : Hid (L ++ J.take k = pr) := hpr
            clear hx hpr HQ
            subst hal
            cases hw : wok x with
            | false =>
              have ha := add_who (.pointer (some ⟨M, 0, none⟩)) x hw
              go_wp2_with (go_at_call 86; refine (ha _).mono ?_; rintro r w5 ⟨rfl, rfl⟩)
              go_ret
              have he : er f false pr x = 14 := by rw [HER.out, hw]; rfl
              exact ⟨ret_int (by rw [ft_join hck HZ.out (by rw [HS.out, he]; simp), HS.out, he]; rfl), HF.out.bel⟩
            | true =>
              cases hm : decide (x ∈ pr) with
              | true =>
                have ha := add_twice HN.out x hw hm
                have HM : Hid (decide (x ∈ pr) = true) := hm
                clear hm
                go_wp2_with (go_at_call 86; refine ha.mono ?_; rintro r w5 ⟨rfl, rfl⟩)
                go_ret
                have he : er f false pr x = 15 := by rw [HER.out, hw, HM.out]; rfl
                exact ⟨ret_int (by rw [ft_join hck HZ.out (by rw [HS.out, he]; simp), HS.out, he]; rfl), HF.out.bel⟩
              | false =>
                obtain ⟨xn, rfl, hxn⟩ := wok_nat hw
                have ha := add_ok HN.out xn hxn hw hm
                have hm' : Hid (decide ((xn : Int) ∈ pr) = false) := hm
                have HF5 : Hid (FS w (wr.setCell ⟨M, xn, none⟩ (.bool true)) f aL (some ⟨b, o, none⟩) L.length J.length cL cJ) := HF.out.set hM xn _
                have HN5 : Hid (SnAt (wr.setCell ⟨M, xn, none⟩ (.bool true)) M 146 (pr ++ [(xn : Int)])) := HN.out.set xn hxn
                clear hm
                go_upto_region 20 with (go_at_call 86; refine ha.mono ?_; rintro r w5 ⟨rfl, rfl⟩)
                generalize wr.setCell ⟨M, xn, none⟩ (.bool true) = w5 at *
                refine wp_region_lit ?_
                refine ld25 HF5.out.ro rfl _ rfl rfl ?_
                have hfi := find_any f (xn : Int) w5
                go_wp2_with fail
                refine hfi.mono ?_
                rintro r w6 ⟨rfl, hb6⟩
                have HF6 : Hid (FS w w6 f aL (some ⟨b, o, none⟩) L.length J.length cL cJ) := HF5.out.later hb6
                have HN6 : Hid (SnAt w6 M 146 (pr ++ [(xn : Int)])) := HN5.out.later hb6
                clear hfi hb6 ha
                have hon := on_ne f (xn : Int)
                have HON : Hid (on f (xn : Int) = !decide (fnd f (xn : Int) = -1)) := hon
                clear hon
                by_cases hfd : fnd f (xn : Int) = -1
                · have q1 : (fnd f (xn : Int) == -1) = true := by simp [hfd]
                  have HFD : Hid (fnd f (xn : Int) = -1) := hfd
                  clear hfd
                  generalize fnd f (xn : Int) = fi at *
                  go_wp2_with fail
                  go_roundw
                  case rel =>
                    have he : er f false pr (xn : Int) = 0 := by rw [HER.out, hw, hm'.out, HON.out, decide_eq_true HFD.out]; rfl
                    refine ⟨k + 1, by omega, by go_num, HF6.out, ?_, ?_⟩
                    · rw [HT.out, ← List.append_assoc, HPR.out]; exact HN6.out
                    · rw [HS.out, he]; rfl
                  case measure => simp [intOf]; omega
                · have q1 : (fnd f (xn : Int) == -1) = false := by simp [hfd]
                  have HFD : Hid (¬ fnd f (xn : Int) = -1) := hfd
                  clear hfd
                  generalize fnd f (xn : Int) = fi at *
                  go_wp2_with fail
                  go_ret
                  have he : er f false pr (xn : Int) = 17 := by rw [HER.out, hw, hm'.out, HON.out, decide_eq_false HFD.out]; rfl
                  exact ⟨ret_int (by rw [ft_join hck HZ.out (by rw [HS.out, he]; simp), HS.out, he]; rfl), HF6.out.bel⟩
          · obtain rfl : k = J.length := by omega
            have hdk : decide ((J.length : Int) < (J.length : Int)) = false := by simp
            have HZ2 : Hid (fr' f false L J = 0) := by show fr' f false L J = 0; rw [HQ.out]; exact fr_end f false L J
            have HCN : Hid ((bl (nt (tk f))).length = 64 - cnt f) := cnt_nt f
            have HC64 : Hid (cnt f ≤ 64) := cnt_le f
            have hnot : bits BinOp.xor IntKind.u64 (if IntKind.u64.signed = true then -1 else IntKind.u64.max) ((tk f : Nat) : Int) = ((nt (tk f) : Nat) : Int) := by rw [if_neg (by decide)]; exact not_u64 _ (tk_lt f)
            have hnot2 := not_u64 _ (tk_lt f)
            have htk := taken_any f
            have hct := count_any (nt (tk f)) (nt_lt _)
            obtain ⟨C, hC⟩ : ∃ C, (bl (nt (tk f))).length = C := ⟨_, rfl⟩
            rw [hC] at hct HCN
            clear hC
            generalize nt (tk f) = nq at *
            generalize tk f = q at *
            go_upto_region 23 with (fail)
            obtain ⟨NL, hNL⟩ : ∃ NL, L.length = NL := ⟨_, rfl⟩
            obtain ⟨NJ, hNJ⟩ : ∃ NJ, J.length = NJ := ⟨_, rfl⟩
            have HFq : Hid (FS w wr f aL aJ NL NJ cL cJ) := by have h := HF.out; rw [hNL, hNJ] at h; exact h
            have HNL : Hid (L.length = NL) := hNL
            have HNJ : Hid (J.length = NJ) := hNJ
            rw [hNL] at lL
            rw [hNJ] at lJ
            rw [hNL, hNJ]
            clear hNL hNJ hk hkN HF HN HQ hdk
            have hwr : IntKind.i64.wrap ((C : Int) + (NL : Int)) = (C : Int) + (NL : Int) := i64_fit _ (by omega) (by have := HCN.out; omega)
            have hS0 : FS w wr.drew f aL aJ NL NJ cL cJ := HFq.out.later ⟨rfl, rfl, rfl, Nat.le_refl _, fun _ _ => rfl⟩
            refine wp_region_held_drew (S := fun W => FS w W f aL aJ NL NJ cL cJ) (by kernel_rfl) hS0 (fun hHeld => ?_)
            refine wpAnyH_take (i := 0) (v := .pointer (some ⟨w.heap.size + 1, 1, none⟩)) rfl (by kernel_rfl) (by kernel_rfl) (by kernel_rfl) (fun _ _ _ h => h) (Or.inl ⟨by rfl, fun w hSw => by (try dsimp only at hSw); go_simp⟩) (by assumption) ?_
            simp only [Act.put, List.setIfInBounds_toArray, List.set_cons_zero, List.set_cons_succ]
            refine wpAnyH_take (i := 1) (v := .slice aJ NJ cJ) rfl (by kernel_rfl) (by kernel_rfl) (by kernel_rfl) (fun _ _ _ h => h) (Or.inl ⟨by rfl, fun w hSw => by obtain ⟨cl, cj⟩ := FS.cells hSw; clear hSw; go_simp⟩) (by assumption) ?_
            simp only [Act.put, List.setIfInBounds_toArray, List.set_cons_zero, List.set_cons_succ]
            refine wpAnyH_take (i := 2) (v := .int .i64 (NJ : Int)) rfl (by kernel_rfl) (by kernel_rfl) (by kernel_rfl) (fun _ _ _ h => h) (Or.inl ⟨by rfl, fun w hSw => by (try dsimp only at hSw); go_simp⟩) (by assumption) ?_
            simp only [Act.put, List.setIfInBounds_toArray, List.set_cons_zero, List.set_cons_succ]
            refine wpAnyH_take (i := 3) (v := .agg (rcs f)) rfl (by kernel_rfl) (by kernel_rfl) (by kernel_rfl) (fun _ _ _ h => h) (Or.inl ⟨by rfl, fun w hSw => ld25_exec (FS.ro hSw) rfl rfl⟩) (by assumption) ?_
            simp only [Act.put, List.setIfInBounds_toArray, List.set_cons_zero, List.set_cons_succ]
            refine wpAnyH_take (i := 7) (v := .pointer (some ⟨w.heap.size + 1, 0, none⟩)) rfl (by kernel_rfl) (by kernel_rfl) (by kernel_rfl) (fun _ _ _ h => h) (Or.inl ⟨by rfl, fun w hSw => by (try dsimp only at hSw); go_simp⟩) (by assumption) ?_
            simp only [Act.put, List.setIfInBounds_toArray, List.set_cons_zero, List.set_cons_succ]
            refine wpAnyH_take (i := 8) (v := .slice aL NL cL) rfl (by kernel_rfl) (by kernel_rfl) (by kernel_rfl) (fun _ _ _ h => h) (Or.inl ⟨by rfl, fun w hSw => by obtain ⟨cl, cj⟩ := FS.cells hSw; clear hSw; go_simp⟩) (by assumption) ?_
            simp only [Act.put, List.setIfInBounds_toArray, List.set_cons_zero, List.set_cons_succ]
            refine wpAnyH_take (i := 9) (v := .int .i64 (NL : Int)) rfl (by kernel_rfl) (by kernel_rfl) (by kernel_rfl) (fun _ _ _ h => h) (Or.inl ⟨by rfl, fun w hSw => by (try dsimp only at hSw); go_simp⟩) (by assumption) ?_
            simp only [Act.put, List.setIfInBounds_toArray, List.set_cons_zero, List.set_cons_succ]
            refine wpAnyH_ready (rs := [4]) (by kernel_rfl) (by simp) ?_
            refine AllReadyH.cons rfl (fun K hK => ?_) AllReadyH.nil
            go_simp
            refine (htk _).mono ?_
            rintro e w' ⟨rfl, hb7⟩
            go_wp2_with fail
            refine hK.out _ _ (FS.later hHeld hb7) (fun hHeld2 => ?_)
            clear hb7 hHeld
            clear hK K
            try simp only [Act.put, List.setIfInBounds_toArray, List.set_cons_zero, List.set_cons_succ]
            refine wpAnyH_take (i := 5) (v := .int .u64 (nq : Int)) rfl (by kernel_rfl) (by kernel_rfl) (by kernel_rfl) (fun _ _ _ h => h) (Or.inl ⟨by rfl, fun w hSw => by (try dsimp only at hSw); go_simp⟩) (by assumption) ?_
            simp only [Act.put, List.setIfInBounds_toArray, List.set_cons_zero, List.set_cons_succ]
            refine wpAnyH_ready (rs := [6]) (by kernel_rfl) (by simp) ?_
            refine AllReadyH.cons rfl (fun K hK => ?_) AllReadyH.nil
            go_simp
            refine (hct _).mono ?_
            rintro e w' ⟨rfl, rfl⟩
            go_wp2_with fail
            refine hK.out _ _ hHeld2 (fun hHeld3 => ?_)
            clear hHeld2
            clear hK K
            try simp only [Act.put, List.setIfInBounds_toArray, List.set_cons_zero, List.set_cons_succ]
            refine wpAnyH_take (i := 10) (v := .int .i64 ((C : Int) + (NL : Int))) rfl (by kernel_rfl) (by kernel_rfl) (by kernel_rfl) (fun _ _ _ h => h) (Or.inl ⟨by rfl, fun w hSw => by (try dsimp only at hSw); go_simp⟩) (by assumption) ?_
            simp only [Act.put, List.setIfInBounds_toArray, List.set_cons_zero, List.set_cons_succ]
            refine wpAnyH_take (i := 11) (v := .bool (decide ((C : Int) + (NL : Int) < (NJ : Int)))) rfl (by kernel_rfl) (by kernel_rfl) (by kernel_rfl) (fun _ _ _ h => h) (Or.inl ⟨by rfl, fun w hSw => by (try dsimp only at hSw); go_simp⟩) (by assumption) ?_
            simp only [Act.put, List.setIfInBounds_toArray, List.set_cons_zero, List.set_cons_succ]
            refine wpAnyH_done (by kernel_rfl) ?_ _
            by_cases hgt : (C : Int) + (NL : Int) < (NJ : Int)
            · have hd : decide ((C : Int) + (NL : Int) < (NJ : Int)) = true := by simp [hgt]
              rw [hd]
              go_wp2_with fail
              go_ret
              exact ⟨ret_int (by rw [ft_full hck HZ.out HZ2.out, if_pos (by rw [HNL.out, HNJ.out]; have := HCN.out; omega)]), hHeld3.bel⟩
            · have hd : decide ((C : Int) + (NL : Int) < (NJ : Int)) = false := by simp; omega
              rw [hd]
              go_wp2_with fail
              go_ret
              exact ⟨ret_int (by rw [ft_full hck HZ.out HZ2.out, if_neg (by rw [HNL.out, HNJ.out]; have := HCN.out; have := HC64.out; omega)]), hHeld3.bel⟩

theorem info61 : (Tryz.prog.info? 143).map (·.size) = some 256 := by kernel_rfl
theorem zero61 : Tryz.zeroCells143 = sns [] := by kernel_rfl
theorem ld61 {ops : Array Oper} {rest : List Oper} {o : Oper} {a : Act} {w : World} {Q : Exit → Act → World → Prop} {B : Nat} {l : List Int} (h : SnAt w B 143 l) (hgd : o.guard = none) (x : Operand) (ho : o.op = .load 143 x)
    (hx : a.eval x = .pointer (some ⟨B, 0, none⟩)) (k : wpList Tryz.prog ops Q rest (a.put o.dst (.agg (sns l))) w) : wpList Tryz.prog ops Q (o :: rest) a w :=
  wpList_load_row hgd 143 x ho B hx 143 (sns l) (0, 0) _ h Tryz.underlying143 rfl (by rw [sns_size]; exact info61) k
theorem er_wok {f : Nat → En} {lv : Bool} {pr : List Int} {x : Int} (h : er f lv pr x = 0) : wok x = true := by
  cases hw : wok x with
  | true => rfl
  | false => simp [er, hw] at h
set_option maxRecDepth 100000 in
set_option maxHeartbeats 1000000 in
theorem person_any (f : Nat → En) (l : List Int) (x : Int) (lv : Bool) (w : World) :
    Calls Tryz.prog 75 #[.agg (rcs f), .agg (sns l), .int .i64 x, .bool lv] w fun e w' => e = .returned (.int .i64 (er f lv l x)) ∧ Below w.heap.size w w' := by
  have HER : Hid (er f lv l x = if wok x then (if decide (x ∈ l) then 15 else if lv then (if on f x then 0 else 16) else (if on f x then 17 else 0)) else 14) := rfl
  have b2 : Below (w.alloc (.cells (rcs f) 45)).heap.size (w.alloc (.cells (rcs f) 45)) ((w.alloc (.cells (rcs f) 45)).alloc (.cells (sns l) 143)) := (Below.refl _ _).alloc (Nat.le_refl _) _
  have hR := (RoAt.new w f).later b2
  have hS := SnAt.new (w.alloc (.cells (rcs f) 45)) 143 l
  rw [World.size_alloc] at hS
  have hB := (alloc_ro w f).trans (b2.mono (by simp))
  go_enter Tryz.func75, Tryz.ntmps75
  go_upto_region 1 with (fail)
  generalize (w.alloc (.cells (rcs f) 45)).alloc (.cells (sns l) 143) = w2 at *
  clear b2
  cases hw : wok x with
  | false =>
    have he : er f lv l x = 14 := by rw [HER.out, hw]; rfl
    have HE : Hid (er f lv l x = 14) := he
    clear he
    obtain ⟨c, hc⟩ : ∃ c, rcs f = c := ⟨_, rfl⟩
    rw [hc]
    obtain ⟨c2, hc2⟩ : ∃ c2, sns l = c2 := ⟨_, rfl⟩
    rw [hc2]
    clear hc hc2
    by_cases h0 : x < 0
    · go_wp2_with fail
      go_ret
      exact ⟨ret_int (by rw [HE.out]), hB⟩
    · have h1 : 256 ≤ x := by simp [wok] at hw; omega
      go_wp2_with fail
      go_ret
      exact ⟨ret_int (by rw [HE.out]), hB⟩
  | true =>
    obtain ⟨k, rfl, hk⟩ := wok_nat hw
    have k0 : ¬ ((k : Int) < 0) := by omega
    have k1 : (k : Int) < 256 := by omega
    have k2 : ¬ (256 ≤ (k : Int)) := by omega
    go_upto_region 3 with (fail)
    refine wp_region_lit ?_
    refine ld25 hR rfl _ rfl rfl ?_
    obtain ⟨c, hc⟩ : ∃ c, rcs f = c := ⟨_, rfl⟩
    have hfi := rFind_any f (k : Int) w2
    rw [hc] at hfi ⊢
    obtain ⟨c2, hc2⟩ : ∃ c2, sns l = c2 := ⟨_, rfl⟩
    rw [hc2]
    clear hc hc2
    go_wp2_with fail
    refine hfi.mono ?_
    rintro r w3 ⟨rfl, hb3⟩
    have hc := (hS.later hb3).cell k hk
    have HB : Hid (Below w.heap.size w w3) := hB.trans (hb3.mono hB.size)
    have HON : Hid (on f (k : Int) = decide (0 ≤ fnd f (k : Int))) := rfl
    clear hfi hb3 hR hS hB
    obtain ⟨m, hm⟩ : ∃ m, decide ((k : Int) ∈ l) = m := ⟨_, rfl⟩
    rw [hm] at hc
    have HM : Hid (decide ((k : Int) ∈ l) = m) := hm
    clear hm
    generalize fnd f (k : Int) = fi at *
    by_cases h0 : 0 ≤ fi
    · have hon : Hid (on f (k : Int) = true) := by show on f (k : Int) = true; rw [HON.out]; simp [h0]
      cases m with
      | true =>
        go_wp2_with fail
        go_ret
        exact ⟨ret_int (by rw [HER.out, hw, HM.out]; rfl), HB.out⟩
      | false =>
        cases lv with
        | true =>
          go_wp2_with fail
          go_ret
          exact ⟨ret_int (by rw [HER.out, hw, HM.out, hon.out]; rfl), HB.out⟩
        | false =>
          go_wp2_with fail
          go_ret
          exact ⟨ret_int (by rw [HER.out, hw, HM.out, hon.out]; rfl), HB.out⟩
    · have hon : Hid (on f (k : Int) = false) := by show on f (k : Int) = false; rw [HON.out]; simp [h0]
      have hd0 : decide (0 ≤ fi) = false := by simp; omega
      cases m with
      | true =>
        go_wp2_with fail
        go_ret
        exact ⟨ret_int (by rw [HER.out, hw, HM.out]; rfl), HB.out⟩
      | false =>
        cases lv with
        | true =>
          go_wp2_with fail
          go_ret
          exact ⟨ret_int (by rw [HER.out, hw, HM.out, hon.out]; rfl), HB.out⟩
        | false =>
          go_wp2_with fail
          go_ret
          exact ⟨ret_int (by rw [HER.out, hw, HM.out, hon.out]; rfl), HB.out⟩
set_option maxRecDepth 100000 in
set_option maxHeartbeats 4000000 in
theorem rFits_any (f : Nat → En) (aL aJ : Option Addr) (cL cJ : Nat) (L J : List Int) (w : World) (lL : L.length < 1152921504606846976) (lJ : J.length < 1152921504606846976) (hL : RdI w aL L) (hJ : RdI w aJ J) :
    Calls Tryz.prog 36 #[.agg (rcs f), .agg #[.slice aL L.length cL, .slice aJ J.length cJ]] w fun e w' => e = .returned (.int .i64 (ft f L J)) ∧ Below w.heap.size w w' := by
  have hF2 := FS.new w f aL aJ L.length J.length cL cJ
  go_enter Tryz.func36, Tryz.ntmps36
  go_upto_region 1 with (fail)
  generalize (w.alloc (.cells (rcs f) 45)).alloc (.cells #[.slice aL L.length cL, .slice aJ J.length cJ] 66) = w2 at *
  refine wp_region_lit ?_
  refine ld25 hF2.ro rfl _ rfl rfl ?_
  have hck := rCheck_any f w2
  go_wp2_with fail
  refine hck.mono ?_
  rintro r w3 ⟨rfl, hb3⟩
  have hF3 := hF2.later hb3
  clear hck hb3 hF2
  cases hck : chk f with
  | false =>
    rw [chkE_ff hck]
    go_wp2_with fail
    go_ret
    exact ⟨ret_int (by rw [ft_tree L J hck]), hF3.bel⟩
  | true =>
    rw [chkE_tt hck]
    go_upto_region 4 with (fail)
    rw [zero61]
    have hM : w.heap.size + 1 < w3.heap.size := (Array.getElem?_eq_some_iff.1 hF3.bt).1
    have hb4 : Below w3.heap.size w3 (w3.alloc (.cells (sns []) 143)) := (Below.refl _ w3).alloc (Nat.le_refl _) _
    have hN4 := SnAt.new w3 143 []
    have hF4 := hF3.later hb4
    generalize w3.alloc (.cells (sns []) 143) = w4 at *
    generalize w3.heap.size = M at *
    obtain ⟨cl, cj⟩ := hF4.cells
    have HFS : Hid (FS w w4 f aL aJ L.length J.length cL cJ) := hF4
    have HSN : Hid (SnAt w4 M 143 []) := hN4
    clear hb4 hF3 hF4 hN4
    obtain ⟨c, hc⟩ : ∃ c, rcs f = c := ⟨_, rfl⟩
    rw [hc]
    clear hc
    go_wp2_with fail
    go_loopw [18] (fun i wx => ∃ k : Nat, k ≤ L.length ∧ i = .int .i64 (k : Int) ∧ FS w wx f aL aJ L.length J.length cL cJ ∧ SnAt wx M 143 ([] ++ L.take k) ∧ fr' f true [] L = fr' f true ([] ++ L.take k) (L.drop k)) (fun i _ => L.length - (intOf i).toNat)
    case atStart => exact ⟨0, by omega, rfl, HFS.out, by simpa using HSN.out, by simp⟩
    case round =>
      obtain ⟨k, hk, rfl, hfs, hsn, heq⟩ := hrel
      have HF : Hid (FS w wr f aL aJ L.length J.length cL cJ) := hfs
      have HN : Hid (SnAt wr M 143 ([] ++ L.take k)) := hsn
      have HQ : Hid (fr' f true [] L = fr' f true ([] ++ L.take k) (L.drop k)) := heq
      clear hfs hsn heq HFS HSN
      by_cases hkN : k < L.length
      · have i1 : (0 : Int) ≤ (k : Int) := by omega
        have i2 : (k : Int) < (L.length : Int) := by omega
        obtain ⟨b, o, hal, hcell⟩ := (hL.later HF.out.bel) k hkN
        have HS : Hid (fr' f true [] L = if er f true ([] ++ L.take k) (L.getD k 0) = 0 then fr' f true ([] ++ L.take (k + 1)) (L.drop (k + 1)) else er f true ([] ++ L.take k) (L.getD k 0)) := by rw [← fr_step f true [] L hkN]; exact HQ.out
        have HT : Hid (L.take (k + 1) = L.take k ++ [L.getD k 0]) := take_getD hkN
        obtain ⟨x, hx⟩ : ∃ x, L.getD k 0 = x := ⟨_, rfl⟩
        rw [hx] at hcell HS HT
        obtain ⟨pr, hpr⟩ : ∃ pr, [] ++ L.take k = pr := ⟨_, rfl⟩
        rw [hpr] at HS HN
        have HPR : Hid ([] ++ L.take k = pr) := hpr
        clear hx hpr HQ
        subst hal
        go_upto_region 7 with (fail)
        refine wp_region_lit ?_
        refine ld25 HF.out.ro rfl _ rfl rfl ?_
        refine ld61 HN.out rfl _ rfl rfl ?_
        have hpe := person_any f pr x true wr
        obtain ⟨E, hE⟩ : ∃ E, er f true pr x = E := ⟨_, rfl⟩
        rw [hE] at hpe
        have HE : Hid (er f true pr x = E) := hE
        clear hE
        go_wp2_with fail
        refine hpe.mono ?_
        rintro r w6 ⟨rfl, hb6⟩
        have HF6 : Hid (FS w w6 f (some ⟨b, o, none⟩) aJ L.length J.length cL cJ) := HF.out.later hb6
        have HN6 : Hid (SnAt w6 M 143 pr) := HN.out.later hb6
        clear hpe hb6
        by_cases hE0 : E = 0
        · subst hE0
          have hw : wok x = true := er_wok HE.out
          obtain ⟨xn, rfl, hxn⟩ := wok_nat hw
          have k1 : (xn : Int) < 256 := by omega
          have hfz := row_frozen HN6.out xn
          have hce := HN6.out.cell xn hxn
          have HF7 : Hid (FS w (w6.setCell ⟨M, xn, none⟩ (.bool true)) f (some ⟨b, o, none⟩) aJ L.length J.length cL cJ) := HF6.out.set hM xn _
          have HN7 : Hid (SnAt (w6.setCell ⟨M, xn, none⟩ (.bool true)) M 143 (pr ++ [(xn : Int)])) := HN6.out.set xn hxn
          go_wp2_with fail
          go_roundw
          case rel =>
            refine ⟨k + 1, by omega, by go_num, HF7.out, ?_, ?_⟩
            · rw [HT.out, ← List.append_assoc, HPR.out]; exact HN7.out
            · rw [HS.out, HE.out]; rfl
          case measure => simp [intOf]; omega
        · have hE1 : (E == 0) = false := by simp [hE0]
          go_wp2_with fail
          go_ret
          exact ⟨ret_int (by rw [ft_left J hck (by rw [HS.out, HE.out, if_neg hE0]; exact hE0), HS.out, HE.out, if_neg hE0]), HF6.out.bel⟩
      · obtain rfl : k = L.length := by omega
        have hdk : decide ((L.length : Int) < (L.length : Int)) = false := by simp
        have HZ : Hid (fr' f true [] L = 0) := by show fr' f true [] L = 0; rw [HQ.out]; exact fr_end f true [] L
        have HFS : Hid (FS w wr f aL aJ L.length J.length cL cJ) := HF.out
        have HSN : Hid (SnAt wr M 143 L) := by have h := HN.out; rw [List.take_length, List.nil_append] at h; exact h
        obtain ⟨cl, cj⟩ := HF.out.cells
        clear HF HN HQ hk hkN
        go_wp2_with fail
        go_loopw [35] (fun i wx => ∃ k : Nat, k ≤ J.length ∧ i = .int .i64 (k : Int) ∧ FS w wx f aL aJ L.length J.length cL cJ ∧ SnAt wx M 143 (L ++ J.take k) ∧ fr' f false L J = fr' f false (L ++ J.take k) (J.drop k)) (fun i _ => J.length - (intOf i).toNat)
        case atStart => exact ⟨0, by omega, rfl, HFS.out, by simpa using HSN.out, by simp⟩
        case round =>
          obtain ⟨k, hk, rfl, hfs, hsn, heq⟩ := hrel
          have HF : Hid (FS w wr f aL aJ L.length J.length cL cJ) := hfs
          have HN : Hid (SnAt wr M 143 (L ++ J.take k)) := hsn
          have HQ : Hid (fr' f false L J = fr' f false (L ++ J.take k) (J.drop k)) := heq
          clear hfs hsn heq HFS HSN
          by_cases hkN : k < J.length
          · have i1 : (0 : Int) ≤ (k : Int) := by omega
            have i2 : (k : Int) < (J.length : Int) := by omega
            obtain ⟨b, o, hal, hcell⟩ := (hJ.later HF.out.bel) k hkN
            have HS : Hid (fr' f false L J = if er f false (L ++ J.take k) (J.getD k 0) = 0 then fr' f false (L ++ J.take (k + 1)) (J.drop (k + 1)) else er f false (L ++ J.take k) (J.getD k 0)) := by rw [← fr_step f false L J hkN]; exact HQ.out
            have HT : Hid (J.take (k + 1) = J.take k ++ [J.getD k 0]) := take_getD hkN
            obtain ⟨x, hx⟩ : ∃ x, J.getD k 0 = x := ⟨_, rfl⟩
            rw [hx] at hcell HS HT
            obtain ⟨pr, hpr⟩ : ∃ pr, L ++ J.take k = pr := ⟨_, rfl⟩
            rw [hpr] at HS HN
            have HPR : Hid (L ++ J.take k = pr) := hpr
            clear hx hpr HQ
            subst hal
            go_upto_region 15 with (fail)
            refine wp_region_lit ?_
            refine ld25 HF.out.ro rfl _ rfl rfl ?_
            refine ld61 HN.out rfl _ rfl rfl ?_
            have hpe := person_any f pr x false wr
            obtain ⟨E, hE⟩ : ∃ E, er f false pr x = E := ⟨_, rfl⟩
            rw [hE] at hpe
            have HE : Hid (er f false pr x = E) := hE
            clear hE
            go_wp2_with fail
            refine hpe.mono ?_
            rintro r w6 ⟨rfl, hb6⟩
            have HF6 : Hid (FS w w6 f aL (some ⟨b, o, none⟩) L.length J.length cL cJ) := HF.out.later hb6
            have HN6 : Hid (SnAt w6 M 143 pr) := HN.out.later hb6
            clear hpe hb6
            by_cases hE0 : E = 0
            · subst hE0
              have hw : wok x = true := er_wok HE.out
              obtain ⟨xn, rfl, hxn⟩ := wok_nat hw
              have k1 : (xn : Int) < 256 := by omega
              have hfz := row_frozen HN6.out xn
              have hce := HN6.out.cell xn hxn
              have HF7 : Hid (FS w (w6.setCell ⟨M, xn, none⟩ (.bool true)) f aL (some ⟨b, o, none⟩) L.length J.length cL cJ) := HF6.out.set hM xn _
              have HN7 : Hid (SnAt (w6.setCell ⟨M, xn, none⟩ (.bool true)) M 143 (pr ++ [(xn : Int)])) := HN6.out.set xn hxn
              go_wp2_with fail
              go_roundw
              case rel =>
                refine ⟨k + 1, by omega, by go_num, HF7.out, ?_, ?_⟩
                · rw [HT.out, ← List.append_assoc, HPR.out]; exact HN7.out
                · rw [HS.out, HE.out]; rfl
              case measure => simp [intOf]; omega
            · have hE1 : (E == 0) = false := by simp [hE0]
              go_wp2_with fail
              go_ret
              exact ⟨ret_int (by rw [ft_join hck HZ.out (by rw [HS.out, HE.out, if_neg hE0]; exact hE0), HS.out, HE.out, if_neg hE0]), HF6.out.bel⟩
          · obtain rfl : k = J.length := by omega
            have hdk : decide ((J.length : Int) < (J.length : Int)) = false := by simp
            have HZ2 : Hid (fr' f false L J = 0) := by show fr' f false L J = 0; rw [HQ.out]; exact fr_end f false L J
            have HC64 : Hid (cnt f ≤ 64) := cnt_le f
            have htk := rTaken_any f
            have hct := rCount_any (tk f) (tk_lt f)
            obtain ⟨C, hC⟩ : ∃ C, cnt f = C := ⟨_, rfl⟩
            rw [show (bl (tk f)).length = C from hC] at hct
            have HC : Hid (cnt f = C) := hC
            rw [hC] at HC64
            clear hC
            generalize tk f = q at *
            go_upto_region 20 with (fail)
            obtain ⟨NL, hNL⟩ : ∃ NL, L.length = NL := ⟨_, rfl⟩
            obtain ⟨NJ, hNJ⟩ : ∃ NJ, J.length = NJ := ⟨_, rfl⟩
            have HFq : Hid (FS w wr f aL aJ NL NJ cL cJ) := by have h := HF.out; rw [hNL, hNJ] at h; exact h
            have HNL : Hid (L.length = NL) := hNL
            have HNJ : Hid (J.length = NJ) := hNJ
            rw [hNL] at lL
            rw [hNJ] at lJ
            rw [hNL, hNJ]
            clear hNL hNJ hk hkN HF HN HQ hdk
            have hwr1 : IntKind.i64.wrap (64 - (C : Int)) = 64 - (C : Int) := i64_fit _ (by have := HC64.out; omega) (by omega)
            have hwr : IntKind.i64.wrap (64 - (C : Int) + (NL : Int)) = 64 - (C : Int) + (NL : Int) := i64_fit _ (by have := HC64.out; omega) (by omega)
            have hS0 : FS w wr.drew f aL aJ NL NJ cL cJ := HFq.out.later ⟨rfl, rfl, rfl, Nat.le_refl _, fun _ _ => rfl⟩
            refine wp_region_held_drew (S := fun W => FS w W f aL aJ NL NJ cL cJ) (by kernel_rfl) hS0 (fun hHeld => ?_)
            refine wpAnyH_take (i := 0) (v := .pointer (some ⟨w.heap.size + 1, 1, none⟩)) rfl (by kernel_rfl) (by kernel_rfl) (by kernel_rfl) (fun _ _ _ h => h) (Or.inl ⟨by rfl, fun w hSw => by (try dsimp only at hSw); go_simp⟩) (by assumption) ?_
            simp only [Act.put, List.setIfInBounds_toArray, List.set_cons_zero, List.set_cons_succ]
            refine wpAnyH_take (i := 1) (v := .slice aJ NJ cJ) rfl (by kernel_rfl) (by kernel_rfl) (by kernel_rfl) (fun _ _ _ h => h) (Or.inl ⟨by rfl, fun w hSw => by obtain ⟨cl, cj⟩ := FS.cells hSw; clear hSw; go_simp⟩) (by assumption) ?_
            simp only [Act.put, List.setIfInBounds_toArray, List.set_cons_zero, List.set_cons_succ]
            refine wpAnyH_take (i := 2) (v := .int .i64 (NJ : Int)) rfl (by kernel_rfl) (by kernel_rfl) (by kernel_rfl) (fun _ _ _ h => h) (Or.inl ⟨by rfl, fun w hSw => by (try dsimp only at hSw); go_simp⟩) (by assumption) ?_
            simp only [Act.put, List.setIfInBounds_toArray, List.set_cons_zero, List.set_cons_succ]
            refine wpAnyH_take (i := 3) (v := .agg (rcs f)) rfl (by kernel_rfl) (by kernel_rfl) (by kernel_rfl) (fun _ _ _ h => h) (Or.inl ⟨by rfl, fun w hSw => ld25_exec (FS.ro hSw) rfl rfl⟩) (by assumption) ?_
            simp only [Act.put, List.setIfInBounds_toArray, List.set_cons_zero, List.set_cons_succ]
            refine wpAnyH_take (i := 7) (v := .pointer (some ⟨w.heap.size + 1, 0, none⟩)) rfl (by kernel_rfl) (by kernel_rfl) (by kernel_rfl) (fun _ _ _ h => h) (Or.inl ⟨by rfl, fun w hSw => by (try dsimp only at hSw); go_simp⟩) (by assumption) ?_
            simp only [Act.put, List.setIfInBounds_toArray, List.set_cons_zero, List.set_cons_succ]
            refine wpAnyH_take (i := 8) (v := .slice aL NL cL) rfl (by kernel_rfl) (by kernel_rfl) (by kernel_rfl) (fun _ _ _ h => h) (Or.inl ⟨by rfl, fun w hSw => by obtain ⟨cl, cj⟩ := FS.cells hSw; clear hSw; go_simp⟩) (by assumption) ?_
            simp only [Act.put, List.setIfInBounds_toArray, List.set_cons_zero, List.set_cons_succ]
            refine wpAnyH_take (i := 9) (v := .int .i64 (NL : Int)) rfl (by kernel_rfl) (by kernel_rfl) (by kernel_rfl) (fun _ _ _ h => h) (Or.inl ⟨by rfl, fun w hSw => by (try dsimp only at hSw); go_simp⟩) (by assumption) ?_
            simp only [Act.put, List.setIfInBounds_toArray, List.set_cons_zero, List.set_cons_succ]
            refine wpAnyH_ready (rs := [4]) (by kernel_rfl) (by simp) ?_
            refine AllReadyH.cons rfl (fun K hK => ?_) AllReadyH.nil
            go_simp
            refine (htk _).mono ?_
            rintro e w' ⟨rfl, hb7⟩
            go_wp2_with fail
            refine hK.out _ _ (FS.later hHeld hb7) (fun hHeld2 => ?_)
            clear hb7 hHeld
            clear hK K
            try simp only [Act.put, List.setIfInBounds_toArray, List.set_cons_zero, List.set_cons_succ]
            refine wpAnyH_ready (rs := [5]) (by kernel_rfl) (by simp) ?_
            refine AllReadyH.cons rfl (fun K hK => ?_) AllReadyH.nil
            go_simp
            refine (hct _).mono ?_
            rintro e w8 ⟨rfl, hb8⟩
            go_wp2_with fail
            refine hK.out _ _ (FS.later hHeld2 hb8) (fun hHeld3 => ?_)
            clear hHeld2 hb8
            clear hK K
            try simp only [Act.put, List.setIfInBounds_toArray, List.set_cons_zero, List.set_cons_succ]
            refine wpAnyH_take (i := 6) (v := .int .i64 (64 - (C : Int))) rfl (by kernel_rfl) (by kernel_rfl) (by kernel_rfl) (fun _ _ _ h => h) (Or.inl ⟨by rfl, fun w hSw => by (try dsimp only at hSw); go_simp⟩) (by assumption) ?_
            simp only [Act.put, List.setIfInBounds_toArray, List.set_cons_zero, List.set_cons_succ]
            refine wpAnyH_take (i := 10) (v := .int .i64 (64 - (C : Int) + (NL : Int))) rfl (by kernel_rfl) (by kernel_rfl) (by kernel_rfl) (fun _ _ _ h => h) (Or.inl ⟨by rfl, fun w hSw => by (try dsimp only at hSw); go_simp⟩) (by assumption) ?_
            simp only [Act.put, List.setIfInBounds_toArray, List.set_cons_zero, List.set_cons_succ]
            refine wpAnyH_take (i := 11) (v := .bool (decide (64 - (C : Int) + (NL : Int) < (NJ : Int)))) rfl (by kernel_rfl) (by kernel_rfl) (by kernel_rfl) (fun _ _ _ h => h) (Or.inl ⟨by rfl, fun w hSw => by (try dsimp only at hSw); go_simp⟩) (by assumption) ?_
            simp only [Act.put, List.setIfInBounds_toArray, List.set_cons_zero, List.set_cons_succ]
            refine wpAnyH_done (by kernel_rfl) ?_ _
            by_cases hgt : 64 - (C : Int) + (NL : Int) < (NJ : Int)
            · have hd : decide (64 - (C : Int) + (NL : Int) < (NJ : Int)) = true := by simp [hgt]
              rw [hd]
              go_wp2_with fail
              go_ret
              exact ⟨ret_int (by rw [ft_full hck HZ.out HZ2.out, if_pos (by rw [HNL.out, HNJ.out, HC.out]; have := HC64.out; omega)]), hHeld3.bel⟩
            · have hd : decide (64 - (C : Int) + (NL : Int) < (NJ : Int)) = false := by simp; omega
              rw [hd]
              go_wp2_with fail
              go_ret
              exact ⟨ret_int (by rw [ft_full hck HZ.out HZ2.out, if_neg (by rw [HNL.out, HNJ.out, HC.out]; have := HC64.out; omega)]), hHeld3.bel⟩
end Go.Proofs.YtpimbpfefhkojabGreatDoor.Rs
