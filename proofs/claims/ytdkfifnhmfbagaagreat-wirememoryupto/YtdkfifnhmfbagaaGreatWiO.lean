/- Contract: the reader's message. -/
import Derived.Test.YtdkfifnhmfbagaaGreatWiN
import Derived.Test.YtdkfifnhmfbagaaGreatWiG
import Derived.Test.YtdkfifnhmfbagaaGreatBtJ1
namespace Go.Proofs.YtdkfifnhmfbagaaGreat.Wi
open Go.RowKit Go.Maps
open Bt (Rr Kept tb bys tb_length bys_length tx u8s dn)
open Rt (gd)
set_option linter.unusedVariables false
set_option linter.unusedSimpArgs false

/- A list that is owned can be read. -/
theorem flat_at {α : Type} (f : α → List Value) (n : Nat) (hf : ∀ x, (f x).length = n) : ∀ (l : List α) (i : Nat) (hi : i < l.length) (j : Nat), j < n → (l.flatMap f)[i * n + j]? = (f l[i])[j]?
  | [], i, hi, j, hj => by cases hi
  | x :: l, 0, hi, j, hj => by
    rw [List.flatMap_cons, Nat.zero_mul, Nat.zero_add, List.getElem?_append_left (by rw [hf]; exact hj)]
    rfl
  | x :: l, i + 1, hi, j, hj => by
    have e : (i + 1) * n + j = n + (i * n + j) := by rw [Nat.succ_mul]; omega
    rw [List.flatMap_cons, e, List.getElem?_append_right (by rw [hf]; omega), hf, Nat.add_sub_cancel_left]
    exact flat_at f n hf l i (by simpa using hi) j hj
theorem rd_owns {α : Type} {f : α → List Value} {n : Nat} (hf : ∀ x, (f x).length = n) {W : World} {b : Nat} {T : TypeId} {a : Option Addr} {cap : Nat} {l : List α} (h : W.ownsRow b T n (.slice a l.length cap) l.length (l.flatMap f)) : RdV f n W a l := by
  intro i hi
  rcases h.2 with ⟨e, h0⟩ | ⟨g, cap', cur, e, h3, h4, h5, h6, h7, h8⟩
  · omega
  · cases e
    refine ⟨g, 0, rfl, fun j v hv => ?_⟩
    have hj : j < n := by have := (List.getElem?_eq_some_iff.1 hv).1; rw [hf] at this; exact this
    have hlt : i * n + j < l.length * n := by
      have : (i + 1) * n ≤ l.length * n := Nat.mul_le_mul_right n hi
      rw [Nat.succ_mul] at this
      omega
    rw [Nat.zero_add, cell_of_row W g (i * n + j) _ _ _ h4, ← hv, ← flat_at f n hf l i hi j hj, ← h8, List.getElem?_take_of_lt hlt]
    simp
theorem updR (m : Msg) (vL vJ vI : Value) (r : Int × (List (Int × Int) × (List (Int × Int) × List ((Int × Int) × ((Int × Int) × (Int × Int)))))) (xL xJ xI : Value) : upd (mgl m vL vJ vI).toArray 1 (rkl r.1 xL xJ xI) = (mgl ⟨m.kd, r, m.rq, m.rp, m.sd⟩ xL xJ xI).toArray :=
  upd_mid (rkl r.1 xL xJ xI) (rkl m.rk.1 vL vJ vI) [.int .i64 m.kd] (stl m.rq ++ (rpl m.rp ++ sdl m.sd)) rfl
theorem updQ (m : Msg) (vL vJ vI : Value) (q : Int × Int) : upd (mgl m vL vJ vI).toArray 5 (stl q) = (mgl ⟨m.kd, m.rk, q, m.rp, m.sd⟩ vL vJ vI).toArray := by
  have e := upd_mid (stl q) (stl m.rq) ([.int .i64 m.kd] ++ rkl m.rk.1 vL vJ vI) (rpl m.rp ++ sdl m.sd) rfl
  have l : ([.int .i64 m.kd] ++ rkl m.rk.1 vL vJ vI : List Value).length = 5 := rfl
  have e1 : ([.int .i64 m.kd] ++ rkl m.rk.1 vL vJ vI : List Value) ++ (stl m.rq ++ (rpl m.rp ++ sdl m.sd)) = mgl m vL vJ vI := by simp [mgl]
  have e2 : ([.int .i64 m.kd] ++ rkl m.rk.1 vL vJ vI : List Value) ++ (stl q ++ (rpl m.rp ++ sdl m.sd)) = mgl ⟨m.kd, m.rk, q, m.rp, m.sd⟩ vL vJ vI := by simp [mgl]
  rw [l, e1, e2] at e
  exact e
theorem updP (m : Msg) (vL vJ vI : Value) (p : (Int × Int) × (Int × (((Int × Int) × (Int × Int)) × (((Int × Int) × (Int × Int)) × ((Int × Int) × (Int × Int)))))) : upd (mgl m vL vJ vI).toArray 7 (rpl p) = (mgl ⟨m.kd, m.rk, m.rq, p, m.sd⟩ vL vJ vI).toArray := by
  have e := upd_mid (rpl p) (rpl m.rp) ([.int .i64 m.kd] ++ rkl m.rk.1 vL vJ vI ++ stl m.rq) (sdl m.sd) rfl
  have l : ([.int .i64 m.kd] ++ rkl m.rk.1 vL vJ vI ++ stl m.rq : List Value).length = 7 := rfl
  have e1 : ([.int .i64 m.kd] ++ rkl m.rk.1 vL vJ vI ++ stl m.rq : List Value) ++ (rpl m.rp ++ sdl m.sd) = mgl m vL vJ vI := by simp [mgl]
  have e2 : ([.int .i64 m.kd] ++ rkl m.rk.1 vL vJ vI ++ stl m.rq : List Value) ++ (rpl p ++ sdl m.sd) = mgl ⟨m.kd, m.rk, m.rq, p, m.sd⟩ vL vJ vI := by simp [mgl]
  rw [l, e1, e2] at e
  exact e
theorem updD (m : Msg) (vL vJ vI : Value) (d : Int × ((Int × Int) × ByteArray)) : upd (mgl m vL vJ vI).toArray 22 (sdl d) = (mgl ⟨m.kd, m.rk, m.rq, m.rp, d⟩ vL vJ vI).toArray := by
  have e := upd_mid (sdl d) (sdl m.sd) ([.int .i64 m.kd] ++ rkl m.rk.1 vL vJ vI ++ stl m.rq ++ rpl m.rp) [] rfl
  have l : ([.int .i64 m.kd] ++ rkl m.rk.1 vL vJ vI ++ stl m.rq ++ rpl m.rp : List Value).length = 22 := rfl
  have e1 : ([.int .i64 m.kd] ++ rkl m.rk.1 vL vJ vI ++ stl m.rq ++ rpl m.rp : List Value) ++ (sdl m.sd ++ []) = mgl m vL vJ vI := by simp [mgl]
  have e2 : ([.int .i64 m.kd] ++ rkl m.rk.1 vL vJ vI ++ stl m.rq ++ rpl m.rp : List Value) ++ (sdl d ++ []) = mgl ⟨m.kd, m.rk, m.rq, m.rp, d⟩ vL vJ vI := by simp [mgl]
  rw [l, e1, e2] at e
  exact e
theorem request_or (g : Nat) (s : ByteArray) (c : Nat) (w : World) (h : Rr w g c s) (hs : s.size < 1125899906842624) :
    Calls Tryz.prog 77 #[.agg #[.pointer (some ⟨g, 0, none⟩)] ] w fun e w' => (pQ (tb (bys s)) c = none ∧ e = .panicked pw ∧ Kept (fun k => k = g) w w') ∨ (∃ b c', pQ (tb (bys s)) c = some (b, c') ∧ e = .returned (.agg (stl b).toArray) ∧ Rr w' g c' s ∧ Kept (fun k => k = g) w w') := by
  refine (request_any g s c w h hs).mono ?_
  intro e w' hro
  cases hn : pQ (tb (bys s)) c with
  | none => rw [hn] at hro; exact .inl ⟨rfl, hro.1, hro.2⟩
  | some p => rw [hn] at hro; exact .inr ⟨p.1, p.2, rfl, hro.1, hro.2.1, hro.2.2⟩
theorem reply_or (g : Nat) (s : ByteArray) (c : Nat) (w : World) (h : Rr w g c s) (hs : s.size < 1125899906842624) :
    Calls Tryz.prog 78 #[.agg #[.pointer (some ⟨g, 0, none⟩)] ] w fun e w' => (pP (tb (bys s)) c = none ∧ e = .panicked pw ∧ Kept (fun k => k = g) w w') ∨ (∃ b c', pP (tb (bys s)) c = some (b, c') ∧ e = .returned (.agg (rpl b).toArray) ∧ Rr w' g c' s ∧ Kept (fun k => k = g) w w') := by
  refine (reply_any g s c w h hs).mono ?_
  intro e w' hro
  cases hn : pP (tb (bys s)) c with
  | none => rw [hn] at hro; exact .inl ⟨rfl, hro.1, hro.2⟩
  | some p => rw [hn] at hro; exact .inr ⟨p.1, p.2, rfl, hro.1, hro.2.1, hro.2.2⟩
theorem sealed_or (g : Nat) (s : ByteArray) (c : Nat) (w : World) (h : Rr w g c s) (hs : s.size < 1125899906842624) :
    Calls Tryz.prog 79 #[.agg #[.pointer (some ⟨g, 0, none⟩)] ] w fun e w' => (pD (tb (bys s)) c = none ∧ e = .panicked pw ∧ Kept (fun k => k = g) w w') ∨ (∃ b c', pD (tb (bys s)) c = some (b, c') ∧ e = .returned (.agg (sdl b).toArray) ∧ Rr w' g c' s ∧ Kept (fun k => k = g) w w') := by
  refine (sealed_any g s c w h hs).mono ?_
  intro e w' hro
  cases hn : pD (tb (bys s)) c with
  | none => rw [hn] at hro; exact .inl ⟨rfl, hro.1, hro.2⟩
  | some p => rw [hn] at hro; exact .inr ⟨p.1, p.2, rfl, hro.1, hro.2.1, hro.2.2⟩
def AP (a b : Option Addr) : Prop := ∀ p q, a = some p → b = some q → p.block ≠ q.block
theorem rekey_or (g : Nat) (s : ByteArray) (c : Nat) (w : World) (h : Rr w g c s) (hs : s.size < 1125899906842624) :
    Calls Tryz.prog 76 #[.agg #[.pointer (some ⟨g, 0, none⟩)] ] w fun e w' => (pR (tb (bys s)) c = none ∧ e = .panicked pw ∧ Kept (fun k => k = g) w w') ∨ (∃ r c' aL cL aJ cJ aI cI, pR (tb (bys s)) c = some (r, c') ∧ e = .returned (.agg (rkl r.1 (.slice aL r.2.1.length cL) (.slice aJ r.2.2.1.length cJ) (.slice aI r.2.2.2.length cI)).toArray) ∧ Rr w' g c' s ∧ Kept (fun k => k = g) w w' ∧ w'.ownsRow w.heap.size 55 2 (.slice aL r.2.1.length cL) r.2.1.length (r.2.1.flatMap stl) ∧ w'.ownsRow w.heap.size 55 2 (.slice aJ r.2.2.1.length cJ) r.2.2.1.length (r.2.2.1.flatMap stl) ∧ w'.ownsRow w.heap.size 53 6 (.slice aI r.2.2.2.length cI) r.2.2.2.length (r.2.2.2.flatMap itl) ∧ AP aL aJ) := by
  refine (rekey_any g s c w h hs).mono ?_
  intro e w' hro
  cases hn : pR (tb (bys s)) c with
  | none => rw [hn] at hro; exact .inl ⟨rfl, hro.1, hro.2⟩
  | some p =>
    rw [hn] at hro
    obtain ⟨vL, vJ, vI, h1, h2, h3, h4, h5, h6, h7⟩ := hro
    obtain ⟨aL, cL, rfl⟩ := owns_slice h4
    obtain ⟨aJ, cJ, rfl⟩ := owns_slice h5
    obtain ⟨aI, cI, rfl⟩ := owns_slice h6
    exact .inr ⟨p.1, p.2, aL, cL, aJ, cJ, aI, cI, rfl, h1, h2, h3, h4, h5, h6, fun p' q' e1 e2 e3 => h7 p'.block (by rw [e1]; rfl) (by rw [e2, e3]; rfl)⟩
/- What message answers. -/
def RM (w w' : World) (g : Nat) (T : List Bool) (e : Ending) : Prop :=
  Kept (fun k => k = g) w w' ∧ ((okD T = false ∧ e = .panicked pw) ∨ (okD T = true ∧ ∃ aL cL aJ cJ aI cI, e = .returned (.agg (mgv (tM T) aL aJ aI cL cJ cI).toArray) ∧ w'.ownsRow w.heap.size 55 2 (.slice aL (tM T).rk.2.1.length cL) (tM T).rk.2.1.length ((tM T).rk.2.1.flatMap stl) ∧ w'.ownsRow w.heap.size 55 2 (.slice aJ (tM T).rk.2.2.1.length cJ) (tM T).rk.2.2.1.length ((tM T).rk.2.2.1.flatMap stl) ∧ w'.ownsRow w.heap.size 53 6 (.slice aI (tM T).rk.2.2.2.length cI) (tM T).rk.2.2.2.length ((tM T).rk.2.2.2.flatMap itl) ∧ AP aL aJ))
theorem mgz (k : Int) : (#[.int .i64 k, .int .i64 0, .slice none 0 0, .slice none 0 0, .slice none 0 0, .int .i64 0, .int .i64 0, .int .i64 0, .int .i64 0, .int .i64 0, .int .i64 0, .int .i64 0, .int .i64 0, .int .i64 0, .int .i64 0, .int .i64 0, .int .i64 0, .int .i64 0, .int .i64 0, .int .i64 0, .int .i64 0, .int .i64 0, .int .i64 0, .int .i64 0, .int .i64 0, .string ⟨#[]⟩] : Array Value) = (mgl ⟨k, zR, zQ, zP, zD⟩ (.slice none 0 0) (.slice none 0 0) (.slice none 0 0)).toArray := rfl
theorem pM_k {T : List Bool} {v c1 : Nat} (h : pn 2 T 0 = some (v, c1)) : pM T 0 = (if v = 0 then pm mR pR T c1 else if v = 1 then pm mQ pQ T c1 else if v = 2 then pm mP pP T c1 else pm mD pD T c1) := by unfold pM; rw [h]
theorem small_pl {α : Type} {d : List Bool → Nat → Option (α × Nat)} {q : Nat} (hq : q ≤ 11) {T : List Bool} {c c' : Nat} {l : List α} (h : pc q d T c = some (l, c')) : l.length < 2048 := by
  unfold pc at h
  split at h
  · cases h
  · rename_i n c1 hn
    rw [pl_len h]
    exact Nat.lt_of_lt_of_le (pn_lt hn) (by have := Nat.pow_le_pow_right (n := 2) (by decide) hq; simpa using this)
theorem small_R {T : List Bool} {c c' : Nat} {r : Int × (List (Int × Int) × (List (Int × Int) × List ((Int × Int) × ((Int × Int) × (Int × Int)))))} (h : pR T c = some (r, c')) : r.2.1.length < 2048 ∧ r.2.2.1.length < 2048 ∧ r.2.2.2.length < 2048 := by
  obtain ⟨c1, k1, k2⟩ := pq_inv h
  obtain ⟨c2, k3, k4⟩ := pq_inv k2
  obtain ⟨c3, k5, k6⟩ := pq_inv k4
  exact ⟨small_pl (by decide) k3, small_pl (by decide) k5, small_pl (by decide) k6⟩
theorem small_D {T : List Bool} {c c' : Nat} {d : Int × ((Int × Int) × ByteArray)} (h : pD T c = some (d, c')) : d.2.2.size < 2048 := by
  obtain ⟨c1, k1, k2⟩ := pq_inv h
  obtain ⟨c2, k3, k4⟩ := pq_inv k2
  obtain ⟨l, e, k5⟩ := pm_inv k4
  rw [e, Bt.tx_size]
  exact small_pl (by decide) k5
end Go.Proofs.YtdkfifnhmfbagaaGreat.Wi
