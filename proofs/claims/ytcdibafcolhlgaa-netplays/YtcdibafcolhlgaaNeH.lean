/- Contracts: Waiting and Seen of the program's net. -/
import Derived.Test.YtcdibafcolhlgaaHd
import Derived.Test.YtcdibafcolhlgaaNeF
import Derived.Carry
import Derived.Laws.Cover3
namespace Go.Proofs.Ytcdibafcolhlgaa.Ne
open Go.RowKit Go.Maps
set_option linter.unusedVariables false
set_option linter.unusedSimpArgs false

theorem wpList_app {P : Program} {w : World} {ops : Array Oper} {rest : List Oper} {o : Oper} {a : Act} {Q : Exit → Act → World → Prop} (hgd : o.guard = none) (s x : Operand) (t : TypeId) (ho : o.op = .call { callee := .builtin .append, args := #[s, x], argTypes := #[t, t] })
    (base base2 : Nat) (e : TypeId) (i : TypeInfo) (z : Value) (size bytes : Nat) (ht : P.underlying t = some (.slice e)) (hi : P.info? e = some i) (hz : i.zero = some z) (hsize : i.size = size) (hby : i.bytes = bytes) (hzs : z.cells.size = size) (hsz : 0 < size)
    (v y : Value) (n m : Nat) (xs ys : List Value) (hs : a.eval s = v) (hx : a.eval x = y) (hown : w.ownsRow base e size v n xs) (hy : w.ownsRow base2 e size y m ys) (hm : 0 < m) (h1 : ∀ u ∈ ys, u.oneCell' = true)
    (h63 : n + m ≤ maxLen) (hbytes : (n + m) * bytes ≤ 140737488355328) (hbase : base ≤ w.heap.size)
    (h : ∀ v' w', w'.ownsRow base e size v' (n + m) (xs ++ ys) → w.grownBy w' v.ownBlock → wpList P ops Q rest (a.put o.dst v') w') : wpList P ops Q (o :: rest) a w := by
  have hyo : w.ownsRow base2 e size y m ys := hy
  rcases hy.2 with ⟨_, q⟩ | ⟨g, cap, cur, rfl, _⟩
  · omega
  · refine wpList_plain hgd fun _ hK => ?_
    refine wp_append_lies w s x t ho base e i z size bytes ht hi hz hsize hby hzs hsz v n xs hs hown ⟨g, 0, none⟩ m cap ys hx hyo.1 (fun j u hj => ?_) h1 hm h63 hbytes hbase w.heap.size rfl (fun g' cap' w' q1 q2 q3 q4 => hK _ _ (h _ w' q1 q2))
    have hjl : j < m * size := by rw [← hyo.1]; exact (List.getElem?_eq_some_iff.1 hj).1
    have := hyo.cellAt j hjl
    rw [Addr.add_mid, Nat.zero_add, this]
    exact hj
theorem pC_one (l : List Pt) : ∀ u ∈ l.flatMap pC, u.oneCell' = true := by
  intro u hu
  obtain ⟨a, _, h⟩ := List.mem_flatMap.1 hu
  simp [pC] at h
  rcases h with rfl | rfl | rfl <;> rfl
theorem eql_nilP (w : World) (a : Option Addr) (l c : Nat) : (binOp .eql 27 (.slice a l c) (.slice none 0 0)).run Try.prog w = .ok (.bool a.isNone) w := by
  simp only [binOp]
  simp [run_equal_slice_nil w 27 35 a l c Try.underlying27 ]
set_option maxRecDepth 100000 in
theorem clone_any (N : Nat) (y : Value) (L : List Pt) (w : World) (h : w.ownsRow N 35 3 y L.length (L.flatMap pC)) (hnil : L = [] → y = .slice none 0 0) (hl : L.length ≤ 4398046511104) :
    Calls Try.prog 18 #[y] w fun e w' => ∃ v, e = .returned v ∧ w'.ownsRow w.heap.size 35 3 v L.length (L.flatMap pC) ∧ Below w.heap.size w w' := by
  by_cases h0 : L = []
  · obtain rfl := hnil h0
    subst h0
    have hq := fun w => eql_nilP w none 0 0
    go_enter Try.func18, Try.ntmps18
    go_wp2_with fail
    go_ret
    exact ⟨_, rfl, World.ownsRow_nil _ _ _ _, Below.refl _ _⟩
  · obtain ⟨i0, hi, hz0, hz1, hz2⟩ := info_parts infoP
    obtain ⟨a, c, rfl, hac⟩ := own_spell h
    have hp : 0 < L.length := List.length_pos_iff.2 h0
    obtain ⟨g, rfl⟩ : ∃ g, a = some ⟨g, 0, none⟩ := hac.resolve_left (by omega)
    have hq := fun w => eql_nilP w (some ⟨g, 0, none⟩) L.length c
    have hb := below1 w (.cells #[] 35)
    have HE : Hid ((w.alloc (.cells #[] 35)).ownsRow w.heap.size 35 3 (.slice (some ⟨w.heap.size, 0, none⟩) 0 0) 0 []) := ⟨rfl, Or.inr ⟨w.heap.size, 0, #[], rfl, Nat.le_refl _, _root_.Go.heap_alloc_last w _, Nat.le_refl _, Nat.zero_le _, rfl, rfl⟩⟩
    have HR : Hid _ := own_later h hb
    have HB : Hid _ := hb
    obtain ⟨n, hn⟩ : ∃ n, L.length = n := ⟨_, rfl⟩
    have HN : Hid (L.length = n) := hn
    rw [hn] at hl hp hq ⊢
    clear h hac h0 hb hn hnil
    go_enter Try.func18, Try.ntmps18
    go_wp2_with (at_builtin; refine wpList_app rfl _ _ 27 rfl w.heap.size N 35 i0 _ 3 32 Try.underlying27 hi hz0 hz1 hz2 rfl (by decide) (.slice (some ⟨w.heap.size, 0, none⟩) 0 0) (.slice (some ⟨g, 0, none⟩) n c) 0 n [] (L.flatMap pC) rfl rfl HE.out (HN.out ▸ HR.out) hp (pC_one _) (by unfold maxLen; omega) (by omega) (by simp) ?_; intro v8 w8 r1 r2)
    go_ret
    rw [Nat.zero_add, List.nil_append] at r1
    exact ⟨_, rfl, r1, HB.out.grown r2 HB.out.size (fun j hj => by cases hj; exact Nat.le_refl _)⟩
set_option maxRecDepth 100000 in
theorem seenP (w : World) (N p : Nat) (s : Nst) (va : Value) (b : Nat) (h : Px w N p s va b) (hl : s.A.length ≤ 4398046511104) :
    Calls Try.prog 17 #[.pointer (some ⟨p, 0, none⟩)] w fun e w' => ∃ v, e = .returned v ∧ w'.ownsRow w.heap.size 35 3 v s.A.length (s.A.flatMap pC) ∧ Below w.heap.size w w' := by
  have c0 := h.c0
  have hc := clone_any N va s.A w h.all h.nil hl
  clear h hl
  go_enter Try.func17, Try.ntmps17
  go_wp2_with (go_at_call 18; refine hc.mono ?_; rintro r w1 ⟨v1, rfl, hr1, hb1⟩)
  go_ret
  exact ⟨_, rfl, hr1, hb1⟩
set_option maxRecDepth 100000 in
set_option maxHeartbeats 4000000 in
theorem waitingP (w : World) (N p : Nat) (s : Nst) (va : Value) (b : Nat) (h : Px w N p s va b) (hok : OkS s) (hl : s.A.length ≤ 4398046511104) :
    Calls Try.prog 15 #[.pointer (some ⟨p, 0, none⟩)] w fun e w' => ∃ v, e = .returned v ∧ w'.ownsRow w.heap.size 35 3 v s.wait.length (s.wait.flatMap pC) ∧ Below w.heap.size w w' := by
  obtain ⟨n, hn⟩ : ∃ n, s.A.length = n := ⟨_, rfl⟩
  obtain ⟨aT, cT, hvt, -⟩ := own_spell h.all
  have HK : Hid (Px w N p s va b ∧ s.A.length = n ∧ s.G.length = n) := ⟨h, hn, by rw [hok.len, hn]⟩
  have HV : Hid (va = .slice aT n cT) := by unfold Hid; rw [← hn]; exact hvt
  have HC := fun W (hW : Below w.heap.size w W) i (hi : i < n) => (HK.out.1.later hW).acell (i := i) (by rw [HK.out.2.1]; exact hi)
  have HE := fun W (hW : Below w.heap.size w W) => (HK.out.1.later hW).c1
  have HZ := fun W (hW : Below w.heap.size w W) => (HK.out.1.later hW).c0
  have HL := fun W (hW : Below w.heap.size w W) (i : Nat) (hi : i < n) (hg : s.G.getD i true = false) => (HK.out.1.later hW).map.look_yes (i := i) (by omega) (by rw [HK.out.2.1]; exact hi) hg
  have HM := fun W (hW : Below w.heap.size w W) (i : Nat) (hi : i < n) (hg : s.G.getD i true = true) => (HK.out.1.later hW).map.look_no (k := (i : Int) + 1) (wI_nat (by omega)) (fun ⟨j, hj, e, q⟩ => by obtain rfl : i = j := (by omega); rw [hg] at q; cases q)
  have HNum : Hid (∀ i, i < n → (s.A.getD i zP).1 = (i : Int) + 1) := by unfold Hid; rw [← hn]; exact hok.num
  have c0 := h.c0
  have c1 := h.c1
  rw [HV.out] at c0
  rw [hn] at hl
  obtain ⟨i0, hi, hz0, hz1, hz2⟩ := info_parts infoP
  obtain ⟨D, hown, -⟩ := h.map.own
  have hsz := hown.size_le
  rw [hn] at hsz
  obtain ⟨m, hm⟩ : ∃ m, Maps.size D = m := ⟨_, rfl⟩
  have HMD : Hid (Maps.size D = m) := hm
  rw [hm] at hsz
  clear h hn hok hvt hm
  go_enter Try.func15, Try.ntmps15
  go_upto_region 2 with (first
    | (at_len; refine wpList_len_own _ rfl _ 44 rfl 3 35 Try.underlying44 hvE b s.A.length D rfl hown ?_)
    | (at_make; refine wpList_make_own _ rfl _ _ 27 rfl w.heap.size 35 i0 (.agg #[.int .i64 0, .int .i64 0, .string ⟨#[]⟩]) 3 Try.underlying27 hi hz0 hz1 .i64 .i64 _ (Maps.size D) rfl rfl rfl (by rw [hz2, HMD.out]; omega) (by rw [HMD.out]; unfold maxLen; omega) (by omega) ?_; intro w1 hrow1 hg1)
    | go_in)
  have hb1 : Below w.heap.size w w1 := (Below.refl _ _).grown hg1 (Nat.le_refl _) (fun j hj => by cases hj)
  have c0 := HZ w1 hb1
  rw [HV.out] at c0
  clear hown c1 HZ
  go_wp2_with fail
  go_loopw [3, 19] (fun o i wx => ∃ (k : Nat) (v : Value), k ≤ n ∧ i = .int .i64 (k : Int) ∧ v = o ∧ wx.ownsRow w.heap.size 35 3 v (waitN s k).length ((waitN s k).flatMap pC) ∧ Below w.heap.size w wx) (fun _ i _ => n - (intOf i).toNat)
  case atStart => exact ⟨0, _, by omega, rfl, rfl, hrow1, hb1⟩
  case round =>
    clear hrow1 hb1 hg1
    obtain ⟨k, o, hk, rfl, rfl, hrow, hb⟩ := hrel
    by_cases hkn : k < n
    · obtain ⟨ga, ca, hva, d0, d1, d2⟩ := HC wr hb k hkn
      have hnum := HNum.out k hkn
      obtain ⟨P, hP⟩ : ∃ P, s.A.getD k zP = P := ⟨_, rfl⟩
      have HP : Hid (s.A.getD k zP = P) := hP
      rw [hP] at d0 d1 d2 hnum
      obtain ⟨P0, P1, P2⟩ := P
      dsimp only at d0 d1 d2 hnum
      subst hnum
      rw [HV.out] at hva
      have ha : aT = some ⟨ga, 0, none⟩ := by simpa using congrArg (fun v => match v with | Value.slice a _ _ => a | _ => none) hva
      clear hva
      subst ha
      have HB : Hid (Below w.heap.size w wr) := hb
      have hb1 := Below.then hb (below1 wr (.cells #[.int .i64 ((k : Int) + 1), .int .i64 P1, .string P2] 35))
      have hr1 := own_later hrow (below1 wr (.cells #[.int .i64 ((k : Int) + 1), .int .i64 P1, .string P2] 35))
      obtain ⟨x0, x1, x2⟩ := boxed3 wr (.int .i64 ((k : Int) + 1)) (.int .i64 P1) (.string P2) 35
      have k1 : (0 : Int) ≤ (k : Int) := by omega
      have k2 : (k : Int) < (n : Int) := by omega
      clear hP hrow hb c0
      go_upto_region 5 with (fail)
      clear d0 d1 d2
      obtain ⟨Q, hQ⟩ : ∃ Q, wr.heap.size = Q := ⟨_, rfl⟩
      rw [hQ] at x0 x1 x2 ⊢
      generalize wr.alloc (.cells #[.int .i64 ((k : Int) + 1), .int .i64 P1, .string P2] 35) = w2 at *
      have HB1 : Hid (Below w.heap.size w w2) := hb1
      obtain ⟨ok, R0, R1, R2, hlk, hok⟩ : ∃ (ok : Bool) (R0 R1 : Int) (R2 : ByteArray), (∀ W, Below w2.heap.size w2 W → (Instr.lookup 44 (.map (some b)) (.int .i64 ((k : Int) + 1)) true).run Try.prog W = .ok (.tuple #[.agg #[.int .i64 R0, .int .i64 R1, .string R2], .bool ok]) W) ∧ (ok = !(s.G.getD k true)) := by
        cases hg : s.G.getD k true with
        | true => exact ⟨false, 0, 0, ⟨#[]⟩, fun W hW => HM W (Below.then HB1.out hW) k hkn hg, rfl⟩
        | false => exact ⟨true, (s.A.getD k zP).1, (s.A.getD k zP).2.1, (s.A.getD k zP).2.2, fun W hW => HL W (Below.then HB1.out hW) k hkn hg, rfl⟩
      have HOK : Hid (ok = !(s.G.getD k true)) := hok
      have HR : Hid (w2.ownsRow w.heap.size 35 3 o (waitN s k).length ((waitN s k).flatMap pC)) := hr1
      have cm := HE w2 hb1
      have q0 := fun W (h : Below w2.heap.size w2 W) => cell_later h x0
      have qp := fun W (h : Below w2.heap.size w2 W) => cell_later h cm
      have hS0 : Below w2.heap.size w2 w2.drew := Below.drew (Below.refl _ _)
      obtain ⟨Z, hZ⟩ : ∃ Z, w2.heap.size = Z := ⟨_, rfl⟩
      clear hok hr1 hb1 hQ cm HL HM HC HE
      go_cut [5, 7] (fun s5 s7 wx => s5 = .pointer (some ⟨Q, 0, none⟩) ∧ s7 = .bool ok ∧ Below w2.heap.size w2 wx)
      case first =>
        clear x0 x1 x2
        refine wp_region_held_drew (S := fun W => Below w2.heap.size w2 W) (by kernel_rfl) hS0 (fun hHeld => ?_)
        refine opT 0 24 (.move (.tmp 0)) (.pointer (some ⟨p, 0, none⟩)) rfl ?_
        go_frame
        refine opT 1 25 (.nilCheck (.tmp 24)) (.pointer (some ⟨p, 0, none⟩)) rfl ?_
        go_frame
        refine opT 2 26 (.fieldAddr 46 (.tmp 25) 1) (.pointer (some ⟨p, 1, none⟩)) rfl ?_
        go_frame
        refine opR 3 27 (.load 44 (.tmp 26)) (.map (some b)) rfl (fun w hSw => by have c := qp w hSw; go_simp) ?_
        go_frame
        refine opT 4 28 (.fieldAddr 35 (.tmp 5) 0) (.pointer (some ⟨Q, 0, none⟩)) rfl ?_
        go_frame
        refine opR 5 29 (.load 3 (.tmp 28)) (.int .i64 ((k : Int) + 1)) rfl (fun w hSw => by have c0 := q0 w hSw; go_simp) ?_
        go_frame
        refine opR 6 30 (.lookup 44 (.tmp 27) (.tmp 29) true) (.tuple #[.agg #[.int .i64 R0, .int .i64 R1, .string R2], .bool ok]) rfl (fun w hSw => by have e := hlk w hSw; go_simp) ?_
        go_frame
        refine opT 7 23 (.move (.tmp 30)) (.tuple #[.agg #[.int .i64 R0, .int .i64 R1, .string R2], .bool ok]) rfl ?_
        go_frame
        refine opT 8 31 (.extract (.tmp 23) 0) (.agg #[.int .i64 R0, .int .i64 R1, .string R2]) rfl ?_
        go_frame
        refine opT 9 32 (.extract (.tmp 23) 1) (.bool ok) rfl ?_
        go_frame
        refine wpAnyH_ready (rs := [10]) (by kernel_rfl) (by simp) ?_
        refine AllReadyH.cons rfl (fun K hK => ?_) AllReadyH.nil
        go_simp
        refine hK.out _ _ (Below.then hHeld (below1 _ _)) (fun hHeld2 => ?_)
        clear hK K
        try go_frame
        refine wpAnyH_ready (rs := [11]) (by kernel_rfl) (by simp) ?_
        refine AllReadyH.cons rfl (fun K hK => ?_) AllReadyH.nil
        go_simp
        refine hK.out _ _ (Below.drew (below1 _ _)) (fun hHeld3 => ?_)
        clear hK K
        try go_frame
        refine opT 12 7 (.assign (.tmp 32)) (.bool ok) rfl ?_
        go_frame
        refine wpAnyH_done (by kernel_rfl) ?_ _
        have HH : Hid (_) := hHeld3
        clear hHeld hHeld2 hHeld3 hS0
        go_wp2_with fail
        go_meet
        case rel => exact ⟨rfl, rfl, HH.out⟩
      case rest =>
        obtain ⟨rfl, rfl, hbc⟩ := hcut
        have y0 := cell_later hbc x0
        have y1 := cell_later hbc x1
        have y2 := cell_later hbc x2
        have HBC : Hid (Below w.heap.size w wc) := Below.then HB1.out hbc
        have hrc := own_later HR.out hbc
        clear x0 x1 x2 q0 qp hlk hS0 hbc hZ
        cases ok with
        | false =>
          have hg : s.G.getD k true = true := by have := HOK.out; cases h : s.G.getD k true with | true => rfl | false => rw [h] at this; cases this
          have HG : Hid (_ = _) := hg
          have HRC : Hid (_) := hrc
          clear hg hrc
          go_wp2_with fail
          go_roundw
          case rel => exact ⟨k + 1, _, by omega, by go_num, rfl, by unfold waitN; rw [if_pos HG.out]; exact HRC.out, HBC.out⟩
          case measure => simp [intOf]; omega
        | true =>
          have hg : s.G.getD k true = false := by have := HOK.out; cases h : s.G.getD k true with | false => rfl | true => rw [h] at this; cases this
          have HG : Hid (_ = _) := hg
          have hwl := waitN_len s k
          obtain ⟨m2, hm2⟩ : ∃ m, (waitN s k).length = m := ⟨_, rfl⟩
          have HM2 : Hid ((waitN s k).length = m2) := hm2
          rw [hm2] at hrc hwl
          have hszc := HBC.out.size
          clear hm2 hg
          go_wp2_with (at_builtin; refine wpList_append_lies _ rfl _ _ _ rfl w.heap.size 35 i0 _ 3 32 Try.underlying27 hi hz0 hz1 hz2 rfl (by omega) _ m2 ((waitN s k).flatMap pC) rfl (own_later hrc (below1 _ _)) ⟨wc.heap.size, 0, none⟩ 1 1 [.int .i64 ((k : Int) + 1), .int .i64 P1, .string P2] rfl rfl (news_of (_root_.Go.heap_alloc_last _ _)) (by simp [Value.oneCell']) (by omega) (by unfold maxLen; omega) (by omega) (by simp; omega) (wc.heap.size + 1) (by simp) ?_; intro g3 cap3 w3 hown3 hgrow3 hat3 hlt3)
          go_roundw
          case rel =>
            have hr2 := own_later hrc (below1 wc (.cells #[.int .i64 ((k : Int) + 1), .int .i64 P1, .string P2] 35))
            have hb2 := Below.then HBC.out (below1 wc (.cells #[.int .i64 ((k : Int) + 1), .int .i64 P1, .string P2] 35))
            refine ⟨k + 1, _, by omega, by go_num, rfl, ?_, hb2.grown hgrow3 hb2.size (fun j hj => (hr2.lt j hj).1)⟩
            unfold waitN
            rw [if_neg (by rw [HG.out]; simp), List.length_append, List.flatMap_append, HP.out, HM2.out]
            exact hown3
          case measure => simp [intOf]; omega
    · obtain rfl : k = n := by omega
      have dkn : decide ((k : Int) < (k : Int)) = false := by simp
      have HR : Hid (wr.ownsRow w.heap.size 35 3 o (waitN s k).length ((waitN s k).flatMap pC) ∧ Below w.heap.size w wr) := ⟨hrow, hb⟩
      clear hrow hb hk hkn c0
      go_wp2_with fail
      go_ret
      refine ⟨_, rfl, ?_, HR.out.2⟩
      unfold Nst.wait
      rw [HK.out.2.1]
      exact HR.out.1
end Go.Proofs.Ytcdibafcolhlgaa.Ne
