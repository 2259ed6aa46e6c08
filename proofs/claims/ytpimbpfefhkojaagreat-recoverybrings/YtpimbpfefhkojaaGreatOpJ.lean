/- OpenWi, OpenMb, joined. -/
import Derived.Test.YtpimbpfefhkojaaGreatWiJ2
import Derived.ProofKit
import Derived.OpenShut
import Derived.Below
import Derived.Lib.SmallJoins
import Derived.Deep.Slices
import Derived.Deep.Strs
import Derived.ChangeSlices
import Derived.SizedLaws
import Derived.Test.YtpimbpfefhkojaaGreatMbJ4
/- Opening a message that came in as an argument. -/
namespace Go.Proofs.YtpimbpfefhkojaaGreat.Wi
open Go.ChangeShapes Go.WideShapes Go.ChangeAt Go.RowKit Go.Joins Go.Deep
set_option linter.unusedVariables false
set_option maxRecDepth 20000
set_option linter.unusedSimpArgs false

theorem byteSt : Tryz.prog.bytesOf 93 = 16 := by kernel_rfl
theorem byteIt : Tryz.prog.bytesOf 104 = 48 := by kernel_rfl
theorem celI : Tryz.prog.cellsOf 3 = 1 := by kernel_rfl
theorem celT : Tryz.prog.cellsOf 9 = 1 := by kernel_rfl
theorem celSt : Tryz.prog.cellsOf 93 = 2 := by kernel_rfl
theorem celK : Tryz.prog.cellsOf 23 = 2 := by kernel_rfl
theorem celQ : Tryz.prog.cellsOf 53 = 2 := by kernel_rfl
theorem celB : Tryz.prog.cellsOf 57 = 4 := by kernel_rfl
theorem celIt : Tryz.prog.cellsOf 104 = 6 := by kernel_rfl
theorem celA : Tryz.prog.cellsOf 58 = 12 := by kernel_rfl
theorem celP : Tryz.prog.cellsOf 60 = 15 := by kernel_rfl
theorem celD : Tryz.prog.cellsOf 116 = 4 := by kernel_rfl
theorem celR : Tryz.prog.cellsOf 49 = 4 := by kernel_rfl
theorem celLs : Tryz.prog.cellsOf 46 = 1 := by kernel_rfl
theorem celLi : Tryz.prog.cellsOf 47 = 1 := by kernel_rfl
theorem celM : Tryz.prog.cellsOf 118 = 26 := by kernel_rfl
section
variable {H : Type} {enc : TypeId × Value → H} {W : World} {base : Nat} {spare : Nat → Bool} {held : Bool}
theorem sized_agg {P : Program} {ts : List TypeId} {ds : List (DataW H)} (h : (DataW.weightsEach P ts ds).all (· ≤ reachBytes) = true) {j : Nat} {t : TypeId} {parts : List (DataW H)} {fs : Array Field} (ht : ts[j]? = some t) (hd : ds[j]? = some (.agg parts)) (hu : P.underlying t = some (.struct fs)) :
    (DataW.weightsEach P (fs.toList.map (·.type)) parts).all (· ≤ reachBytes) = true := by
  rw [List.all_eq_true] at h ⊢
  intro n hn
  exact h n (DataW.weights_mem_each ht hd n (by simpa [DataW.weights, hu] using hn))
theorem int_raw {fuel : Nat} {v : Value} {x : DataW H × List MemPlace} (hf : DataW.trod enc Tryz.prog W base spare held fuel 3 [v] = some x) : ∃ a : Int, v = .int .i64 a := by
  obtain ⟨a, q, _, wa⟩ := DataW.trod_int Tryz.underlying3 hf
  exact ⟨a, by simpa using q⟩
theorem pair_raw {t : TypeId} {f0 f1 : Field} (hu : Tryz.prog.underlying t = some (.struct #[f0, f1])) (e0 : f0.type = 3) (e1 : f1.type = 3) (o0 : f0.offset = 0) (o1 : f1.offset = 1) (hc : Tryz.prog.cellsOf t = 2) {fuel : Nat} {cs : List Value} {x : DataW H × List MemPlace} (hf : DataW.trod enc Tryz.prog W base spare held fuel t cs = some x) : ∃ p : Int × Int, cs = stl p := by
  obtain ⟨y0, y1, n, hx, hl, h0, h1⟩ := trod_struct2 hu hf
  rw [hc] at hl
  match cs, hl with
  | [v0, v1], _ =>
    rw [e0, o0, celI] at h0
    rw [e1, o1, celI] at h1
    obtain ⟨a, rfl⟩ := int_raw h0
    obtain ⟨b, rfl⟩ := int_raw h1
    exact ⟨(a, b), rfl⟩
theorem seat_raw {fuel : Nat} {cs : List Value} {x : DataW H × List MemPlace} (hf : DataW.trod enc Tryz.prog W base spare held fuel 93 cs = some x) : ∃ p : Int × Int, cs = stl p := pair_raw Tryz.underlying93 rfl rfl rfl rfl celSt hf
theorem key_raw {fuel : Nat} {cs : List Value} {x : DataW H × List MemPlace} (hf : DataW.trod enc Tryz.prog W base spare held fuel 23 cs = some x) : ∃ p : Int × Int, cs = stl p := pair_raw Tryz.underlying23 rfl rfl rfl rfl celK hf
theorem req_raw {fuel : Nat} {cs : List Value} {x : DataW H × List MemPlace} (hf : DataW.trod enc Tryz.prog W base spare held fuel 53 cs = some x) : ∃ p : Int × Int, cs = stl p := pair_raw Tryz.underlying53 rfl rfl rfl rfl celQ hf
theorem box_raw {fuel : Nat} {cs : List Value} {x : DataW H × List MemPlace} (hf : DataW.trod enc Tryz.prog W base spare held fuel 57 cs = some x) : ∃ b : (Int × Int) × (Int × Int), cs = bxl b := by
  obtain ⟨y0, y1, n, hx, hl, h0, h1⟩ := trod_struct2 Tryz.underlying57 hf
  rw [celB] at hl
  match cs, hl with
  | [v0, v1, v2, v3], _ =>
    dsimp only at h0 h1
    rw [celK] at h0 h1
    obtain ⟨p, e0⟩ := key_raw h0
    obtain ⟨q, e1⟩ := key_raw h1
    simp [stl] at e0 e1
    exact ⟨(p, q), by rw [e0.1, e0.2, e1.1, e1.2]; rfl⟩
theorem item_raw {fuel : Nat} {cs : List Value} {x : DataW H × List MemPlace} (hf : DataW.trod enc Tryz.prog W base spare held fuel 104 cs = some x) : ∃ i : (Int × Int) × ((Int × Int) × (Int × Int)), cs = itl i := by
  obtain ⟨y0, y1, y2, n, hx, hl, h0, h1, h2⟩ := trod_struct3 Tryz.underlying104 hf
  rw [celIt] at hl
  match cs, hl with
  | [v0, v1, v2, v3, v4, v5], _ =>
    dsimp only at h0 h1 h2
    rw [celI] at h0 h1
    rw [celB] at h2
    obtain ⟨a, rfl⟩ := int_raw h0
    obtain ⟨b, rfl⟩ := int_raw h1
    obtain ⟨q, e⟩ := box_raw h2
    simp [bxl] at e
    exact ⟨((a, b), q), by rw [e.1, e.2.1, e.2.2.1, e.2.2.2]; rfl⟩
theorem path_raw {fuel : Nat} {cs : List Value} {x : DataW H × List MemPlace} (hf : DataW.trod enc Tryz.prog W base spare held fuel 58 cs = some x) : ∃ b0 b1 b2 : (Int × Int) × (Int × Int), cs = bxl b0 ++ (bxl b1 ++ bxl b2) := by
  obtain ⟨xs, m, _, _, hlen, hl, hx⟩ := DataW.trod_array Tryz.underlying58 hf
  rw [celA] at hlen
  have h0 := hx 0 (by decide)
  have h1 := hx 1 (by decide)
  have h2 := hx 2 (by decide)
  rw [List.getElem?_eq_getElem (by omega), celB] at h0 h1 h2
  match cs, hlen with
  | [v0, v1, v2, v3, v4, v5, v6, v7, v8, v9, v10, v11], _ =>
    obtain ⟨b0, e0⟩ := box_raw h0
    obtain ⟨b1, e1⟩ := box_raw h1
    obtain ⟨b2, e2⟩ := box_raw h2
    refine ⟨b0, b1, b2, ?_⟩
    rw [← e0, ← e1, ← e2]
    rfl
theorem reply_raw {fuel : Nat} {cs : List Value} {x : DataW H × List MemPlace} (hf : DataW.trod enc Tryz.prog W base spare held fuel 60 cs = some x) : ∃ p : (Int × Int) × (Int × (((Int × Int) × (Int × Int)) × (((Int × Int) × (Int × Int)) × ((Int × Int) × (Int × Int))))), cs = rpl p := by
  obtain ⟨y0, y1, y2, y3, n, hx, hl, h0, h1, h2, h3⟩ := trod_struct4 Tryz.underlying60 hf
  rw [celP] at hl
  match cs, hl with
  | [v0, v1, v2, v3, v4, v5, v6, v7, v8, v9, v10, v11, v12, v13, v14], _ =>
    dsimp only at h0 h1 h2 h3
    rw [celI] at h0 h1 h2
    rw [celA] at h3
    obtain ⟨a, rfl⟩ := int_raw h0
    obtain ⟨b, rfl⟩ := int_raw h1
    obtain ⟨c, rfl⟩ := int_raw h2
    obtain ⟨b0, b1, b2, e⟩ := path_raw h3
    refine ⟨((a, b), (c, (b0, (b1, b2)))), ?_⟩
    exact congrArg (fun l => Value.int .i64 a :: .int .i64 b :: .int .i64 c :: l) e
theorem sealed_raw {fuel : Nat} {cs : List Value} {x : DataW H × List MemPlace} (hs : ∀ parts, x.1 = .agg parts → (DataW.weightsEach Tryz.prog [ 3, 23, 9 ] parts).all (· ≤ reachBytes) = true) (hf : DataW.trod enc Tryz.prog W base spare held fuel 116 cs = some x) : ∃ d : Int × ((Int × Int) × ByteArray), cs = sdl d ∧ d.2.2.size < 4611686018427387904 := by
  obtain ⟨y0, y1, y2, n, hx, hl, h0, h1, h2⟩ := trod_struct3 Tryz.underlying116 hf
  have hw := hs [y0.1, y1.1, y2.1] (by rw [hx])
  rw [celD] at hl
  match cs, hl with
  | [v0, v1, v2, v3], _ =>
    dsimp only at h0 h1 h2
    rw [celI] at h0
    rw [celK] at h1
    rw [celT] at h2
    obtain ⟨a, rfl⟩ := int_raw h0
    obtain ⟨p, e1⟩ := key_raw h1
    obtain ⟨s, e2, hy, _⟩ := DataW.trod_string Tryz.underlying9 h2
    simp [stl] at e1 e2
    refine ⟨(a, (p, s)), by rw [e1.1, e1.2, e2]; rfl, ?_⟩
    have hz := sized_string hw (j := 2) (t := 9) (bytes := s.data.toList) rfl (by rw [hy]; rfl)
    have z1 : s.data.toList.length = s.data.size := Array.length_toList
    have z2 : s.size = s.data.size := rfl
    unfold reachBytes at hz
    show s.size < _
    omega
theorem rows_raw {α : Type} [Inhabited α] {f : α → List Value} {k by' : Nat} {t e : TypeId} (hu : Tryz.prog.underlying t = some (.slice e)) (hk : Tryz.prog.cellsOf e = k) (hk0 : 0 < k) (hfl : ∀ x, (f x).length = k) (hb : Tryz.prog.bytesOf e = by') (hb0 : 0 < by')
    (each : ∀ {fuel : Nat} {cs : List Value} {x : DataW H × List MemPlace}, DataW.trod enc Tryz.prog W base spare held fuel e cs = some x → ∃ p : α, cs = f p)
    {fuel : Nat} {v : Value} {x : DataW H × List MemPlace} (hs : ∀ es sp, x.1 = .slice es sp → (es.length + sp.length) * Tryz.prog.bytesOf e ≤ reachBytes) (hf : DataW.trod enc Tryz.prog W base spare held fuel t [v] = some x) :
    ∃ (a : Option Addr) (cap : Nat) (l : List α), v = .slice a l.length cap ∧ RdV f k W a l ∧ l.length < 4611686018427387904 := by
  rcases open_slice hu hf with ⟨h0, _⟩ | ⟨a, len, cap, m, n, D, Pl, h0, _, hl, _, hm, hx, hc⟩
  · exact ⟨none, 0, [], by simpa using h0, RdV.nil _ _ _ _, by simp⟩
  · have hlm : len ≤ m := by rw [hm]; split <;> omega
    obtain ⟨g, hg⟩ := choose_lt (α := α) (n := len) (p := fun i y => W.cells? base (a.add (i * k)) k = some (f y)) (fun i hi => by
      obtain ⟨cs', h1, h2⟩ := hc i (by omega)
      obtain ⟨p, rfl⟩ := each h2
      rw [hk] at h1
      exact ⟨p, h1⟩)
    refine ⟨some a, cap, (List.range len).map g, by simpa using h0, fun i hi => ?_, ?_⟩
    · have hi' : i < len := by simpa using hi
      obtain ⟨_, _, c0⟩ := World.cells?_some (hg 0 (by omega))
      have c00 := c0 0 hk0
      obtain ⟨b, o, sp⟩ := a
      have hsp : sp = none := by
        cases hv : (f (g 0))[0]? with
        | none => rw [List.getElem?_eq_none_iff, hfl] at hv; omega
        | some v => rw [hv] at c00; simpa [Addr.add] using World.cell?_spot c00
      subst hsp
      refine ⟨b, o, rfl, fun j v hv => ?_⟩
      obtain ⟨_, _, ci⟩ := World.cells?_some (hg i hi')
      have hj : j < k := by
        have := (List.getElem?_eq_some_iff.1 hv).1
        rwa [hfl] at this
      have := ci j hj
      rw [Addr.add_mid, Addr.add_mid] at this
      rw [this, ← hv]
      simp
    · have h1 := hs ((List.range len).map D) ((List.range (m - len)).map fun j => D (len + j)) (by rw [hx])
      rw [hb] at h1
      simp only [List.length_map, List.length_range, reachBytes] at h1 ⊢
      have : len * 1 ≤ (len + (m - len)) * by' := Nat.mul_le_mul (by omega) hb0
      omega
theorem seats_raw {fuel : Nat} {v : Value} {x : DataW H × List MemPlace} (hs : ∀ es sp, x.1 = .slice es sp → (es.length + sp.length) * Tryz.prog.bytesOf 93 ≤ reachBytes) (hf : DataW.trod enc Tryz.prog W base spare held fuel 46 [v] = some x) :
    ∃ (a : Option Addr) (cap : Nat) (l : List (Int × Int)), v = .slice a l.length cap ∧ RdV stl 2 W a l ∧ l.length < 4611686018427387904 :=
  rows_raw Tryz.underlying46 celSt (by decide) (fun _ => rfl) byteSt (by decide) (fun h => seat_raw h) hs hf
theorem items_raw {fuel : Nat} {v : Value} {x : DataW H × List MemPlace} (hs : ∀ es sp, x.1 = .slice es sp → (es.length + sp.length) * Tryz.prog.bytesOf 104 ≤ reachBytes) (hf : DataW.trod enc Tryz.prog W base spare held fuel 47 [v] = some x) :
    ∃ (a : Option Addr) (cap : Nat) (l : List ((Int × Int) × ((Int × Int) × (Int × Int)))), v = .slice a l.length cap ∧ RdV itl 6 W a l ∧ l.length < 4611686018427387904 :=
  rows_raw Tryz.underlying47 celIt (by decide) (fun _ => rfl) byteIt (by decide) (fun h => item_raw h) hs hf
theorem rekey_raw {fuel : Nat} {cs : List Value} {x : DataW H × List MemPlace} (hs : ∀ parts, x.1 = .agg parts → (DataW.weightsEach Tryz.prog [ 3, 46, 46, 47 ] parts).all (· ≤ reachBytes) = true) (hf : DataW.trod enc Tryz.prog W base spare held fuel 49 cs = some x) :
    ∃ (r : Int × (List (Int × Int) × (List (Int × Int) × List ((Int × Int) × ((Int × Int) × (Int × Int)))))) (aL aJ aI : Option Addr) (cL cJ cI : Nat), cs = rkl r.1 (.slice aL r.2.1.length cL) (.slice aJ r.2.2.1.length cJ) (.slice aI r.2.2.2.length cI) ∧ RdV stl 2 W aL r.2.1 ∧ RdV stl 2 W aJ r.2.2.1 ∧ RdV itl 6 W aI r.2.2.2 ∧ r.2.1.length < 4611686018427387904 ∧ r.2.2.1.length < 4611686018427387904 ∧ r.2.2.2.length < 4611686018427387904 := by
  obtain ⟨y0, y1, y2, y3, n, hx, hl, h0, h1, h2, h3⟩ := trod_struct4 Tryz.underlying49 hf
  have hw := hs [y0.1, y1.1, y2.1, y3.1] (by rw [hx])
  rw [celR] at hl
  match cs, hl with
  | [v0, v1, v2, v3], _ =>
    dsimp only at h0 h1 h2 h3
    rw [celI] at h0
    rw [celLs] at h1 h2
    rw [celLi] at h3
    obtain ⟨a, rfl⟩ := int_raw h0
    obtain ⟨aL, cL, L, rfl, rL, nL⟩ := seats_raw (fun es sp e => sized_slice hw (j := 1) (t := 46) (e := 93) rfl (by rw [← e]; rfl) Tryz.underlying46) h1
    obtain ⟨aJ, cJ, J, rfl, rJ, nJ⟩ := seats_raw (fun es sp e => sized_slice hw (j := 2) (t := 46) (e := 93) rfl (by rw [← e]; rfl) Tryz.underlying46) h2
    obtain ⟨aI, cI, I, rfl, rI, nI⟩ := items_raw (fun es sp e => sized_slice hw (j := 3) (t := 47) (e := 104) rfl (by rw [← e]; rfl) Tryz.underlying47) h3
    exact ⟨(a, (L, (J, I))), aL, aJ, aI, cL, cJ, cI, rfl, rL, rJ, rI, nL, nJ, nI⟩
set_option maxRecDepth 100000 in
theorem msg_raw {fuel : Nat} {cs : List Value} {x : DataW H × List MemPlace} (hs : ∀ parts, x.1 = .agg parts → (DataW.weightsEach Tryz.prog [ 3, 49, 53, 60, 116 ] parts).all (· ≤ reachBytes) = true) (hf : DataW.trod enc Tryz.prog W base spare held fuel 118 cs = some x) :
    ∃ (m : Msg) (aL aJ aI : Option Addr) (cL cJ cI : Nat), cs = mgv m aL aJ aI cL cJ cI ∧ MR W m aL aJ aI := by
  obtain ⟨xs, n, _, hx, hlen, hl, hfs⟩ := DataW.trod_struct Tryz.underlying118 hf
  match xs, hl with
  | [y0, y1, y2, y3, y4], _ =>
    have hw := hs [y0.1, y1.1, y2.1, y3.1, y4.1] (by have := congrArg Prod.fst hx; simpa using this)
    rw [celM] at hlen
    have h0 : DataW.trod enc Tryz.prog W base spare held n 3 ((cs.drop 0).take (Tryz.prog.cellsOf 3)) = some y0 := hfs 0 _ rfl
    have h1 : DataW.trod enc Tryz.prog W base spare held n 49 ((cs.drop 1).take (Tryz.prog.cellsOf 49)) = some y1 := hfs 1 _ rfl
    have h2 : DataW.trod enc Tryz.prog W base spare held n 53 ((cs.drop 5).take (Tryz.prog.cellsOf 53)) = some y2 := hfs 2 _ rfl
    have h3 : DataW.trod enc Tryz.prog W base spare held n 60 ((cs.drop 7).take (Tryz.prog.cellsOf 60)) = some y3 := hfs 3 _ rfl
    have h4 : DataW.trod enc Tryz.prog W base spare held n 116 ((cs.drop 22).take (Tryz.prog.cellsOf 116)) = some y4 := hfs 4 _ rfl
    clear hfs hf hx
    rw [celI] at h0
    rw [celR] at h1
    rw [celQ] at h2
    rw [celP] at h3
    rw [celD] at h4
    match cs, hlen with
    | [v0, v1, v2, v3, v4, v5, v6, v7, v8, v9, v10, v11, v12, v13, v14, v15, v16, v17, v18, v19, v20, v21, v22, v23, v24, v25], _ =>
      obtain ⟨kd, rfl⟩ := int_raw h0
      obtain ⟨r, aL, aJ, aI, cL, cJ, cI, e1, rL, rJ, rI, nL, nJ, nI⟩ := rekey_raw (fun parts e => sized_agg hw (j := 1) (t := 49) rfl (by rw [← e]; rfl) Tryz.underlying49) h1
      obtain ⟨q, e2⟩ := req_raw h2
      obtain ⟨p, e3⟩ := reply_raw h3
      obtain ⟨d, e4, nd⟩ := sealed_raw (fun parts e => sized_agg hw (j := 4) (t := 116) rfl (by rw [← e]; rfl) Tryz.underlying116) h4
      refine ⟨⟨kd, r, q, p, d⟩, aL, aJ, aI, cL, cJ, cI, ?_, ⟨rL, rJ, rI, nL, nJ, nI, nd⟩⟩
      unfold mgv mgl
      dsimp only
      rw [← e1, ← e2, ← e3, ← e4]
      rfl
theorem open_msg {r : Reach} {b0 : Nat} {v : Value} {d : DataW H} {ps : List MemPlace} (hs : ∀ parts, d = .agg parts → (DataW.weightsEach Tryz.prog [ 3, 49, 53, 60, 116 ] parts).all (· ≤ reachBytes) = true) (hv : Value.okWide Tryz.prog W r b0 118 v) (h : DataW.Trod enc Tryz.prog W base spare held 118 v d ps) :
    ∃ (m : Msg) (aL aJ aI : Option Addr) (cL cJ cI : Nat), v = .agg (mgv m aL aJ aI cL cJ cI).toArray ∧ MR W m aL aJ aI := by
  unfold Value.okWide at hv
  rw [Tryz.underlying118 ] at hv
  obtain ⟨cs, rfl, _⟩ := hv
  obtain ⟨fuel, hf⟩ := h
  obtain ⟨m, aL, aJ, aI, cL, cJ, cI, e, hm⟩ := msg_raw hs hf
  refine ⟨m, aL, aJ, aI, cL, cJ, cI, congrArg Value.agg ?_, hm⟩
  apply Array.ext'
  simpa [Value.cells] using e
end
end Go.Proofs.YtpimbpfefhkojaaGreat.Wi
/- Opening a state, a rekey message and a card that came in as arguments. -/
namespace Go.Proofs.YtpimbpfefhkojaaGreat.Mb
open Go.ChangeShapes Go.WideShapes Go.ChangeAt Go.RowKit Go.Joins Go.Deep
open Rt (Ky zK)
open Wi (RdV itl stl int_raw key_raw rekey_raw celI celK)
set_option linter.unusedVariables false
set_option maxRecDepth 20000
set_option linter.unusedSimpArgs false

theorem celB1 : Tryz.prog.cellsOf 4 = 1 := by kernel_rfl
theorem celPa : Tryz.prog.cellsOf 37 = 6 := by kernel_rfl
theorem celMb : Tryz.prog.cellsOf 39 = 14 := by kernel_rfl
theorem celCd : Tryz.prog.cellsOf 109 = 5 := by kernel_rfl
section
variable {H : Type} {enc : TypeId × Value → H} {W : World} {base : Nat} {spare : Nat → Bool} {held : Bool}
theorem bool_raw {fuel : Nat} {v : Value} {x : DataW H × List MemPlace} (hf : DataW.trod enc Tryz.prog W base spare held fuel 4 [v] = some x) : ∃ a : Bool, v = .bool a := by
  obtain ⟨a, q, _⟩ := DataW.trod_bool Tryz.underlying4 hf
  exact ⟨a, by simpa using q⟩
theorem pth_raw {fuel : Nat} {cs : List Value} {x : DataW H × List MemPlace} (hf : DataW.trod enc Tryz.prog W base spare held fuel 37 cs = some x) : ∃ b0 b1 b2 : Int × Int, cs = stl b0 ++ (stl b1 ++ stl b2) := by
  obtain ⟨xs, m, _, _, hlen, hl, hx⟩ := DataW.trod_array Tryz.underlying37 hf
  rw [celPa] at hlen
  have h0 := hx 0 (by decide)
  have h1 := hx 1 (by decide)
  have h2 := hx 2 (by decide)
  rw [List.getElem?_eq_getElem (by omega), celK] at h0 h1 h2
  match cs, hlen with
  | [v0, v1, v2, v3, v4, v5], _ =>
    obtain ⟨b0, e0⟩ := key_raw h0
    obtain ⟨b1, e1⟩ := key_raw h1
    obtain ⟨b2, e2⟩ := key_raw h2
    refine ⟨b0, b1, b2, ?_⟩
    rw [← e0, ← e1, ← e2]
    rfl
theorem mem_raw {fuel : Nat} {cs : List Value} {x : DataW H × List MemPlace} (hf : DataW.trod enc Tryz.prog W base spare held fuel 39 cs = some x) : ∃ m : Mb, cs = mbl m := by
  obtain ⟨xs, n, _, hx, hlen, hl, hfs⟩ := DataW.trod_struct Tryz.underlying39 hf
  match xs, hl with
  | [y0, y1, y2, y3, y4, y5, y6, y7], _ =>
    rw [celMb] at hlen
    have h0 : DataW.trod enc Tryz.prog W base spare held n 3 ((cs.drop 0).take (Tryz.prog.cellsOf 3)) = some y0 := hfs 0 _ rfl
    have h1 : DataW.trod enc Tryz.prog W base spare held n 3 ((cs.drop 1).take (Tryz.prog.cellsOf 3)) = some y1 := hfs 1 _ rfl
    have h2 : DataW.trod enc Tryz.prog W base spare held n 3 ((cs.drop 2).take (Tryz.prog.cellsOf 3)) = some y2 := hfs 2 _ rfl
    have h3 : DataW.trod enc Tryz.prog W base spare held n 23 ((cs.drop 3).take (Tryz.prog.cellsOf 23)) = some y3 := hfs 3 _ rfl
    have h4 : DataW.trod enc Tryz.prog W base spare held n 37 ((cs.drop 5).take (Tryz.prog.cellsOf 37)) = some y4 := hfs 4 _ rfl
    have h5 : DataW.trod enc Tryz.prog W base spare held n 4 ((cs.drop 11).take (Tryz.prog.cellsOf 4)) = some y5 := hfs 5 _ rfl
    have h6 : DataW.trod enc Tryz.prog W base spare held n 4 ((cs.drop 12).take (Tryz.prog.cellsOf 4)) = some y6 := hfs 6 _ rfl
    have h7 : DataW.trod enc Tryz.prog W base spare held n 3 ((cs.drop 13).take (Tryz.prog.cellsOf 3)) = some y7 := hfs 7 _ rfl
    clear hfs hf hx
    rw [celI] at h0 h1 h2 h7
    rw [celK] at h3
    rw [celPa] at h4
    rw [celB1] at h5 h6
    match cs, hlen with
    | [v0, v1, v2, v3, v4, v5, v6, v7, v8, v9, v10, v11, v12, v13], _ =>
      obtain ⟨a0, rfl⟩ := int_raw h0
      obtain ⟨a1, rfl⟩ := int_raw h1
      obtain ⟨a2, rfl⟩ := int_raw h2
      obtain ⟨k, e3⟩ := key_raw h3
      obtain ⟨b0, b1, b2, e4⟩ := pth_raw h4
      obtain ⟨a5, rfl⟩ := bool_raw h5
      obtain ⟨a6, rfl⟩ := bool_raw h6
      obtain ⟨a7, rfl⟩ := int_raw h7
      simp [stl] at e3 e4
      obtain ⟨rfl, rfl⟩ := e3
      obtain ⟨rfl, rfl, rfl, rfl, rfl, rfl⟩ := e4
      exact ⟨⟨a0, a1, a2, ⟨k.1, k.2⟩, ⟨b0.1, b0.2⟩, ⟨b1.1, b1.2⟩, ⟨b2.1, b2.2⟩, a5, a6, a7⟩, rfl⟩
theorem open_mb {r : Reach} {b0 : Nat} {v : Value} {d : DataW H} {ps : List MemPlace} (hv : Value.okWide Tryz.prog W r b0 39 v) (h : DataW.Trod enc Tryz.prog W base spare held 39 v d ps) :
    ∃ m : Mb, v = .agg (mba m) := by
  unfold Value.okWide at hv
  rw [Tryz.underlying39 ] at hv
  obtain ⟨cs, rfl, _⟩ := hv
  obtain ⟨fuel, hf⟩ := h
  obtain ⟨m, e⟩ := mem_raw hf
  refine ⟨m, congrArg Value.agg ?_⟩
  apply Array.ext'
  simpa [Value.cells, mba] using e
theorem open_rk {r : Reach} {b0 : Nat} {v : Value} {d : DataW H} {ps : List MemPlace} (hs : ∀ parts, d = .agg parts → (DataW.weightsEach Tryz.prog [ 3, 46, 46, 47 ] parts).all (· ≤ reachBytes) = true) (hv : Value.okWide Tryz.prog W r b0 49 v) (h : DataW.Trod enc Tryz.prog W base spare held 49 v d ps) :
    ∃ (r : Rk) (aL aJ aI : Option Addr) (cL cJ cI : Nat), v = .agg (rka r aL aJ aI cL cJ cI) ∧ RL W r aL aJ aI ∧ RN r := by
  unfold Value.okWide at hv
  rw [Tryz.underlying49 ] at hv
  obtain ⟨cs, rfl, _⟩ := hv
  obtain ⟨fuel, hf⟩ := h
  obtain ⟨r, aL, aJ, aI, cL, cJ, cI, e, rL, rJ, rI, nL, nJ, nI⟩ := rekey_raw hs hf
  refine ⟨r, aL, aJ, aI, cL, cJ, cI, congrArg Value.agg ?_, ⟨rL, rJ, rI⟩, ⟨nL, nJ, nI⟩⟩
  apply Array.ext'
  simpa [Value.cells, rka, Wi.rkl] using e
theorem card_raw {fuel : Nat} {cs : List Value} {x : DataW H × List MemPlace} (hf : DataW.trod enc Tryz.prog W base spare held fuel 109 cs = some x) : ∃ (X S P : Int) (k : Ky), cs = (ccs X S P k).toList := by
  obtain ⟨y0, y1, y2, y3, n, hx, hl, h0, h1, h2, h3⟩ := trod_struct4 Tryz.underlying109 hf
  rw [celCd] at hl
  match cs, hl with
  | [v0, v1, v2, v3, v4], _ =>
    dsimp only at h0 h1 h2 h3
    rw [celI] at h0 h1 h2
    rw [celK] at h3
    obtain ⟨a, rfl⟩ := int_raw h0
    obtain ⟨b, rfl⟩ := int_raw h1
    obtain ⟨c, rfl⟩ := int_raw h2
    obtain ⟨k, e3⟩ := key_raw h3
    simp [stl] at e3
    obtain ⟨rfl, rfl⟩ := e3
    exact ⟨a, b, c, ⟨k.1, k.2⟩, rfl⟩
theorem open_cd {r : Reach} {b0 : Nat} {v : Value} {d : DataW H} {ps : List MemPlace} (hv : Value.okWide Tryz.prog W r b0 109 v) (h : DataW.Trod enc Tryz.prog W base spare held 109 v d ps) :
    ∃ (X S P : Int) (k : Ky), v = .agg (ccs X S P k) := by
  unfold Value.okWide at hv
  rw [Tryz.underlying109 ] at hv
  obtain ⟨cs, rfl, _⟩ := hv
  obtain ⟨fuel, hf⟩ := h
  obtain ⟨X, S, P, k, e⟩ := card_raw hf
  refine ⟨X, S, P, k, congrArg Value.agg ?_⟩
  apply Array.ext'
  simpa [Value.cells] using e
end
end Go.Proofs.YtpimbpfefhkojaaGreat.Mb
