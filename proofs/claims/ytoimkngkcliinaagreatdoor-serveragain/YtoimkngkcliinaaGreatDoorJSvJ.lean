/- SvJ, SvK, SvL, SvM, SvV, joined. -/
import Derived.Test.YtoimkngkcliinaaGreatDoorHd
import Derived.Test.YtoimkngkcliinaaGreatDoorJSvB
import Derived.Deep.DeepCutAuto
import Derived.Test.YtoimkngkcliinaaGreatDoorRows
import Derived.Lib.LaidTab
import Derived.Stop.LaidErr
import Derived.LaidHandle
import Derived.LaidLaws
import Derived.Shelf.Vars
import Derived.OpenShut
namespace Go.Proofs.YtoimkngkcliinaaGreatDoor
open Go.RowKit Go.Maps Go.Great Rc
open Rs (RdI Tb owns_slice)
open Jr.Dk (Go1 Jn St KeepT append_k apE apS apC apA apD)
set_option linter.unusedVariables false
set_option linter.unusedSimpArgs false
def pdC (t:Tr) (L J:List Int):Array Value:=if plE t L J=0 then stpa (pnT t L J) (lg t (L,J)) (msB t L J) else stpa (tz 0) ⟨#[]⟩ ⟨#[]⟩
def pdV (t:Tr) (L J:List Int):Value:=if plE t L J=0 then .nilIface else erv (plE t L J) txBt
theorem planned_any (t:Tr) (aL aJ:Option Addr) (cL cJ:Nat) (L J:List Int) (w:World) (hTb:Tb w) (lL:L.length<1152921504606846976) (lJ:J.length<1152921504606846976) (hL:RdI w aL L) (hJ:RdI w aJ J):
  Calls Tryz.prog 85 #[.agg (tcs t),.agg #[.slice aL L.length cL,.slice aJ J.length cJ]] w fun e w'=>e=.returned (.tuple #[.agg (pdC t L J),pdV t L J])∧Below w.heap.size w w':=by
 unfold pdC pdV;by_cases h0:plE t L J=0
 ·rw [if_pos h0,if_pos h0];exact planned_yes t aL aJ cL cJ L J w hTb lL lJ hL hJ h0
 ·rw [if_neg h0,if_neg h0];exact planned_no t aL aJ cL cJ L J w hTb lL lJ hL hJ h0
theorem pdC_size (t:Tr) (L J:List Int):(pdC t L J).size=238∧(pdC t L J).all (·.oneCell')=true:=by
 unfold pdC;split
 ·exact ⟨stpa_size _ _ _,stpa_one _ _ _⟩
 ·exact ⟨stpa_size _ _ _,stpa_one _ _ _⟩
section
variable {w w':World} {T:Nat} {n:Tr} {k b:ByteArray}
theorem stpa_tr {i:Nat} (hi:i<236):(stpa n k b)[i]? =(tcs n)[i]? :=by
 have:=tcl_len n;unfold stpa stpl;rw [List.getElem?_toArray,List.getElem?_append_left (by omega)];simp
theorem stpa_hi (i:Nat):(stpa n k b)[236+i]? =([.string k,.string b]:List Value)[i]? :=by
 have:=tcl_len n;unfold stpa stpl;rw [List.getElem?_toArray,List.getElem?_append_right (by omega),this,Nat.add_sub_cancel_left]
theorem StpAt.tree (h:StpAt w T (stpa n k b)):(Instr.loadAt 54 (.pointer (some ⟨T,0,none⟩))).run Tryz.prog w=.ok (.agg (tcs n)) w:=
 part_run h Tryz.underlying54 rfl infoT 0 (tcs_size n) fun j hj=>by rw [Nat.zero_add];exact stpa_tr hj
theorem StpAt.texts (h:StpAt w T (stpa n k b)):w.cell? ⟨T,236,none⟩=some (.string k)∧w.cell? ⟨T,237,none⟩=some (.string b):=
 ⟨(cell_of_row w T _ _ _ _ h).trans (stpa_hi 0),(cell_of_row w T _ _ _ _ h).trans (stpa_hi 1)⟩
end
theorem rdP {w:World} {ops:Array Oper} {rest:List Oper} {o:Oper} {a:Act} {Q:Exit→Act→World→Prop} {T:Nat} {n:Tr} {k b:ByteArray} {c:Array Value} (h:StpAt w T (stpa n k b)) (hc:tcs n=c) (x:Operand) (ho:o.op=.load 54 x)
  (hx:a.eval x=.pointer (some ⟨T,0,none⟩)) (hw:Region.wanted o (yielded ops a.tmps)=true) (kk:wpList Tryz.prog ops Q rest (a.put o.dst (.agg c)) w):wpList Tryz.prog ops Q (o::rest) a w:=
 rd_guard hw (ld_exec (hc ▸ h.tree) ho hx) kk
theorem stSv {w:World} {ops:Array Oper} {rest:List Oper} {o:Oper} {a:Act} {Q:Exit→Act→World→Prop} {S p j:Nat} {t n:Tr} {d:Bool} {c:Array Value} (h:SvAt w S p j t d) (hc:tcs n=c) (hgd:o.guard=none) (x y:Operand) (ho:o.op=.store 54 x y)
  (hx:a.eval x=.pointer (some ⟨S,2,none⟩)) (hy:a.eval y=.agg c) (k:wpList Tryz.prog ops Q rest (a.put o.dst undef) (w.setCells S 2 c.toList)):wpList Tryz.prog ops Q (o::rest) a w:=by
 subst hc;exact wpList_store_mid hgd 54 x y ho S 2 (tcs n) hx hy (by rw [tcs_size];exact Wi.th_of h 2 236 (by rw [sva_size];omega)) (by rw [tcs_size];exact infoT) (tcs_one n) k
/- A server, its journal, its disk. -/
structure Sv (w0 w:World) (S p j:Nat) (s:St) (c a:Nat) (dj:Bool) (t:Tr) (d:Bool):Prop where
 go:Go1 w0.heap.size w0 w p s
 jn:Jn w j p c a dj
 sv:SvAt w S p j t d
 jN:w0.heap.size≤j
 sN:w0.heap.size≤S
section
variable {w0 w w':World} {S p j c a:Nat} {s:St} {dj d:Bool} {t:Tr}
theorem Sv.later (h:Sv w0 w S p j s c a dj t d) (hb:Below w.heap.size w w'):Sv w0 w' S p j s c a dj t d:=⟨h.go.later hb,h.jn.later hb,h.sv.later hb,h.jN,h.sN⟩
theorem Sv.vs (h:Sv w0 w S p j s c a dj t d) (hV:Vs w0):Vs w:=hV.later h.go.below
theorem Sv.set (h:Sv w0 w S p j s c a dj t d) (n:Tr):Sv w0 (w.setCells S 2 (tcs n).toList) S p j s c a dj n d∧KeepS w (w.setCells S 2 (tcs n).toList):=
 ⟨⟨go_other h.go h.sv h.sN (kept_cells S _ _ (Jr.Dk.Kept.refl _ _)),jn_other h.jn h.sv (kept_cells S _ _ (Jr.Dk.Kept.refl _ _)),h.sv.set n,h.jN,h.sN⟩,KeepS.ofKept h.sv (kept_cells S _ _ (Jr.Dk.Kept.refl _ _))⟩
theorem Sv.die (h:Sv w0 w S p j s c a dj t d):Sv w0 (w.setCell ⟨S,238,none⟩ (.bool true)) S p j s c a dj t true∧KeepS w (w.setCell ⟨S,238,none⟩ (.bool true)):=by
 have hk:Jr.Dk.Kept (fun k=>k=S) w (w.setCell ⟨S,238,none⟩ (.bool true)):=(Jr.Dk.Kept.refl (fun k=>k=S) w).setCell (p:=⟨S,238,none⟩) (fun _=>rfl) _;exact ⟨⟨go_other h.go h.sv h.sN hk,jn_other h.jn h.sv hk,h.sv.die,h.jN,h.sN⟩,KeepS.ofKept h.sv hk⟩
end
abbrev txJn:ByteArray:={data:=#[116,104,101,32,106,111,117,114,110,97,108]}
section
variable {w0 w:World} {S p j c a:Nat} {s:St} {dj d:Bool} {t:Tr}
theorem zsp_of {n:Nat} {w W:World} {o:Obj} (h:Below n w (W.alloc o)):(W.alloc o).heap[W.heap.size]? =some o:=heap_alloc_last W o
theorem zsp_of' {n:Nat} {w W:World} {o:Obj} (h:Below n w (W.alloc o).drew):(W.alloc o).drew.heap[W.heap.size]? =some o:=heap_alloc_last W o
/- What batch answers where the server lives. -/
def BtP (w0 w:World) (S p j:Nat) (s:St) (c a:Nat) (dj:Bool) (t:Tr) (L J:List Int) (e:Ending) (w':World):Prop:=
 (plE t L J≠0∧e=.returned (.tuple #[.string ⟨#[]⟩,erv (plE t L J) txBt])∧Below w.heap.size w w')∨
 (plE t L J=0∧apE s c a dj (lg t (L,J))≠0∧e=.returned (.tuple #[.string ⟨#[]⟩,erv (apE s c a dj (lg t (L,J))) txJn])∧Sv w0 w' S p j (apS s c a dj (lg t (L,J))) (apC s c a dj (lg t (L,J))) (apA s c a dj (lg t (L,J))) (apD s c a dj (lg t (L,J))) t false∧KeepS w w')∨
 (plE t L J=0∧apE s c a dj (lg t (L,J))=0∧e=.returned (.tuple #[.string (msB t L J),.nilIface])∧Sv w0 w' S p j (apS s c a dj (lg t (L,J))) (apC s c a dj (lg t (L,J))) (apA s c a dj (lg t (L,J))) (apD s c a dj (lg t (L,J))) (pnT t L J) false∧KeepS w w')
set_option maxRecDepth 100000 in
set_option maxHeartbeats 2000000 in
theorem batch_live (hV:Vs w0) (h:Sv w0 w S p j s c a dj t false) (h0:s.left≠0) (ha:a≤2048) (hlog:s.log.length+255≤5864062014805) (aL aJ:Option Addr) (cL cJ:Nat) (L J:List Int) (lL:L.length<1152921504606846976) (lJ:J.length<1152921504606846976) (hL:RdI w aL L) (hJ:RdI w aJ J):
  Calls Tryz.prog 55 #[.pointer (some ⟨S,0,none⟩),.agg #[.slice aL L.length cL,.slice aJ J.length cJ]] w fun e w'=>BtP w0 w S p j s c a dj t L J e w':=by
 have hb:=below_alloc w (.cells #[.slice aL L.length cL,.slice aJ J.length cJ] 41);have h1:=h.later hb;have hu:=up_yes h1.go h1.sv h0;have hBT:BtAt (w.alloc (.cells #[.slice aL L.length cL,.slice aJ J.length cJ] 41)) w.heap.size aL aJ L.length J.length cL cJ:=heap_alloc_last w _
 have hPL:∀W,Below (w.alloc (.cells #[.slice aL L.length cL,.slice aJ J.length cJ] 41)).heap.size (w.alloc (.cells #[.slice aL L.length cL,.slice aJ J.length cJ] 41)) W→Calls Tryz.prog 85 #[.agg (tcs t),.agg #[.slice aL L.length cL,.slice aJ J.length cJ]] W fun e w'=>e=.returned (.tuple #[.agg (pdC t L J),pdV t L J])∧Below W.heap.size W w':=fun W hW=>
  planned_any t aL aJ cL cJ L J W ((h1.vs hV).later hW).tb lL lJ ((hL.later hb).later hW) ((hJ.later hb).later hW)
 have hAP:=fun W (hW:Sv w0 W S p j s c a dj t false)=>append_k hW.go hW.jn hW.jN (lg t (L,J)) ha
 have HYES:Hid (plE t L J=0→pdC t L J=stpa (pnT t L J) (lg t (L,J)) (msB t L J)∧pdV t L J=.nilIface∧(lg t (L,J)).size≤9223372036854775807):=fun e=>⟨by unfold pdC;rw [if_pos e],by unfold pdV;rw [if_pos e],by have:=lg_size e;omega⟩
 have HNO:Hid (plE t L J≠0→pdV t L J=.iface 253 (.agg #[.string txBt,.iface 198 (.agg #[.int .i64 (plE t L J)])])∧erv (plE t L J) txBt=.iface 253 (.agg #[.string txBt,.iface 198 (.agg #[.int .i64 (plE t L J)])])):=fun e=>⟨by unfold pdV erv;rw [if_neg e,if_neg e],by unfold erv;rw [if_neg e]⟩
 have HSZ:Hid ((pdC t L J).size=238∧(pdC t L J).all (·.oneCell')=true):=pdC_size t L J;unfold BtP;obtain ⟨E,hE⟩:∃e,plE t L J=e:=⟨_,rfl⟩;obtain ⟨n,hn⟩:∃e,pnT t L J=e:=⟨_,rfl⟩;obtain ⟨kt,hkt⟩:∃e,lg t (L,J)=e:=⟨_,rfl⟩;obtain ⟨mb,hmb⟩:∃e,msB t L J=e:=⟨_,rfl⟩;obtain ⟨cf,hcf⟩:∃e,pdC t L J=e:=⟨_,rfl⟩;obtain ⟨ev,hev⟩:∃e,pdV t L J=e:=⟨_,rfl⟩;obtain ⟨ct,hct⟩:∃c,tcs t=c:=⟨_,rfl⟩;have HT:Hid (tcs t=ct):=hct;obtain ⟨NL,hNL⟩:∃x,L.length=x:=⟨_,rfl⟩;obtain ⟨NJ,hNJ⟩:∃x,J.length=x:=⟨_,rfl⟩;rw [hE,hn,hkt,hmb,hcf,hev] at HYES;rw [hE,hev] at HNO;rw [hcf] at HSZ;rw [hE,hn,hkt,hmb];simp only [hkt] at hAP;simp only [hct,hcf,hev,hNL,hNJ] at hPL;rw [hNL,hNJ] at hb h1 hu hBT ⊢;have HS1:Hid (Sv w0 (w.alloc (.cells #[.slice aL NL cL,.slice aJ NJ cJ] 41)) S p j s c a dj t false):=h1;have HB1:Hid (Below w.heap.size w (w.alloc (.cells #[.slice aL NL cL,.slice aJ NJ cJ] 41))):=hb;have HBT:Hid (BtAt (w.alloc (.cells #[.slice aL NL cL,.slice aJ NJ cJ] 41)) w.heap.size aL aJ NL NJ cL cJ):=hBT;have HPL:Hid _:=hPL;have HAP:Hid (∀W,Sv w0 W S p j s c a dj t false→kt.size≤9223372036854775807→Calls Tryz.prog 86 #[.pointer (some ⟨j,0,none⟩),.string kt] W fun e w'=>e=.returned (.int .i64 (apE s c a dj kt))∧Go1 w0.heap.size w0 w' p (apS s c a dj kt)∧Jn w' j p (apC s c a dj kt) (apA s c a dj kt) (apD s c a dj kt)∧KeepT W w'):=fun W hW hk=>hAP W hW hk hlog
 clear h hb h1 h0 ha hlog lL lJ hL hJ hPL hAP hE hn hkt hmb hcf hev hct hNL hNJ hBT hV;go_enter Tryz.func55,Tryz.ntmps55;go_upto_region 1 with (fail)
 generalize w.alloc (.cells #[.slice aL NL cL,.slice aJ NJ cJ] 41)=w1 at *;obtain ⟨B,hB⟩:∃B,w.heap.size=B:=⟨_,rfl⟩;rw [hB] at HBT;try rw [hB]
 clear hB;go_wp2_with fail
 refine hu.mono ?_;rintro r w2 ⟨rfl,rfl⟩;clear hu;go_upto_region 4 with (fail)
 go_cut [7,8] (fun s7 s8 wx=>∃T,s7=.pointer (some ⟨T,0,none⟩)∧s8=ev∧Below w2.heap.size w2 wx∧StpAt wx T cf)
 case first=>
  have hS0:Below w2.heap.size w2 w2.drew:=drew_below _;refine wp_region_held_drew (S:=fun X=>Below w2.heap.size w2 X) (by kernel_rfl) hS0 (fun hHeld=>?_);refine opX 0 (.pointer (some ⟨S,0,none⟩)) rfl ?_;go_frame;refine opX 1 (.pointer (some ⟨S,0,none⟩)) rfl ?_;go_frame;refine opX 2 (.pointer (some ⟨S,2,none⟩)) rfl ?_;go_frame;refine opY 3 (.agg ct) rfl (fun w hSw=>ld_exec (HT.out ▸ (HS1.out.sv.later hSw).tree) rfl rfl) ?_;go_frame;refine opY 4 (.agg #[.slice aL NL cL,.slice aJ NJ cJ]) rfl (fun w hSw=>by obtain ⟨x0,x1⟩:=(HBT.out.later hSw).cells;clear hSw;go_simp) ?_;go_frame;refine wpAnyH_ready (rs:=[5,9]) (by kernel_rfl) (by simp) ?_;refine (AllReadyH.cons rfl (fun K hK=>?_) (AllReadyH.cons rfl (fun K hK=>?_) AllReadyH.nil))
  ·go_simp
   refine (HPL.out _ hHeld).mono ?_;rintro r w7 ⟨rfl,hb7⟩;go_wp2_with fail
   try (have hz:=Wi.row_later hz hb7)
   refine hK.out _ _ (hHeld.trans (hb7.mono hHeld.size)) (fun hHd1=>?_);clear hHeld hb7;clear hK K;try go_frame
   refine opX 6 (.tuple #[.agg cf,ev]) rfl ?_;go_frame;refine opX 7 (.agg cf) rfl ?_;go_frame;refine opX 8 (ev) rfl ?_;go_frame;refine rdy 9 rfl fun K hK=>?_;go_simp
   have hgT:=hHd1.size;refine hK.out _ _ (hHd1.trans ((below_alloc _ _).mono hHd1.size)) (fun hHd2=>?_)
   first | have hz:=zsp_of hHd2 | have hz:=zsp_of' hHd2
   try simp only [World.size_alloc] at hz
   try simp only [World.size_alloc] at hgT
   clear hHd1;clear hK K;try go_frame
   refine rdy 10 rfl fun Kc hK=>?_;refine if_wp rfl (wp_stRow0 202 _ _ rfl _ cf rfl rfl 202 _ hz (by rw [HSZ.out.1];exact infoStp) (by rw [HSZ.out.1,zero_st,stpa_size]) HSZ.out.2 rfl ?_);have hzZ:=Rt.heap_setRow_same hz cf;refine hK.out _ _ (Rt.setRow_below (by first | exact hgT | omega) hHd2 _) (fun hHd3=>?_);clear hHd2;clear hK Kc;try go_frame
   refine opX 11 (ev) rfl ?_;go_frame;refine wpAnyH_done (by kernel_rfl) ?_ _;go_wp2_with fail
   go_meet
   case rel=>exact ⟨_,rfl,rfl,hHd3,hzZ⟩
  ·go_simp
   have hgT:=hHeld.size;refine hK.out _ _ (hHeld.trans ((below_alloc _ _).mono hHeld.size)) (fun hHd1=>?_)
   first | have hz:=zsp_of hHd1 | have hz:=zsp_of' hHd1
   try simp only [World.size_alloc] at hz
   try simp only [World.size_alloc] at hgT
   clear hHeld;clear hK K;try go_frame
   refine rdy 5 rfl fun K hK=>?_;go_simp
   refine (HPL.out _ hHd1).mono ?_;rintro r w7 ⟨rfl,hb7⟩;go_wp2_with fail
   try (have hz:=Wi.row_later hz hb7)
   refine hK.out _ _ (hHd1.trans (hb7.mono hHd1.size)) (fun hHd2=>?_);clear hHd1 hb7;clear hK K;try go_frame
   refine opX 6 (.tuple #[.agg cf,ev]) rfl ?_;go_frame;refine opX 7 (.agg cf) rfl ?_;go_frame;refine opX 8 (ev) rfl ?_;go_frame;refine rdy 10 rfl fun Kc hK=>?_;refine if_wp rfl (wp_stRow0 202 _ _ rfl _ cf rfl rfl 202 _ hz (by rw [HSZ.out.1];exact infoStp) (by rw [HSZ.out.1,zero_st,stpa_size]) HSZ.out.2 rfl ?_);have hzZ:=Rt.heap_setRow_same hz cf;refine hK.out _ _ (Rt.setRow_below (by first | exact hgT | omega) hHd2 _) (fun hHd3=>?_);clear hHd2;clear hK Kc;try go_frame
   refine opX 11 (ev) rfl ?_;go_frame;refine wpAnyH_done (by kernel_rfl) ?_ _;go_wp2_with fail
   go_meet
   case rel=>exact ⟨_,rfl,rfl,hHd3,hzZ⟩
 case rest=>
  obtain ⟨T,rfl,rfl,hbc,hT⟩:=hcut;have HS2:Hid (Sv w0 wc S p j s c a dj t false):=HS1.out.later hbc;have HB2:Hid (Below w.heap.size w wc):=HB1.out.trans (hbc.mono HB1.out.size);clear hbc HS1 HB1 HBT HPL;by_cases h0:E=0
  ·obtain ⟨rfl,rfl,hks⟩:=HYES.out h0;have HTT:Hid (StpAt wc T (stpa n kt mb)):=hT;have HE0:Hid (E=0):=h0;clear h0 HYES HNO hT HSZ;go_upto_region 7 with (fail)
   have hc7:Sv w0 wc.drew S p j s c a dj t false:=HS2.out.later (drew_below _);have hS0:SvAt wc.drew S p j t false∧StpAt wc.drew T (stpa n kt mb):=⟨hc7.sv,Wi.row_later HTT.out (drew_below _)⟩;have hAP:=HAP.out wc.drew hc7 hks;obtain ⟨E2,hE2⟩:∃e,apE s c a dj kt=e:=⟨_,rfl⟩;rw [hE2] at hAP;have HE2:Hid (apE s c a dj kt=E2):=hE2;have HB7:Hid (Below w.heap.size w wc.drew∧w.heap.size≤wc.drew.heap.size):=⟨HB2.out.trans ((drew_below wc).mono HB2.out.size),HB2.out.size⟩;clear hc7 HAP hks hE2;refine wp_region_held_drew (S:=fun X=>SvAt X S p j t false∧StpAt X T (stpa n kt mb)) (by kernel_rfl) hS0 (fun hHeld=>?_);refine opX 0 (.pointer (some ⟨S,0,none⟩)) rfl ?_;go_frame;refine opX 1 (.pointer (some ⟨S,0,none⟩)) rfl ?_;go_frame;refine opX 2 (.pointer (some ⟨S,1,none⟩)) rfl ?_;go_frame;refine opY 3 (.pointer (some ⟨j,0,none⟩)) rfl (fun w hSw=>by have c1:=hSw.1.cells.2.1;clear hSw;go_simp) ?_;go_frame;refine opX 4 (.pointer (some ⟨T,236,none⟩)) rfl ?_;go_frame;refine opY 5 (.string kt) rfl (fun w hSw=>by have c1:=hSw.2.texts.1;clear hSw;go_simp) ?_;go_frame;refine rdy 6 rfl fun K hK=>?_;go_simp
   refine hAP.mono ?_;rintro r w8 ⟨rfl,hg8,hj8,hk8⟩;go_wp2_with fail
   refine hK.out _ _ ⟨hk8 _ _ _ _ hHeld.1 (by decide) (by decide) (by decide),hk8 _ _ _ _ hHeld.2 (by decide) (by decide) (by decide)⟩ (fun hHeld2=>?_);clear hK K;try go_frame
   refine opX 7 (.int .i64 E2) rfl ?_;go_frame;refine wpAnyH_done (by kernel_rfl) ?_ _;have HS8:Hid (Sv w0 w8 S p j (apS s c a dj kt) (apC s c a dj kt) (apA s c a dj kt) (apD s c a dj kt) t false):=⟨hg8,hj8,hHeld2.1,HS2.out.jN,HS2.out.sN⟩;have HK8:Hid (KeepS w w8):=(KeepS.ofBelow HB7.out.1).trans (.ofT hk8);have HT8:Hid (StpAt w8 T (stpa n kt mb)):=hHeld2.2;clear hAP hS0 hg8 hj8 hk8 hHeld hHeld2 HS2 HTT HB2 HB7;by_cases h2:E2=0
   ·subst h2;obtain ⟨cn,hcn⟩:∃c,tcs n=c:=⟨_,rfl⟩;have HC:Hid (tcs n=cn):=hcn;have hsv:=HS8.out.sv;have htt:=HT8.out;have h9:=HS8.out.set n;rw [hcn] at h9;have HF:Hid (Sv w0 (w8.setCells S 2 cn.toList) S p j (apS s c a dj kt) (apC s c a dj kt) (apA s c a dj kt) (apD s c a dj kt) n false∧KeepS w (w8.setCells S 2 cn.toList)):=⟨h9.1,HK8.out.trans h9.2⟩;have ht9:StpAt (w8.setCells S 2 cn.toList) T (stpa n kt mb):=h9.2 _ _ _ _ htt (by decide) (by decide) (by decide) (by decide);clear h9 hcn HS8 HK8 HT8;go_upto_region 11 with (first | (show wpList _ _ _ ({dst:=_,op:=Op.load 54 _,type:=_,pos:=_,after:=_,guard:=_}::_) _ _;refine rdP htt HC.out _ rfl rfl rfl ?_) | (show wpList _ _ _ ({dst:=_,op:=Op.store 54 _ _,type:=_,pos:=_,after:=_,guard:=_}::_) _ _;refine stSv hsv HC.out rfl _ _ rfl rfl rfl ?_))
    generalize w8.setCells S 2 cn.toList=w9 at *;obtain ⟨x0,x1⟩:=ht9.texts;clear ht9 htt hsv;go_wp2_with fail
    refine bodyPost_ret (results_tt rfl _ _) rfl ?_;exact .inr (.inr ⟨HE0.out,HE2.out,rfl,HF.out⟩)
   ·have hd:(E2 !=0)=true:=by simpa using h2
    have hu:=unless_any E2 txJn w8;obtain ⟨ev,hev⟩:∃v,erv E2 txJn=v:=⟨_,rfl⟩;have HEV:Hid (erv E2 txJn=ev∧apE s c a dj kt≠0):=⟨hev,by rw [HE2.out];exact h2⟩;rw [hev] at hu;clear h2 hev;go_wp2_with fail
    refine hu.mono ?_;rintro r w8 ⟨rfl,rfl⟩;go_wp2_with fail
    refine bodyPost_ret (results_tt rfl _ _) rfl ?_;exact .inr (.inl ⟨HE0.out,HEV.out.2,by rw [HE2.out,HEV.out.1];rfl,HS8.out,HK8.out⟩)
  ·obtain ⟨y1,y2⟩:=HNO.out h0;subst y1;have HE0:Hid (E≠0):=h0;have HY2:Hid _:=y2;clear h0 HYES HNO hT y2 HSZ HAP;go_wp2_with fail
   refine bodyPost_ret (results_tt rfl _ _) rfl ?_;exact .inl ⟨HE0.out,by rw [HY2.out];rfl,HB2.out⟩
end
open Rs (RdI)
open Jr.Dk (Go1 Jn St KeepT apE apS apC apA apD)
theorem er_ne (f:Nat→Rs.En) (lv:Bool) (p:List Int) (x:Int):Rs.er f lv p x≠11:=by
 unfold Rs.er
 repeat' split
 all_goals decide
theorem fr_ne (f:Nat→Rs.En) (lv:Bool):∀(l p:List Int),Rs.fr' f lv p l≠11
 | [],p=>by unfold Rs.fr';decide
 | x::l,p=>by
  unfold Rs.fr';split
  ·exact fr_ne f lv l _
  ·exact er_ne f lv p x
theorem plE_ne (t:Tr) (L J:List Int):plE t L J≠11:=by
 unfold plE;split
 ·split
  ·decide
  ·split
   ·split <;> decide
   ·unfold Rs.ft;split
    ·split
     ·split
      ·split <;> decide
      ·exact fr_ne _ _ _ _
     ·exact fr_ne _ _ _ _
    ·decide
 ·decide
/- What Batch answers where the server lives. -/
def BaQ (w0 w:World) (S p j:Nat) (s':St) (c' a':Nat) (d':Bool) (t n:Tr) (E E2:Int) (mb:ByteArray) (e:Ending) (w':World):Prop:=
 (E≠0∧e=.returned (.tuple #[.string ⟨#[]⟩,.int .i64 E])∧Below w.heap.size w w')∨
 (E=0∧E2≠0∧e=.returned (.tuple #[.string ⟨#[]⟩,.int .i64 E2])∧Sv w0 w' S p j s' c' a' d' t (decide (E2=11))∧KeepS w w')∨
 (E=0∧E2=0∧e=.returned (.tuple #[.string mb,.int .i64 0])∧Sv w0 w' S p j s' c' a' d' n false∧KeepS w w')
def BaP (w0 w:World) (S p j:Nat) (s:St) (c a:Nat) (dj:Bool) (t:Tr) (L J:List Int) (e:Ending) (w':World):Prop:=
 BaQ w0 w S p j (apS s c a dj (lg t (L,J))) (apC s c a dj (lg t (L,J))) (apA s c a dj (lg t (L,J))) (apD s c a dj (lg t (L,J))) t (pnT t L J) (plE t L J) (apE s c a dj (lg t (L,J))) (msB t L J) e w'
section
variable {w0 w:World} {S p j c a:Nat} {s:St} {dj d:Bool} {t:Tr}
set_option maxRecDepth 100000 in
set_option maxHeartbeats 1000000 in
theorem Batch_live (hV:Vs w0) (h:Sv w0 w S p j s c a dj t false) (h0:s.left≠0) (ha:a≤2048) (hlog:s.log.length+255≤5864062014805) (aL aJ:Option Addr) (cL cJ:Nat) (L J:List Int) (lL:L.length<1152921504606846976) (lJ:J.length<1152921504606846976) (hL:RdI w aL L) (hJ:RdI w aJ J):
  Calls Tryz.prog 28 #[.pointer (some ⟨S,0,none⟩),.agg #[.slice aL L.length cL,.slice aJ J.length cJ]] w fun e w'=>BaP w0 w S p j s c a dj t L J e w':=by
 have hb:=below_alloc w (.cells #[.slice aL L.length cL,.slice aJ J.length cJ] 41);have h1:=h.later hb;have hBT:BtAt (w.alloc (.cells #[.slice aL L.length cL,.slice aJ J.length cJ] 41)) w.heap.size aL aJ L.length J.length cL cJ:=heap_alloc_last w _;obtain ⟨d0,d1⟩:=hBT.cells;have hu:=batch_live hV h1 h0 ha hlog aL aJ cL cJ L J lL lJ (hL.later hb) (hJ.later hb);have HNE:Hid (plE t L J≠11):=plE_ne t L J;unfold BtP at hu;unfold BaP;obtain ⟨E,hE⟩:∃e,plE t L J=e:=⟨_,rfl⟩;obtain ⟨n,hn⟩:∃e,pnT t L J=e:=⟨_,rfl⟩;obtain ⟨mb,hmb⟩:∃e,msB t L J=e:=⟨_,rfl⟩;obtain ⟨kt,hkt⟩:∃e,lg t (L,J)=e:=⟨_,rfl⟩;obtain ⟨E2,hE2⟩:∃e,apE s c a dj kt=e:=⟨_,rfl⟩;rw [hE] at HNE;simp only [hE,hn,hmb,hkt,hE2] at hu ⊢;obtain ⟨NL,hNL⟩:∃x,L.length=x:=⟨_,rfl⟩;obtain ⟨NJ,hNJ⟩:∃x,J.length=x:=⟨_,rfl⟩;rw [hNL,hNJ] at hb h1 hu d0 d1 ⊢;have HS1:Hid (Sv w0 (w.alloc (.cells #[.slice aL NL cL,.slice aJ NJ cJ] 41)) S p j s c a dj t false):=h1;have HB1:Hid (Below w.heap.size w (w.alloc (.cells #[.slice aL NL cL,.slice aJ NJ cJ] 41))):=hb;clear h h1 h0 hb ha hlog lL lJ hL hJ hBT hE hn hmb hkt hE2 hNL hNJ;go_enter Tryz.func28,Tryz.ntmps28;go_upto_region 1 with (fail)
 generalize w.alloc (.cells #[.slice aL NL cL,.slice aJ NJ cJ] 41)=w1 at *;go_wp2_with fail
 refine hu.mono ?_;rintro r w2 (⟨hn0,rfl,hb2⟩ | ⟨h0,h2,rfl,hS2,hk2⟩ | ⟨h0,h2,rfl,hS2,hk2⟩)
 ·have hn:=number_any E txBt w2 ((HS1.out.later hb2).vs hV).er;obtain ⟨v,hv⟩:∃v,erv E txBt=v:=⟨_,rfl⟩;rw [hv] at hn ⊢;have HB2:Hid (E≠0∧Below w.heap.size w w2):=⟨hn0,HB1.out.trans (hb2.mono HB1.out.size)⟩;have hd:(E==11)=false:=by have:=HNE.out;simpa using this
  clear hu hb2 hv HS1 HB1 hn0 HNE hV d0 d1;go_wp2_with fail
  refine hn.mono ?_;rintro r w3 ⟨rfl,hb3⟩;have HB3:Hid (Below w.heap.size w w3):=HB2.out.2.trans (hb3.mono HB2.out.2.size);clear hn hb3;go_wp2_with fail
  refine bodyPost_ret (results_tt rfl _ _) rfl ?_;exact .inl ⟨HB2.out.1,rfl,HB3.out⟩
 ·have hn:=number_any E2 txJn w2 (hS2.vs hV).er;obtain ⟨v,hv⟩:∃v,erv E2 txJn=v:=⟨_,rfl⟩;rw [hv] at hn ⊢;have HS2:Hid ((E=0∧E2≠0)∧Sv w0 w2 S p j (apS s c a dj kt) (apC s c a dj kt) (apA s c a dj kt) (apD s c a dj kt) t false∧KeepS w w2):=⟨⟨h0,h2⟩,hS2,(KeepS.ofBelow HB1.out).trans hk2⟩;clear hu hv HS1 HB1 h0 h2 hS2 hk2 HNE hV d0 d1;go_wp2_with fail
  refine hn.mono ?_;rintro r w3 ⟨rfl,hb3⟩;have hS3:=HS2.out.2.1.later hb3;have c2:=hS3.sv.cells.2.2;have f2:=Wi.row_fr hS3.sv 238;have hk3:=HS2.out.2.2.trans (.ofBelow hb3);by_cases h11:E2=11
  ·subst h11;have h4:=hS3.die;have HF:Hid (Sv w0 (w3.setCell ⟨S,238,none⟩ (.bool true)) S p j (apS s c a dj kt) (apC s c a dj kt) (apA s c a dj kt) (apD s c a dj kt) t true∧KeepS w (w3.setCell ⟨S,238,none⟩ (.bool true))):=⟨h4.1,hk3.trans h4.2⟩;clear hn hb3 hS3 h4 hk3;go_wp2_with fail
   refine bodyPost_ret (results_tt rfl _ _) rfl ?_;exact .inr (.inl ⟨HS2.out.1.1,HS2.out.1.2,rfl,HF.out⟩)
  ·have hd:(E2==11)=false:=by simpa using h11
   have HF:Hid (Sv w0 w3 S p j (apS s c a dj kt) (apC s c a dj kt) (apA s c a dj kt) (apD s c a dj kt) t (decide (E2=11))∧KeepS w w3):=⟨by rw [show decide (E2=11)=false by simp [h11]];exact hS3,hk3⟩;clear hn hb3 hS3 hk3 h11 c2 f2;go_wp2_with fail
   refine bodyPost_ret (results_tt rfl _ _) rfl ?_;exact .inr (.inl ⟨HS2.out.1.1,HS2.out.1.2,rfl,HF.out⟩)
 ·have hn:=number_any 0 txJn w2 (hS2.vs hV).er;rw [show erv 0 txJn=.nilIface from rfl] at hn;have HS2:Hid ((E=0∧E2=0)∧Sv w0 w2 S p j (apS s c a dj kt) (apC s c a dj kt) (apA s c a dj kt) (apD s c a dj kt) n false∧KeepS w w2):=⟨⟨h0,h2⟩,hS2,(KeepS.ofBelow HB1.out).trans hk2⟩;clear hu HS1 HB1 h0 h2 hS2 hk2 HNE hV d0 d1;go_wp2_with fail
  refine hn.mono ?_;rintro r w3 ⟨rfl,hb3⟩;have HF:Hid (Sv w0 w3 S p j (apS s c a dj kt) (apC s c a dj kt) (apA s c a dj kt) (apD s c a dj kt) n false∧KeepS w w3):=⟨HS2.out.2.1.later hb3,HS2.out.2.2.trans (.ofBelow hb3)⟩;clear hn hb3;go_wp2_with fail
  refine bodyPost_ret (results_tt rfl _ _) rfl ?_;exact .inr (.inr ⟨HS2.out.1.1,HS2.out.1.2,rfl,HF.out⟩)
end
open Jr (recs np blks_length)
open Jr.Dk (Go1 Jn St Hs KeepT apE apS apC apA apD recs_add)
set_option maxRecDepth 4000
section
variable {w0 w:World} {S p j:Nat} {s:St} {ps:List ByteArray} {t:Tr}
theorem open_lead (hV:Vs w0) (h:Go1 w0.heap.size w0 w p s) (hs:Hs s ps ⟨#[]⟩ 0 0) (hl:Lead ps t) (h0:s.left≠0) (hlog:s.log.length+2048≤5864062014805):
  Calls Tryz.prog 25 #[.pointer (some ⟨p,0,none⟩)] w fun e w'=>∃S j,e=.returned (.tuple #[.pointer (some ⟨S,0,none⟩),.int .i64 0])∧Sv w0 w' S p j s ps.length (recs 1 ps).length false t false∧KeepT w w'∧(∀i q c a d,Jn w i q c a d→Jn w' i q c a d):=by
 obtain ⟨o1,o2⟩:=hs.again h0;obtain ⟨s1,s2⟩:=hs.scan;refine (open_ok hV h hlog o2 (by rw [s1];exact hl.rp) (by rw [s1];exact hs.sz)).mono ?_;rintro e w' ⟨S,j,rfl,hO⟩;have hg:=hO.go;have hj:=hO.jn;rw [o1] at hg;rw [s1,s2] at hj;exact ⟨S,j,rfl,⟨hg,hj,hO.sv,hO.jN,hO.sN⟩,hO.kp,hO.kj⟩
/- A step where the power has no bound. -/
def FreP (w0 w:World) (S p j:Nat) (s:St) (ps:List ByteArray) (t:Tr) (L J:List Int) (e:Ending) (w':World):Prop:=
 (plE t L J≠0∧e=.returned (.tuple #[.string ⟨#[]⟩,.int .i64 (plE t L J)])∧Below w.heap.size w w')∨
 (plE t L J=0∧e=.returned (.tuple #[.string (msB t L J),.int .i64 0])∧KeepS w w'∧∃s' ps',Sv w0 w' S p j s' ps'.length (recs 1 ps').length false (pnT t L J) false∧Hs s' ps' ⟨#[]⟩ 0 0∧Lead ps' (pnT t L J)∧s'.left=-1∧s'.log.length=s.log.length+np (lg t (L,J)).size)
theorem batch_free (hV:Vs w0) (h:Sv w0 w S p j s ps.length (recs 1 ps).length false t false) (hs:Hs s ps ⟨#[]⟩ 0 0) (hl:Lead ps t) (h0:s.left=-1) (hlog:s.log.length+255≤5864062014805) (aL aJ:Option Addr) (cL cJ:Nat) (L J:List Int) (lL:L.length<1152921504606846976) (lJ:J.length<1152921504606846976) (hL:RdI w aL L) (hJ:RdI w aJ J):
  Calls Tryz.prog 28 #[.pointer (some ⟨S,0,none⟩),.agg #[.slice aL L.length cL,.slice aJ J.length cJ]] w fun e w'=>FreP w0 w S p j s ps t L J e w':=by
 have hfit:=hs.fit;refine (Batch_live hV h (by rw [h0];decide) (by omega) hlog aL aJ cL cJ L J lL lJ hL hJ).mono ?_;rintro e w' (⟨h1,h2,h3⟩ | ⟨h1,h2,-⟩ | ⟨h1,h2,h3,h4,h5⟩)
 ·exact .inl ⟨h1,h2,h3⟩
 ·exfalso;have hap:=hs.appended (lg t (L,J));obtain ⟨r1,r2⟩:=hl.room h1;obtain ⟨-,-,h3⟩:=hap.not h2 (hap.free h0).1;rcases h3 with ⟨-,h4⟩ | ⟨-,-,h4⟩
  ·omega
  ·exact r2 h4
 ·have hap:=hs.appended (lg t (L,J));obtain ⟨-,q1,q2,q3⟩:=hap.ok h2;obtain ⟨-,f2,-⟩:=hap.free h0;have hld:=(hl.snoc h1).1;have hC:apC s ps.length (recs 1 ps).length false (lg t (L,J))=(ps++[lg t (L,J)]).length:=by unfold apC;rw [if_pos h2];simp
  have hA:apA s ps.length (recs 1 ps).length false (lg t (L,J))=(recs 1 (ps++[lg t (L,J)])).length:=by unfold apA;rw [if_pos h2,recs_add,List.length_append,blks_length]
  have hD:apD s ps.length (recs 1 ps).length false (lg t (L,J))=false:=by unfold apD;rw [h2,if_neg (by decide)]
  rw [hC,hA,hD] at h4;exact .inr ⟨h1,h3,h5,_,_,h4,q1,hld,f2,q3⟩
end
theorem neTr_exec {w:World} {t:Tr} {c:Array Value} (hc:tcs t=c) {o:Oper} {a:Act} {x y:Operand} (ho:o.op=.binOp .neq 54 x y 54) (hx:a.eval x=.agg c) (hy:a.eval y=.agg c):(execOp a.eval o).run Tryz.prog w=.ok (.value (.bool false)) w:=by
 subst hc;have h1:=run_eqGuard_agg (P:=Tryz.prog) w .neq 54 x y (tcs t) (tcs t) Tryz.eqGuardType54;have h2:=run_neq_struct (P:=Tryz.prog) w 54 (tcs t) (tcs t);rw [run_eqTr,eqT_refl] at h2;simp [execOp,ho,hx,hy,h1,h2,Sem.run_bind,Result.andThen]
theorem ep_exec {w:World} {t:Tr} {c:Array Value} (hc:tcs t=c) {o:Oper} {a:Act} {x:Operand} (ho:o.op=.field 54 x 0) (hx:a.eval x=.agg c):(execOp a.eval o).run Tryz.prog w=.ok (.value (.int .i64 t.ep)) w:=by
 subst hc;have h:(Instr.field 54 (.agg (tcs t)) 0).run Tryz.prog w=.ok (.int .i64 t.ep) w:=by kernel_rfl
 simp [execOp,ho,hx,h,Sem.run_bind,Result.andThen]
open Jr (recs np)
open Jr.Dk (Go1 Jn St Hs KeepT nu new_go writes_k)
theorem one0:plE stT [] [1]=0:=by decide+kernel
theorem one1:(lg stT ([],[1])).size=7:=by decide+kernel
theorem one2:(msB stT [] [1]).size=29:=by decide+kernel
theorem rdI_one {W:World} {B:Nat} (h:W.heap[B]? =some (.cells #[.int .i64 1] 3 (0,0))):RdI W (some ⟨B,0,none⟩) [1]:=fun i hi=>by
 obtain rfl:i=0:=by simp at hi;omega
 exact ⟨B,0,rfl,cell_of_row _ _ _ _ _ _ h⟩
theorem rdI_nil (W:World) (a:Option Addr):RdI W a []:=fun i hi=>by cases hi
theorem go_below {w0 w:World} {p:Nat} {s:St} (h:Go1 w0.heap.size w0 w p s):Below w0.heap.size w0 w:=h.below
set_option maxRecDepth 100000 in
set_option maxHeartbeats 1000000 in
theorem lives_any (w:World) (hV:Vs w):Calls Tryz.prog 8 #[] w fun e w'=>e=.returned (.bool true)∧Below w.heap.size w w':=by
 have HV:Hid (Vs w):=hV
 have HEP:Hid ((pnT stT [] [1]).ep=1):=by
  unfold Hid;rw [(nx_ep one0).1];rfl
 obtain ⟨c0,hc0⟩:∃c,tcs stT=c:=⟨_,rfl⟩;have HC0:Hid (tcs stT=c0):=hc0;clear hV hc0;go_enter Tryz.func8,Tryz.ntmps8;go_wp2_with fail
 refine (new_go w).mono ?_;rintro r w1 ⟨p,rfl,hg1⟩;have hop:=open_lead HV.out hg1 Hs.new Lead.nil (by decide) (by decide);clear hg1;go_wp2_with fail
 refine hop.mono ?_;rintro r w2 ⟨S,j,rfl,hS2,-⟩;have HS2:Hid (Sv w w2 S p j nu ([]:List ByteArray).length (recs 1 []).length false stT false):=hS2;have htr:=tree_any hS2.sv;rw [HC0.out] at htr;clear hop hS2;go_wp2_with fail
 refine htr.mono ?_;rintro r w3 ⟨rfl,hb3⟩;have HS3:Hid (Sv w w3 S p j nu ([]:List ByteArray).length (recs 1 []).length false stT false):=HS2.out.later hb3;have hst:=rStart_any w3;rw [HC0.out] at hst;clear htr hb3 HS2;go_wp2_with fail
 refine hst.mono ?_;rintro r w4 ⟨rfl,hb4⟩;have HS4:Hid (Sv w w4 S p j nu ([]:List ByteArray).length (recs 1 []).length false stT false):=HS3.out.later hb4;clear hst hb4 HS3;have hb5:=below_alloc w4 (.cells #[.int .i64 1] 3);have hS5:=HS4.out.later hb5;have hba:=batch_free HV.out hS5 Hs.new Lead.nil (by decide) (by decide) none (some ⟨w4.heap.size,0,none⟩) 0 1 [] [1] (by decide) (by decide) (rdI_nil _ _) (rdI_one (heap_alloc_last w4 _));clear hS5 hb5 HS4;go_wp2_with (first | (show wpList _ _ _ ({dst:=_,op:=Op.binOp .neq 54 _ _ _,type:=_,pos:=_,after:=_,guard:=_}::_) _ _;refine rd_guard rfl (neTr_exec HC0.out rfl rfl rfl) ?_))
 refine hba.mono ?_;rintro r w5 (⟨h1,-⟩ | ⟨-,rfl,hk5,s',ps',hS',hs',hl',h0',hlog'⟩)
 ·exact absurd one0 h1
 ·rw [one1] at hlog';have hlg:s'.log.length=1:=hlog';have HS5:Hid (Sv w w5 S p j s' ps'.length (recs 1 ps').length false (pnT stT [] [1]) false):=hS';have hop:=open_lead HV.out hS'.go hs' hl' (by rw [h0'];decide) (by rw [hlg];decide);have hsz:=one2;obtain ⟨mb,hmb⟩:∃m,msB stT [] [1]=m:=⟨_,rfl⟩;rw [hmb] at hsz;try rw [hmb]
  clear hba hk5 hS' hs' hl' h0' hlog' hmb;go_wp2_with fail
  refine hop.mono ?_;rintro r w6 ⟨S2,j2,rfl,hS6,-⟩;obtain ⟨n,hn⟩:∃n,pnT stT [] [1]=n:=⟨_,rfl⟩;rw [hn] at hS6;have HEN:Hid (n.ep=1):=by rw [←hn];exact HEP.out
  have HS6:Hid (Sv w w6 S2 p j2 s' ps'.length (recs 1 ps').length false n false):=hS6;have htr:=tree_any hS6.sv;obtain ⟨cn,hcn⟩:∃c,tcs n=c:=⟨_,rfl⟩;have HCN:Hid (tcs n=cn):=hcn;rw [hcn] at htr;clear hop hS6 hn hcn HS5;go_wp2_with fail
  refine htr.mono ?_;rintro r w7 ⟨rfl,hb7⟩;have HS7:Hid (Sv w w7 S2 p j2 s' ps'.length (recs 1 ps').length false n false):=HS6.out.later hb7;have hwr:=writes_k HS7.out.go (by rw [hlg];decide);rw [hlg] at hwr;clear htr hb7 HS6;have hep:=HEN.out;go_wp2_with (first | (show wpList _ _ _ ({dst:=_,op:=Op.field 54 _ _,type:=_,pos:=_,after:=_,guard:=_}::_) _ _;refine rd_guard rfl (ep_exec HCN.out rfl rfl) ?_))
  refine hwr.mono ?_;rintro r w8 ⟨⟨a,cp,rfl⟩,hb8⟩;have HF:Hid (Below w.heap.size w w8):=go_below (HS7.out.later hb8).go;clear hwr hb8 HS7;go_wp2_with fail
  go_ret;exact ⟨rfl,HF.out⟩
open Go.ChangeShapes Go.WideShapes Go.ChangeAt Go.RowKit
open Rs (Tb G64)
open Go.Shelf
theorem gTab:Tryz.prog.globalNamed "math/bits.deBruijn64tab" =some 3:=by kernel_rfl
theorem gTabType:(Tryz.prog.globals[(3:Nat)]?).map (·.type)=some 449:=by kernel_rfl
theorem cellsTab:Tryz.prog.cellsOf 449=64:=by kernel_rfl
theorem cellsU8:Tryz.prog.cellsOf 5=1:=by kernel_rfl
def tabI:List Int:=Lib.deBruijn64tab.map fun n:Nat=>(n:Int)
theorem tab_data:(Rows.laid_math_bits_deBruijn64tab:DataW Unit)=Lib.tabData .u8 tabI:=rfl
theorem tb_of {W:World} {x:String×DataW Unit} {rest:List (String×DataW Unit)} (h:laidMet Tryz.prog (x::("math/bits.deBruijn64tab",Rows.laid_math_bits_deBruijn64tab)::rest) W):Tb W:=by
 have h1:=h.tail;rw [tab_data] at h1
 have tab:Lib.TabIs Tryz.prog W "math/bits.deBruijn64tab" .u8 tabI:=
  Lib.tabIs_of_head gTab gTabType Tryz.underlying449 Tryz.underlying5 cellsU8 cellsTab h1
 have hc:TabAt G64 Lib.deBruijn64tab W:=fun j hj=>by
  have h0:=World.var?_cell gTab tab j;rw [show (⟨G64,j,none⟩:Addr)=⟨3,j,none⟩ from rfl,h0];simp only [tabI,List.map_map,List.getElem?_toArray,List.getElem?_map];rw [List.getElem?_eq_getElem hj,List.getD_eq_getElem?_getD,List.getElem?_eq_getElem hj];rfl
 exact ⟨World.block_lt_of_cell? W ⟨G64,0,none⟩ (hc 0 (by decide)),hc⟩
theorem gEt:Tryz.prog.globalNamed "errors.errorType" =some 0:=by kernel_rfl
theorem gRt:(Tryz.prog.cutTypes.find? (·.1== "internal/reflectlite.rtype")).map (·.2)=some 312:=by kernel_rfl
theorem tySize:Tryz.prog.types.size=476:=by kernel_rfl
theorem tyErr:((List.range 476).filter fun t=>Tryz.prog.rowNamed t [101,114,114,111,114])=[143]:=by kernel_rfl
theorem er_of {W:World} {l:List (String×DataW Unit)} (h:handlesMet Tryz.prog l W) (hm:("errors.errorType",Rows.laid_errors_errorType)∈l):Er W:=by
 obtain ⟨name,u,ty,e1,e2,e3,e4,e5⟩:=h _ hm;have en:name=[101,114,114,111,114]:=(Option.some.inj e1).symm;subst en;obtain rfl:=Option.some.inj (gRt.symm.trans e2);have hm:ty∈(List.range 476).filter fun t=>Tryz.prog.rowNamed t [101,114,114,111,114]:=List.mem_filter.2 ⟨List.mem_range.2 (by rw [←tySize];exact e3),e4⟩
 rw [tyErr] at hm;obtain rfl:=List.mem_singleton.1 hm;have hh:typeHandle Tryz.prog 143=.pointer (some ⟨5,143,none⟩):=by kernel_rfl
 rw [hh] at e5;unfold Er
 simpa using World.var?_cell gEt e5 0
def numbers (d:DataW Unit):Array Value:=match d with
 | .agg l=>(l.map fun | .lit (.int k n)=>Value.int k n | _=>.bool false).toArray
 | _=>#[]
noncomputable def laidWorld (os:Os):World:=
 let w0:=World.holding Tryz.prog os ⟨#[],#[],[]⟩
 {w0 with heap:=(((w0.heap.modify 0 fun
   | .cells _ t frozen=>.cells #[.iface 312 (.agg #[.pointer (some ⟨5,143,none⟩)])] t frozen
   | o=>o).modify 1 fun
   | .cells _ t frozen=>.cells (numbers Rows.laid_internal_strconv_uint64pow10) t frozen
   | o=>o).modify 2 fun
   | .cells _ t frozen=>.cells (numbers Rows.laid_math_bits_deBruijn32tab) t frozen
   | o=>o).modify 3 fun
   | .cells _ t frozen=>.cells (numbers Rows.laid_math_bits_deBruijn64tab) t frozen
   | o=>o}
end Go.Proofs.YtoimkngkcliinaaGreatDoor
