/- SvL, SvM, SvV, SvN, SvO, SvQ, joined. -/
import Derived.Test.YtanaapfobpgibaaGreatDoorJSvI
import Derived.Stop.LaidErr
import Derived.LaidHandle
import Derived.Shelf.Vars
import Derived.Test.YtanaapfobpgibaaGreatDoorRcI
open Go.Proofs.Tryz
set_option maxHeartbeats 1000000
namespace Go.Proofs.YtanaapfobpgibaaGreatDoor
open Go.RowKit Go.Maps Go.Great Rc
open Rs (bM)
open Jr (recs np ba)
open Jr.Dk (ib Jn St Hs bG mf ml tU tV tS ij)
set_option linter.unusedVariables false
set_option maxRecDepth 4000
set_option linter.unusedSimpArgs false
variable {w:World} {t:Tr} {c:Array Value} {o:Oper} {a:Act} {x:Operand}
section
variable {w0 w:World} {S p j:Nat} {s:St} {ps:List ByteArray} {t:Tr}
theorem sf (hV:Vs w0) (h:ib w0.heap.size w0 w p s) (hs:Hs s ps ⟨#[]⟩ 0 0) (hl:oD ps t) (h0:s.left≠0) (dY:s.log.length+2048≤5864062014805):
  Calls prog 6 #[.pointer (some ⟨p,0,none⟩)] w fun e w'=>∃S j,e=.returned (.tuple #[.pointer (some ⟨S,0,none⟩),.int .i64 0])∧Sv w0 w' S p j s ps.length (recs 1 ps).length false t false∧bG w w'∧(∀i q c a d,Jn w i q c a d→Jn w' i q c a d):=by
 obtain ⟨o1,o2⟩:=hs.again h0;obtain ⟨s1,s2⟩:=hs.scan;refine (Ii hV h dY o2 (by rw [s1];exact hl.rp) (by rw [s1];exact hs.sz)).mono ?_;rintro e w' ⟨S,j,rfl,hO⟩;have hg:=hO.go;have hj:=hO.jn;rw [o1] at hg;rw [s1,s2] at hj;exact ⟨S,j,rfl,⟨hg,hj,hO.sv,hO.jN,hO.sN⟩,hO.kp,hO.kj⟩
/- A step where the power has no bound. -/
def adH (w0 w:World) (S p j:Nat) (s:St) (ps:List ByteArray) (t:Tr) (L J:List Int) (e:Ending) (w':World):Prop:=
 (b_ t L J≠0∧e=.returned (.tuple #[.string ⟨#[]⟩,.int .i64 (b_ t L J)])∧Below w.heap.size w w')∨
 (b_ t L J=0∧e=.returned (.tuple #[.string (K0 t L J),.int .i64 0])∧b5 w w'∧∃s' lr,Sv w0 w' S p j s' lr.length (recs 1 lr).length false (cZ t L J) false∧Hs s' lr ⟨#[]⟩ 0 0∧oD lr (cZ t L J)∧s'.left=-1∧s'.log.length=s.log.length+np (lg t (L,J)).size)
theorem GZ (hV:Vs w0) (h:Sv w0 w S p j s ps.length (recs 1 ps).length false t false) (hs:Hs s ps ⟨#[]⟩ 0 0) (hl:oD ps t) (h0:s.left=-1) (dY:s.log.length+255≤5864062014805) (aL aJ:Option Addr) (cL cJ:Nat) (L J:List Int) (lL:L.length<1152921504606846976) (lJ:J.length<1152921504606846976) (hL:bM w aL L) (hJ:bM w aJ J):
  Calls prog 10 #[.pointer (some ⟨S,0,none⟩),.agg #[.slice aL L.length cL,.slice aJ J.length cJ]] w fun e w'=>adH w0 w S p j s ps t L J e w':=by
 have YR:=hs.fit;refine (xz hV h (by rw [h0];decide) (by omega) dY aL aJ cL cJ L J lL lJ hL hJ).mono ?_;rintro e w' (⟨h1,h2,h3⟩ | ⟨h1,h2,-⟩ | ⟨h1,h2,h3,h4,h5⟩)
 ·exact .inl ⟨h1,h2,h3⟩
 ·exfalso;have hap:=hs.appended (lg t (L,J));obtain ⟨r1,r2⟩:=hl.room h1;obtain ⟨-,-,h3⟩:=hap.not h2 (hap.free h0).1;rcases h3 with ⟨-,h4⟩ | ⟨-,-,h4⟩
  ·omega
  ·exact r2 h4
 ·have hap:=hs.appended (lg t (L,J));obtain ⟨-,q1,q2,q3⟩:=hap.ok h2;obtain ⟨-,f2,-⟩:=hap.free h0;have ug:=(hl.snoc h1).1;have hC:tU s ps.length (recs 1 ps).length false (lg t (L,J))=(ps++[lg t (L,J)]).length:=by unfold tU;rw [if_pos h2];simp
  have hA:tV s ps.length (recs 1 ps).length false (lg t (L,J))=(recs 1 (ps++[lg t (L,J)])).length:=by unfold tV;rw [if_pos h2,ij,List.length_append,ba]
  have hD:tS s ps.length (recs 1 ps).length false (lg t (L,J))=false:=by unfold tS;rw [h2,if_neg (by decide)]
  rw [hC,hA,hD] at h4;exact .inr ⟨h1,h3,h5,_,_,h4,q1,ug,f2,q3⟩
end
theorem jl (hc:aC t=c) {y:Operand} (ho:o.op=.binOp .neq 39 x y 39) (hx:a.eval x=.agg c) (hy:a.eval y=.agg c):(execOp a.eval o).run prog w=.ok (.value (.bool false)) w:=by
 subst hc;have h1:=run_eqGuard_agg (P:=prog) w .neq 39 x y (aC t) (aC t) eqGuardType39;have h2:=run_neq_struct (P:=prog) w 39 (aC t) (aC t);rw [Nt,Qz] at h2;simp [execOp,ho,hx,hy,h1,h2,Sem.run_bind,Result.andThen]
theorem U3 (hc:aC t=c) (ho:o.op=.field 39 x 0) (hx:a.eval x=.agg c):(execOp a.eval o).run prog w=.ok (.value (.int .i64 t.ep)) w:=by
 subst hc;have h:(Instr.field 39 (.agg (aC t)) 0).run prog w=.ok (.int .i64 t.ep) w:=by kernel_rfl
 simp [execOp,ho,hx,h,Sem.run_bind,Result.andThen]
open Jr (recs np)
open Jr.Dk (ib Jn St Hs bG nu Av mr)
theorem aaP:b_ j6 [] [1]=0:=by decide+kernel
theorem acx:(lg j6 ([],[1])).size=7:=by decide+kernel
theorem acw:(K0 j6 [] [1]).size=29:=by decide+kernel
theorem Tu {W:World} {B:Nat} (h:W.heap[B]? =some (.cells #[.int .i64 1] 3 (0,0))):bM W (some ⟨B,0,none⟩) [1]:=fun i hi=>by
 obtain rfl:i=0:=by simp at hi;omega
 exact ⟨B,0,rfl,cell_of_row _ _ _ _ _ _ h⟩
theorem Tv (W:World) (a:Option Addr):bM W a []:=fun i hi=>by cases hi
theorem Qh {w0 w:World} {p:Nat} {s:St} (h:ib w0.heap.size w0 w p s):Below w0.heap.size w0 w:=h.below
set_option maxRecDepth 100000 in
theorem K1 (w:World) (hV:Vs w):Calls prog 4 #[] w fun e w'=>e=.returned (.bool true)∧Below w.heap.size w w':=by
 have HV:Hid (Vs w):=hV
 have SG:Hid ((cZ j6 [] [1]).ep=1):=by
  unfold Hid;rw [(VZ aaP).1];rfl
 obtain ⟨c0,hc0⟩:∃c,aC j6=c:=⟨_,rfl⟩;have R5:Hid (aC j6=c0):=hc0;clear hV hc0;go_enter func4,ntmps4;go_wp2_with fail
 refine (Av w).mono ?_;rintro r w1 ⟨p,rfl,hg1⟩;have hop:=sf HV.out hg1 Hs.new oD.nil (by decide) (by decide);clear hg1;go_wp2_with fail
 refine hop.mono ?_;rintro r w2 ⟨S,j,rfl,gA,-⟩;have eW:Hid (Sv w w2 S p j nu ([]:List ByteArray).length (recs 1 []).length false j6 false):=gA;have Sc:=jt gA.sv;rw [R5.out] at Sc;clear hop gA;go_wp2_with fail
 refine Sc.mono ?_;rintro r w3 ⟨rfl,hb3⟩;have HS3:Hid (Sv w w3 S p j nu ([]:List ByteArray).length (recs 1 []).length false j6 false):=eW.out.later hb3;have hst:=vD w3;rw [R5.out] at hst;clear Sc hb3 eW;go_wp2_with fail
 refine hst.mono ?_;rintro r w4 ⟨rfl,hb4⟩;have HS4:Hid (Sv w w4 S p j nu ([]:List ByteArray).length (recs 1 []).length false j6 false):=HS3.out.later hb4;clear hst hb4 HS3;have dT:=aa w4 (.cells #[.int .i64 1] 3);have xM:=HS4.out.later dT;have hba:=GZ HV.out xM Hs.new oD.nil (by decide) (by decide) none (some ⟨w4.heap.size,0,none⟩) 0 1 [] [1] (by decide) (by decide) (Tv _ _) (Tu (heap_alloc_last w4 _));clear xM dT HS4;go_wp2_with (first | (show wpList _ _ _ ({dst:=_,op:=Op.binOp .neq 39 _ _ _,type:=_,pos:=_,after:=_,guard:=_}::_) _ _;refine fe rfl (jl R5.out rfl rfl rfl) ?_))
 refine hba.mono ?_;rintro r w5 (⟨h1,-⟩ | ⟨-,rfl,hk5,s',lr,hS',hs',hl',WI,PE⟩)
 ·exact absurd aaP h1
 ·rw [acx] at PE;have uK:s'.log.length=1:=PE;have RM:Hid (Sv w w5 S p j s' lr.length (recs 1 lr).length false (cZ j6 [] [1]) false):=hS';have hop:=sf HV.out hS'.go hs' hl' (by rw [WI];decide) (by rw [uK];decide);have hsz:=acw;obtain ⟨mb,IK⟩:∃m,K0 j6 [] [1]=m:=⟨_,rfl⟩;rw [IK] at hsz;try rw [IK]
  clear hba hk5 hS' hs' hl' WI PE IK;go_wp2_with fail
  refine hop.mono ?_;rintro r w6 ⟨S2,j2,rfl,hS6,-⟩;obtain ⟨n,hn⟩:∃n,cZ j6 [] [1]=n:=⟨_,rfl⟩;rw [hn] at hS6;have HEN:Hid (n.ep=1):=by rw [←hn];exact SG.out
  have JT:Hid (Sv w w6 S2 p j2 s' lr.length (recs 1 lr).length false n false):=hS6;have Sc:=jt hS6.sv;obtain ⟨cn,f_⟩:∃c,aC n=c:=⟨_,rfl⟩;have zF:Hid (aC n=cn):=f_;rw [f_] at Sc;clear hop hS6 hn f_ RM;go_wp2_with fail
  refine Sc.mono ?_;rintro r w7 ⟨rfl,iK⟩;have SC:Hid (Sv w w7 S2 p j2 s' lr.length (recs 1 lr).length false n false):=JT.out.later iK;have hwr:=mr SC.out.go (by rw [uK];decide);rw [uK] at hwr;clear Sc iK JT;have BO:=HEN.out;go_wp2_with (first | (show wpList _ _ _ ({dst:=_,op:=Op.field 39 _ _,type:=_,pos:=_,after:=_,guard:=_}::_) _ _;refine fe rfl (U3 zF.out rfl rfl) ?_))
  refine hwr.mono ?_;rintro r w8 ⟨⟨a,cp,rfl⟩,AQ⟩;have HF:Hid (Below w.heap.size w w8):=Qh (SC.out.later AQ).go;clear hwr AQ SC;go_wp2_with fail
  go_ret;exact ⟨rfl,HF.out⟩
open Go.ChangeShapes Go.WideShapes Go.ChangeAt Go.RowKit
open Rs (Tb SJ)
open Go.Shelf
variable {W:World}
theorem abA:prog.globalNamed "math/bits.deBruijn64tab" =some 3:=by kernel_rfl
theorem Qj:(prog.globals[(3:Nat)]?).map (·.type)=some 352:=by kernel_rfl
theorem Q6:prog.cellsOf 352=64:=by kernel_rfl
theorem Vg:prog.cellsOf 5=1:=by kernel_rfl
def XG:List Int:=Lib.deBruijn64tab.map fun n:Nat=>(n:Int)
theorem MZ:(Rows.laid_math_bits_deBruijn64tab:DataW Unit)=Lib.tabData .u8 XG:=rfl
theorem aaA {x:String×DataW Unit} {rest:List (String×DataW Unit)} (h:laidMet prog (x::("math/bits.deBruijn64tab",Rows.laid_math_bits_deBruijn64tab)::rest) W):Tb W:=by
 have h1:=h.tail;rw [MZ] at h1
 have tab:Lib.TabIs prog W "math/bits.deBruijn64tab" .u8 XG:=
  Lib.tabIs_of_head abA Qj underlying352 underlying5 Vg Q6 h1
 have hc:TabAt SJ Lib.deBruijn64tab W:=fun j hj=>by
  have h0:=World.var?_cell abA tab j;rw [show (⟨SJ,j,none⟩:Addr)=⟨3,j,none⟩ from rfl,h0];simp only [XG,List.map_map,List.getElem?_toArray,List.getElem?_map];rw [List.getElem?_eq_getElem hj,List.getD_eq_getElem?_getD,List.getElem?_eq_getElem hj];rfl
 exact ⟨World.block_lt_of_cell? W ⟨SJ,0,none⟩ (hc 0 (by decide)),hc⟩
theorem gEt:prog.globalNamed "errors.errorType" =some 0:=by kernel_rfl
theorem gRt:(prog.cutTypes.find? (·.1== "internal/reflectlite.rtype")).map (·.2)=some 204:=by kernel_rfl
theorem Xz:prog.types.size=379:=by kernel_rfl
theorem aax:((List.range 379).filter fun t=>prog.rowNamed t [101,114,114,111,114])=[83]:=by kernel_rfl
theorem abF {l:List (String×DataW Unit)} (h:handlesMet prog l W) (hm:("errors.errorType",Rows.laid_errors_errorType)∈l):Er W:=by
 obtain ⟨name,u,ty,e1,e2,e3,e4,e5⟩:=h _ hm;have en:name=[101,114,114,111,114]:=(Option.some.inj e1).symm;subst en;obtain rfl:=Option.some.inj (gRt.symm.trans e2);have hm:ty∈(List.range 379).filter fun t=>prog.rowNamed t [101,114,114,111,114]:=List.mem_filter.2 ⟨List.mem_range.2 (by rw [←Xz];exact e3),e4⟩
 rw [aax] at hm;obtain rfl:=List.mem_singleton.1 hm;have hh:typeHandle prog 83=.pointer (some ⟨5,83,none⟩):=by kernel_rfl
 rw [hh] at e5;unfold Er
 simpa using World.var?_cell gEt e5 0
def numbers (d:DataW Unit):Array Value:=match d with
 | .agg l=>(l.map fun | .lit (.int k n)=>Value.int k n | _=>.bool false).toArray
 | _=>#[]
noncomputable def sq (os:Os):World:=
 let w0:=World.holding prog os ⟨#[],#[],[]⟩
 {w0 with heap:=(((w0.heap.modify 0 fun
   | .cells _ t frozen=>.cells #[.iface 204 (.agg #[.pointer (some ⟨5,83,none⟩)])] t frozen
   | o=>o).modify 1 fun
   | .cells _ t frozen=>.cells (numbers Rows.laid_internal_strconv_uint64pow10) t frozen
   | o=>o).modify 2 fun
   | .cells _ t frozen=>.cells (numbers Rows.laid_math_bits_deBruijn32tab) t frozen
   | o=>o).modify 3 fun
   | .cells _ t frozen=>.cells (numbers Rows.laid_math_bits_deBruijn64tab) t frozen
   | o=>o}
open Jr.Dk (ib Jn St Hs bG mf ml tU tV tS ij yT xY Xs JL)
/- Between two steps. -/
structure eU (w0 w:World) (S p j:Nat) (s:St) (ps:List ByteArray) (t:Tr):Prop where
 sv:Sv w0 w S p j s ps.length (recs 1 ps).length false t false
 hs:Hs s ps ⟨#[]⟩ 0 0
 ld:oD ps t
/- In recovery. -/
structure l7 (w0 w:World) (p:Nat) (s:St) (ps:List ByteArray) (t:Tr) (q:ByteArray) (k j B:Nat):Prop where
 go:ib w0.heap.size w0 w p s
 hs:Hs s ps q k j
 ld:oD ps t
 lg:s.log.length+(k - j)≤B
section
variable {w0 w w':World} {S p j k i B:Nat} {s:St} {ps:List ByteArray} {t:Tr} {q:ByteArray}
theorem eU.later (h:eU w0 w S p j s ps t) (hb:Below w.heap.size w w'):eU w0 w' S p j s ps t:=⟨h.sv.later hb,h.hs,h.ld⟩
theorem l7.later (h:l7 w0 w p s ps t q k j B) (hb:Below w.heap.size w w'):l7 w0 w' p s ps t q k j B:=⟨h.go.later hb,h.hs,h.ld,h.lg⟩
theorem Uw (h:eU w0 w S p j s ps t) (n:Int) (h2:n≤9223372036854775807):
  Calls prog 8 #[.pointer (some ⟨p,0,none⟩),.int .i64 n] w fun e w'=>e=.returned (.tuple #[])∧(∃s',s'.log.length=s.log.length∧eU w0 w' S p j s' ps t)∧bG w w':=by
 refine (Xs h.sv.go n h2).mono ?_;rintro e w' ⟨he,hg,hk,hj⟩;exact ⟨he,⟨⟨s.mX,s.log,max n (-1)⟩,rfl,⟨hg,hj _ _ _ _ _ h.sv.jn,hk _ _ _ _ h.sv.sv (by decide) (by decide) (by decide),h.sv.jN,h.sv.sN⟩,h.hs.up _ (by omega) (by omega),h.ld⟩,hk⟩
theorem Uh (h:l7 w0 w p s ps t q k j B) (n:Int) (h1: -1≤n) (h2:n≤9223372036854775807):
  Calls prog 8 #[.pointer (some ⟨p,0,none⟩),.int .i64 n] w fun e w'=>e=.returned (.tuple #[])∧l7 w0 w' p ⟨s.mX,s.log,n⟩ ps t q k j B∧bG w w':=by
 refine (Xs h.go n h2).mono ?_;rintro e w' ⟨he,hg,hk,-⟩;rw [show max n (-1)=n by omega] at hg;exact ⟨he,⟨hg,h.hs.up n h1 h2,h.ld,h.lg⟩,hk⟩
theorem Lh (hV:Vs w0) (h:l7 w0 w p s ps t q k j B) (hB:B+2048≤5864062014805):
  Calls prog 6 #[.pointer (some ⟨p,0,none⟩)] w fun e w'=>
   (e=.returned (.tuple #[.pointer none,.int .i64 11])∧¬(s.left=-1∨254<s.left)∧bG w w'∧∃s' j',l7 w0 w' p s' ps t q k j' B)∨
   (∃S jj s',e=.returned (.tuple #[.pointer (some ⟨S,0,none⟩),.int .i64 0])∧eU w0 w' S p jj s' ps t∧s'.log.length≤B∧bG w w'):=by
 have ho:=h.hs.opened;have uK:=h.lg
 cases hb:yT s with
 | false=>
  refine (TM hV h.go (by omega) hb).mono ?_;rintro e w' ⟨he,hg,hk⟩;obtain ⟨m,hm,hh,hl⟩:=ho.no hb;exact .inl ⟨he,fun hm=>(by rw [ho.much hm] at hb;cases hb),hk,_,_,hg,hh,h.ld,by rw [hl];omega⟩
 | true=>
  obtain ⟨y1,y2,y3⟩:=ho.yes hb;have s1:=ho.found;have s2:=ho.ended;refine (Ii hV h.go (by omega) hb (by rw [s1];exact h.ld.rp) (by rw [s1];exact h.hs.sz)).mono ?_;rintro e w' ⟨S,jj,he,hO⟩;have hj:=hO.jn;rw [s1,s2] at hj;exact .inr ⟨S,jj,_,he,⟨⟨hO.go,hj,hO.sv,hO.jN,hO.sN⟩,y1.zero,h.ld⟩,by rw [y3];omega,hO.kp⟩
/- How a step ends. -/
def abT (w0 w:World) (S p j:Nat) (s:St) (ps:List ByteArray) (t:Tr) (L J:List Int) (e:Ending) (w':World):Prop:=
 (b_ t L J≠0∧e=.returned (.tuple #[.string ⟨#[]⟩,.int .i64 (b_ t L J)])∧b5 w w'∧eU w0 w' S p j s ps t)∨
 (b_ t L J=0∧e=.returned (.tuple #[.string (K0 t L J),.int .i64 0])∧b5 w w'∧∃s' lr,eU w0 w' S p j s' lr (cZ t L J)∧s'.log.length=s.log.length+np (lg t (L,J)).size)∨
 (e=.returned (.tuple #[.string ⟨#[]⟩,.int .i64 11])∧b5 w w'∧∃s' lr t' q k m,l7 w0 w' p s' lr t' q k 0 (s.log.length+510)∧s'.log.length=s.log.length+m∧
  ((b_ t L J=0∧m=np (lg t (L,J)).size∧t'=cZ t L J)∨((b_ t L J=0→m≠np (lg t (L,J)).size)∧(b_ t L J≠0→m=0)∧t'=t)))
theorem GY (hV:Vs w0) (h:eU w0 w S p j s ps t) (dY:s.log.length+255≤5864062014805) (aL aJ:Option Addr) (cL cJ:Nat) (L J:List Int) (lL:L.length<1152921504606846976) (lJ:J.length<1152921504606846976) (hL:bM w aL L) (hJ:bM w aJ J):
  Calls prog 10 #[.pointer (some ⟨S,0,none⟩),.agg #[.slice aL L.length cL,.slice aJ J.length cJ]] w fun e w'=>abT w0 w S p j s ps t L J e w':=by
 have YR:=h.hs.fit;by_cases h0:s.left=0
 ·refine (Hf hV h.sv (.inr h0) _ _).mono ?_;rintro e w' ⟨rfl,h1,h2⟩;exact .inr (.inr ⟨rfl,h2,s,ps,t,_,_,0,⟨h1.go,h.hs,h.ld,by omega⟩,rfl,.inr ⟨fun e=>by have:=(CM (lO e)).1;omega,fun _=>rfl,rfl⟩⟩)
 ·refine (xz hV h.sv h0 (by omega) dY aL aJ cL cJ L J lL lJ hL hJ).mono ?_;have hap:=h.hs.appended (lg t (L,J));have hlb:=JL s ps.length (recs 1 ps).length false (lg t (L,J));rintro e w' (⟨h1,h2,h3⟩ | ⟨h1,h2,h3,h4,h5⟩ | ⟨h1,h2,h3,h4,h5⟩)
  ·exact .inl ⟨h1,h2,.bb h3,h.later h3⟩
  ·by_cases h11:mf s ps.length (recs 1 ps).length false (lg t (L,J))=11
   ·rw [h11] at h3;obtain ⟨m,hm,hc⟩:=hap.down h11;obtain ⟨r1,r2⟩:=h.ld.room h1;have hn:=CM (lO h1);rcases hc with ⟨c1,c2,c3⟩ | ⟨c1,q,k,c2⟩
    ·exact .inr (.inr ⟨h3,h5,_,_,_,_,_,m,⟨h4.go,c3,(h.ld.snoc h1).1,by rw [hm];omega⟩,hm,.inl ⟨h1,c2,rfl⟩⟩)
    ·have hk:=c2.hk;have hk2:=(Jr.cY q.size c2.XA).2.2.1;exact .inr (.inr ⟨h3,h5,_,_,_,_,_,m,⟨h4.go,c2,h.ld,by omega⟩,hm,.inr ⟨fun _ e=>c1 ⟨r1,e⟩,fun e=>absurd h1 e,rfl⟩⟩)
   ·exfalso;obtain ⟨r1,r2⟩:=h.ld.room h1;obtain ⟨-,-,h3⟩:=hap.not h2 h11;rcases h3 with ⟨-,h4⟩ | ⟨-,-,h4⟩
    ·omega
    ·exact r2 h4
  ·obtain ⟨-,q1,q2,q3⟩:=hap.ok h2;have ug:=(h.ld.snoc h1).1;have hC:tU s ps.length (recs 1 ps).length false (lg t (L,J))=(ps++[lg t (L,J)]).length:=by unfold tU;rw [if_pos h2];simp
   have hA:tV s ps.length (recs 1 ps).length false (lg t (L,J))=(recs 1 (ps++[lg t (L,J)])).length:=by unfold tV;rw [if_pos h2,ij,List.length_append,ba]
   have hD:tS s ps.length (recs 1 ps).length false (lg t (L,J))=false:=by unfold tS;rw [h2,if_neg (by decide)]
   rw [hC,hA,hD] at h4;exact .inr (.inl ⟨h1,h3,h5,_,_,⟨h4,q1,ug⟩,q3⟩)
end
open Jr.Dk (ib Jn St Hs bG)
section
variable {w0 w:World} {p k i B:Nat} {s:St} {ps:List ByteArray} {t:Tr} {q:ByteArray}
set_option maxRecDepth 100000 in
theorem pj (hV:Vs w0) (h:l7 w0 w p s ps t q k i B) (hB:B+2048≤5864062014805) (P0:Nat) (hP0:P0≤3):
  Calls prog 17 #[.pointer (some ⟨p,0,none⟩),.int .i64 (P0:Int)] w fun e w'=>∃S j s',e=.returned (.tuple #[.pointer (some ⟨S,0,none⟩),.bool true])∧eU w0 w' S p j s' ps t∧s'.log.length≤B∧bG w w':=by
 have HR:Hid (l7 w0 w p s ps t q k i B):=h;have y0:IntKind.i64.wrap ((P0:Int)+400)=((P0+400:Nat):Int):=by rw [Bt.bu _ (by omega) (by omega)];omega
 clear h;go_enter func17,ntmps17;go_wp2_with fail
 go_loopw [6] (fun x wy=>∃(P:Nat) (sy:St) (iy:Nat),P≤258∧x=.int .i64 (P:Int)∧l7 w0 wy p sy ps t q k iy B∧bG w wy) (fun x _=>600 - (intOf x).toNat)
 case atStart=>exact ⟨P0,s,i,by omega,rfl,HR.out,.bb (Below.refl _ _)⟩
 case round=>
  obtain ⟨P,sy,iy,hP,rfl,jR,hk⟩:=hrel;have HK:Hid (bG w wr):=hk;have hup:=Uh jR (P:Int) (by omega) (by omega);have hd:decide ((P:Int)<((P0+400:Nat):Int))=true:=by simp;omega
  obtain ⟨Q4,hQ4⟩:∃x,((P0+400:Nat):Int)=x:=⟨_,rfl⟩;rw [hQ4] at y0 hd;clear jR HR hk hQ4;go_wp2_with fail
  refine hup.mono ?_;rintro e w2 ⟨rfl,jR,hk2⟩;have ur:Hid (bG w w2):=HK.out.trans hk2;have hop:=Lh hV jR hB;clear hup jR hk2 HK;go_wp2_with fail
  refine hop.mono ?_;rintro e w3 (⟨rfl,II,hk3,s3,j3,jR⟩ | ⟨S,jj,s3,rfl,hrun,uK,hk3⟩)
  ·have P7:P≤254:=by
    have:¬(254<(P:Int)):=fun h=>II (.inr h)
    omega
   have ady:Hid (l7 w0 w3 p s3 ps t q k j3 B∧bG w w3):=⟨jR,ur.out.trans hk3⟩;have y1:IntKind.i64.wrap ((P:Int)+1)=((P+1:Nat):Int):=by rw [Bt.bu _ (by omega) (by omega)];omega
   obtain ⟨P1,Y5⟩:∃P1,((P+1:Nat):Int)=P1:=⟨_,rfl⟩;have Mq:Hid (((P+1:Nat):Int)=P1):=Y5;rw [Y5] at y1;clear hop jR II Y5 hk3 ur hd;go_wp2_with fail
   go_roundw
   case rel=>exact ⟨P+1,_,_,by omega,by rw [Mq.out],ady.out⟩
   case measure=>simp [intOf,←Mq.out];omega
  ·have HF:Hid (eU w0 w3 S p jj s3 ps t∧s3.log.length≤B∧bG w w3):=⟨hrun,uK,ur.out.trans hk3⟩;clear hop hrun uK hk3 ur;go_wp2_with fail
   refine bodyPost_ret (bV rfl _ _) rfl ?_;exact ⟨S,jj,s3,rfl,HF.out⟩
end
open Rs (bM ps ah)
open Jr (recs np pt cY)
/- The document's message. -/
variable {t:Tr} {J L:List Int} {B k:Nat}
def qM (t:Tr) (L J:List Int):Wi.lZ:=Wi.mR (rW (rZ t L J,(fx t L J,(bO t L J,fY t L J))))
theorem NN (h0:b_ t L J=0):qM t L J=stM t L J:=by
 unfold qM stM;rw [OX h0]
theorem acu {X Y:World} {a1 a2 a3:Option Addr} {k1 k2 k3:Nat} (g1:Y.ownsRow X.heap.size 113 2 (.slice a1 (fx t L J).length k1) (fx t L J).length (ps (fx t L J)))
  (g2:Y.ownsRow X.heap.size 113 2 (.slice a2 (bO t L J).length k2) (bO t L J).length (ps (bO t L J))) (g3:Y.ownsRow X.heap.size 103 6 (.slice a3 (fY t L J).length k3) (fY t L J).length (kU (fY t L J))):Wi.MR Y (qM t L J) a1 a2 a3:=by
 by_cases h0:b_ t L J=0
 ·rw [NN h0];exact Io h0 g1 g2 g3
 ·have l1:fx t L J=[]:=by unfold fx;rw [if_neg h0]
  have l2:bO t L J=[]:=by unfold bO;rw [if_neg h0]
  have l3:fY t L J=[]:=by unfold fY;rw [if_neg h0]
  unfold qM;rw [l1,l2,l3];exact ⟨fun i hi=>absurd hi (Nat.not_lt_zero _),fun i hi=>absurd hi (Nat.not_lt_zero _),fun i hi=>absurd hi (Nat.not_lt_zero _),(by show (0:Nat)<4611686018427387904;decide),(by show (0:Nat)<4611686018427387904;decide),(by show (0:Nat)<4611686018427387904;decide),(by show (0:Nat)<4611686018427387904;decide)⟩
theorem aaH (t:Tr) (L J:List Int) (W:World) (a1 a2 a3:Option Addr) (k1 k2 k3:Nat) (h:Wi.MR W (qM t L J) a1 a2 a3):
  Calls prog 12 #[.agg #[.int .i64 1,.int .i64 (rZ t L J),.slice a1 (fx t L J).length k1,.slice a2 (bO t L J).length k2,.slice a3 (fY t L J).length k3,.int .i64 0,.int .i64 0,.int .i64 0,.int .i64 0,.int .i64 0,.int .i64 0,.int .i64 0,.int .i64 0,.int .i64 0,.int .i64 0,.int .i64 0,.int .i64 0,.int .i64 0,.int .i64 0,.int .i64 0,.int .i64 0,.int .i64 0,.int .i64 0,.int .i64 0,.int .i64 0,.string ⟨#[]⟩]] W fun e w'=>e=.returned (.tuple #[.string (Wi.EH (qM t L J)),.int .i64 (Wi.U4 (qM t L J))])∧Below W.heap.size W w':=by
 have hm:(Wi.CU (qM t L J) a1 a2 a3 k1 k2 k3).toArray=#[.int .i64 1,.int .i64 (rZ t L J),.slice a1 (fx t L J).length k1,.slice a2 (bO t L J).length k2,.slice a3 (fY t L J).length k3,.int .i64 0,.int .i64 0,.int .i64 0,.int .i64 0,.int .i64 0,.int .i64 0,.int .i64 0,.int .i64 0,.int .i64 0,.int .i64 0,.int .i64 0,.int .i64 0,.int .i64 0,.int .i64 0,.int .i64 0,.int .i64 0,.int .i64 0,.int .i64 0,.int .i64 0,.int .i64 0,.string ⟨#[]⟩]:=by
  have e3:((fY t L J).map T4).length=(fY t L J).length:=List.length_map ..;unfold qM Wi.CU Wi.mR rW;dsimp only;rw [e3];rfl
 rw [←hm];exact Wi.MV.aaG ⟨a1,a2,a3,k1,k2,k3,rfl,h⟩ rfl
/- The document's record. -/
def qR (t:Tr) (L J:List Int):ByteArray:=t_ (cZ t L J).ep (cZ t L J).fr (pW t L J) (bO t L J)
theorem XX (h0:b_ t L J=0):qR t L J=lg t (L,J):=by
 unfold qR lg pW;rw [if_pos h0]
/- How a step ends, in one form. -/
def RL (w0 w:World) (S p j:Nat) (s':St) (ps:List ByteArray) (t:Tr) (L J:List Int) (B:Nat) (T:ByteArray) (E:Int) (D:Nat):Prop:=
 (b_ t L J≠0∧b_ t L J≠11∧T=⟨#[]⟩∧E=b_ t L J∧D=0∧eU w0 w S p j s' ps t)∨
 (b_ t L J=0∧T=Wi.EH (qM t L J)∧E=0∧(D:Int)=pt ((qR t L J).size:Int)∧∃lr,eU w0 w S p j s' lr (cZ t L J))∨
 (T=⟨#[]⟩∧E=11∧∃lr t' q k,l7 w0 w p s' lr t' q k 0 B∧
  ((b_ t L J=0∧(D:Int)=pt ((qR t L J).size:Int)∧t'=cZ t L J)∨(b_ t L J=0∧(D:Int)≠pt ((qR t L J).size:Int)∧t'=t)∨(b_ t L J≠0∧D=0∧t'=t)))
structure yn (w0 w:World) (S p j:Nat) (s s':St) (ps:List ByteArray) (t:Tr) (L J:List Int) (T:ByteArray) (E:Int) (D:Nat):Prop where
 go:ib w0.heap.size w0 w p s'
 log:s'.log.length=s.log.length+D
 d:D≤510
 e:RL w0 w S p j s' ps t L J (s.log.length+510) T E D
theorem RL.later {w0 w w':World} {S p j B D:Nat} {s':St} {ps:List ByteArray} {t:Tr} {L J:List Int} {T:ByteArray} {E:Int} (h:RL w0 w S p j s' ps t L J B T E D) (hb:Below w.heap.size w w'):RL w0 w' S p j s' ps t L J B T E D:=by
 rcases h with ⟨a,b,c,d,e,f⟩ | ⟨a,b,c,d,q,f⟩ | ⟨a,b,p1,t1,q,k,c,d⟩
 ·exact .inl ⟨a,b,c,d,e,f.later hb⟩
 ·exact .inr (.inl ⟨a,b,c,d,q,f.later hb⟩)
 ·exact .inr (.inr ⟨a,b,p1,t1,q,k,c.later hb,d⟩)
theorem yn.later {w0 w w':World} {S p j D:Nat} {s s':St} {ps:List ByteArray} {t:Tr} {L J:List Int} {T:ByteArray} {E:Int} (h:yn w0 w S p j s s' ps t L J T E D) (hb:Below w.heap.size w w'):yn w0 w' S p j s s' ps t L J T E D:=⟨h.go.later hb,h.log,h.d,h.e.later hb⟩
theorem XW (h0:b_ t L J=0):pt ((qR t L J).size:Int)=(np (lg t (L,J)).size:Int):=by
 have h1:=lO h0;rw [XX h0];exact (cY _ (by omega)).1
theorem abg {w0 w w':World} {S p j:Nat} {s:St} {ps:List ByteArray} {e:Ending} (h0:eU w0 w S p j s ps t) (h:abT w0 w S p j s ps t L J e w'):
  ∃T E D s',e=.returned (.tuple #[.string T,.int .i64 E])∧b5 w w'∧yn w0 w' S p j s s' ps t L J T E D:=by
 rcases h with ⟨a,b,c,d⟩ | ⟨a,b,c,s',lr,d,f⟩ | ⟨b,c,s',lr,t',q,k,m,d,f,g⟩
 ·exact ⟨_,_,0,s,b,c,d.sv.go,rfl,by omega,.inl ⟨a,N9 t L J,rfl,rfl,rfl,d⟩⟩
 ·have hn:=CM (lO a);exact ⟨_,_,_,s',b,c,d.sv.go,f,by omega,.inr (.inl ⟨a,by rw [NN a];rfl,rfl,(XW a).symm,lr,d⟩)⟩
 ·have hl:=d.lg;refine ⟨_,_,m,s',b,c,d.go,f,by omega,.inr (.inr ⟨rfl,rfl,lr,t',q,k,d,?_⟩)⟩;rcases g with ⟨g1,g2,g3⟩ | ⟨g1,g2,g3⟩
  ·exact .inl ⟨g1,by rw [XW g1,g2],g3⟩
  ·by_cases g0:b_ t L J=0
   ·exact .inr (.inl ⟨g0,fun e=>g1 g0 (by rw [XW g0] at e;omega),g3⟩)
   ·exact .inr (.inr ⟨g0,g2 g0,g3⟩)
/- Where a block of the law's own is written to. -/
section
variable {N:Nat} {w0 w w':World} {p S T j q c a:Nat} {s:St} {d:Bool} {cs:Array Value} {fz:Nat×Nat} {ty:TypeId} {t u:Tr}
theorem z6 {c1 c2:Array Value} {t1 t2:TypeId} {f1 f2:Nat×Nat} (h1:w.heap[B]? =some (.cells c1 t1 f1)) (h2:w.heap[B]? =some (.cells c2 t2 f2)):t1=t2:=by
 rw [h1] at h2;cases h2
 rfl
theorem qw (w:World) (T:Nat) (cs:Array Value):Jr.Dk.Kept (fun k=>k=T) w (w.setRow T cs):=⟨rfl,rfl,rfl,by simp [World.setRow],fun i _ hn=>Rt.aq hn cs⟩
theorem Qg (h:ib N w0 w p s) (hT:az w T t) (hN:N≤T) (hk:Jr.Dk.Kept (fun k=>k=T) w w'):ib N w0 w' p s:=by
 obtain ⟨⟨b,m,x,dk⟩,g1,g2⟩:=h;refine ⟨⟨b,m,x,dk.kept hk (fun k hF hv=>?_)⟩,Jr.Dk.Bq g1 hk (fun i hi=>by cases hi;exact hN) g2,Nat.le_trans g2 hk.size⟩;cases hv
 exact dk.OE hT (by decide) (by decide) hF
theorem Yx (h:Jn w j q c a d) (hT:az w T t) (hk:Jr.Dk.Kept (fun k=>k=T) w w'):Jn w' j q c a d:=by
 refine (hk.block j h.lt (fun e=>?_)).trans h;subst e;exact absurd (z6 hT h) (by decide)
theorem XJ (h:ia w S p j u d) (hT:az w T t) (hk:Jr.Dk.Kept (fun k=>k=T) w w'):ia w' S p j u d:=by
 refine (hk.block S (Wi.mB h) (fun e=>?_)).trans h;subst e;exact absurd (z6 hT h) (by decide)
theorem eU.box {ps:List ByteArray} (h:eU w0 w S p j s ps u) (hT:az w T t) (hN:w0.heap.size≤T) (c:Array Value):eU w0 (w.setRow T c) S p j s ps u:=
 ⟨⟨Qg h.sv.go hT hN (qw w T c),Yx h.sv.jn hT (qw w T c),XJ h.sv.sv hT (qw w T c),h.sv.jN,h.sv.sN⟩,h.hs,h.ld⟩
theorem l7.box {ps:List ByteArray} {qq:ByteArray} {i:Nat} (h:l7 w0 w p s ps u qq k i B) (hT:az w T t) (hN:w0.heap.size≤T) (c:Array Value):l7 w0 (w.setRow T c) p s ps u qq k i B:=
 ⟨Qg h.go hT hN (qw w T c),h.hs,h.ld,h.lg⟩
end
/- A round's boxes: the tree, the step. -/
def XAt (w:World) (X:Nat) (aL aJ:Option Addr) (nL nJ cL cJ:Nat) (C A:Int):Prop:=w.heap[X]? =some (.cells #[.slice aL nL cL,.slice aJ nJ cJ,.int .i64 C,.int .i64 A] 45 (0,0))
structure HB (w:World) (T X:Nat) (t:Tr) (aL aJ:Option Addr) (nL nJ cL cJ:Nat) (C A:Int):Prop where
 tr:az w T t
 xs:XAt w X aL aJ nL nJ cL cJ C A
section
variable {w w':World} {T X:Nat} {t n:Tr} {aL aJ:Option Addr} {nL nJ cL cJ:Nat} {C A:Int}
theorem XAt.cells (h:XAt w X aL aJ nL nJ cL cJ C A):w.cell? ⟨X,0,none⟩=some (.slice aL nL cL)∧w.cell? ⟨X,1,none⟩=some (.slice aJ nJ cJ)∧w.cell? ⟨X,2,none⟩=some (.int .i64 C)∧w.cell? ⟨X,3,none⟩=some (.int .i64 A):=
 ⟨cell_of_row w X 0 _ _ _ h,cell_of_row w X 1 _ _ _ h,cell_of_row w X 2 _ _ _ h,cell_of_row w X 3 _ _ _ h⟩
theorem HB.later (h:HB w T X t aL aJ nL nJ cL cJ C A) (hb:Below w.heap.size w w'):HB w' T X t aL aJ nL nJ cL cJ C A:=⟨h.tr.later hb,Wi.aQ h.xs hb⟩
theorem HB.keep (h:HB w T X t aL aJ nL nJ cL cJ C A) (hk:b5 w w'):HB w' T X t aL aJ nL nJ cL cJ C A:=⟨hk _ _ _ _ h.tr (by decide) (by decide) (by decide) (by decide),hk _ _ _ _ h.xs (by decide) (by decide) (by decide) (by decide)⟩
theorem HB.box (h:HB w T X t aL aJ nL nJ cL cJ C A) (n:Tr):HB (w.setRow T (aC n)) T X n aL aJ nL nJ cL cJ C A:=⟨Rt.ai h.tr (aC n),(Rt.aq (fun e=>absurd (z6 h.tr (e ▸ h.xs)) (by decide)) (aC n)).trans h.xs⟩
end
theorem YH {l:List xw} (h:k<l.length):l.getD k hs0∈l:=by
 rw [List.getD_eq_getElem?_getD,List.getElem?_eq_getElem h];exact List.getElem_mem h
end Go.Proofs.YtanaapfobpgibaaGreatDoor
