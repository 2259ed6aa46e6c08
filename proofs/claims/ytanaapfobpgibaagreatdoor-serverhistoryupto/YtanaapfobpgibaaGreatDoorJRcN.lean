/- RcN, RcR, RcO, RcH, joined. -/
import Derived.Test.YtanaapfobpgibaaGreatDoorRcL
open Go.Proofs.Tryz
set_option maxHeartbeats 2000000
namespace Go.Proofs.YtanaapfobpgibaaGreatDoor.Rc
open Rs (bM ps Tb cq)
set_option linter.unusedVariables false
set_option maxRecDepth 4000
variable {t:Tr} {J L:List Int}
theorem VZ (h:b_ t L J=0):(cZ t L J).ep=t.ep+1∧0≤t.ep∧t.ep≤199:=by
 have hs:=j9 h;refine ⟨?_,hs.rt.e0,hs.ep⟩;unfold cZ;rw [if_pos h];rfl
theorem MD (T:List Nat) (J:List Int):∀k,k≤J.length→ws (Rs.nO T J k)=J.take k
 | 0,_=>rfl
 | k+1,h=>by
  have ih:=MD T J k (by omega)
  have e:ws (Rs.nO T J (k+1))=ws (Rs.nO T J k)++[J.getD k 0]:=by
   show ws (Rs.nO T J k++[(J.getD k 0,((T.getD k 0:Nat):Int))])=_
   unfold ws;rw [List.map_append];rfl
  rw [e,ih,lA 0 (by omega)]
theorem aao (h:b_ t L J=0):ws (bO t L J)=J:=by
 unfold bO;rw [if_pos h];unfold kF;rw [MD _ _ _ (Nat.le_refl _),List.take_length]
/- A step's own record, played. -/
theorem N6 (h:b_ t L J=0):
  gU t (cZ t L J).ep (cZ t L J).fr L (bO t L J)=0∧CH t (cZ t L J).ep (cZ t L J).fr L (bO t L J)=cZ t L J∧KQ t (cZ t L J).ep (cZ t L J).fr L (bO t L J)=rZ t L J
  ∧KR t (cZ t L J).ep (cZ t L J).fr L (bO t L J)=fx t L J∧KS t (cZ t L J).ep (cZ t L J).fr L (bO t L J)=bO t L J∧KT t (cZ t L J).ep (cZ t L J).fr L (bO t L J)=fY t L J:=by
 have hw:=aao h
 have h0:gU t (cZ t L J).ep (cZ t L J).fr L (bO t L J)=0:=by
  unfold gU;rw [(j9 h).ok,if_pos rfl,hw,if_pos h,Nr];rfl
 unfold CH KQ KR KS KT;rw [h0,hw];exact ⟨rfl,rfl,rfl,rfl,rfl,rfl⟩
open Go.ChangeShapes Go.WideShapes Go.ChangeAt Go.RowKit Go.Maps Go.Shelf
open Rs (kQ ps bM cq ax kX ar nO)
set_option linter.unusedSimpArgs false
theorem Ch {t:Tr} {L J:List Int} (h:b_ t L J=0):fw (cZ t L J).ep (cZ t L J).fr L (bO t L J)=true:=by
 have hs:=j9 h;have hr:=hs.right;have e0:=hs.rt.e0;have hT:cZ t L J=nx t L J:=by unfold cZ;rw [if_pos h]
 have hj:bO t L J=nO (Rs.fU t.ro L J) J J.length:=by unfold bO;rw [if_pos h];rfl
 have hJ:=TD t L J
 have wk:∀x:Int,Rs.mv x=true→who x=true:=fun x hx=>by
  rw [jX];unfold Rs.mv at hx;simp at hx;omega
 rw [hT];refine ie.2 ⟨by show 1≤t.ep+1;omega,hr.e1,hr.f0,hr.f1,hs.fit.CV,hJ,fun x hx=>?_,fun p hp=>?_⟩
 ·obtain ⟨k,hk,e⟩:=List.getElem_of_mem hx;have q:=(hs.fit.lv k hk).1;rw [List.getD_eq_getElem?_getD,List.getElem?_eq_getElem hk] at q;rw [←e];exact wk _ q
 ·rw [hj] at hp;obtain ⟨k,hk,e⟩:=List.getElem_of_mem hp;have Mg:k<J.length:=by simpa using hk
  have q:=Rs.uY (Rs.fU t.ro L J) J J.length Mg;rw [List.getD_eq_getElem?_getD,List.getElem?_eq_getElem hk] at q;have q2:p=(J.getD k 0,(((Rs.fU t.ro L J).getD k 0:Nat):Int)):=by rw [←e];exact q
  have q3:=(hs.fit.slots (sc:=0) (bs:=1) (by omega) Mg).lt;have q4:=jX.1 (wk _ (hs.fit.jn k Mg).1);rw [q2];exact j7.2 ⟨q4,by dsimp only;omega,by dsimp only;omega⟩
/- The texts. -/
def lg (t:Tr) (b:List Int×List Int):ByteArray:=t_ (cZ t b.1 b.2).ep (cZ t b.1 b.2).fr b.1 (bO t b.1 b.2)
def lgs (ns:List Tr) (bs:List (List Int×List Int)):List ByteArray:=(List.range bs.length).map fun i=>lg ((j6::ns).getD i (tz 0)) (bs.getD i ([],[]))
@[simp] theorem acg (ns:List Tr) (bs:List (List Int×List Int)):(lgs ns bs).length=bs.length:=by simp [lgs]
open Go.RowKit Go.Maps Go.Great
open Rs (bM cell_later ps eA Tb cq ar ah aP iW)
def abQ (w w':World) (t:Tr) (aL:Option Addr) (L J:List Int) (r:Ending):Prop:=∃a4 k4 v5,r=.returned (.tuple #[.agg #[.int .i64 (cZ t L J).ep,.int .i64 (cZ t L J).fr,.slice a4 (pW t L J).length k4,v5],.int .i64 (b_ t L J)])∧(a4=aL∨a4=none)∧bM w' a4 (pW t L J)∧w'.ownsRow w.heap.size 113 2 v5 (bO t L J).length (ps (bO t L J))
set_option maxRecDepth 100000 in
theorem uA (t:Tr) (aL aJ:Option Addr) (cL cJ:Nat) (L J:List Int) (w:World) (lL:L.length<1152921504606846976) (lJ:J.length<1152921504606846976) (hL:bM w aL L) (hJ:bM w aJ J):
  Calls prog 13 #[.agg (aC t),.agg #[.slice aL L.length cL,.slice aJ J.length cJ]] w fun e w'=>abQ w w' t aL L J e∧Below w.heap.size w w':=by
 have hX:=(TB.new w t aL aJ L.length J.length cL cJ).later (aa _ (.cells #[.int .i64 0,.int .i64 0,.slice none 0 0,.slice none 0 0] 70));have jU:=bh.new ((w.alloc (.cells (aC t) 39)).alloc (.cells #[.slice aL L.length cL,.slice aJ J.length cJ] 43)) #[.int .i64 0,.int .i64 0,.slice none 0 0,.slice none 0 0];rw [World.size_alloc,World.size_alloc] at jU;obtain ⟨ct,bQ⟩:∃c,aC t=c:=⟨_,rfl⟩;have HT:Hid (aC t=ct):=bQ;clear bQ;go_enter func13,ntmps13;go_upto_region 1 with (fail)
 generalize ((w.alloc (.cells (aC t) 39)).alloc (.cells #[.slice aL L.length cL,.slice aJ J.length cJ] 43)).alloc (.cells #[.int .i64 0,.int .i64 0,.slice none 0 0,.slice none 0 0] 70)=w1 at *;rw [HT.out];obtain ⟨E,hE⟩:∃D,w.heap.size+1+1=D:=⟨_,rfl⟩;obtain ⟨C,hC⟩:∃D,w.heap.size+1=D:=⟨_,rfl⟩;obtain ⟨B,hB⟩:∃D,w.heap.size=D:=⟨_,rfl⟩;try rw [show w.heap.size+2=w.heap.size+1+1 from rfl]
 have BV:Hid (w.heap.size≤E):=by unfold Hid;omega
 rw [hE] at jU ⊢;rw [hC,hB] at hX ⊢;clear hE hC hB;have h1:=yM t aL aJ cL cJ L J w1 lL lJ (hL.later hX.aK) (hJ.later hX.aK);unfold gF at h1;rw [HT.out] at h1;obtain ⟨n,hn⟩:∃n,cZ t L J=n:=⟨_,rfl⟩;obtain ⟨cn,f_⟩:∃c,aC n=c:=⟨_,rfl⟩;have HC:Hid (aC n=cn):=f_;have HN:Hid (cZ t L J=n):=hn;simp only [hn,f_] at h1;obtain ⟨e,he⟩:∃e,b_ t L J=e:=⟨_,rfl⟩;have HE:Hid (b_ t L J=e):=he;simp only [he] at h1;clear he hn;have jT:=hX.tr;obtain ⟨d0,d1⟩:=hX.bt.cells;go_wp2_with (refine pV jT HT.out _ rfl rfl rfl ?_)
 refine h1.mono ?_;rintro r w2 ⟨⟨vl,vj,vi,rfl,oK⟩,hb2⟩;have Bx:Hid (w.heap.size≤w1.heap.size):=hX.aK.size;have bm:Hid (Below w.heap.size w w2):=hX.aK.trans (hb2.mono hX.aK.size);have oz:=jU.later hb2;have kV:=hX.later hb2;have g2:=oK.join;obtain ⟨a1,k1,rfl⟩:=ah oK.left;obtain ⟨a2,k2,rfl⟩:=ah oK.join;obtain ⟨a3,k3,rfl⟩:=ah oK.item;obtain ⟨t1,t2,W,hW,tT,tR,tB⟩:=cM w2 n cn #[.int .i64 (rZ t L J),.slice a1 (fx t L J).length k1,.slice a2 (bO t L J).length k2,.slice a3 (fY t L J).length k3] f_;have xN:=oz.later tB;have kG:=kV.later tB;have fE:Hid (Below w.heap.size w W):=bm.out.trans (tB.mono bm.out.size);have HJN:Hid (W.ownsRow w.heap.size 113 2 (.slice a2 (bO t L J).length k2) (bO t L J).length (ps (bO t L J))):=Rs.aV (ar g2 tB) Bx.out;clear h1 hX jT hb2 d0 d1 oK f_ tB jU oz kV g2;go_upto_region 2 with (first | (show wpList _ _ _ ({dst:=_,op:=Op.store 39 _ _,type:=_,pos:=_,after:=_,guard:=_}::_) _ _;refine eE t1 HC.out rfl _ _ rfl rfl rfl ?_) | (show wpList _ _ _ ({dst:=_,op:=Op.store 54 _ _,type:=_,pos:=_,after:=_,guard:=_}::_) _ _;refine gN cS (cs:=cQ) bw t2 _ rfl (kx _ _ _ _ _ _ _ _ _ _) rfl _ _ rfl rfl rfl ?_))
 clear t1 t2 hW;obtain ⟨G,hG⟩:∃A,w2.heap.size+1=A:=⟨_,rfl⟩;rw [hG] at tR ⊢;clear hG;generalize w2.heap.size=N at *;by_cases BP:e=0
 ·subst BP;have HOL:Hid (pW t L J=L):=by unfold Hid pW;rw [if_pos HE.out]
  obtain ⟨c0,c1⟩:=tT.cells;obtain ⟨r0,r1,r2,r3⟩:=JQ tR;obtain ⟨d0,d1⟩:=kG.bt.cells;have uZ:Hid (bM W aL L):=hL.later kG.aK;clear kG tT tR;go_wp2_with (show wpList _ _ _ ({dst:=_,op:=Op.store 70 _ _,type:=_,pos:=_,after:=_,guard:=_}::_) _ _;refine gN gY (cs:=rz) rfl xN #[.int .i64 n.ep,.int .i64 n.fr,.slice aL L.length cL,.slice a2 (bO t L J).length k2] rfl (mG _ _ _ _ _ _ _ _) rfl _ _ rfl rfl rfl ?_)
  refine bodyPost_ret (gO (p:=4) (t:=5) rfl _ _ E _ rfl (Rt.ai xN _) rfl) rfl ?_;have hb:=Rt.ag BV.out fE.out #[.int .i64 n.ep,.int .i64 n.fr,.slice aL L.length cL,.slice a2 (bO t L J).length k2];refine ⟨⟨aL,cL,_,?_,.inl rfl,by rw [HOL.out];exact hL.later hb,aP HJN.out xN (by decide) _⟩,hb⟩;rw [HN.out,HE.out,HOL.out];rfl
 ·have Ww:(e !=0)=true:=by simpa using BP
  have l8:Hid (e≠0):=BP;clear BP kG tT tR;go_wp2_with (show wpList _ _ _ ({dst:=_,op:=Op.store 70 _ _,type:=_,pos:=_,after:=_,guard:=_}::_) _ _;refine gN gY (cs:=rz) rfl xN rz rfl Ns rfl _ _ rfl rfl rfl ?_)
  refine bodyPost_ret (gO (p:=4) (t:=5) rfl _ _ E rz rfl (Rt.ai xN _) rfl) rfl ?_;have hb:=Rt.ag BV.out fE.out rz;have ho:pW t L J=[]:=by unfold pW;rw [HE.out,if_neg l8.out]
  have hj:bO t L J=[]:=by unfold bO;rw [HE.out,if_neg l8.out]
  have hp:cZ t L J=tz 0:=by unfold cZ;rw [HE.out,if_neg l8.out]
  refine ⟨⟨none,0,.slice none 0 0,?_,.inr rfl,by rw [ho];exact Rs.bM.nil _ _,by rw [hj];exact World.ownsRow_nil _ _ _ _⟩,hb⟩;rw [ho,hp,HE.out];rfl
open Go.RowKit Go.Maps
open Rs (bM cell_later)
set_option maxRecDepth 100000 in
theorem jw (e f:Int) (aL aJ:Option Addr) (cL cJ:Nat) (L:List Int) (J:List (Int×Int)) (w:World) (rL:bM w aL L) (rJ:oQ w aJ J):
  Calls prog 30 #[.agg #[.int .i64 e,.int .i64 f,.slice aL L.length cL,.slice aJ J.length cJ]] w fun r w'=>r=.returned (.bool (fw e f L J))∧Below w.heap.size w w':=by
 have hB:=aa w (.cells #[.int .i64 e,.int .i64 f,.slice aL L.length cL,.slice aJ J.length cJ] 70);have jV:Hid (¬W6 e f L J→fw e f L J=false):=Nw;by_cases g1:e<1
 ·have HE:Hid (fw e f L J=false):=jV.out fun h=>by have:=h.e1;omega
  go_enter func30,ntmps30;go_wp2_with fail
  go_ret;exact ⟨ae HE.out.symm,hB⟩
 by_cases g2:200<e
 ·have HE:Hid (fw e f L J=false):=jV.out fun h=>by have:=h.e2;omega
  have d1:decide (e<1)=false:=by simp;omega
  go_enter func30,ntmps30;go_wp2_with fail
  go_ret;exact ⟨ae HE.out.symm,hB⟩
 have d1:decide (e<1)=false:=by simp;omega
 have d2:decide (200<e)=false:=by simp;omega
 by_cases g3:f<22
 ·have HE:Hid (fw e f L J=false):=jV.out fun h=>by have:=h.f1;omega
  clear g1 g2;go_enter func30,ntmps30;go_wp2_with fail
  go_ret;exact ⟨ae HE.out.symm,hB⟩
 have d3:decide (f<22)=false:=by simp;omega
 by_cases g4:32768<f
 ·have HE:Hid (fw e f L J=false):=jV.out fun h=>by have:=h.f2;omega
  clear g1 g2 g3;go_enter func30,ntmps30;go_wp2_with fail
  go_ret;exact ⟨ae HE.out.symm,hB⟩
 have d4:decide (32768<f)=false:=by simp;omega
 by_cases g5:64<L.length
 ·have HE:Hid (fw e f L J=false):=jV.out fun h=>by have:=h.l1;omega
  have d5:decide ((64:Int)<(L.length:Int))=true:=by simp;omega
  have d6:(64:Int)<(L.length:Int):=by omega
  clear g1 g2 g3 g4;generalize L.length=nL at *;go_enter func30,ntmps30;go_wp2_with fail
  go_ret;exact ⟨ae HE.out.symm,hB⟩
 have d5:decide ((64:Int)<(L.length:Int))=false:=by simp;omega
 have d5':decide (64<L.length)=false:=by simp;omega
 by_cases g6:64<J.length
 ·have HE:Hid (fw e f L J=false):=jV.out fun h=>by have:=h.j1;omega
  have d6:(64:Int)<(J.length:Int):=by omega
  clear g1 g2 g3 g4 g5;generalize L.length=nL at *;generalize J.length=nJ at *;go_enter func30,ntmps30;go_wp2_with fail
  go_ret;exact ⟨ae HE.out.symm,hB⟩
 have d6:decide ((64:Int)<(J.length:Int))=false:=by simp;omega
 have d6':decide (64<J.length)=false:=by simp;omega
 have HY:Hid ((∀x∈L,who x=true)→(∀p∈J,pU p=true)→fw e f L J=true):=fun h1 h2=>ie.2 ⟨by omega,by omega,by omega,by omega,by omega,by omega,h1,h2⟩
 have pZ:Hid (∀k,k<L.length→who (L.getD k 0)=false→fw e f L J=false):=fun k hk h=>jV.out fun hr=>by rw [hr.lw _ (eJ 0 hk)] at h;cases h
 have lu:Hid (∀k,k<J.length→pU (J.getD k (0,0))=false→fw e f L J=false):=fun k hk h=>jV.out fun hr=>by rw [hr.js _ (eJ (0,0) hk)] at h;cases h
 have Y3:=bh.new w #[.int .i64 e,.int .i64 f,.slice aL L.length cL,.slice aJ J.length cJ];have FM:L.length≤64:=by omega
 have acC:J.length≤64:=by omega
 clear g1 g2 g3 g4 g5 g6 jV;go_enter func30,ntmps30;go_wp2_with fail
 go_loopw [40] (fun i wr=>∃k:Nat,k≤L.length∧i=.int .i64 (k:Int)∧(∀x∈L.take k,who x=true)∧wr=w.alloc (.cells #[.int .i64 e,.int .i64 f,.slice aL L.length cL,.slice aJ J.length cJ] 70)) (fun i _=>L.length - (intOf i).toNat)
 case atStart=>exact ⟨0,by omega,rfl,by simp,rfl⟩
 case round=>
  obtain ⟨k,hk,rfl,lS,rfl⟩:=hrel;have iN:Hid (∀x∈L.take k,who x=true):=lS;clear lS;by_cases cE:k<L.length
  ·obtain ⟨b,o,rfl,c0⟩:=rL k cE;have c1:=cell_later hB c0;have i1:(0:Int)≤(k:Int):=by omega
   have i2:(k:Int)<(L.length:Int):=by omega
   have HN:=pZ.out k cE;have HS:Hid (who (L.getD k 0)=true→∀x∈L.take (k+1),who x=true):=fun h=>lX 0 cE iN.out h
   generalize L.getD k 0=x at *;have hlt:k<L.length:=cE;have rB:Hid (k<L.length):=hlt;have aac:Hid (L.length≤64):=FM;by_cases hx0:x<0
   ·have HE:Hid (fw e f L J=false):=HN (by simp [who];omega);clear HN c0 rL rJ hlt cE;generalize L.length=nL at *;generalize J.length=nJ at *;generalize w.alloc (.cells #[.int .i64 e,.int .i64 f,.slice (some ⟨b,o,none⟩) nL cL,.slice aJ nJ cJ] 70)=w0 at *;go_wp2_with fail
    go_ret;exact ⟨ae HE.out.symm,hB⟩
   have x0:decide (x<0)=false:=by simp;omega
   by_cases hx1:256≤x
   ·have HE:Hid (fw e f L J=false):=HN (by simp [who];omega);clear HN c0 rL rJ hlt cE hx0;generalize L.length=nL at *;generalize J.length=nJ at *;generalize w.alloc (.cells #[.int .i64 e,.int .i64 f,.slice (some ⟨b,o,none⟩) nL cL,.slice aJ nJ cJ] 70)=w0 at *;go_wp2_with fail
    go_ret;exact ⟨ae HE.out.symm,hB⟩
   have x1:decide (256≤x)=false:=by simp;omega
   have eW:Hid (∀x∈L.take (k+1),who x=true):=HS.out (jX.2 ⟨by omega,by omega⟩);clear HN c0 rL rJ hlt cE HS pZ lu HY iN hB Y3 hx0 hx1;go_wp2_with fail
   go_roundw
   case rel=>exact ⟨k+1,by have:=rB.out;omega,by go_num,eW.out,by first | rfl | trivial⟩
   case measure=>simp [intOf];have:=rB.out;omega
  ·have iX:decide ((k:Int)<(L.length:Int))=false:=by simp;omega
   have HLA:Hid (∀x∈L,who x=true):=by
    have e:L.take k=L:=List.take_of_length_le (by omega);have:=iN.out;rw [e] at this;exact this
   obtain ⟨r0,r1,r2,r3⟩:=Y3.cells;have Su:=rJ.later hB;have B1:Hid (Below w.heap.size w (w.alloc (.cells #[.int .i64 e,.int .i64 f,.slice aL L.length cL,.slice aJ J.length cJ] 70))):=hB;have aac:Hid (L.length≤64):=FM;clear rL rJ Y3 hB pZ iN d5' FM;generalize w.alloc (.cells #[.int .i64 e,.int .i64 f,.slice aL L.length cL,.slice aJ J.length cJ] 70)=w0 at *;obtain ⟨B,hBq⟩:∃B,w.heap.size=B:=⟨_,rfl⟩;rw [hBq] at r0 r1 r2 r3 ⊢;clear hBq;generalize L.length=nL at *;go_wp2_with fail
   go_loopw [54] (fun i wr=>∃k:Nat,k≤J.length∧i=.int .i64 (k:Int)∧(∀x∈J.take k,pU x=true)∧Below w0.heap.size w0 wr) (fun i _=>J.length - (intOf i).toNat)
   case atStart=>exact ⟨0,by omega,rfl,by simp,Below.refl _ _⟩
   case round=>
    obtain ⟨k,hk,rfl,lS,hb⟩:=hrel;have iN:Hid (∀x∈J.take k,pU x=true):=lS;have HB:Hid (Below w0.heap.size w0 wr):=hb;clear lS;by_cases cE:k<J.length
    ·obtain ⟨b,o,rfl,c0,c1⟩:=Su k cE;have c0:=cell_later hb c0;have c1:=cell_later hb c1;have i1:(0:Int)≤(k:Int):=by omega
     have i2:(k:Int)<(J.length:Int):=by omega
     have HN:=lu.out k cE;have HS:Hid (pU (J.getD k (0,0))=true→∀x∈J.take (k+1),pU x=true):=fun h=>lX (0,0) cE iN.out h
     have rB:Hid (k<J.length):=cE;generalize J.getD k (0,0)=x at *;obtain ⟨x1,x2⟩:=x;dsimp only at c0 c1;have He:Hid (Below w.heap.size w (wr.alloc (.cells #[.int .i64 x1,.int .i64 x2] 113))):=B1.out.trans ((HB.out.alloc HB.out.size _).mono B1.out.size);have VB:Hid (Below w0.heap.size w0 (wr.alloc (.cells #[.int .i64 x1,.int .i64 x2] 113))):=HB.out.alloc HB.out.size _;by_cases hx0:x1<0
     ·have HE:Hid (fw e f L J=false):=HN (by simp [pU,who];omega);clear HN Su cE hb r0 r1 r2 r3 HS lu HY;go_wp2_with fail
      go_ret;exact ⟨ae HE.out.symm,He.out⟩
     have ad9:decide (x1<0)=false:=by simp;omega
     by_cases hx1:256≤x1
     ·have HE:Hid (fw e f L J=false):=HN (by simp [pU,who];omega);clear HN Su cE hb r0 r1 r2 r3 HS lu HY hx0;go_wp2_with fail
      go_ret;exact ⟨ae HE.out.symm,He.out⟩
     have ad8:decide (256≤x1)=false:=by simp;omega
     by_cases hx2:x2<0
     ·have HE:Hid (fw e f L J=false):=HN (by simp [pU,who];omega);clear HN Su cE hb r0 r1 r2 r3 HS lu HY hx0 hx1;go_wp2_with fail
      go_ret;exact ⟨ae HE.out.symm,He.out⟩
     have ad7:decide (x2<0)=false:=by simp;omega
     by_cases hx3:64≤x2
     ·have HE:Hid (fw e f L J=false):=HN (by simp [pU,who];omega);clear HN Su cE hb r0 r1 r2 r3 HS lu HY hx0 hx1 hx2;go_wp2_with fail
      go_ret;exact ⟨ae HE.out.symm,He.out⟩
     have ad6:decide (64≤x2)=false:=by simp;omega
     have eW:Hid (∀x∈J.take (k+1),pU x=true):=HS.out (j7.2 (by dsimp only;omega));clear HN Su cE hb r0 r1 r2 r3 HS lu HY iN hx0 hx1 hx2 hx3;go_wp2_with fail
     go_roundw
     case rel=>exact ⟨k+1,by have:=rB.out;omega,by go_num,eW.out,VB.out⟩
     case measure=>simp [intOf];have:=rB.out;omega
    ·have iX:decide ((k:Int)<(J.length:Int))=false:=by simp;omega
     have HE:Hid (fw e f L J=true):=HY.out HLA.out (by
      have e:J.take k=J:=List.take_of_length_le (by omega);have:=iN.out;rw [e] at this
      exact this)
     go_wp2_with fail
     go_ret;exact ⟨ae HE.out.symm,B1.out.trans (HB.out.mono B1.out.size)⟩
def acf (w:World) (B:Nat) (cs:Array Value):Prop:=w.heap[B]? =some (.cells cs 110 (0,0))
theorem Yz:(prog.info? 110).map (·.size)=some 2:=by kernel_rfl
theorem E_ {fn:Func} {p:Tmp} (hf:fn.results=#[.cell p 110]) (tmps:Array Value) (W:World) (B:Nat) (cs:Array Value) (hp:tmps[p]? =some (.pointer (some ⟨B,0,none⟩))) (hb:acf W B cs) (hc:cs.size=2):
  (results fn tmps).run prog W=.ok (.agg cs) W:=by
 have h:=run_loadVar_row W B _ 110 _ _ _ hb underlying110 rfl (by rw [hc];exact Yz);simp [results,hf,hp,asAddr,h]
set_option maxRecDepth 100000 in
theorem g_ (v:Nat) (q:Int) (hv:v<18446744073709551616) (w:World):Calls prog 31 #[.int .i64 (v:Int),.int .i64 q] w fun e w'=>e=.returned (.agg #[.int .u64 (v:Int),.int .i64 q])∧Below w.heap.size w w':=by
 have hwr:=wrap_u64 v hv;have hA:acf (w.alloc (.cells #[.int .u64 (v:Int),.int .i64 q] 110)) w.heap.size #[.int .u64 (v:Int),.int .i64 q]:=heap_alloc_last w _;go_enter func31,ntmps31;go_wp2_with fail
 refine bodyPost_ret (E_ (p:=4) rfl _ _ w.heap.size #[.int .u64 (v:Int),.int .i64 q] rfl (by first | exact hA | (simp;exact hA)) rfl) rfl ?_;exact ⟨rfl,aa _ _⟩
end Go.Proofs.YtanaapfobpgibaaGreatDoor.Rc
