/- SvI, SvJ, SvK, joined. -/
import Derived.Test.YtanaapfobpgibaaGreatDoorJSvB
open Go.Proofs.Tryz
set_option maxHeartbeats 2000000
namespace Go.Proofs.YtanaapfobpgibaaGreatDoor
open Go.RowKit Go.Maps Go.Great Rc
open Rs (bM ps Tb cq ah ar)
set_option linter.unusedVariables false
set_option linter.unusedSimpArgs false
set_option maxRecDepth 100000 in
theorem CI (t:Tr) (aL aJ:Option Addr) (cL cJ:Nat) (L J:List Int) (w:World) (sD:Tb w) (lL:L.length<1152921504606846976) (lJ:J.length<1152921504606846976) (hL:bM w aL L) (hJ:bM w aJ J) (h0:b_ t L J=0):
  Calls prog 37 #[.agg (aC t),.agg #[.slice aL L.length cL,.slice aJ J.length cJ]] w fun e w'=>e=.returned (.tuple #[.agg (dE (cZ t L J) (lg t (L,J)) (K0 t L J)),.nilIface])∧Below w.heap.size w w':=by
 have hP:=PB.new w t aL aJ L.length J.length cL cJ;have hN:=fun W (hW:Below w.heap.size w W)=>v_ t aL aJ cL cJ L J W (sD.later hW) lL lJ (hL.later hW) (hJ.later hW)
 have hO:=fun W (hW:Below w.heap.size w W)=>Yg t aL aJ cL cJ L J W (sD.later hW) lL lJ (hL.later hW) (hJ.later hW)
 have hW:=fun W a b k m (ha:bM W a L) (hb:oQ W b (bO t L J))=>rE (cZ t L J).ep (cZ t L J).fr a b k m L (bO t L J) W ha hb
 have uK:t_ (cZ t L J).ep (cZ t L J).fr L (bO t L J)=lg t (L,J):=rfl;have hoL:pW t L J=L:=by unfold pW;rw [if_pos h0]
 rw [uK] at hW;have hE:=fun W a1 a2 a3 k1 k2 k3 (h:Wi.MR W (stM t L J) a1 a2 a3)=>Wi.QD (stM t L J) a1 a2 a3 k1 k2 k3 W h (Cm h0) rfl
 have hsM:stM t L J=Wi.mR (rZ t L J,(fx t L J,(bO t L J,(fY t L J).map T4))):=by
  unfold stM;rw [OX h0];rfl
 have hmv:∀a1 a2 a3 k1 k2 k3,(Wi.CU (stM t L J) a1 a2 a3 k1 k2 k3).toArray=#[.int .i64 1,.int .i64 (rZ t L J),.slice a1 (fx t L J).length k1,.slice a2 (bO t L J).length k2,.slice a3 (fY t L J).length k3,.int .i64 0,.int .i64 0,.int .i64 0,.int .i64 0,.int .i64 0,.int .i64 0,.int .i64 0,.int .i64 0,.int .i64 0,.int .i64 0,.int .i64 0,.int .i64 0,.int .i64 0,.int .i64 0,.int .i64 0,.int .i64 0,.int .i64 0,.int .i64 0,.int .i64 0,.int .i64 0,.string ⟨#[]⟩]:=fun a1 a2 a3 k1 k2 k3=>by
  rw [hsM];have e3:((fY t L J).map T4).length=(fY t L J).length:=List.length_map ..;unfold Wi.CU Wi.mR;dsimp only;rw [e3];rfl
 simp only [hmv] at hE;unfold gF at hN;unfold OfA CA at hO;rw [h0] at hN hO;have RT:Hid (∀{X Y:World} {a1 k1 a2 k2 a3 k3},Y.ownsRow X.heap.size 113 2 (.slice a1 (fx t L J).length k1) (fx t L J).length (ps (fx t L J))→Y.ownsRow X.heap.size 113 2 (.slice a2 (bO t L J).length k2) (bO t L J).length (ps (bO t L J))→Y.ownsRow X.heap.size 103 6 (.slice a3 (fY t L J).length k3) (fY t L J).length (kU (fY t L J))→Wi.MR Y (stM t L J) a1 a2 a3):=fun g1 g2 g3=>Io h0 g1 g2 g3
 have JU:Hid (∀{X Y:World} {vl vj vi},Ee X Y t L J vl vj vi→Y.ownsRow X.heap.size 113 2 vl (fx t L J).length (ps (fx t L J))∧Y.ownsRow X.heap.size 113 2 vj (bO t L J).length (ps (bO t L J))∧Y.ownsRow X.heap.size 103 6 vi (fY t L J).length (kU (fY t L J))):=fun h=>⟨h.left,h.join,h.item⟩
 have HRP:Hid (∀{X Y:World} {vL vJ:Value},Z5 X Y t L J vL vJ→Y.ownsRow X.heap.size 3 1 vL L.length (cq L)∧Y.ownsRow X.heap.size 113 2 vJ (bO t L J).length (ps (bO t L J))):=fun h=>by
  have q:=h.lv;rw [hoL] at q;exact ⟨q,h.jn⟩
 rw [show Wi.EH (stM t L J)=K0 t L J from rfl] at hE;obtain ⟨mt,hmt⟩:∃m,stM t L J=m:=⟨_,rfl⟩;rw [hmt] at hE RT;obtain ⟨mb,IK⟩:∃m,K0 t L J=m:=⟨_,rfl⟩;obtain ⟨kt,qE⟩:∃m,lg t (L,J)=m:=⟨_,rfl⟩;obtain ⟨n,hn⟩:∃n,cZ t L J=n:=⟨_,rfl⟩;obtain ⟨cn,f_⟩:∃c,aC n=c:=⟨_,rfl⟩;have HC:Hid (aC n=cn):=f_;obtain ⟨p,hp⟩:∃e,rZ t L J=e:=⟨_,rfl⟩;obtain ⟨ll,pI⟩:∃l,fx t L J=l:=⟨_,rfl⟩;obtain ⟨lj,mi⟩:∃l,bO t L J=l:=⟨_,rfl⟩;obtain ⟨li,rv⟩:∃l,fY t L J=l:=⟨_,rfl⟩;obtain ⟨ct,bQ⟩:∃c,aC t=c:=⟨_,rfl⟩;have HT:Hid (aC t=ct):=bQ;obtain ⟨EW,hEW⟩:∃e,Ma n.ep n.fr L lj=e:=⟨_,rfl⟩;simp only [hn,f_,hp,bQ,mi] at hN hO;simp only [hn,qE,mi,hEW] at hW;simp only [IK,hp,pI,mi,rv] at hE;simp only [pI,mi,rv] at RT JU;simp only [mi] at HRP;rw [hn,qE,IK];obtain ⟨cf,Lm⟩:∃c,dE n kt mb=c:=⟨_,rfl⟩;have HF:Hid (dE n kt mb=cf):=Lm;obtain ⟨NL,oL⟩:∃x,L.length=x:=⟨_,rfl⟩;obtain ⟨NJ,pK⟩:∃x,J.length=x:=⟨_,rfl⟩;rw [oL,pK] at hP ⊢;simp only [oL,pK] at hN hO;have pZ:Hid (L.length=NL):=oL;have HN:Hid _:=hN;have HO:Hid _:=hO;have HW:Hid _:=hW;have HE:Hid _:=hE;clear hmt IK qE hn f_ hp pI mi rv bQ hEW Lm oL pK sD lL lJ hL hJ hN hO hW hE uK hoL hsM hmv h0;go_enter func37,ntmps37;go_upto_region 1 with (fail)
 generalize ((w.alloc (.cells (aC t) 39)).alloc (.cells #[.slice aL NL cL,.slice aJ NJ cJ] 43)).alloc (.cells zeroCells126 126)=w1 at *;obtain ⟨K,hK⟩:∃K,w.heap.size+2=K:=⟨_,rfl⟩;obtain ⟨C,hC⟩:∃K,w.heap.size+1=K:=⟨_,rfl⟩;obtain ⟨B,hB⟩:∃K,w.heap.size=K:=⟨_,rfl⟩;rw [hK,hC,hB] at hP;try rw [hK,hC,hB]
 have HP:Hid (PB w w1 B C K t aL aJ NL NJ cL cJ (dE (tz 0) ⟨#[]⟩ ⟨#[]⟩)):=hP;have jT:=hP.tb.tr;obtain ⟨d0,d1⟩:=hP.tb.bt.cells;have h1:=HN.out w1 hP.tb.aK;clear hK hC hB hP HN;go_wp2_with (show wpList _ _ _ ({dst:=_,op:=Op.load 39 _,type:=_,pos:=_,after:=_,guard:=_}::_) _ _;refine pV jT HT.out _ rfl rfl rfl ?_)
 refine h1.mono ?_;rintro r w7 ⟨⟨vl,vj,vi,rfl,oK⟩,iK⟩;obtain ⟨g1,g2,g3⟩:=JU.out oK;obtain ⟨e1,f1,rfl⟩:=ah g1;obtain ⟨e2,f2,rfl⟩:=ah g2;obtain ⟨e3,f3,rfl⟩:=ah g3;have hMR:=RT.out g1 g2 g3;obtain ⟨t1,t2,W8,hW,tT,tR,tB⟩:=cM w7 n cn #[.int .i64 p,.slice e1 ll.length f1,.slice e2 lj.length f2,.slice e3 li.length f3] HC.out;have L5:Hid (PB w W8 B C K t aL aJ NL NJ cL cJ (dE (tz 0) ⟨#[]⟩ ⟨#[]⟩)∧az W8 w7.heap.size n∧b7 W8 (w7.heap.size+1) #[.int .i64 p,.slice e1 ll.length f1,.slice e2 lj.length f2,.slice e3 li.length f3]∧Wi.MR W8 mt e1 e2 e3):=⟨HP.out.later (iK.trans (tB.mono iK.size)),tT,tR,hMR.later tB⟩;clear h1 jT d0 d1 oK tB iK HP JU RT hMR tT tR g1 g2 g3;go_upto_region 2 with (first | (show wpList _ _ _ ({dst:=_,op:=Op.store 39 _ _,type:=_,pos:=_,after:=_,guard:=_}::_) _ _;refine eE t1 HC.out rfl _ _ rfl rfl rfl ?_) | (show wpList _ _ _ ({dst:=_,op:=Op.store 54 _ _,type:=_,pos:=_,after:=_,guard:=_}::_) _ _;refine gN cS (cs:=cQ) bw t2 _ rfl (kx _ _ _ _ _ _ _ _ _ _) rfl _ _ rfl rfl rfl ?_))
 clear t1 t2 hW;obtain ⟨G,hG⟩:∃A,w7.heap.size+1=A:=⟨_,rfl⟩;rw [hG] at L5;try rw [hG]
 clear hG;generalize w7.heap.size=T at *;have jT:=L5.out.1.tb.tr;obtain ⟨d0,d1⟩:=L5.out.1.tb.bt.cells;have h1:=HO.out W8 L5.out.1.tb.aK;clear HO;go_wp2_with (show wpList _ _ _ ({dst:=_,op:=Op.load 39 _,type:=_,pos:=_,after:=_,guard:=_}::_) _ _;refine pV jT HT.out _ rfl rfl rfl ?_)
 refine h1.mono ?_;rintro r w9 ⟨⟨vL,vJ,rfl,Lt⟩,EE⟩;obtain ⟨g1,g2⟩:=HRP.out Lt;obtain ⟨a6,k6,rfl⟩:=ah g1;obtain ⟨a7,k7,rfl⟩:=ah g2;have IZ:=aa w9 (.cells #[.int .i64 n.ep,.int .i64 n.fr,.slice a6 L.length k6,.slice a7 lj.length k7] 70);have hR:=bh.new w9 #[.int .i64 n.ep,.int .i64 n.fr,.slice a6 L.length k6,.slice a7 lj.length k7];have iH:=EE.trans (IZ.mono EE.size);have zC:Hid (bM (w9.alloc (.cells #[.int .i64 n.ep,.int .i64 n.fr,.slice a6 L.length k6,.slice a7 lj.length k7] 70)) a6 L∧oQ (w9.alloc (.cells #[.int .i64 n.ep,.int .i64 n.fr,.slice a6 L.length k6,.slice a7 lj.length k7] 70)) a7 lj):=⟨(vC g1).later IZ,(rT g2).later IZ⟩;have HP9:Hid (PB w (w9.alloc (.cells #[.int .i64 n.ep,.int .i64 n.fr,.slice a6 L.length k6,.slice a7 lj.length k7] 70)) B C K t aL aJ NL NJ cL cJ (dE (tz 0) ⟨#[]⟩ ⟨#[]⟩)∧az (w9.alloc (.cells #[.int .i64 n.ep,.int .i64 n.fr,.slice a6 L.length k6,.slice a7 lj.length k7] 70)) T n∧b7 (w9.alloc (.cells #[.int .i64 n.ep,.int .i64 n.fr,.slice a6 L.length k6,.slice a7 lj.length k7] 70)) G #[.int .i64 p,.slice e1 ll.length f1,.slice e2 lj.length f2,.slice e3 li.length f3]∧Wi.MR (w9.alloc (.cells #[.int .i64 n.ep,.int .i64 n.fr,.slice a6 L.length k6,.slice a7 lj.length k7] 70)) mt e1 e2 e3):=⟨L5.out.1.later iH,L5.out.2.1.later iH,Wi.aQ L5.out.2.2.1 iH,L5.out.2.2.2.later iH⟩;clear h1 jT d0 d1 Lt g1 g2 IZ EE iH HRP L5;go_upto_region 5 with (fail)
 generalize w9.alloc (.cells #[.int .i64 n.ep,.int .i64 n.fr,.slice a6 L.length k6,.slice a7 lj.length k7] 70)=xS at *;generalize w9.heap.size=R at *;obtain ⟨x0,x1,x2,x3⟩:=hR.cells;have h1:=HW.out xS a6 a7 k6 k7 zC.out.1 zC.out.2;clear hR zC HW;go_wp2_with fail
 refine h1.mono ?_;rintro r xA ⟨rfl,m7⟩;have HPB:Hid (PB w xA B C K t aL aJ NL NJ cL cJ (dE (tz 0) ⟨#[]⟩ ⟨#[]⟩)∧az xA T n):=⟨HP9.out.1.later m7,HP9.out.2.1.later m7⟩
 obtain ⟨y0,y1,y2,y3⟩:xA.cell? ⟨G,0,none⟩=some (.int .i64 p)∧xA.cell? ⟨G,1,none⟩=some (.slice e1 ll.length f1)∧xA.cell? ⟨G,2,none⟩=some (.slice e2 lj.length f2)∧xA.cell? ⟨G,3,none⟩=some (.slice e3 li.length f3):=by
  have hG:=Wi.aQ HP9.out.2.2.1 m7;exact ⟨cell_of_row _ _ _ _ _ _ hG,cell_of_row _ _ _ _ _ _ hG,cell_of_row _ _ _ _ _ _ hG,cell_of_row _ _ _ _ _ _ hG⟩
 have h2:=HE.out xA e1 e2 e3 f1 f2 f3 (HP9.out.2.2.2.later m7);clear h1 x0 x1 x2 x3 m7 HP9 HE;go_wp2_with fail
 refine h2.mono ?_;rintro r R9 ⟨rfl,m6⟩;have aab:Hid (PB w R9 B C K t aL aJ NL NJ cL cJ (dE (tz 0) ⟨#[]⟩ ⟨#[]⟩)):=HPB.out.1.later m6;have hTn:=HPB.out.2.later m6;obtain ⟨cz,fW⟩:∃c,dE (tz 0) ⟨#[]⟩ ⟨#[]⟩=c:=⟨_,rfl⟩;have hK:=aab.out.re;rw [fW] at hK;have h9:=aab.out.fin cf;have HFN:Hid (iM (R9.setRow K cf) K cf∧Below w.heap.size w (R9.setRow K cf)):=h9;have oF:Hid (cz.size=238∧cf.size=238∧cf.all (·.oneCell')=true):=⟨by rw [←fW];exact gJ _ _ _,by rw [←HF.out];exact gJ _ _ _,by rw [←HF.out];exact qa _ _ _⟩;clear h2 y0 y1 y2 y3 m6 HPB aab h9 fW;go_wp2_with (first | (show wpList _ _ _ ({dst:=_,op:=Op.load 39 _,type:=_,pos:=_,after:=_,guard:=_}::_) _ _;refine pV hTn HC.out _ rfl rfl rfl ?_) | (show wpList _ _ _ ({dst:=_,op:=Op.build 126 _,type:=_,pos:=_,after:=_,guard:=_}::_) _ _;refine bSt HC.out HF.out rfl _ _ _ rfl rfl rfl rfl ?_) | (show wpList _ _ _ ({dst:=_,op:=Op.store 126 _ _,type:=_,pos:=_,after:=_,guard:=_}::_) _ _;refine gN qz (cs:=cz) oF.out.1 hK cf oF.out.2.1 oF.out.2.2 rfl _ _ rfl rfl rfl ?_))
 refine bodyPost_ret (vA (p:=4) (t:=5) rfl _ _ K cf rfl HFN.out.1 oF.out.2.1) rfl ?_;exact ⟨by rw [HF.out];rfl,HFN.out.2⟩
open Rs (bM Tb ah)
open Jr.Dk (ib Jn St bG D6 mf ml tU tV tS)
variable {W w:World} {ops:Array Oper} {o:Oper} {a:Act} {Q:Exit→Act→World→Prop} {n:Tr} {c:Array Value}
def Oa (t:Tr) (L J:List Int):Array Value:=if b_ t L J=0 then dE (cZ t L J) (lg t (L,J)) (K0 t L J) else dE (tz 0) ⟨#[]⟩ ⟨#[]⟩
def VX (t:Tr) (L J:List Int):Value:=if b_ t L J=0 then .nilIface else tK (b_ t L J) ve
theorem CJ (t:Tr) (aL aJ:Option Addr) (cL cJ:Nat) (L J:List Int) (w:World) (sD:Tb w) (lL:L.length<1152921504606846976) (lJ:J.length<1152921504606846976) (hL:bM w aL L) (hJ:bM w aJ J):
  Calls prog 37 #[.agg (aC t),.agg #[.slice aL L.length cL,.slice aJ J.length cJ]] w fun e w'=>e=.returned (.tuple #[.agg (Oa t L J),VX t L J])∧Below w.heap.size w w':=by
 unfold Oa VX;by_cases h0:b_ t L J=0
 ·rw [if_pos h0,if_pos h0];exact CI t aL aJ cL cJ L J w sD lL lJ hL hJ h0
 ·rw [if_neg h0,if_neg h0];exact Fz t aL aJ cL cJ L J w sD lL lJ hL hJ h0
theorem N_ (t:Tr) (L J:List Int):(Oa t L J).size=238∧(Oa t L J).all (·.oneCell')=true:=by
 unfold Oa;split
 ·exact ⟨gJ _ _ _,qa _ _ _⟩
 ·exact ⟨gJ _ _ _,qa _ _ _⟩
section
variable {w w':World} {T:Nat} {n:Tr} {k b:ByteArray}
theorem Tc {i:Nat} (hi:i<236):(dE n k b)[i]? =(aC n)[i]? :=by
 have:=iT n;unfold dE M6;rw [List.getElem?_toArray,List.getElem?_append_left (by omega)];simp
theorem Hw (i:Nat):(dE n k b)[236+i]? =([.string k,.string b]:List Value)[i]? :=by
 have:=iT n;unfold dE M6;rw [List.getElem?_toArray,List.getElem?_append_right (by omega),this,Nat.add_sub_cancel_left]
theorem iM.tree (h:iM w T (dE n k b)):(Instr.loadAt 39 (.pointer (some ⟨T,0,none⟩))).run prog w=.ok (.agg (aC n)) w:=
 jx h underlying39 rfl jz 0 (aZ n) fun j hj=>by rw [Nat.zero_add];exact Tc hj
theorem iM.texts (h:iM w T (dE n k b)):w.cell? ⟨T,236,none⟩=some (.string k)∧w.cell? ⟨T,237,none⟩=some (.string b):=
 ⟨(cell_of_row w T _ _ _ _ h).trans (Hw 0),(cell_of_row w T _ _ _ _ h).trans (Hw 1)⟩
end
theorem rdP {rest:List Oper} {T:Nat} {k b:ByteArray} (h:iM w T (dE n k b)) (hc:aC n=c) (x:Operand) (ho:o.op=.load 39 x)
  (hx:a.eval x=.pointer (some ⟨T,0,none⟩)) (hw:Region.wanted o (yielded ops a.tmps)=true) (kk:wpList prog ops Q rest (a.put o.dst (.agg c)) w):wpList prog ops Q (o::rest) a w:=
 fe hw (bB (hc ▸ h.tree) ho hx) kk
theorem ack {rest:List Oper} {S p j:Nat} {t:Tr} {d:Bool} (h:ia w S p j t d) (hc:aC n=c) (hgd:o.guard=none) (x y:Operand) (ho:o.op=.store 39 x y)
  (hx:a.eval x=.pointer (some ⟨S,2,none⟩)) (hy:a.eval y=.agg c) (k:wpList prog ops Q rest (a.put o.dst undef) (w.setCells S 2 c.toList)):wpList prog ops Q (o::rest) a w:=by
 subst hc;exact wpList_store_mid hgd 39 x y ho S 2 (aC n) hx hy (by rw [aZ];exact Wi.MT h 2 236 (by rw [M4];omega)) (by rw [aZ];exact jz) (j5 n) k
/- A server, its journal, its disk. -/
structure Sv (w0 w:World) (S p j:Nat) (s:St) (c a:Nat) (dj:Bool) (t:Tr) (d:Bool):Prop where
 go:ib w0.heap.size w0 w p s
 jn:Jn w j p c a dj
 sv:ia w S p j t d
 jN:w0.heap.size≤j
 sN:w0.heap.size≤S
section
variable {w0 w w':World} {S p j c a:Nat} {s:St} {dj d:Bool} {t:Tr}
theorem Sv.later (h:Sv w0 w S p j s c a dj t d) (hb:Below w.heap.size w w'):Sv w0 w' S p j s c a dj t d:=⟨h.go.later hb,h.jn.later hb,h.sv.later hb,h.jN,h.sN⟩
theorem Sv.vs (h:Sv w0 w S p j s c a dj t d) (hV:Vs w0):Vs w:=hV.later h.go.below
theorem Sv.set (h:Sv w0 w S p j s c a dj t d) (n:Tr):Sv w0 (w.setCells S 2 (aC n).toList) S p j s c a dj n d∧b5 w (w.setCells S 2 (aC n).toList):=
 ⟨⟨Dw h.go h.sv h.sN (lQ S _ _ (Jr.Dk.Kept.refl _ _)),C7 h.jn h.sv (lQ S _ _ (Jr.Dk.Kept.refl _ _)),h.sv.set n,h.jN,h.sN⟩,b5.Ov h.sv (lQ S _ _ (Jr.Dk.Kept.refl _ _))⟩
theorem Sv.die (h:Sv w0 w S p j s c a dj t d):Sv w0 (w.setCell ⟨S,238,none⟩ (.bool true)) S p j s c a dj t true∧b5 w (w.setCell ⟨S,238,none⟩ (.bool true)):=by
 have hk:Jr.Dk.Kept (fun k=>k=S) w (w.setCell ⟨S,238,none⟩ (.bool true)):=(Jr.Dk.Kept.refl (fun k=>k=S) w).setCell (p:=⟨S,238,none⟩) (fun _=>rfl) _;exact ⟨⟨Dw h.go h.sv h.sN hk,C7 h.jn h.sv hk,h.sv.die,h.jN,h.sN⟩,b5.Ov h.sv hk⟩
end
abbrev B9:ByteArray:={data:=#[116,104,101,32,106,111,117,114,110,97,108]}
section
variable {w0 w:World} {S p j c a:Nat} {s:St} {dj d:Bool} {t:Tr}
set_option maxRecDepth 100000 in
theorem G2 (h:Sv w0 w S p j s c a dj t d) (h0:d=true∨s.left=0) (x y:Value):
  Calls prog 21 #[.pointer (some ⟨S,0,none⟩),.agg #[x,y]] w fun e w'=>e=.returned (.tuple #[.string ⟨#[]⟩,tK 11 EU])∧Below w.heap.size w w':=by
 have hb:=aa w (.cells #[x,y] 43);have h1:=h.later hb;have hu:=aav h1.go h1.sv h0;have he:tK 11 EU=.iface 162 (.agg #[.string EU,.iface 121 (.agg #[.int .i64 11])]):=by unfold tK;rw [if_neg (by decide)]
 rw [he] at hu ⊢;have HB:Hid (Below w.heap.size w (w.alloc (.cells #[x,y] 43))):=hb;clear h h1 h0 hb he;go_enter func21,ntmps21;go_upto_region 1 with (fail)
 generalize w.alloc (.cells #[x,y] 43)=w1 at *;go_wp2_with fail
 refine hu.mono ?_;rintro r w1 ⟨rfl,rfl⟩;go_wp2_with fail
 refine bodyPost_ret (bV rfl _ _) rfl ?_;exact ⟨rfl,HB.out⟩
theorem Mz {n:Nat} {w:World} {o:Obj} (h:Below n w (W.alloc o)):(W.alloc o).heap[W.heap.size]? =some o:=heap_alloc_last W o
theorem Hg {n:Nat} {w:World} {o:Obj} (h:Below n w (W.alloc o).drew):(W.alloc o).drew.heap[W.heap.size]? =some o:=heap_alloc_last W o
/- What batch answers where the server lives. -/
def BtP (w0 w:World) (S p j:Nat) (s:St) (c a:Nat) (dj:Bool) (t:Tr) (L J:List Int) (e:Ending) (w':World):Prop:=
 (b_ t L J≠0∧e=.returned (.tuple #[.string ⟨#[]⟩,tK (b_ t L J) ve])∧Below w.heap.size w w')∨
 (b_ t L J=0∧mf s c a dj (lg t (L,J))≠0∧e=.returned (.tuple #[.string ⟨#[]⟩,tK (mf s c a dj (lg t (L,J))) B9])∧Sv w0 w' S p j (ml s c a dj (lg t (L,J))) (tU s c a dj (lg t (L,J))) (tV s c a dj (lg t (L,J))) (tS s c a dj (lg t (L,J))) t false∧b5 w w')∨
 (b_ t L J=0∧mf s c a dj (lg t (L,J))=0∧e=.returned (.tuple #[.string (K0 t L J),.nilIface])∧Sv w0 w' S p j (ml s c a dj (lg t (L,J))) (tU s c a dj (lg t (L,J))) (tV s c a dj (lg t (L,J))) (tS s c a dj (lg t (L,J))) (cZ t L J) false∧b5 w w')
set_option maxRecDepth 100000 in
theorem GX (hV:Vs w0) (h:Sv w0 w S p j s c a dj t false) (h0:s.left≠0) (ha:a≤2048) (dY:s.log.length+255≤5864062014805) (aL aJ:Option Addr) (cL cJ:Nat) (L J:List Int) (lL:L.length<1152921504606846976) (lJ:J.length<1152921504606846976) (hL:bM w aL L) (hJ:bM w aJ J):
  Calls prog 21 #[.pointer (some ⟨S,0,none⟩),.agg #[.slice aL L.length cL,.slice aJ J.length cJ]] w fun e w'=>BtP w0 w S p j s c a dj t L J e w':=by
 have hb:=aa w (.cells #[.slice aL L.length cL,.slice aJ J.length cJ] 43);have h1:=h.later hb;have hu:=Xr h1.go h1.sv h0;have Sx:BF (w.alloc (.cells #[.slice aL L.length cL,.slice aJ J.length cJ] 43)) w.heap.size aL aJ L.length J.length cL cJ:=heap_alloc_last w _
 have UF:∀W,Below (w.alloc (.cells #[.slice aL L.length cL,.slice aJ J.length cJ] 43)).heap.size (w.alloc (.cells #[.slice aL L.length cL,.slice aJ J.length cJ] 43)) W→Calls prog 37 #[.agg (aC t),.agg #[.slice aL L.length cL,.slice aJ J.length cJ]] W fun e w'=>e=.returned (.tuple #[.agg (Oa t L J),VX t L J])∧Below W.heap.size W w':=fun W hW=>
  CJ t aL aJ cL cJ L J W ((h1.vs hV).later hW).tb lL lJ ((hL.later hb).later hW) ((hJ.later hb).later hW)
 have Y':=fun W (hW:Sv w0 W S p j s c a dj t false)=>D6 hW.go hW.jn hW.jN (lg t (L,J)) ha
 have G_:Hid (b_ t L J=0→Oa t L J=dE (cZ t L J) (lg t (L,J)) (K0 t L J)∧VX t L J=.nilIface∧(lg t (L,J)).size≤9223372036854775807):=fun e=>⟨by unfold Oa;rw [if_pos e],by unfold VX;rw [if_pos e],by have:=lO e;omega⟩
 have jV:Hid (b_ t L J≠0→VX t L J=.iface 162 (.agg #[.string ve,.iface 121 (.agg #[.int .i64 (b_ t L J)])])∧tK (b_ t L J) ve=.iface 162 (.agg #[.string ve,.iface 121 (.agg #[.int .i64 (b_ t L J)])])):=fun e=>⟨by unfold VX tK;rw [if_neg e,if_neg e],by unfold tK;rw [if_neg e]⟩
 have oF:Hid ((Oa t L J).size=238∧(Oa t L J).all (·.oneCell')=true):=N_ t L J;unfold BtP;obtain ⟨E,hE⟩:∃e,b_ t L J=e:=⟨_,rfl⟩;obtain ⟨n,hn⟩:∃e,cZ t L J=e:=⟨_,rfl⟩;obtain ⟨kt,qE⟩:∃e,lg t (L,J)=e:=⟨_,rfl⟩;obtain ⟨mb,IK⟩:∃e,K0 t L J=e:=⟨_,rfl⟩;obtain ⟨cf,Lm⟩:∃e,Oa t L J=e:=⟨_,rfl⟩;obtain ⟨ev,ox⟩:∃e,VX t L J=e:=⟨_,rfl⟩;obtain ⟨ct,bQ⟩:∃c,aC t=c:=⟨_,rfl⟩;have HT:Hid (aC t=ct):=bQ;obtain ⟨NL,oL⟩:∃x,L.length=x:=⟨_,rfl⟩;obtain ⟨NJ,pK⟩:∃x,J.length=x:=⟨_,rfl⟩;rw [hE,hn,qE,IK,Lm,ox] at G_;rw [hE,ox] at jV;rw [Lm] at oF;rw [hE,hn,qE,IK];simp only [qE] at Y';simp only [bQ,Lm,ox,oL,pK] at UF;rw [oL,pK] at hb h1 hu Sx ⊢;have yq:Hid (Sv w0 (w.alloc (.cells #[.slice aL NL cL,.slice aJ NJ cJ] 43)) S p j s c a dj t false):=h1;have dV:Hid (Below w.heap.size w (w.alloc (.cells #[.slice aL NL cL,.slice aJ NJ cJ] 43))):=hb;have HBT:Hid (BF (w.alloc (.cells #[.slice aL NL cL,.slice aJ NJ cJ] 43)) w.heap.size aL aJ NL NJ cL cJ):=Sx;have Mo:Hid _:=UF;have rb:Hid (∀W,Sv w0 W S p j s c a dj t false→kt.size≤9223372036854775807→Calls prog 38 #[.pointer (some ⟨j,0,none⟩),.string kt] W fun e w'=>e=.returned (.int .i64 (mf s c a dj kt))∧ib w0.heap.size w0 w' p (ml s c a dj kt)∧Jn w' j p (tU s c a dj kt) (tV s c a dj kt) (tS s c a dj kt)∧bG W w'):=fun W hW hk=>Y' W hW hk dY
 clear h hb h1 h0 ha dY lL lJ hL hJ UF Y' hE hn qE IK Lm ox bQ oL pK Sx hV;go_enter func21,ntmps21;go_upto_region 1 with (fail)
 generalize w.alloc (.cells #[.slice aL NL cL,.slice aJ NJ cJ] 43)=w1 at *;obtain ⟨B,hB⟩:∃B,w.heap.size=B:=⟨_,rfl⟩;rw [hB] at HBT;try rw [hB]
 clear hB;go_wp2_with fail
 refine hu.mono ?_;rintro r w2 ⟨rfl,rfl⟩;clear hu;go_upto_region 4 with (fail)
 go_cut [7,8] (fun s7 s8 wx=>∃T,s7=.pointer (some ⟨T,0,none⟩)∧s8=ev∧Below w2.heap.size w2 wx∧iM wx T cf)
 case first=>
  have dm:Below w2.heap.size w2 w2.drew:=aG _;refine wp_region_held_drew (S:=fun X=>Below w2.heap.size w2 X) (by kernel_rfl) dm (fun hHeld=>?_);refine aH 0 (.pointer (some ⟨S,0,none⟩)) rfl ?_;go_frame;refine aH 1 (.pointer (some ⟨S,0,none⟩)) rfl ?_;go_frame;refine aH 2 (.pointer (some ⟨S,2,none⟩)) rfl ?_;go_frame;refine dG 3 (.agg ct) rfl (fun w hSw=>bB (HT.out ▸ (yq.out.sv.later hSw).tree) rfl rfl) ?_;go_frame;refine dG 4 (.agg #[.slice aL NL cL,.slice aJ NJ cJ]) rfl (fun w hSw=>by obtain ⟨x0,x1⟩:=(HBT.out.later hSw).cells;clear hSw;go_simp) ?_;go_frame;refine wpAnyH_ready (rs:=[5,9]) (by kernel_rfl) (by simp) ?_;refine (AllReadyH.cons rfl (fun K hK=>?_) (AllReadyH.cons rfl (fun K hK=>?_) AllReadyH.nil))
  ·go_simp
   refine (Mo.out _ hHeld).mono ?_;rintro r w7 ⟨rfl,iK⟩;go_wp2_with fail
   try (have hz:=Wi.aQ hz iK)
   refine hK.out _ _ (hHeld.trans (iK.mono hHeld.size)) (fun d_=>?_);clear hHeld iK;clear hK K;try go_frame
   refine aH 6 (.tuple #[.agg cf,ev]) rfl ?_;go_frame;refine aH 7 (.agg cf) rfl ?_;go_frame;refine aH 8 (ev) rfl ?_;go_frame;refine dh 9 rfl fun K hK=>?_;go_simp
   have Wv:=d_.size;refine hK.out _ _ (d_.trans ((aa _ _).mono d_.size)) (fun gl=>?_)
   first | have hz:=Mz gl | have hz:=Hg gl
   try simp only [World.size_alloc] at hz
   try simp only [World.size_alloc] at Wv
   clear d_;clear hK K;try go_frame
   refine dh 10 rfl fun Kc hK=>?_;refine iu rfl (bR 126 _ _ rfl _ cf rfl rfl 126 _ hz (by rw [oF.out.1];exact qz) (by rw [oF.out.1,zH,gJ]) oF.out.2 rfl ?_);have hzZ:=Rt.ai hz cf;refine hK.out _ _ (Rt.ag (by first | exact Wv | omega) gl _) (fun iZ=>?_);clear gl;clear hK Kc;try go_frame
   refine aH 11 (ev) rfl ?_;go_frame;refine wpAnyH_done (by kernel_rfl) ?_ _;go_wp2_with fail
   go_meet
   case rel=>exact ⟨_,rfl,rfl,iZ,hzZ⟩
  ·go_simp
   have Wv:=hHeld.size;refine hK.out _ _ (hHeld.trans ((aa _ _).mono hHeld.size)) (fun d_=>?_)
   first | have hz:=Mz d_ | have hz:=Hg d_
   try simp only [World.size_alloc] at hz
   try simp only [World.size_alloc] at Wv
   clear hHeld;clear hK K;try go_frame
   refine dh 5 rfl fun K hK=>?_;go_simp
   refine (Mo.out _ d_).mono ?_;rintro r w7 ⟨rfl,iK⟩;go_wp2_with fail
   try (have hz:=Wi.aQ hz iK)
   refine hK.out _ _ (d_.trans (iK.mono d_.size)) (fun gl=>?_);clear d_ iK;clear hK K;try go_frame
   refine aH 6 (.tuple #[.agg cf,ev]) rfl ?_;go_frame;refine aH 7 (.agg cf) rfl ?_;go_frame;refine aH 8 (ev) rfl ?_;go_frame;refine dh 10 rfl fun Kc hK=>?_;refine iu rfl (bR 126 _ _ rfl _ cf rfl rfl 126 _ hz (by rw [oF.out.1];exact qz) (by rw [oF.out.1,zH,gJ]) oF.out.2 rfl ?_);have hzZ:=Rt.ai hz cf;refine hK.out _ _ (Rt.ag (by first | exact Wv | omega) gl _) (fun iZ=>?_);clear gl;clear hK Kc;try go_frame
   refine aH 11 (ev) rfl ?_;go_frame;refine wpAnyH_done (by kernel_rfl) ?_ _;go_wp2_with fail
   go_meet
   case rel=>exact ⟨_,rfl,rfl,iZ,hzZ⟩
 case rest=>
  obtain ⟨T,rfl,rfl,YW,hT⟩:=hcut;have eW:Hid (Sv w0 wc S p j s c a dj t false):=yq.out.later YW;have bm:Hid (Below w.heap.size w wc):=dV.out.trans (YW.mono dV.out.size);clear YW yq dV HBT Mo;by_cases h0:E=0
  ·obtain ⟨rfl,rfl,Ur⟩:=G_.out h0;have HTT:Hid (iM wc T (dE n kt mb)):=hT;have Ev:Hid (E=0):=h0;clear h0 G_ jV hT oF;go_upto_region 7 with (fail)
   have hc7:Sv w0 wc.drew S p j s c a dj t false:=eW.out.later (aG _);have dm:ia wc.drew S p j t false∧iM wc.drew T (dE n kt mb):=⟨hc7.sv,Wi.aQ HTT.out (aG _)⟩;have Y':=rb.out wc.drew hc7 Ur;obtain ⟨E2,oz⟩:∃e,mf s c a dj kt=e:=⟨_,rfl⟩;rw [oz] at Y';have u6:Hid (mf s c a dj kt=E2):=oz;have HB7:Hid (Below w.heap.size w wc.drew∧w.heap.size≤wc.drew.heap.size):=⟨bm.out.trans ((aG wc).mono bm.out.size),bm.out.size⟩;clear hc7 rb Ur oz;refine wp_region_held_drew (S:=fun X=>ia X S p j t false∧iM X T (dE n kt mb)) (by kernel_rfl) dm (fun hHeld=>?_);refine aH 0 (.pointer (some ⟨S,0,none⟩)) rfl ?_;go_frame;refine aH 1 (.pointer (some ⟨S,0,none⟩)) rfl ?_;go_frame;refine aH 2 (.pointer (some ⟨S,1,none⟩)) rfl ?_;go_frame;refine dG 3 (.pointer (some ⟨j,0,none⟩)) rfl (fun w hSw=>by have c1:=hSw.1.cells.2.1;clear hSw;go_simp) ?_;go_frame;refine aH 4 (.pointer (some ⟨T,236,none⟩)) rfl ?_;go_frame;refine dG 5 (.string kt) rfl (fun w hSw=>by have c1:=hSw.2.texts.1;clear hSw;go_simp) ?_;go_frame;refine dh 6 rfl fun K hK=>?_;go_simp
   refine Y'.mono ?_;rintro r w8 ⟨rfl,hg8,EC,dA⟩;go_wp2_with fail
   refine hK.out _ _ ⟨dA _ _ _ _ hHeld.1 (by decide) (by decide) (by decide),dA _ _ _ _ hHeld.2 (by decide) (by decide) (by decide)⟩ (fun aD=>?_);clear hK K;try go_frame
   refine aH 7 (.int .i64 E2) rfl ?_;go_frame;refine wpAnyH_done (by kernel_rfl) ?_ _;have Mn:Hid (Sv w0 w8 S p j (ml s c a dj kt) (tU s c a dj kt) (tV s c a dj kt) (tS s c a dj kt) t false):=⟨hg8,EC,aD.1,eW.out.jN,eW.out.sN⟩;have HK8:Hid (b5 w w8):=(b5.bb HB7.out.1).trans (.ofT dA);have HT8:Hid (iM w8 T (dE n kt mb)):=aD.2;clear Y' dm hg8 EC dA hHeld aD eW HTT bm HB7;by_cases h2:E2=0
   ·subst h2;obtain ⟨cn,f_⟩:∃c,aC n=c:=⟨_,rfl⟩;have HC:Hid (aC n=cn):=f_;have hsv:=Mn.out.sv;have htt:=HT8.out;have h9:=Mn.out.set n;rw [f_] at h9;have HF:Hid (Sv w0 (w8.setCells S 2 cn.toList) S p j (ml s c a dj kt) (tU s c a dj kt) (tV s c a dj kt) (tS s c a dj kt) n false∧b5 w (w8.setCells S 2 cn.toList)):=⟨h9.1,HK8.out.trans h9.2⟩;have ht9:iM (w8.setCells S 2 cn.toList) T (dE n kt mb):=h9.2 _ _ _ _ htt (by decide) (by decide) (by decide) (by decide);clear h9 f_ Mn HK8 HT8;go_upto_region 11 with (first | (show wpList _ _ _ ({dst:=_,op:=Op.load 39 _,type:=_,pos:=_,after:=_,guard:=_}::_) _ _;refine rdP htt HC.out _ rfl rfl rfl ?_) | (show wpList _ _ _ ({dst:=_,op:=Op.store 39 _ _,type:=_,pos:=_,after:=_,guard:=_}::_) _ _;refine ack hsv HC.out rfl _ _ rfl rfl rfl ?_))
    generalize w8.setCells S 2 cn.toList=w9 at *;obtain ⟨x0,x1⟩:=ht9.texts;clear ht9 htt hsv;go_wp2_with fail
    refine bodyPost_ret (bV rfl _ _) rfl ?_;exact .inr (.inr ⟨Ev.out,u6.out,rfl,HF.out⟩)
   ·have hd:(E2 !=0)=true:=by simpa using h2
    have hu:=lx E2 B9 w8;obtain ⟨ev,ox⟩:∃v,tK E2 B9=v:=⟨_,rfl⟩;have HEV:Hid (tK E2 B9=ev∧mf s c a dj kt≠0):=⟨ox,by rw [u6.out];exact h2⟩;rw [ox] at hu;clear h2 ox;go_wp2_with fail
    refine hu.mono ?_;rintro r w8 ⟨rfl,rfl⟩;go_wp2_with fail
    refine bodyPost_ret (bV rfl _ _) rfl ?_;exact .inr (.inl ⟨Ev.out,HEV.out.2,by rw [u6.out,HEV.out.1];rfl,Mn.out,HK8.out⟩)
  ·obtain ⟨y1,y2⟩:=jV.out h0;subst y1;have Ev:Hid (E≠0):=h0;have Z':Hid _:=y2;clear h0 G_ jV hT y2 oF rb;go_wp2_with fail
   refine bodyPost_ret (bV rfl _ _) rfl ?_;exact .inl ⟨Ev.out,by rw [Z'.out];rfl,bm.out⟩
end
open Rs (bM)
open Jr.Dk (ib Jn St bG mf ml tU tV tS)
theorem abG (f:Nat→Rs.En) (lv:Bool) (p:List Int) (x:Int):Rs.er f lv p x≠11:=by
 unfold Rs.er
 repeat' split
 all_goals decide
theorem Qr (f:Nat→Rs.En) (lv:Bool):∀(l p:List Int),Rs.gg f lv p l≠11
 | [],p=>by unfold Rs.gg;decide
 | x::l,p=>by
  unfold Rs.gg;split
  ·exact Qr f lv l _
  ·exact abG f lv p x
theorem N9 (t:Tr) (L J:List Int):b_ t L J≠11:=by
 unfold b_;split
 ·split
  ·decide
  ·split
   ·split <;> decide
   ·unfold Rs.ft;split
    ·split
     ·split
      ·split <;> decide
      ·exact Qr _ _ _ _
     ·exact Qr _ _ _ _
    ·decide
 ·decide
/- What Batch answers where the server lives. -/
def BaQ (w0 w:World) (S p j:Nat) (s':St) (c' a':Nat) (d':Bool) (t n:Tr) (E E2:Int) (mb:ByteArray) (e:Ending) (w':World):Prop:=
 (E≠0∧e=.returned (.tuple #[.string ⟨#[]⟩,.int .i64 E])∧Below w.heap.size w w')∨
 (E=0∧E2≠0∧e=.returned (.tuple #[.string ⟨#[]⟩,.int .i64 E2])∧Sv w0 w' S p j s' c' a' d' t (decide (E2=11))∧b5 w w')∨
 (E=0∧E2=0∧e=.returned (.tuple #[.string mb,.int .i64 0])∧Sv w0 w' S p j s' c' a' d' n false∧b5 w w')
def BaP (w0 w:World) (S p j:Nat) (s:St) (c a:Nat) (dj:Bool) (t:Tr) (L J:List Int) (e:Ending) (w':World):Prop:=
 BaQ w0 w S p j (ml s c a dj (lg t (L,J))) (tU s c a dj (lg t (L,J))) (tV s c a dj (lg t (L,J))) (tS s c a dj (lg t (L,J))) t (cZ t L J) (b_ t L J) (mf s c a dj (lg t (L,J))) (K0 t L J) e w'
section
variable {w0 w:World} {S p j c a:Nat} {s:St} {dj d:Bool} {t:Tr}
set_option maxRecDepth 100000 in
theorem Hf (hV:Vs w0) (h:Sv w0 w S p j s c a dj t d) (h0:d=true∨s.left=0) (x y:Value):
  Calls prog 10 #[.pointer (some ⟨S,0,none⟩),.agg #[x,y]] w fun e w'=>e=.returned (.tuple #[.string ⟨#[]⟩,.int .i64 11])∧Sv w0 w' S p j s c a dj t true∧b5 w w':=by
 have hb:=aa w (.cells #[x,y] 43);have h1:=h.later hb
 obtain ⟨d0,d1⟩:(w.alloc (.cells #[x,y] 43)).cell? ⟨w.heap.size,0,none⟩=some x∧(w.alloc (.cells #[x,y] 43)).cell? ⟨w.heap.size,1,none⟩=some y:=by
  have hl:=heap_alloc_last w (.cells #[x,y] 43);exact ⟨cell_of_row _ _ 0 _ _ _ hl,cell_of_row _ _ 1 _ _ _ hl⟩
 have hu:=G2 h1 h0 x y;have yq:Hid (Sv w0 (w.alloc (.cells #[x,y] 43)) S p j s c a dj t d):=h1;have HK1:Hid (b5 w (w.alloc (.cells #[x,y] 43))):=.bb hb;clear h h1 h0 hb;go_enter func10,ntmps10;go_upto_region 1 with (fail)
 generalize w.alloc (.cells #[x,y] 43)=w1 at *;go_wp2_with fail
 refine hu.mono ?_;rintro r w2 ⟨rfl,hb2⟩;have gA:=yq.out.later hb2;have hn:=ek 11 EU w2 (gA.vs hV).er;obtain ⟨v,hv⟩:∃v,tK 11 EU=v:=⟨_,rfl⟩;rw [hv] at hn ⊢;have eW:Hid (Sv w0 w2 S p j s c a dj t d∧b5 w w2):=⟨gA,HK1.out.trans (.bb hb2)⟩;clear hu hb2 gA hv yq HK1 d0 d1;go_wp2_with fail
 refine hn.mono ?_;rintro r w3 ⟨rfl,hb3⟩;have pJ:=eW.out.1.later hb3;have c2:=pJ.sv.cells.2.2;have f2:=Wi.z7 pJ.sv 238;have h4:=pJ.die;have HF:Hid (Sv w0 (w3.setCell ⟨S,238,none⟩ (.bool true)) S p j s c a dj t true∧b5 w (w3.setCell ⟨S,238,none⟩ (.bool true))):=⟨h4.1,(eW.out.2.trans (.bb hb3)).trans h4.2⟩;clear hn hb3 eW pJ h4 hV;go_wp2_with fail
 refine bodyPost_ret (bV rfl _ _) rfl ?_;exact ⟨rfl,HF.out⟩
set_option maxRecDepth 100000 in
theorem xz (hV:Vs w0) (h:Sv w0 w S p j s c a dj t false) (h0:s.left≠0) (ha:a≤2048) (dY:s.log.length+255≤5864062014805) (aL aJ:Option Addr) (cL cJ:Nat) (L J:List Int) (lL:L.length<1152921504606846976) (lJ:J.length<1152921504606846976) (hL:bM w aL L) (hJ:bM w aJ J):
  Calls prog 10 #[.pointer (some ⟨S,0,none⟩),.agg #[.slice aL L.length cL,.slice aJ J.length cJ]] w fun e w'=>BaP w0 w S p j s c a dj t L J e w':=by
 have hb:=aa w (.cells #[.slice aL L.length cL,.slice aJ J.length cJ] 43);have h1:=h.later hb;have Sx:BF (w.alloc (.cells #[.slice aL L.length cL,.slice aJ J.length cJ] 43)) w.heap.size aL aJ L.length J.length cL cJ:=heap_alloc_last w _;obtain ⟨d0,d1⟩:=Sx.cells;have hu:=GX hV h1 h0 ha dY aL aJ cL cJ L J lL lJ (hL.later hb) (hJ.later hb);have l8:Hid (b_ t L J≠11):=N9 t L J;unfold BtP at hu;unfold BaP;obtain ⟨E,hE⟩:∃e,b_ t L J=e:=⟨_,rfl⟩;obtain ⟨n,hn⟩:∃e,cZ t L J=e:=⟨_,rfl⟩;obtain ⟨mb,IK⟩:∃e,K0 t L J=e:=⟨_,rfl⟩;obtain ⟨kt,qE⟩:∃e,lg t (L,J)=e:=⟨_,rfl⟩;obtain ⟨E2,oz⟩:∃e,mf s c a dj kt=e:=⟨_,rfl⟩;rw [hE] at l8;simp only [hE,hn,IK,qE,oz] at hu ⊢;obtain ⟨NL,oL⟩:∃x,L.length=x:=⟨_,rfl⟩;obtain ⟨NJ,pK⟩:∃x,J.length=x:=⟨_,rfl⟩;rw [oL,pK] at hb h1 hu d0 d1 ⊢;have yq:Hid (Sv w0 (w.alloc (.cells #[.slice aL NL cL,.slice aJ NJ cJ] 43)) S p j s c a dj t false):=h1;have dV:Hid (Below w.heap.size w (w.alloc (.cells #[.slice aL NL cL,.slice aJ NJ cJ] 43))):=hb;clear h h1 h0 hb ha dY lL lJ hL hJ Sx hE hn IK qE oz oL pK;go_enter func10,ntmps10;go_upto_region 1 with (fail)
 generalize w.alloc (.cells #[.slice aL NL cL,.slice aJ NJ cJ] 43)=w1 at *;go_wp2_with fail
 refine hu.mono ?_;rintro r w2 (⟨gZ,rfl,hb2⟩ | ⟨h0,h2,rfl,gA,hk2⟩ | ⟨h0,h2,rfl,gA,hk2⟩)
 ·have hn:=ek E ve w2 ((yq.out.later hb2).vs hV).er;obtain ⟨v,hv⟩:∃v,tK E ve=v:=⟨_,rfl⟩;rw [hv] at hn ⊢;have bm:Hid (E≠0∧Below w.heap.size w w2):=⟨gZ,dV.out.trans (hb2.mono dV.out.size)⟩;have hd:(E==11)=false:=by have:=l8.out;simpa using this
  clear hu hb2 hv yq dV gZ l8 hV d0 d1;go_wp2_with fail
  refine hn.mono ?_;rintro r w3 ⟨rfl,hb3⟩;have dR:Hid (Below w.heap.size w w3):=bm.out.2.trans (hb3.mono bm.out.2.size);clear hn hb3;go_wp2_with fail
  refine bodyPost_ret (bV rfl _ _) rfl ?_;exact .inl ⟨bm.out.1,rfl,dR.out⟩
 ·have hn:=ek E2 B9 w2 (gA.vs hV).er;obtain ⟨v,hv⟩:∃v,tK E2 B9=v:=⟨_,rfl⟩;rw [hv] at hn ⊢;have eW:Hid ((E=0∧E2≠0)∧Sv w0 w2 S p j (ml s c a dj kt) (tU s c a dj kt) (tV s c a dj kt) (tS s c a dj kt) t false∧b5 w w2):=⟨⟨h0,h2⟩,gA,(b5.bb dV.out).trans hk2⟩;clear hu hv yq dV h0 h2 gA hk2 l8 hV d0 d1;go_wp2_with fail
  refine hn.mono ?_;rintro r w3 ⟨rfl,hb3⟩;have pJ:=eW.out.2.1.later hb3;have c2:=pJ.sv.cells.2.2;have f2:=Wi.z7 pJ.sv 238;have hk3:=eW.out.2.2.trans (.bb hb3);by_cases h11:E2=11
  ·subst h11;have h4:=pJ.die;have HF:Hid (Sv w0 (w3.setCell ⟨S,238,none⟩ (.bool true)) S p j (ml s c a dj kt) (tU s c a dj kt) (tV s c a dj kt) (tS s c a dj kt) t true∧b5 w (w3.setCell ⟨S,238,none⟩ (.bool true))):=⟨h4.1,hk3.trans h4.2⟩;clear hn hb3 pJ h4 hk3;go_wp2_with fail
   refine bodyPost_ret (bV rfl _ _) rfl ?_;exact .inr (.inl ⟨eW.out.1.1,eW.out.1.2,rfl,HF.out⟩)
  ·have hd:(E2==11)=false:=by simpa using h11
   have HF:Hid (Sv w0 w3 S p j (ml s c a dj kt) (tU s c a dj kt) (tV s c a dj kt) (tS s c a dj kt) t (decide (E2=11))∧b5 w w3):=⟨by rw [show decide (E2=11)=false by simp [h11]];exact pJ,hk3⟩;clear hn hb3 pJ hk3 h11 c2 f2;go_wp2_with fail
   refine bodyPost_ret (bV rfl _ _) rfl ?_;exact .inr (.inl ⟨eW.out.1.1,eW.out.1.2,rfl,HF.out⟩)
 ·have hn:=ek 0 B9 w2 (gA.vs hV).er;rw [show tK 0 B9=.nilIface from rfl] at hn;have eW:Hid ((E=0∧E2=0)∧Sv w0 w2 S p j (ml s c a dj kt) (tU s c a dj kt) (tV s c a dj kt) (tS s c a dj kt) n false∧b5 w w2):=⟨⟨h0,h2⟩,gA,(b5.bb dV.out).trans hk2⟩;clear hu yq dV h0 h2 gA hk2 l8 hV d0 d1;go_wp2_with fail
  refine hn.mono ?_;rintro r w3 ⟨rfl,hb3⟩;have HF:Hid (Sv w0 w3 S p j (ml s c a dj kt) (tU s c a dj kt) (tV s c a dj kt) (tS s c a dj kt) n false∧b5 w w3):=⟨eW.out.2.1.later hb3,eW.out.2.2.trans (.bb hb3)⟩;clear hn hb3;go_wp2_with fail
  refine bodyPost_ret (bV rfl _ _) rfl ?_;exact .inr (.inr ⟨eW.out.1.1,eW.out.1.2,rfl,HF.out⟩)
end
end Go.Proofs.YtanaapfobpgibaaGreatDoor
