/- For every script of steps (batches, how much power, how an opening ends) of a bulk at most 1048576: a step that is cut leaves the tree ahead of it, or the one behind it where its record was written whole; a server that is opened again, whatever was cut, stands at it: ServerHistory, in its second form (the listed variables as the program's text lays them), and the card. Condition: that bulk. MADE by wip/mk_shi.py. -/
import Derived.Test.YtanaapfobpgibaaGreatDoorCards
import Derived.Test.YtanaapfobpgibaaGreatDoorTie
import Derived.Test.YtanaapfobpgibaaGreatDoorJSvL
import Derived.Deep.DeepWitnessRowRef
set_option maxHeartbeats 8000000
namespace Go.Proofs.YtanaapfobpgibaaGreatDoor.serverHistoryUpto
open Go.ChangeShapes Go.WideShapes Go.ChangeAt Go.RowKit Go.Maps Go.Shelf Go.Great
open Rs (bM Tb ah)
open Rc
open Jr (recs np pt vF)
open Jr.Dk (ib Jn St Hs bG nu Av mr IC)
set_option linter.unusedVariables false
set_option linter.unusedSimpArgs false
theorem aau {W:World} (hL:laidMetH Tryz.prog Rows.serverHistoryUptoRow.laid W):Vs W:=by
 have h':laidMet Tryz.prog [("math/bits.deBruijn32tab",Rows.laid_math_bits_deBruijn32tab),("math/bits.deBruijn64tab",Rows.laid_math_bits_deBruijn64tab),("internal/strconv.uint64pow10",Rows.laid_internal_strconv_uint64pow10)] W∧handlesMet Tryz.prog [("errors.errorType",Rows.laid_errors_errorType)] W:=hL;exact ⟨aaA h'.1,abF h'.2 (.head _)⟩
set_option maxRecDepth 100000 in
theorem walk (a:Option Addr) (c:Nat) (l:List xw) (w:World) (rd:RdH w a l) (hl:l.length≤1048576) (ok:∀p∈l,OkH p) (hV:Vs w):
  Calls Tryz.prog 3 #[.slice a l.length c] w fun e w'=>e=.returned (.bool true)∧Below w.heap.size w w':=by
 have hlv:=K1 w hV;have HVW:Hid (Vs w):=hV;have Ek:Hid (RdH w a l):=rd;have iN:Hid (∀p∈l,OkH p):=ok;obtain ⟨n,hn⟩:∃n,l.length=n:=⟨_,rfl⟩;have iO:Hid (l.length=n):=hn;obtain ⟨c0,hc0⟩:∃c,aC j6=c:=⟨_,rfl⟩;have R5:Hid (aC j6=c0):=hc0;rw [hn] at hl ⊢;clear hV rd ok hn hc0;go_enter Tryz.func3,Tryz.ntmps3;go_wp2_with fail
 refine hlv.mono ?_;rintro r wa ⟨rfl,hba⟩;have He:Hid (Below w.heap.size w wa):=hba;have HV:Hid (Vs wa):=HVW.out.later hba;clear hlv hba HVW;go_wp2_with fail
 refine (Av wa).mono ?_;rintro r w1 ⟨p,rfl,hg1⟩;have hop:=sf HV.out hg1 Hs.new oD.nil (by decide) (by decide);clear hg1;go_wp2_with fail
 refine hop.mono ?_;rintro r w2 ⟨S,j,rfl,gA,-⟩;have HI0:Hid (eU wa w2 S p j nu [] j6):=⟨gA,Hs.new,oD.nil⟩;have hst:=vD w2;rw [R5.out] at hst;clear hop gA;go_wp2_with fail
 refine hst.mono ?_;rintro r w3 ⟨rfl,hb3⟩;obtain ⟨z1,W4,YY,I0,Qd⟩:=uE w3 j6 c0 R5.out;have HI4:Hid (eU wa W4 S p j nu [] j6∧az W4 w3.heap.size j6):=⟨HI0.out.later (hb3.trans (Qd.mono hb3.size)),I0⟩;have HT0:Hid (wa.heap.size≤w3.heap.size):=Nat.le_trans HI0.out.sv.go.size hb3.size;clear hst hb3 I0 Qd HI0;go_upto_region 8 with (show wpList _ _ _ ({dst:=_,op:=Op.store 39 _ _,type:=_,pos:=_,after:=_,guard:=_}::_) _ _;refine eE z1 R5.out rfl _ _ rfl rfl rfl ?_)
 try rw [YY]
 clear z1 YY;generalize w3.heap.size=T0 at *;go_wp2_with fail
 go_loopw [4,42] (fun v4 i wr=>∃(k S j:Nat) (s:St) (ps:List ByteArray) (t:Tr),k≤n∧i=.int .i64 (k:Int)∧v4=.pointer (some ⟨S,0,none⟩)∧eU wa wr S p j s ps t∧az wr T0 t∧s.log.length≤1024 * k) (fun _ i _=>n - (intOf i).toNat)
 case atStart=>exact ⟨0,S,j,nu,[],j6,by omega,rfl,rfl,HI4.out.1,HI4.out.2,by decide⟩
 case round=>
  obtain ⟨k,S,j,s,ps,t,hk,rfl,rfl,hrun,Sc,dY⟩:=hrel;have HI:Hid (eU wa wr S p j s ps t∧az wr T0 t∧s.log.length≤1024 * k):=⟨hrun,Sc,dY⟩;clear hrun Sc dY HI4;by_cases ki:k<n
  ·have i1:(0:Int)≤(k:Int):=by omega
   have i2:(k:Int)<(n:Int):=by omega
   have dZ:Below w.heap.size w wr:=He.out.trans (HI.out.1.sv.go.below.mono He.out.size);have iw:k<l.length:=by rw [iO.out];exact ki
   obtain ⟨b0,o0,aL,cL,aJ,cJ,oy,hd0,hd1,Ww,hd3,rL,rJ⟩:=Ek.out k iw;obtain ⟨hbL,hbJ,wC,wA⟩:=iN.out _ (YH iw);have WD:=(bounds_i64 wC).2;have hc0:=Rs.cell_later dZ hd0;have hc1:=Rs.cell_later dZ hd1;have hc2:=Rs.cell_later dZ Ww;have hc3:=Rs.cell_later dZ hd3;obtain ⟨q,hq⟩:∃q,l.getD k hs0=q:=⟨_,rfl⟩;rw [hq] at hc0 hc1 hc2 hc3 rL rJ hbL hbJ WD;clear hd0 hd1 Ww hd3 wC wA iw dZ hq;obtain ⟨⟨L,J⟩,⟨C,A⟩⟩:=q;dsimp only at hc0 hc1 hc2 hc3 rL rJ hbL hbJ WD;subst oy;obtain ⟨NL,oL⟩:∃x,L.length=x:=⟨_,rfl⟩;obtain ⟨NJ,pK⟩:∃x,J.length=x:=⟨_,rfl⟩;have uZ:Hid ((bM w aL L∧bM w aJ J)∧L.length<1152921504606846976∧J.length<1152921504606846976):=⟨⟨rL,rJ⟩,by omega,by omega⟩;have pZ:Hid (L.length=NL∧J.length=NJ):=⟨oL,pK⟩;rw [oL] at hc0;rw [pK] at hc1;have hN:=fun W (h1:bM W aL L) (h2:bM W aJ J)=>yM t aL aJ cL cJ L J W uZ.out.2.1 uZ.out.2.2 h1 h2
   have hO:=fun W (h1:bM W aL L) (h2:bM W aJ J)=>Rc.uA t aL aJ cL cJ L J W uZ.out.2.1 uZ.out.2.2 h1 h2
   have hW:=fun W a b k m (ha:bM W a (pW t L J)) (hb:oQ W b (bO t L J))=>Fg (cZ t L J).ep (cZ t L J).fr a b k m (pW t L J) (bO t L J) W ha hb
   have uK:t_ (cZ t L J).ep (cZ t L J).fr (pW t L J) (bO t L J)=qR t L J:=rfl;rw [uK] at hW;have hE:=aaH t L J;unfold gF at hN;unfold abQ at hO;have RT:Hid (∀{X Y:World} {a1 k1 a2 k2 a3 k3},Y.ownsRow X.heap.size 113 2 (.slice a1 (fx t L J).length k1) (fx t L J).length (Rs.ps (fx t L J))→Y.ownsRow X.heap.size 113 2 (.slice a2 (bO t L J).length k2) (bO t L J).length (Rs.ps (bO t L J))→Y.ownsRow X.heap.size 103 6 (.slice a3 (fY t L J).length k3) (fY t L J).length (kU (fY t L J))→Wi.MR Y (qM t L J) a1 a2 a3):=fun g1 g2 g3=>acu g1 g2 g3
   have JU:Hid (∀{X Y:World} {vl vj vi},Ee X Y t L J vl vj vi→Y.ownsRow X.heap.size 113 2 vl (fx t L J).length (Rs.ps (fx t L J))∧Y.ownsRow X.heap.size 113 2 vj (bO t L J).length (Rs.ps (bO t L J))∧Y.ownsRow X.heap.size 103 6 vi (fY t L J).length (kU (fY t L J))):=fun h=>⟨h.left,h.join,h.item⟩
   obtain ⟨W1,hW1⟩:∃m,Wi.EH (qM t L J)=m:=⟨_,rfl⟩;obtain ⟨W2,hW2⟩:∃m,Wi.U4 (qM t L J)=m:=⟨_,rfl⟩;rw [hW1,hW2] at hE;obtain ⟨mt,hmt⟩:∃m,qM t L J=m:=⟨_,rfl⟩;rw [hmt] at hE RT;obtain ⟨QB,hQB⟩:∃m,qR t L J=m:=⟨_,rfl⟩;rw [hQB] at hW;obtain ⟨PT,hPT⟩:∃x,pt ((QB.size:Nat):Int)=x:=⟨_,rfl⟩;obtain ⟨nn,yb⟩:∃n,cZ t L J=n:=⟨_,rfl⟩;obtain ⟨cn,f_⟩:∃c,aC nn=c:=⟨_,rfl⟩;have HC:Hid (aC nn=cn):=f_;obtain ⟨F,hF⟩:∃e,b_ t L J=e:=⟨_,rfl⟩;obtain ⟨P,hP⟩:∃e,rZ t L J=e:=⟨_,rfl⟩;obtain ⟨ll,pI⟩:∃l,fx t L J=l:=⟨_,rfl⟩;obtain ⟨lj,mi⟩:∃l,bO t L J=l:=⟨_,rfl⟩;obtain ⟨li,rv⟩:∃l,fY t L J=l:=⟨_,rfl⟩;obtain ⟨OL,hOL⟩:∃l,pW t L J=l:=⟨_,rfl⟩;obtain ⟨NO,hNO⟩:∃x,OL.length=x:=⟨_,rfl⟩;obtain ⟨ct,bQ⟩:∃c,aC t=c:=⟨_,rfl⟩;have HT:Hid (aC t=ct):=bQ;obtain ⟨EP,hEP⟩:∃e,nn.ep=e:=⟨_,rfl⟩;obtain ⟨FR,hFR⟩:∃e,nn.fr=e:=⟨_,rfl⟩;obtain ⟨QE,hQE⟩:∃e,Ma EP FR OL lj=e:=⟨_,rfl⟩;simp only [yb,f_,hF,hP,bQ,mi,hOL,hNO,oL,pK,hEP,hFR] at hN hO;simp only [yb,mi,hOL,hNO,hEP,hFR,hQE] at hW;simp only [hP,pI,mi,rv] at hE;simp only [pI,mi,rv] at RT JU;have HF:Hid (b_ t L J=F∧cZ t L J=nn∧Wi.EH (qM t L J)=W1∧qR t L J=QB∧pt ((QB.size:Nat):Int)=PT):=⟨hF,yb,hW1,hQB,hPT⟩;have HN:Hid _:=hN;have HO:Hid _:=hO;have HW:Hid _:=hW;have HE:Hid _:=hE;have hPA:=fun W=>vF ((QB.size:Nat):Int) W
   simp only [hPT] at hPA;have HPA:Hid _:=hPA;clear hN hO hW hE hPA uK hW1 hW2 hmt hQB hPT yb f_ hF hP pI mi rv hOL hNO bQ hEP hFR hQE oL pK rL rJ hbL hbJ;have Dl:=aa wr (.cells #[.slice aL NL cL,.slice aJ NJ cJ,.int .i64 C,.int .i64 A] 45);have HI5:Hid (eU wa (wr.alloc (.cells #[.slice aL NL cL,.slice aJ NJ cJ,.int .i64 C,.int .i64 A] 45)) S p j s ps t∧HB (wr.alloc (.cells #[.slice aL NL cL,.slice aJ NJ cJ,.int .i64 C,.int .i64 A] 45)) T0 wr.heap.size t aL aJ NL NJ cL cJ C A∧s.log.length≤1024 * k):=⟨HI.out.1.later Dl,⟨HI.out.2.1.later Dl,heap_alloc_last wr _⟩,HI.out.2.2⟩;clear HI Dl;go_upto_region 11 with (fail)
   clear hc0 hc1 hc2 hc3;generalize wr.alloc (.cells #[.slice aL NL cL,.slice aJ NJ cJ,.int .i64 C,.int .i64 A] 45)=w5 at *;generalize wr.heap.size=X at *;obtain ⟨x0,x1,x2,x3⟩:=HI5.out.2.1.xs.cells;have hup:=Uw HI5.out.1 C WD;clear WD;go_wp2_with fail
   refine hup.mono ?_;rintro r w6 ⟨rfl,⟨s1,hs1,hrun⟩,hk6⟩;have HI6:Hid (eU wa w6 S p j s1 ps t∧HB w6 T0 X t aL aJ NL NJ cL cJ C A∧s1.log.length≤1024 * k):=⟨hrun,HI5.out.2.1.keep (.ofT hk6),by rw [hs1];exact HI5.out.2.2⟩;obtain ⟨SL,hSL⟩:∃n,s1.log.length=n:=⟨_,rfl⟩;have L3:Hid (s1.log.length=SL∧SL≤1024 * k∧SL≤1073741824):=⟨hSL,by have:=HI6.out.2.2;omega,by have:=HI6.out.2.2;omega⟩;have hw:=mr HI6.out.1.sv.go (by have:=L3.out;omega);rw [hSL] at hw;clear hup hrun hk6 hs1 hSL HI5 x0 x1 x2 x3;go_wp2_with fail
   refine hw.mono ?_;rintro r w7 ⟨⟨aw,cw,rfl⟩,iK⟩;have HI7:Hid (eU wa w7 S p j s1 ps t∧HB w7 T0 X t aL aJ NL NJ cL cJ C A):=⟨HI6.out.1.later iK,HI6.out.2.1.later iK⟩;obtain ⟨x0,x1,x2,x3⟩:=HI7.out.2.xs.cells;have dZ:Below w.heap.size w w7:=He.out.trans (HI7.out.1.sv.go.below.mono He.out.size);have hbt:=GY HV.out HI7.out.1 (by have:=L3.out;omega) aL aJ cL cJ L J uZ.out.2.1 uZ.out.2.2 (uZ.out.1.1.later dZ) (uZ.out.1.2.later dZ);rw [pZ.out.1,pZ.out.2] at hbt;clear hw iK dZ HI6;go_wp2_with fail
   refine hbt.mono ?_;intro r w8 hPP;obtain ⟨T,E,D,s2,rfl,dA,hQ⟩:=abg HI7.out.1 hPP;have HQ8:Hid (yn wa w8 S p j s1 s2 ps t L J T E D∧HB w8 T0 X t aL aJ NL NJ cL cJ C A):=⟨hQ,HI7.out.2.keep dA⟩;obtain ⟨SL2,P6⟩:∃n,s2.log.length=n:=⟨_,rfl⟩;obtain ⟨DI,hDI⟩:∃x,((D:Nat):Int)=x:=⟨_,rfl⟩;have hlen:SL2=SL+D∧D≤510:=⟨by rw [←P6,hQ.log,L3.out.1],hQ.d⟩;have HDI:Hid (((D:Nat):Int)=DI∧s2.log.length=SL2∧SL2=SL+D∧D≤510):=⟨hDI,P6,hlen⟩;have hw:=mr hQ.go (by rw [P6];have:=L3.out;omega);rw [P6] at hw;have y1:IntKind.i64.wrap ((SL2:Int) - (SL:Int))=DI:=by have:=L3.out;rw [Bt.bu _ (by omega) (by omega)];omega
   clear hbt hPP hQ dA hlen P6 hDI HI7 x0 x1 x2 x3;go_wp2_with fail
   refine hw.mono ?_;rintro r w9 ⟨⟨aw2,cw2,rfl⟩,EE⟩;have HQ9:Hid (yn wa w9 S p j s1 s2 ps t L J T E D∧HB w9 T0 X t aL aJ NL NJ cL cJ C A):=⟨HQ8.out.1.later EE,HQ8.out.2.later EE⟩;obtain ⟨x0,x1,x2,x3⟩:=HQ9.out.2.xs.cells;have Lq:=HQ9.out.2.tr;have dZ:Below w.heap.size w w9:=He.out.trans (HQ9.out.1.go.below.mono He.out.size);have h1:=HN.out w9 (uZ.out.1.1.later dZ) (uZ.out.1.2.later dZ);clear hw EE dZ HQ8 HN;go_wp2_with (show wpList _ _ _ ({dst:=_,op:=Op.load 39 _,type:=_,pos:=_,after:=_,guard:=_}::_) _ _;refine pV Lq HT.out _ rfl rfl rfl ?_)
   refine h1.mono ?_;rintro r wb ⟨⟨vl,vj,vi,rfl,oK⟩,wP⟩;obtain ⟨g1,g2,g3⟩:=JU.out oK;obtain ⟨e1,f1,rfl⟩:=ah g1;obtain ⟨e2,f2,rfl⟩:=ah g2;obtain ⟨e3,f3,rfl⟩:=ah g3;have hMR:=RT.out g1 g2 g3;obtain ⟨t1,t2,Wc,hWc,tT,tR,tB⟩:=cM wb nn cn #[.int .i64 P,.slice e1 ll.length f1,.slice e2 lj.length f2,.slice e3 li.length f3] HC.out;have YW:=wP.trans (tB.mono wP.size);have HQc:Hid (yn wa Wc S p j s1 s2 ps t L J T E D∧HB Wc T0 X t aL aJ NL NJ cL cJ C A):=⟨HQ9.out.1.later YW,HQ9.out.2.later YW⟩;have HXc:Hid (az Wc wb.heap.size nn∧b7 Wc (wb.heap.size+1) #[.int .i64 P,.slice e1 ll.length f1,.slice e2 lj.length f2,.slice e3 li.length f3]∧Wi.MR Wc mt e1 e2 e3):=⟨tT,tR,hMR.later tB⟩;clear h1 Lq x0 x1 x2 x3 oK hMR tT tR tB wP YW g1 g2 g3 HQ9 JU RT y1;go_upto_region 16 with (first | (show wpList _ _ _ ({dst:=_,op:=Op.store 39 _ _,type:=_,pos:=_,after:=_,guard:=_}::_) _ _;refine eE t1 HC.out rfl _ _ rfl rfl rfl ?_) | (show wpList _ _ _ ({dst:=_,op:=Op.store 54 _ _,type:=_,pos:=_,after:=_,guard:=_}::_) _ _;refine gN cS (cs:=cQ) bw t2 _ rfl (kx _ _ _ _ _ _ _ _ _ _) rfl _ _ rfl rfl rfl ?_))
   try rw [hWc]
   clear t1 t2 hWc;obtain ⟨G,hG⟩:∃A,wb.heap.size+1=A:=⟨_,rfl⟩;rw [hG] at HXc;try rw [hG]
   clear hG;generalize wb.heap.size=NB at *
   obtain ⟨y0,y1,y2,y3⟩:Wc.cell? ⟨G,0,none⟩=some (.int .i64 P)∧Wc.cell? ⟨G,1,none⟩=some (.slice e1 ll.length f1)∧Wc.cell? ⟨G,2,none⟩=some (.slice e2 lj.length f2)∧Wc.cell? ⟨G,3,none⟩=some (.slice e3 li.length f3):=by
    have hG:=HXc.out.2.1;exact ⟨cell_of_row _ _ _ _ _ _ hG,cell_of_row _ _ _ _ _ _ hG,cell_of_row _ _ _ _ _ _ hG,cell_of_row _ _ _ _ _ _ hG⟩
   have h2:=HE.out Wc e1 e2 e3 f1 f2 f3 HXc.out.2.2;clear HE;go_wp2_with fail
   refine h2.mono ?_;rintro r wd ⟨rfl,Ss⟩;have HQd:Hid ((yn wa wd S p j s1 s2 ps t L J T E D∧HB wd T0 X t aL aJ NL NJ cL cJ C A)∧az wd NB nn):=⟨⟨HQc.out.1.later Ss,HQc.out.2.later Ss⟩,HXc.out.1.later Ss⟩;obtain ⟨x0,x1,x2,x3⟩:=HQd.out.1.2.xs.cells;have Lq:=HQd.out.1.2.tr;have dZ:Below w.heap.size w wd:=He.out.trans (HQd.out.1.1.go.below.mono He.out.size);have h3:=HO.out wd (uZ.out.1.1.later dZ) (uZ.out.1.2.later dZ);clear h2 Ss dZ y0 y1 y2 y3 HQc HXc HO;go_wp2_with (show wpList _ _ _ ({dst:=_,op:=Op.load 39 _,type:=_,pos:=_,after:=_,guard:=_}::_) _ _;refine pV Lq HT.out _ rfl rfl rfl ?_)
   refine h3.mono ?_;rintro r we ⟨⟨a6,k6,v7,rfl,-,hr6,ho7⟩,hbe⟩;obtain ⟨a7,k7,rfl⟩:=ah ho7;have IZ:=aa we (.cells #[.int .i64 EP,.int .i64 FR,.slice a6 NO k6,.slice a7 lj.length k7] 70);have hR:=bh.new we #[.int .i64 EP,.int .i64 FR,.slice a6 NO k6,.slice a7 lj.length k7];have hbf:=hbe.trans (IZ.mono hbe.size);have zC:Hid (bM (we.alloc (.cells #[.int .i64 EP,.int .i64 FR,.slice a6 NO k6,.slice a7 lj.length k7] 70)) a6 OL∧oQ (we.alloc (.cells #[.int .i64 EP,.int .i64 FR,.slice a6 NO k6,.slice a7 lj.length k7] 70)) a7 lj):=⟨hr6.later IZ,(rT ho7).later IZ⟩;have HQf:Hid ((yn wa (we.alloc (.cells #[.int .i64 EP,.int .i64 FR,.slice a6 NO k6,.slice a7 lj.length k7] 70)) S p j s1 s2 ps t L J T E D∧HB (we.alloc (.cells #[.int .i64 EP,.int .i64 FR,.slice a6 NO k6,.slice a7 lj.length k7] 70)) T0 X t aL aJ NL NJ cL cJ C A)∧az (we.alloc (.cells #[.int .i64 EP,.int .i64 FR,.slice a6 NO k6,.slice a7 lj.length k7] 70)) NB nn):=⟨⟨HQd.out.1.1.later hbf,HQd.out.1.2.later hbf⟩,HQd.out.2.later hbf⟩;clear h3 Lq x0 x1 x2 x3 hr6 ho7 hbe IZ hbf HQd;go_upto_region 18 with (fail)
   generalize we.alloc (.cells #[.int .i64 EP,.int .i64 FR,.slice a6 NO k6,.slice a7 lj.length k7] 70)=wf at *;generalize we.heap.size=R at *;obtain ⟨z0,z1,z2,z3⟩:=hR.cells;have h4:=HW.out wf a6 a7 k6 k7 zC.out.1 zC.out.2;clear hR zC HW;go_wp2_with fail
   refine h4.mono ?_;rintro r wg ⟨rfl,hbg⟩;have HQ:Hid (yn wa wg S p j s1 s2 ps t L J T E D∧HB wg T0 X t aL aJ NL NJ cL cJ C A):=⟨HQf.out.1.1.later hbg,HQf.out.1.2.later hbg⟩;have yr:Hid (az wg NB nn):=HQf.out.2.later hbg;have h5:=HPA.out wg;clear h4 z0 z1 z2 z3 hbg HQf HPA;go_wp2_with fail
   refine h5.mono ?_;rintro r wg ⟨rfl,rfl⟩;have hEn:=HQ.out.1.e;unfold RL at hEn;simp only [HF.out.1,HF.out.2.1,HF.out.2.2.1,HF.out.2.2.2.1,HF.out.2.2.2.2,HDI.out.1] at hEn;clear h5;rcases hEn with ⟨f0,f11,YZ,Y8,hD,hrun⟩ | ⟨f0,YZ,Y8,hD,lr,hrun⟩ | ⟨YZ,Y8,lr,t',qq,kk,jR,(⟨f0,hD,ht⟩ | ⟨f0,hD,ht⟩ | ⟨f0,hD,ht⟩)⟩
   ·subst YZ;subst Y8;have hD0:DI=0:=by rw [←HDI.out.1,hD];rfl
    subst hD0;have d1:(E==0)=false:=by simpa using f0
    have d2:(E !=0)=true:=by simpa using f0
    have d3:(E !=11)=true:=by simpa using f11
    have d4:(E !=E)=false:=by simp
    have HR:Hid (eU wa wg S p j s2 ps t∧az wg T0 t):=⟨hrun,HQ.out.2.tr⟩;clear f0 f11 hrun HQ yr;go_upto_region 25 with (fail)
    have dm:Below wg.heap.size wg wg.drew:=aG _;refine wp_region_held_drew (S:=fun X=>Below wg.heap.size wg X) (by kernel_rfl) dm (fun hHeld=>?_);refine aH 0 (.int .i64 E) rfl ?_;go_frame;refine dG 1 (.bool true) rfl (fun w hSw=>by clear hSw;go_simp) ?_;go_frame;refine aH 2 (.bool true) rfl ?_;go_frame;refine aH 3 (.int .i64 E) rfl ?_;go_frame;refine aH 4 (.int .i64 E) rfl ?_;go_frame;refine dG 5 (.bool false) rfl (fun w hSw=>by clear hSw;go_simp) ?_;go_frame;refine aH 6 (.bool false) rfl ?_;go_frame;refine aH 7 (.int .i64 0) rfl ?_;go_frame;refine aH 8 (.bool false) rfl ?_;go_frame;refine aH 9 (.bool false) rfl ?_;go_frame;refine aH 10 (.bool false) rfl ?_;go_frame;refine aH 11 (.bool false) rfl ?_;go_frame;refine aH 12 (.pointer (some ⟨S,0,none⟩)) rfl ?_;go_frame;refine dG 14 (.agg ct) rfl (fun w hSw=>bB (HT.out ▸ (HR.out.2.later hSw).whole) rfl rfl) ?_;go_frame;refine dh 13 rfl fun K hK=>?_;go_simp
    have h9:=jt (HR.out.1.later hHeld).sv.sv;rw [HT.out] at h9;refine h9.mono ?_;rintro r xS ⟨rfl,iH⟩;go_wp2_with fail
    refine hK.out _ _ (hHeld.trans (iH.mono hHeld.size)) (fun aD=>?_);clear h9;clear hK K;try go_frame
    refine dG 15 (.bool false) rfl (fun w hSw=>jl HT.out rfl rfl rfl) ?_;go_frame;refine aH 16 (.bool false) rfl ?_;go_frame;refine wpAnyH_done (by kernel_rfl) ?_ _;have xK:=dm.trans (iH.mono dm.size);have HZ:Hid (eU wa xS S p j s2 ps t∧az xS T0 t):=⟨HR.out.1.later xK,HR.out.2.later xK⟩;clear dm iH xK hHeld aD HR;go_wp2_with fail
    go_roundw
    case rel=>exact ⟨k+1,S,j,s2,ps,t,by omega,by go_num,rfl,HZ.out.1,HZ.out.2,by have:=L3.out;have:=HDI.out;omega⟩
    case measure=>simp [intOf];omega
   ·subst f0;subst YZ;subst Y8;subst hD;have d1:(DI !=DI)=false:=by simp
    have d2:(DI==DI)=true:=by simp
    have Lq:=HQ.out.2.tr;have hNR:=yr.out;go_upto_region 23 with (fail)
    go_upto_region 24 with (first | (show wpList _ _ _ ({dst:=_,op:=Op.load 39 _,type:=_,pos:=_,after:=_,guard:=_}::_) _ _;refine pV hNR HC.out _ rfl rfl rfl ?_) | (show wpList _ _ _ ({dst:=_,op:=Op.store 39 _ _,type:=_,pos:=_,after:=_,guard:=_}::_) _ _;refine eE Lq HC.out rfl _ _ rfl rfl rfl ?_))
    clear hNR;have Sr:=HQ.out.2.box nn;rw [HC.out] at Sr;have HR:Hid (eU wa (wg.setRow T0 cn) S p j s2 lr nn∧az (wg.setRow T0 cn) T0 nn):=⟨hrun.box Lq HT0.out cn,Sr.tr⟩;clear Lq Sr hrun HQ yr;generalize wg.setRow T0 cn=wh at *;go_upto_region 25 with (fail)
    have dm:Below wh.heap.size wh wh.drew:=aG _;refine wp_region_held_drew (S:=fun X=>Below wh.heap.size wh X) (by kernel_rfl) dm (fun hHeld=>?_);refine aH 0 (.int .i64 0) rfl ?_;go_frame;refine aH 1 (.bool false) rfl ?_;go_frame;refine aH 2 (.bool false) rfl ?_;go_frame;refine sg 3 rfl ?_;go_frame;refine sg 4 rfl ?_;go_frame;refine sg 5 rfl ?_;go_frame;refine sg 6 rfl ?_;go_frame;refine sg 7 rfl ?_;go_frame;refine sg 8 rfl ?_;go_frame;refine sg 9 rfl ?_;go_frame;refine aH 10 (.bool false) rfl ?_;go_frame;refine aH 11 (.bool false) rfl ?_;go_frame;refine aH 12 (.pointer (some ⟨S,0,none⟩)) rfl ?_;go_frame;refine dG 14 (.agg cn) rfl (fun w hSw=>bB (HC.out ▸ (HR.out.2.later hSw).whole) rfl rfl) ?_;go_frame;refine dh 13 rfl fun K hK=>?_;go_simp
    have h9:=jt (HR.out.1.later hHeld).sv.sv;rw [HC.out] at h9;refine h9.mono ?_;rintro r xS ⟨rfl,iH⟩;go_wp2_with fail
    refine hK.out _ _ (hHeld.trans (iH.mono hHeld.size)) (fun aD=>?_);clear h9;clear hK K;try go_frame
    refine dG 15 (.bool false) rfl (fun w hSw=>jl HC.out rfl rfl rfl) ?_;go_frame;refine aH 16 (.bool false) rfl ?_;go_frame;refine wpAnyH_done (by kernel_rfl) ?_ _;have xK:=dm.trans (iH.mono dm.size);have HZ:Hid (eU wa xS S p j s2 lr nn∧az xS T0 nn):=⟨HR.out.1.later xK,HR.out.2.later xK⟩;clear dm iH xK hHeld aD HR;go_wp2_with fail
    go_roundw
    case rel=>exact ⟨k+1,S,j,s2,lr,nn,by omega,by go_num,rfl,HZ.out.1,HZ.out.2,by have:=L3.out;have:=HDI.out;omega⟩
    case measure=>simp [intOf];omega
   ·subst f0;subst YZ;subst Y8;subst hD;rw [ht] at jR;clear ht;have d2:(DI==DI)=true:=by simp
    have Lq:=HQ.out.2.tr;have hNR:=yr.out;go_upto_region 23 with (fail)
    go_upto_region 24 with (first | (show wpList _ _ _ ({dst:=_,op:=Op.load 39 _,type:=_,pos:=_,after:=_,guard:=_}::_) _ _;refine pV hNR HC.out _ rfl rfl rfl ?_) | (show wpList _ _ _ ({dst:=_,op:=Op.store 39 _ _,type:=_,pos:=_,after:=_,guard:=_}::_) _ _;refine eE Lq HC.out rfl _ _ rfl rfl rfl ?_))
    clear hNR;have Sr:=HQ.out.2.box nn;rw [HC.out] at Sr;have HR:Hid (l7 wa (wg.setRow T0 cn) p s2 lr nn qq kk 0 (s1.log.length+510)∧HB (wg.setRow T0 cn) T0 X nn aL aJ NL NJ cL cJ C A):=⟨jR.box Lq HT0.out cn,Sr⟩;clear Lq Sr jR HQ yr;generalize wg.setRow T0 cn=wh at *;obtain ⟨P0,hP0,Ws⟩:∃P:Nat,P≤2∧wrap64 ((IntKind.u64.wrap A).tmod 3)=(P:Int):=by simpa using IC A 2 (by omega)
    have Pw:=pj HV.out HR.out.1 (by have:=L3.out;omega) P0 (by omega);rw [←Ws] at Pw;obtain ⟨x0,x1,x2,x3⟩:=HR.out.2.xs.cells;clear Ws hP0;go_wp2_with fail
    refine Pw.mono ?_;rintro r wi ⟨S2,j2,s3,rfl,hrun,uK,qE⟩;have HS:Hid (eU wa wi S2 p j2 s3 lr nn∧az wi T0 nn):=⟨hrun,(HR.out.2.keep (.ofT qE)).tr⟩;have RY:Hid (s3.log.length≤s1.log.length+510):=uK;clear Pw hrun uK qE x0 x1 x2 x3 HR;go_upto_region 30 with (fail)
    have dm:Below wi.heap.size wi wi.drew:=aG _;refine wp_region_held_drew (S:=fun X=>Below wi.heap.size wi X) (by kernel_rfl) dm (fun hHeld=>?_);refine aH 0 (.bool true) rfl ?_;go_frame;refine aH 1 (.bool false) rfl ?_;go_frame;refine aH 2 (.bool false) rfl ?_;go_frame;refine aH 3 (.pointer (some ⟨S2,0,none⟩)) rfl ?_;go_frame;refine dG 5 (.agg cn) rfl (fun w hSw=>bB (HC.out ▸ (HS.out.2.later hSw).whole) rfl rfl) ?_;go_frame;refine dh 4 rfl fun K hK=>?_;go_simp
    have h9:=jt (HS.out.1.later hHeld).sv.sv;rw [HC.out] at h9;refine h9.mono ?_;rintro r xS ⟨rfl,iH⟩;go_wp2_with fail
    refine hK.out _ _ (hHeld.trans (iH.mono hHeld.size)) (fun aD=>?_);clear h9;clear hK K;try go_frame
    refine dG 6 (.bool false) rfl (fun w hSw=>jl HC.out rfl rfl rfl) ?_;go_frame;refine aH 7 (.bool false) rfl ?_;go_frame;refine wpAnyH_done (by kernel_rfl) ?_ _;have xK:=dm.trans (iH.mono dm.size);have HZ:Hid (eU wa xS S2 p j2 s3 lr nn∧az xS T0 nn):=⟨HS.out.1.later xK,HS.out.2.later xK⟩;clear dm iH xK hHeld aD HS;go_wp2_with fail
    go_roundw
    case rel=>exact ⟨k+1,S2,j2,s3,lr,nn,by omega,by go_num,rfl,HZ.out.1,HZ.out.2,by have:=L3.out;have:=RY.out;omega⟩
    case measure=>simp [intOf];omega
   ·subst f0;subst YZ;subst Y8;rw [ht] at jR;clear ht;have d2:(DI==PT)=false:=by simpa using hD
    have HR:Hid (l7 wa wg p s2 lr t qq kk 0 (s1.log.length+510)∧HB wg T0 X t aL aJ NL NJ cL cJ C A):=⟨jR,HQ.out.2⟩;clear hD jR HQ yr;obtain ⟨P0,hP0,Ws⟩:∃P:Nat,P≤2∧wrap64 ((IntKind.u64.wrap A).tmod 3)=(P:Int):=by simpa using IC A 2 (by omega)
    have Pw:=pj HV.out HR.out.1 (by have:=L3.out;omega) P0 (by omega);rw [←Ws] at Pw;obtain ⟨x0,x1,x2,x3⟩:=HR.out.2.xs.cells;clear Ws hP0;go_wp2_with fail
    refine Pw.mono ?_;rintro r wi ⟨S2,j2,s3,rfl,hrun,uK,qE⟩;have HS:Hid (eU wa wi S2 p j2 s3 lr t∧az wi T0 t):=⟨hrun,(HR.out.2.keep (.ofT qE)).tr⟩;have RY:Hid (s3.log.length≤s1.log.length+510):=uK;clear Pw hrun uK qE x0 x1 x2 x3 HR;go_upto_region 30 with (fail)
    have dm:Below wi.heap.size wi wi.drew:=aG _;refine wp_region_held_drew (S:=fun X=>Below wi.heap.size wi X) (by kernel_rfl) dm (fun hHeld=>?_);refine aH 0 (.bool true) rfl ?_;go_frame;refine aH 1 (.bool false) rfl ?_;go_frame;refine aH 2 (.bool false) rfl ?_;go_frame;refine aH 3 (.pointer (some ⟨S2,0,none⟩)) rfl ?_;go_frame;refine dG 5 (.agg ct) rfl (fun w hSw=>bB (HT.out ▸ (HS.out.2.later hSw).whole) rfl rfl) ?_;go_frame;refine dh 4 rfl fun K hK=>?_;go_simp
    have h9:=jt (HS.out.1.later hHeld).sv.sv;rw [HT.out] at h9;refine h9.mono ?_;rintro r xS ⟨rfl,iH⟩;go_wp2_with fail
    refine hK.out _ _ (hHeld.trans (iH.mono hHeld.size)) (fun aD=>?_);clear h9;clear hK K;try go_frame
    refine dG 6 (.bool false) rfl (fun w hSw=>jl HT.out rfl rfl rfl) ?_;go_frame;refine aH 7 (.bool false) rfl ?_;go_frame;refine wpAnyH_done (by kernel_rfl) ?_ _;have xK:=dm.trans (iH.mono dm.size);have HZ:Hid (eU wa xS S2 p j2 s3 lr t∧az xS T0 t):=⟨HS.out.1.later xK,HS.out.2.later xK⟩;clear dm iH xK hHeld aD HS;go_wp2_with fail
    go_roundw
    case rel=>exact ⟨k+1,S2,j2,s3,lr,t,by omega,by go_num,rfl,HZ.out.1,HZ.out.2,by have:=L3.out;have:=RY.out;omega⟩
    case measure=>simp [intOf];omega
   ·subst YZ;subst Y8;rw [ht] at jR;clear ht;have hD0:DI=0:=by rw [←HDI.out.1,hD];rfl
    subst hD0;have d1:(F==0)=false:=by simpa using f0
    have d2:(F !=0)=true:=by simpa using f0
    have HR:Hid (l7 wa wg p s2 lr t qq kk 0 (s1.log.length+510)∧HB wg T0 X t aL aJ NL NJ cL cJ C A):=⟨jR,HQ.out.2⟩;clear f0 jR HQ yr;obtain ⟨P0,hP0,Ws⟩:∃P:Nat,P≤2∧wrap64 ((IntKind.u64.wrap A).tmod 3)=(P:Int):=by simpa using IC A 2 (by omega)
    have Pw:=pj HV.out HR.out.1 (by have:=L3.out;omega) P0 (by omega);rw [←Ws] at Pw;obtain ⟨x0,x1,x2,x3⟩:=HR.out.2.xs.cells;clear Ws hP0;go_wp2_with fail
    refine Pw.mono ?_;rintro r wi ⟨S2,j2,s3,rfl,hrun,uK,qE⟩;have HS:Hid (eU wa wi S2 p j2 s3 lr t∧az wi T0 t):=⟨hrun,(HR.out.2.keep (.ofT qE)).tr⟩;have RY:Hid (s3.log.length≤s1.log.length+510):=uK;clear Pw hrun uK qE x0 x1 x2 x3 HR;go_upto_region 30 with (fail)
    have dm:Below wi.heap.size wi wi.drew:=aG _;refine wp_region_held_drew (S:=fun X=>Below wi.heap.size wi X) (by kernel_rfl) dm (fun hHeld=>?_);refine aH 0 (.bool true) rfl ?_;go_frame;refine aH 1 (.bool false) rfl ?_;go_frame;refine aH 2 (.bool false) rfl ?_;go_frame;refine aH 3 (.pointer (some ⟨S2,0,none⟩)) rfl ?_;go_frame;refine dG 5 (.agg ct) rfl (fun w hSw=>bB (HT.out ▸ (HS.out.2.later hSw).whole) rfl rfl) ?_;go_frame;refine dh 4 rfl fun K hK=>?_;go_simp
    have h9:=jt (HS.out.1.later hHeld).sv.sv;rw [HT.out] at h9;refine h9.mono ?_;rintro r xS ⟨rfl,iH⟩;go_wp2_with fail
    refine hK.out _ _ (hHeld.trans (iH.mono hHeld.size)) (fun aD=>?_);clear h9;clear hK K;try go_frame
    refine dG 6 (.bool false) rfl (fun w hSw=>jl HT.out rfl rfl rfl) ?_;go_frame;refine aH 7 (.bool false) rfl ?_;go_frame;refine wpAnyH_done (by kernel_rfl) ?_ _;have xK:=dm.trans (iH.mono dm.size);have HZ:Hid (eU wa xS S2 p j2 s3 lr t∧az xS T0 t):=⟨HS.out.1.later xK,HS.out.2.later xK⟩;clear dm iH xK hHeld aD HS;go_wp2_with fail
    go_roundw
    case rel=>exact ⟨k+1,S2,j2,s3,lr,t,by omega,by go_num,rfl,HZ.out.1,HZ.out.2,by have:=L3.out;have:=RY.out;omega⟩
    case measure=>simp [intOf];omega
  ·obtain rfl:k=n:=by omega
   have IY:decide ((k:Int)<(k:Int))=false:=by simp
   have HBF:Hid (Below w.heap.size w wr):=He.out.trans (HI.out.1.sv.go.below.mono He.out.size);clear HI;go_wp2_with fail
   go_ret;exact ⟨rfl,HBF.out⟩
theorem own:ownKnob Tryz.prog.godebug=none:=by kernel_rfl
theorem laidOut:laidOutB Tryz.prog=true:=by kernel_rfl
set_option maxRecDepth 20000 in
theorem contract (H:Type) (enc:TypeId×Value→H) (W:World) (base:Nat) (args:Array Value) (ds gs:List (DataW H)) (before:List MemPlace)
  (hval:∀(j:Nat) t v,Tryz.f3.params[j]? =some t→args[j]? =some v→Value.okWide Tryz.prog W .any base t v)
  (hW:DataW.Whole enc Tryz.prog Tryz.f3.params.toList Rows.serverHistorySpec.vars false W args.toList ds gs before)
  (hsz:(DataW.weightsEach Tryz.prog (Tryz.f3.params.toList++Rows.serverHistorySpec.plain.varTypes Tryz.prog) (ds++gs)).all (· ≤reachBytes)=true)
  (hc:Rows.uptoSmall H (ds++gs)=true)
  (hL:laidMetH Tryz.prog Rows.serverHistoryUptoRow.laid W):
  Calls Tryz.prog 3 args W fun e W'=>∃v,e=.returned v∧Rows.serverHistorySpec.post enc Tryz.prog Tryz.f3 false true false false W args v W':=by
 have hv:=aau hL;have hW':=hW;obtain ⟨p,q,m_,hV,rfl,hfz,hnd⟩:=hW;have hA:DataW.TrodAll enc Tryz.prog W 0 (fun _=>true) true Tryz.f3.params.toList args.toList ds p:=m_;rw [Tryz.params3] at hA hval hsz;obtain ⟨v0,vs0,d0,ds0,p0,q0,adJ,rfl,rfl,h0,r0⟩:=trodAll_cons hA;obtain ⟨rfl,rfl,rfl⟩:=trodAll_nil r0;obtain rfl:args=#[v0]:=by cases args;simp_all
 obtain ⟨rfl,rfl⟩:=trodVars_none hV;have hbk:Rows.uptoBulkAll ([d0]++([]:List (DataW H)))≤1048576:=of_decide_eq_true hc;simp only [List.cons_append,List.append_nil,List.nil_append,Rows.uptoBulkAll] at hbk;have k0:=h0;have lt0:∀x∈p0,x.block<W.heap.size:=by obtain ⟨m,hm⟩:=k0;exact DataW.trod_lt m _ _ _ hm
 obtain ⟨a0,c0,l0,rfl,rd0,hl0,ok0⟩:=M7 (by omega) (okWide_slice Tryz.underlying22 (hval 0 22 v0 rfl rfl)) h0;clear m_;refine (walk a0 c0 l0 W rd0 hl0 ok0 hv).mono fun e W' ⟨he,aK⟩=>?_
 subst he;exact ⟨_,rfl,_,_,_,[],_,[],hW',trodAll_mk1 (shut_bool Tryz.underlying4 _),(trodAll_cons_mk (Below.trod laidOut (by kernel_rfl) (of_decide_eq_true (by kernel_rfl)) k0 aK lt0) trodAll_mk0),rfl,aK.frame _,fun h=>by cases h⟩
set_option maxRecDepth 100000 in
theorem O5 (os:Os):laidMetH Tryz.prog Rows.serverHistoryUptoRow.laid ((sq os).forCall (fun _ _=>0) ⟨#[],#[.slice none 0 0],[]⟩).memory:=
 laidMetH_of_parts (laidMet_of_run' 8 (by kernel_rfl) (by kernel_rfl)) (by kernel_rfl)
set_option maxRecDepth 100000 in
theorem reads (os:Os) {H:Type} (enc:TypeId×Value→H):∃places,DataW.whole enc Tryz.prog ((sq os).forCall (fun _ _=>0) ⟨#[],#[.slice none 0 0],[]⟩).memory Tryz.f3.params.toList Rows.serverHistorySpec.vars false (#[.slice none 0 0]:Array Value).toList 8=some ([.nil],[],places):=
 ⟨[],by kernel_rfl⟩
set_option maxRecDepth 100000 in
theorem lifted (os:Os) (started:os.Started) (H:Type) (enc:TypeId×Value→H) (F:Stop.Interp):
  ReturnsInHanded {} Tryz.checked os 3 .any ((Rows.OpenSpec.upto Rows.serverHistorySpec).preRow enc Tryz.prog Tryz.f3 Rows.serverHistoryUptoRow.domain false Rows.serverHistoryUptoRow.laid) (((Rows.OpenSpec.upto Rows.serverHistorySpec).at F).post enc Tryz.prog Tryz.f3 false true false false):=by
 obtain ⟨places,hx⟩:=reads os enc
 refine returnsInHanded_of_row (C:=Tryz.checked) (s:=(Rows.OpenSpec.upto Rows.serverHistorySpec)) own started (by kernel_rfl) Tryz.func3
  (witness_row_at (enc:=enc) (C:=Tryz.checked) false (sq os) #[.slice none 0 0] rfl (by kernel_rfl) (by kernel_rfl) (by kernel_rfl)
   (OpenSpec.preRow_of_cond 8 hx (by kernel_rfl) (fun k hk=>by cases hk;first | rfl | decide+kernel) (by kernel_rfl) (O5 os))) ?_
 intro W base args ds gs before hval hW hc1 hc2 hsz hL hsh _;exact contract H enc W base args ds gs before hval hW hsz (hc2 _ rfl) hL
theorem closed:joinedFacts Tryz.pinned.checked.prog 3 Tryz.f3 (Rows.OpenSpec.upto Rows.serverHistorySpec).bare Rows.serverHistoryUptoRow=true:=by
 unfold joinedFacts;simp only [Bool.and_eq_true]
 repeat' apply And.intro
 all_goals as_aux_lemma=>kernel_rfl
theorem said:Rows.ServerHistoryUptoSaid:=
 OpenClaim.holds_of_cond 3 Tryz.f3 rfl rfl rfl rfl rfl rfl rfl ⟨rfl,rfl,rfl,rfl,rfl⟩ rfl rfl rfl rfl rfl (by kernel_rfl) Tryz.func3 closed
  (of_decide_eq_true (by kernel_rfl)) (by unfold Func.isWrapper;first | (rw [if_pos (by decide+kernel)];kernel_rfl) | (rw [if_neg (by decide+kernel)];exact ⟨rfl,rfl⟩))
  (fun os started H enc _ F=>by rw [OpenClaim.pre_eq_preRow];exact lifted os started H enc F)
theorem plain (f:FuncId) (fn:Func) (hf:Tryz.pinned.checked.prog.funcNamed "coterie/coterielaw18.ServerHistory" =some f) (hfn:Tryz.pinned.checked.prog.funcs[f]? =some fn):
  true=Tryz.pinned.checked.prog.looks []∧∀(j:Nat) t,fn.params[j]? =some t→Tryz.pinned.checked.prog.wantsStandIn t=false:=by
 obtain rfl:f=3:=Option.some.inj ((show Tryz.prog.funcNamed "coterie/coterielaw18.ServerHistory" =some 3 by kernel_rfl).symm.trans hf) |>.symm
 obtain rfl:fn=Tryz.f3:=(Option.some.inj (Tryz.func3.symm.trans hfn)).symm;refine ⟨by kernel_rfl,fun j t ht=>?_⟩;rw [Tryz.params3] at ht;have h22:Tryz.prog.wantsStandIn 22=false:=by kernel_rfl
 have hm:=Array.mem_of_getElem? ht;simp at hm;subst hm;exact h22
end Go.Proofs.YtanaapfobpgibaaGreatDoor.serverHistoryUpto
namespace Go.Proofs.YtanaapfobpgibaaGreatDoor
theorem serverHistoryUpto_holds:Rows.ServerHistoryUptoCardSaid:=
 Claim7.holds_tied_plain_at .later [] _ _ _ _ serverHistoryUpto.said (fun _ h=>by cases h) (by kernel_rfl) (fun _ h=>by cases h) serverHistoryUpto_row_tie rfl ⟨rfl,rfl⟩ (by kernel_rfl) rfl serverHistoryUpto.plain (by kernel_rfl)
#print axioms serverHistoryUpto_holds
end Go.Proofs.YtanaapfobpgibaaGreatDoor
