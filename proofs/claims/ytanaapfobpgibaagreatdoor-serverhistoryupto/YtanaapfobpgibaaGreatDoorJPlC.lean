/- PlC, PlS0, PlS, joined. -/
import Derived.Test.YtanaapfobpgibaaGreatDoorJPlA
open Go.Proofs.Tryz
namespace Go.Proofs.YtanaapfobpgibaaGreatDoor
open Go.RowKit Go.Maps
open Rt (Ky zK bF cK Gd)
open Rs (En zE aU bg cN tk iC)
open Sh (bc sj)
set_option linter.unusedVariables false
set_option linter.unusedSimpArgs false
variable {t:Tr} {w:World} {B:Nat} {p:Int×Int}
theorem Wa (h:gu t=true) {c:Nat} (hc:c<85) (h0:x8 t (c:Int)=0):Gd (AD t c).aB (AD t c).bp:=by
 rw [AB h hc h0];have hr:=di h;rcases kn h hc h0 with ⟨h1,e⟩ | ⟨s,hs,e1,ht,e⟩
 ·rw [e];exact ((Rt.il.1 hr.ks).1 c h1).1
 ·rw [e];obtain ⟨a1,a2,a3,a4,_⟩:=hr.taken hs ht;have a5:=(hr.fs s hs).2.1;have a6:=hr.e1;exact ⟨by dsimp only;omega,by dsimp only;omega,by dsimp only;omega,by dsimp only;omega⟩
theorem Iz (h:gu t=true) {v:Nat} (hv:v<21):Gd (t.ks v).aB (t.ks v).bp:=((Rt.il.1 (di h).ks).1 v hv).1
def SH (w W:World) (BT BL n0:Nat) (t:Tr) (l:List It):Prop:=∃vl,GL w W BT BL n0 t vl l
def adv (w w':World) (l:List It) (e:Ending):Prop:=∃v,e=.returned v∧w'.ownsRow (w.heap.size+2) 103 6 v l.length (kU l)∧Below w.heap.size w w'
def xr (w:World) (B:Nat) (p:Int×Int):Prop:=w.heap[B]? =some (.cells #[.int .i64 p.1,.int .i64 p.2] 113 (0,0))
theorem xr.cells (h:xr w B p):w.cell? ⟨B,0,none⟩=some (.int .i64 p.1)∧w.cell? ⟨B,1,none⟩=some (.int .i64 p.2):=⟨cell_of_row w B 0 _ _ _ h,cell_of_row w B 1 _ _ _ h⟩
theorem xr.later {w':World} (h:xr w B p) (hb:Below w.heap.size w w'):xr w' B p:=(hb.block B (Array.getElem?_eq_some_iff.1 h).1).trans h
theorem TI (s:Nat) (hs:s<64) (w:World):Calls prog 156 #[.int .i64 (s:Int)] w fun e w'=>e=.returned (.tuple #[.agg #[.int .i64 (pn s 0:Nat),.int .i64 (pn s 1:Nat),.int .i64 (pn s 2:Nat)],.bool true])∧Below w.heap.size w w':=by
 have h:=Sh.Od (s:Int) (by omega) (by omega) w;rw [show (5+(s:Int)/4)=((pn s 0:Nat):Int) by unfold pn;simp,show (1+(s:Int)/16)=((pn s 1:Nat):Int) by unfold pn;simp,show (0:Int)=((pn s 2:Nat):Int) by unfold pn;simp] at h;exact h
theorem ix0 (x y z:Value) (w:World):(Instr.index 143 (.agg #[x,y,z]) (.int .i64 0)).run prog w=.ok x w:=by kernel_rfl
theorem ix1 (x y z:Value) (w:World):(Instr.index 143 (.agg #[x,y,z]) (.int .i64 1)).run prog w=.ok y w:=by kernel_rfl
theorem ix2 (x y z:Value) (w:World):(Instr.index 143 (.agg #[x,y,z]) (.int .i64 2)).run prog w=.ok z w:=by kernel_rfl
set_option maxRecDepth 100000 in
set_option maxHeartbeats 4000000 in
theorem La (t:Tr) (r:Nat) (hr:r<4294967296) (ht:gu t=true) (a:Option Addr) (c:Nat) (js:List (Int×Int)) (w:World) (hl:js.length≤64) (fV:iC w a js) (qB:∀p∈js,∃s:Nat,s<64∧p.2=(s:Int)∧cN (t.ro s)=true):
  Calls prog 107 #[.agg (aC t),.int .u32 (r:Int),.slice a js.length c] w fun e w'=>adv w w' (its t r js) e:=by
 have BO:t.ep<9223372036854775808:=by have:=(di ht).e1;omega
 have h1:=az.new w t;have hb1:=cG w t;have h2:=heap_alloc_last (w.alloc (.cells (aC t) 39)) (.cells #[.slice none 0 0] 52);have hb2:=aa (w.alloc (.cells (aC t) 39)) (.cells #[.slice none 0 0] 52);rw [World.size_alloc] at h2
 have Ds:GL w ((w.alloc (.cells (aC t) 39)).alloc (.cells #[.slice none 0 0] 52)) w.heap.size (w.heap.size+1) (w.heap.size+2) t (.slice none 0 0) []:=
  ⟨h1.later hb2,h2,World.ownsRow_nil _ _ _ _,hb1.trans (hb2.mono hb1.size),by omega,by omega,by omega,by omega,by simp⟩
 clear h1 hb1 h2 hb2;have jo:=Rs.rN t.ro;obtain ⟨cr,tH⟩:∃c,aU t.ro=c:=⟨_,rfl⟩;obtain ⟨ct,bQ⟩:∃c,aC t=c:=⟨_,rfl⟩;simp only [tH] at jo;have HR:Hid (aU t.ro=cr):=tH;have HT:Hid (aC t=ct):=bQ;clear tH bQ;go_enter func107,ntmps107;go_upto_region 3 with (fail)
 generalize (w.alloc (.cells (aC t) 39)).alloc (.cells #[.slice none 0 0] 52)=w1 at *;rw [HT.out];obtain ⟨BT,Sx⟩:∃B,w.heap.size=B:=⟨_,rfl⟩;obtain ⟨BL,Y_⟩:∃B,w.heap.size+1=B:=⟨_,rfl⟩;obtain ⟨n0,gZ⟩:∃B,w.heap.size+2=B:=⟨_,rfl⟩;rw [gZ,Y_,Sx] at Ds;rw [Y_,Sx];have HN:Hid (w.heap.size+2=n0):=gZ;clear gZ Y_ Sx;have jT:=Ds.tr;go_wp2_with (refine ND jT HR.out _ rfl rfl rfl ?_)
 refine (jo _).mono ?_;rintro r' w2 ⟨rfl,hb2⟩;have iP:Hid (GL w w2 BT BL n0 t (.slice none 0 0) []):=Ds.later hb2;have rA:Hid (∀v:Int,(bits .and .u64 ((tk t.ro:Nat):Int) (sj v) !=0)=ug t.ro v):=fun v=>Up t.ro v
 generalize ((tk t.ro:Nat):Int)=TK at *;clear jo Ds jT hb2;go_wp2_with fail
 go_loopw [10] (fun i wx=>∃j:Nat,j≤21∧i=.int .i64 (20 - (j:Int))∧SH w wx BT BL n0 t (dI t r j)) (fun i _=>(intOf i+1).toNat)
 case atStart=>exact ⟨0,by omega,rfl,_,iP.out⟩
 case round=>
  obtain ⟨j,hj,rfl,zk⟩:=hrel;have oG:Hid (SH w wr BT BL n0 t (dI t r j)):=zk;clear zk iP;by_cases EC:j<21
  ·obtain ⟨v,hv⟩:∃v:Nat,20 - j=v:=⟨_,rfl⟩;have Pq:(20:Int) - (j:Int)=(v:Int):=by omega
   rw [Pq];have v0:(0:Int)≤(v:Int):=by omega
   have v1:(v:Int)<21:=by omega
   have lR:v<21:=by omega
   have HI:Hid ((20:Int) - ((j+1:Nat):Int)=(v:Int) - 1):=by unfold Hid;omega
   have HV:Hid (20 - j=v):=hv;have h9:=qy r v hr lR;clear hv Pq
   cases hb:r.testBit v with
   | false=>
    rw [hb] at h9;have HD:Hid (dI t r (j+1)=dI t r j):=QU (by rw [HV.out];exact hb);go_wp2_with (go_at_call 153;refine (h9 _).mono ?_;rintro r' wr ⟨rfl,rfl⟩)
    go_roundw
    case rel=>exact ⟨j+1,by omega,by rw [HI.out],by rw [HD.out];exact oG.out⟩
    case measure=>simp [intOf]
   | true=>
    rw [hb] at h9;have HD:Hid (dI t r (j+1)=dI t r j++nI t v 4):=by rw [←HV.out];exact GJ (by rw [HV.out];exact hb)
    go_wp2_with (go_at_call 153;refine (h9 _).mono ?_;rintro r' wr ⟨rfl,rfl⟩)
    go_loopw [31] (fun i wx=>∃k:Nat,k≤4∧i=.int .i64 (k:Int)∧SH w wx BT BL n0 t (dI t r j++nI t v k)) (fun i _=>4 - (intOf i).toNat)
    case atStart=>exact ⟨0,by omega,rfl,by rw [Ip,List.append_nil];exact oG.out⟩
    case round=>
     obtain ⟨k,hk,rfl,zk⟩:=hrel;have aad:Hid (SH w wr BT BL n0 t (dI t r j++nI t v k)):=zk;clear zk oG h9;by_cases hk4:k<4
     ·have k0:(0:Int)≤(k:Int):=by omega
      have k1:(k:Int)<4:=by omega
      have hch:=Sh.oq (v:Int) (k:Int) v0 v1 k0 k1;rw [show (4 * (v:Int)+1+(k:Int))=((4 * v+1+k:Nat):Int) by push_cast;rfl] at hch;have hms:=Sh.wo ((4 * v+1+k:Nat):Int);have hq:=rA.out ((4 * v+1+k:Nat):Int);have yc:4 * v+1+k<85:=by omega
      cases hh:ug t.ro ((4 * v+1+k:Nat):Int) with
      | false=>
       have xx:Hid (nI t v (k+1)=nI t v k):=OM hh;rw [hh] at hq;obtain ⟨ci,Ll⟩:∃ci,4 * v+1+k=ci:=⟨_,rfl⟩;rw [Ll] at hch hms hq;generalize sj (ci:Int)=M at *;clear hh yc Ll;go_wp2_with (first | (go_at_call 154;refine (hch _).mono ?_;rintro r' wr ⟨rfl,rfl⟩) | (go_at_call 155;refine (hms _).mono ?_;rintro r' wr ⟨rfl,rfl⟩))
       go_roundw
       case rel=>exact ⟨k+1,by omega,by go_num,by rw [xx.out];exact aad.out⟩
       case measure=>simp [intOf];omega
      | true=>
       have xx:Hid (nI t v (k+1)=nI t v k++[oJ t v (4 * v+1+k)]):=FO hh;obtain ⟨vl,hG⟩:=aad.out;have PU:=qH t v (4 * v+1+k) lR yc BO (Wa ht yc (qD ht yc hh)) (Iz ht lR) hG (by have h1:=kD t r j (by omega);have h2:=Aw t v k;have h3:=Rt.nB r j;rw [List.length_append];omega);rw [hh] at hq;obtain ⟨ci,Ll⟩:∃ci,4 * v+1+k=ci:=⟨_,rfl⟩;rw [Ll] at hch hms hq PU xx;generalize sj (ci:Int)=M at *;clear hh yc Ll hG;go_wp2_with (first | (go_at_call 154;refine (hch _).mono ?_;rintro r' wr ⟨rfl,rfl⟩) | (go_at_call 155;refine (hms _).mono ?_;rintro r' wr ⟨rfl,rfl⟩) | (go_at_call 149;refine PU.mono ?_;rintro r' w8 ⟨rfl,YQ⟩))
       obtain ⟨SV,Sw,Mk⟩:=YQ;go_roundw
       case rel=>exact ⟨k+1,by omega,by go_num,by rw [xx.out,←List.append_assoc];exact ⟨SV,Sw⟩⟩
       case measure=>simp [intOf];omega
     ·obtain rfl:k=4:=by omega
      rw [show ((4:Nat):Int)=4 from rfl];go_wp2_with fail
      go_roundw
      case rel=>exact ⟨j+1,by omega,by rw [HI.out],by rw [HD.out];exact aad.out⟩
      case measure=>simp [intOf]
  ·obtain rfl:j=21:=by omega
   rw [show (20:Int) - ((21:Nat):Int)=-1 by omega];have ab4:Hid (SH w wr BT BL n0 t (dI t r 21++jJ t r (js.take 0))):=by have h:=oG.out;unfold Hid;rw [List.take_zero,O_,List.append_nil];exact h
   clear oG;go_wp2_with fail
   go_loopw [49] (fun i wx=>∃m:Nat,m≤js.length∧i=.int .i64 (m:Int)∧SH w wx BT BL n0 t (dI t r 21++jJ t r (js.take m))) (fun i _=>js.length - (intOf i).toNat)
   case atStart=>exact ⟨0,by omega,rfl,ab4.out⟩
   case round=>
    obtain ⟨m,hm,rfl,zk⟩:=hrel;have oG:Hid (SH w wr BT BL n0 t (dI t r 21++jJ t r (js.take m))):=zk;clear zk ab4;by_cases YK:m<js.length
    ·have i1:(0:Int)≤(m:Int):=by omega
     have i2:(m:Int)<(js.length:Int):=by omega
     obtain ⟨vl,hG⟩:=oG.out;obtain ⟨b,oy,hc0,hc1⟩:=(fV.later hG.aK) m YK;obtain ⟨s,xF,tD,hts⟩:=qB (js.getD m (0,0)) (by rw [List.getD_eq_getElem?_getD,List.getElem?_eq_getElem YK];exact List.getElem_mem _)
     have HT:Hid (jJ t r (js.take (m+1))=jJ t r (js.take m)++jI t r s 3):=by
      unfold Hid;rw [o8 YK,ID,tD,Int.toNat_natCast]
     obtain ⟨p,hp⟩:∃p,js.getD m (0,0)=p:=⟨_,rfl⟩;rw [hp] at hc0 hc1 tD;clear hp;obtain ⟨px,py⟩:=p;dsimp only at hc0 hc1 tD;subst tD;subst oy;have hpa:=TI s xF;have ry:=Wa ht (c:=21+s) (by omega) (C4 ht xF hts).1;have qC:=Sh.O2 (s:Int);rw [Sh.kf (by omega) (by omega)] at qC;have Dn:xr (wr.alloc (.cells #[.int .i64 px,.int .i64 (s:Int)] 113)) wr.heap.size (px,(s:Int)):=heap_alloc_last wr _;have iP:Hid (GL w (wr.alloc (.cells #[.int .i64 px,.int .i64 (s:Int)] 113)) BT BL n0 t vl (dI t r 21++jJ t r (js.take m))):=hG.later (aa _ _);clear hG oG;go_upto_region 18 with (fail)
     generalize wr.alloc (.cells #[.int .i64 px,.int .i64 (s:Int)] 113)=w3 at *;generalize wr.heap.size=C at *;obtain ⟨Nn,Nl⟩:=Dn.cells;dsimp only at Nn Nl;go_wp2_with fail
     refine (hpa _).mono ?_;rintro r' w4 ⟨rfl,hb4⟩;have abw:=Dn.later hb4;have uu:Hid (GL w w4 BT BL n0 t vl (dI t r 21++jJ t r (js.take m))):=iP.out.later hb4;have Y2:=abw.later (aa w4 (.cells #[.int .i64 (pn s 0:Nat),.int .i64 (pn s 1:Nat),.int .i64 (pn s 2:Nat)] 143));have BW:Hid (GL w (w4.alloc (.cells #[.int .i64 (pn s 0:Nat),.int .i64 (pn s 1:Nat),.int .i64 (pn s 2:Nat)] 143)) BT BL n0 t vl (dI t r 21++jJ t r (js.take m))):=uu.out.later (aa _ _);clear hpa Dn abw iP uu hb4 Nn Nl;go_upto_region 19 with (fail)
     have adk:=ix0 (.int .i64 (pn s 0:Nat)) (.int .i64 (pn s 1:Nat)) (.int .i64 (pn s 2:Nat));have adj:=ix1 (.int .i64 (pn s 0:Nat)) (.int .i64 (pn s 1:Nat)) (.int .i64 (pn s 2:Nat));have adi:=ix2 (.int .i64 (pn s 0:Nat)) (.int .i64 (pn s 1:Nat)) (.int .i64 (pn s 2:Nat));obtain ⟨p0,Wn⟩:∃p0,pn s 0=p0:=⟨_,rfl⟩;obtain ⟨p1,zh⟩:∃p0,pn s 1=p0:=⟨_,rfl⟩;obtain ⟨p2,iJ⟩:∃p0,pn s 2=p0:=⟨_,rfl⟩;have Vt:Hid (pn s 0=p0):=Wn;have Mq:Hid (pn s 1=p1):=zh;have L6:Hid (pn s 2=p2):=iJ;rw [Wn,zh,iJ] at adk adj adi Y2 BW;rw [Wn,zh,iJ];clear Wn zh iJ;have abU:Hid (xr (w4.alloc (.cells #[.int .i64 (p0:Int),.int .i64 (p1:Int),.int .i64 (p2:Int)] 143)) C (px,(s:Int))):=Y2;clear Y2;go_wp2_with fail
     go_loopw [60] (fun i wx=>∃k:Nat,k≤3∧i=.int .i64 (k:Int)∧SH w wx BT BL n0 t (dI t r 21++jJ t r (js.take m)++jI t r s k)∧xr wx C (px,(s:Int))) (fun i _=>3 - (intOf i).toNat)
     case atStart=>exact ⟨0,by omega,rfl,by rw [IE,List.append_nil];exact ⟨vl,BW.out⟩,abU.out⟩
     case round=>
      obtain ⟨k,hk,rfl,zk,hse⟩:=hrel;have oG:Hid (SH w wr BT BL n0 t (dI t r 21++jJ t r (js.take m)++jI t r s k)):=zk;have Vq:Hid (xr wr C (px,(s:Int))):=hse;clear zk hse BW abU;have hk3:k=0∨k=1∨k=2∨k=3:=by omega
      rcases hk3 with rfl | rfl | rfl | rfl
      ·rw [show ((0:Nat):Int)=0 from rfl];have lR:p0<21:=by have:=sZ xF 0;rw [Vt.out] at this;exact this
       have h9:=qy r p0 hr lR
       cases hb:r.testBit p0 with
       | true=>
        rw [hb] at h9;have HJ:Hid (jI t r s (0+1)=jI t r s 0):=pH (by rw [Vt.out];exact hb);clear qC;go_wp2_with (go_at_call 153;refine (h9 _).mono ?_;rintro r' wr ⟨rfl,rfl⟩)
        go_roundw
        case rel=>exact ⟨0+1,by omega,by go_num,by rw [HJ.out];exact oG.out,Vq.out⟩
        case measure=>simp [intOf]
       | false=>
        rw [hb] at h9;have HJ:Hid (jI t r s (0+1)=jI t r s 0++[oJ t p0 (21+s)]):=by rw [←Vt.out];exact wE (by rw [Vt.out];exact hb)
        obtain ⟨vl',hG⟩:=oG.out
        have PU:=qH t p0 (21+s) lR (by omega) BO ry (Iz ht lR) hG (by
         have h1:=kD t r 21 (by omega);have h2:=mO t r (js.take m);have h3:=mV t r s 0;have h4:=Rt.nB r 21;have h5:(js.take m).length≤64:=by rw [List.length_take];omega
         rw [List.length_append,List.length_append]
         omega)
        rw [show (((21+s:Nat):Int))=21+(s:Int) by push_cast;rfl] at PU;obtain ⟨Nn,Nl⟩:=Vq.out.cells;dsimp only at Nn Nl;clear hG;go_wp2_with (first | (go_at_call 153;refine (h9 _).mono ?_;rintro r' wr ⟨rfl,rfl⟩) | (go_at_call 157;refine (qC _).mono ?_;rintro r' wr ⟨rfl,rfl⟩) | (go_at_call 149;refine PU.mono ?_;rintro r' w8 ⟨rfl,YQ⟩))
        obtain ⟨SV,Sw,Mk⟩:=YQ;go_roundw
        case rel=>exact ⟨0+1,by omega,by go_num,by rw [HJ.out,←List.append_assoc];exact ⟨SV,Sw⟩,Mk _ _ _ Vq.out (by decide) (by decide)⟩
        case measure=>simp [intOf]
      ·rw [show ((1:Nat):Int)=1 from rfl];have lR:p1<21:=by have:=sZ xF 1;rw [Mq.out] at this;exact this
       have h9:=qy r p1 hr lR
       cases hb:r.testBit p1 with
       | true=>
        rw [hb] at h9;have HJ:Hid (jI t r s (1+1)=jI t r s 1):=pH (by rw [Mq.out];exact hb);clear qC;go_wp2_with (go_at_call 153;refine (h9 _).mono ?_;rintro r' wr ⟨rfl,rfl⟩)
        go_roundw
        case rel=>exact ⟨1+1,by omega,by go_num,by rw [HJ.out];exact oG.out,Vq.out⟩
        case measure=>simp [intOf]
       | false=>
        rw [hb] at h9;have HJ:Hid (jI t r s (1+1)=jI t r s 1++[oJ t p1 (21+s)]):=by rw [←Mq.out];exact wE (by rw [Mq.out];exact hb)
        obtain ⟨vl',hG⟩:=oG.out
        have PU:=qH t p1 (21+s) lR (by omega) BO ry (Iz ht lR) hG (by
         have h1:=kD t r 21 (by omega);have h2:=mO t r (js.take m);have h3:=mV t r s 1;have h4:=Rt.nB r 21;have h5:(js.take m).length≤64:=by rw [List.length_take];omega
         rw [List.length_append,List.length_append]
         omega)
        rw [show (((21+s:Nat):Int))=21+(s:Int) by push_cast;rfl] at PU;obtain ⟨Nn,Nl⟩:=Vq.out.cells;dsimp only at Nn Nl;clear hG;go_wp2_with (first | (go_at_call 153;refine (h9 _).mono ?_;rintro r' wr ⟨rfl,rfl⟩) | (go_at_call 157;refine (qC _).mono ?_;rintro r' wr ⟨rfl,rfl⟩) | (go_at_call 149;refine PU.mono ?_;rintro r' w8 ⟨rfl,YQ⟩))
        obtain ⟨SV,Sw,Mk⟩:=YQ;go_roundw
        case rel=>exact ⟨1+1,by omega,by go_num,by rw [HJ.out,←List.append_assoc];exact ⟨SV,Sw⟩,Mk _ _ _ Vq.out (by decide) (by decide)⟩
        case measure=>simp [intOf]
      ·rw [show ((2:Nat):Int)=2 from rfl];have lR:p2<21:=by have:=sZ xF 2;rw [L6.out] at this;exact this
       have h9:=qy r p2 hr lR
       cases hb:r.testBit p2 with
       | true=>
        rw [hb] at h9;have HJ:Hid (jI t r s (2+1)=jI t r s 2):=pH (by rw [L6.out];exact hb);clear qC;go_wp2_with (go_at_call 153;refine (h9 _).mono ?_;rintro r' wr ⟨rfl,rfl⟩)
        go_roundw
        case rel=>exact ⟨2+1,by omega,by go_num,by rw [HJ.out];exact oG.out,Vq.out⟩
        case measure=>simp [intOf]
       | false=>
        rw [hb] at h9;have HJ:Hid (jI t r s (2+1)=jI t r s 2++[oJ t p2 (21+s)]):=by rw [←L6.out];exact wE (by rw [L6.out];exact hb)
        obtain ⟨vl',hG⟩:=oG.out
        have PU:=qH t p2 (21+s) lR (by omega) BO ry (Iz ht lR) hG (by
         have h1:=kD t r 21 (by omega);have h2:=mO t r (js.take m);have h3:=mV t r s 2;have h4:=Rt.nB r 21;have h5:(js.take m).length≤64:=by rw [List.length_take];omega
         rw [List.length_append,List.length_append]
         omega)
        rw [show (((21+s:Nat):Int))=21+(s:Int) by push_cast;rfl] at PU;obtain ⟨Nn,Nl⟩:=Vq.out.cells;dsimp only at Nn Nl;clear hG;go_wp2_with (first | (go_at_call 153;refine (h9 _).mono ?_;rintro r' wr ⟨rfl,rfl⟩) | (go_at_call 157;refine (qC _).mono ?_;rintro r' wr ⟨rfl,rfl⟩) | (go_at_call 149;refine PU.mono ?_;rintro r' w8 ⟨rfl,YQ⟩))
        obtain ⟨SV,Sw,Mk⟩:=YQ;go_roundw
        case rel=>exact ⟨2+1,by omega,by go_num,by rw [HJ.out,←List.append_assoc];exact ⟨SV,Sw⟩,Mk _ _ _ Vq.out (by decide) (by decide)⟩
        case measure=>simp [intOf]
      ·rw [show ((3:Nat):Int)=3 from rfl];have HE:Hid (SH w wr BT BL n0 t (dI t r 21++jJ t r (js.take (m+1)))):=by unfold Hid;rw [HT.out,←List.append_assoc];exact oG.out
       clear qC oG;go_wp2_with fail
       go_roundw
       case rel=>exact ⟨m+1,by omega,by go_num,HE.out⟩
       case measure=>simp [intOf];omega
    ·obtain rfl:m=js.length:=by omega
     have IY:decide ((js.length:Int)<(js.length:Int))=false:=by simp
     rw [List.take_length] at oG;obtain ⟨vl,hG⟩:=oG.out;obtain ⟨U,hU⟩:∃U,dI t r 21++jJ t r js=U:=⟨_,rfl⟩;rw [hU] at hG;have HU:Hid (its t r js=U):=hU;have PW:=hG.cell;obtain ⟨a1,aS,rfl⟩:=Rs.ah hG.row;have HG:Hid (GL w wr BT BL n0 t (.slice a1 U.length aS) U):=hG;clear hG hU oG;go_wp2_with fail
     go_ret;exact ⟨_,rfl,by rw [HN.out,HU.out];exact HG.out.row,HG.out.aK⟩
open Go.RowKit Go.Great
open Rt (Ky zK bF)
open Rs (En zE aU)
theorem GP:prog.built 39 []=some (aC (tz 0)):=by kernel_rfl
set_option maxRecDepth 100000 in
theorem Q_ (e f:Int) (k:Nat→Ky) (r:Nat→En):prog.built 39 [(0,.int .i64 e),(1,.int .i64 f),(2,.agg (bF k)),(3,.agg (aU r))]=some (aC ⟨e,f,k,r⟩):=by kernel_rfl
theorem ZC (a:Act):prog.built 39 ((#[]:Array (Nat×Operand)).map fun (i,x)=>(i,a.eval x)).toList=some (aC (tz 0)):=
 (congrArg (prog.built 39) (by simp)).trans GP
open Go.RowKit Go.Maps Go.Great
open Rt (Ky zK bF bq l9 kI cu)
open Rs (En zE aU bg cN bM iC ps ft b6 evs eA mo pX xD ud Tb)
set_option maxRecDepth 4000
variable {w w':World} {t:Tr} {J L:List Int}
theorem cS:(prog.info? 54).map (·.size)=some 4:=by kernel_rfl
def cQ:Array Value:=#[.int .i64 0,.slice none 0 0,.slice none 0 0,.slice none 0 0]
def b7 (w:World) (B:Nat) (cs:Array Value):Prop:=w.heap[B]? =some (.cells cs 54 (0,0))
theorem gN {T:TypeId} {n:Nat} (hi:(prog.info? T).map (·.size)=some n) {ops:Array Oper} {rest:List Oper} {o:Oper} {a:Act} {Q:Exit→Act→World→Prop} {B:Nat} {cs:Array Value} (hs:cs.size=n) (h:w.heap[B]? =some (.cells cs T (0,0))) (ds:Array Value) (hd:ds.size=n) (h1:ds.all (·.oneCell')=true) (hgd:o.guard=none) (x y:Operand) (ho:o.op=.store T x y)
  (hx:a.eval x=.pointer (some ⟨B,0,none⟩)) (hy:a.eval y=.agg ds) (k:wpList prog ops Q rest (a.put o.dst undef) (w.setRow B ds)):wpList prog ops Q (o::rest) a w:=
 wpList_store_row hgd T x y ho B ds hx hy T cs h (by rw [hi,hd]) (by rw [hs,hd]) h1 k
theorem dz {fn:Func} {p q t:Tmp} (hf:fn.results=#[.cell p 39,.cell q 54,.tmp t]) (tmps:Array Value) (W:World) (K D:Nat) (u:Tr) (cs:Array Value) (hp:tmps[p]? =some (.pointer (some ⟨K,0,none⟩))) (hq:tmps[q]? =some (.pointer (some ⟨D,0,none⟩))) (hk:az W K u) (hd:b7 W D cs) (hc:cs.size=4):
  (results fn tmps).run prog W=.ok (.tuple #[.agg (aC u),.agg cs,tmps.getD t undef]) W:=by
 have h:=run_loadVar_row W K _ 39 _ _ _ hk underlying39 rfl (by rw [aZ];exact jz);have h2:=run_loadVar_row W D _ 54 _ _ _ hd underlying54 rfl (by rw [hc];exact cS);simp [results,hf,hp,hq,asAddr,h,h2]
/- What a step answers. -/
def cZ (t:Tr) (L J:List Int):Tr:=if b_ t L J=0 then nx t L J else tz 0
def rZ (t:Tr) (L J:List Int):Int:=if b_ t L J=0 then t.ep+1 else 0
def fx (t:Tr) (L J:List Int):List (Int×Int):=if b_ t L J=0 then eA t.ro L else []
def bO (t:Tr) (L J:List Int):List (Int×Int):=if b_ t L J=0 then kF t L J else []
def fY (t:Tr) (L J:List Int):List It:=if b_ t L J=0 then its (nx t L J) (uD t L) (kF t L J) else []
structure Ee (w w':World) (t:Tr) (L J:List Int) (vl vj vi:Value):Prop where
 left:w'.ownsRow w.heap.size 113 2 vl (fx t L J).length (ps (fx t L J))
 join:w'.ownsRow w.heap.size 113 2 vj (bO t L J).length (ps (bO t L J))
 item:w'.ownsRow w.heap.size 103 6 vi (fY t L J).length (kU (fY t L J))
 apart:vl.ownBlock=none∨vl.ownBlock≠vj.ownBlock
def gF (w w':World) (t:Tr) (L J:List Int) (e:Ending):Prop:=∃vl vj vi,e=.returned (.tuple #[.agg (aC (cZ t L J)),.agg #[.int .i64 (rZ t L J),vl,vj,vi],.int .i64 (b_ t L J)])∧Ee w w' t L J vl vj vi
theorem gF.no {E:Int} (h:b_ t L J=E) (h0:E≠0):gF w w' t L J (.returned (.tuple #[.agg (aC (tz 0)),.agg cQ,.int .i64 E])):=by
 refine ⟨.slice none 0 0,.slice none 0 0,.slice none 0 0,?_,?_,?_,?_,.inl rfl⟩
 ·unfold cZ rZ;rw [h,if_neg h0,if_neg h0];rfl
 ·unfold fx;rw [h,if_neg h0];exact World.ownsRow_nil _ _ _ _
 ·unfold bO;rw [h,if_neg h0];exact World.ownsRow_nil _ _ _ _
 ·unfold fY;rw [h,if_neg h0];exact World.ownsRow_nil _ _ _ _
theorem gF.yes {vl vj vi:Value} (h:b_ t L J=0) (h1:w'.ownsRow w.heap.size 113 2 vl (eA t.ro L).length (ps (eA t.ro L))) (h2:w'.ownsRow w.heap.size 113 2 vj (kF t L J).length (ps (kF t L J)))
  (h3:w'.ownsRow w.heap.size 103 6 vi (its (nx t L J) (uD t L) (kF t L J)).length (kU (its (nx t L J) (uD t L) (kF t L J)))) (h4:vl.ownBlock=none∨vl.ownBlock≠vj.ownBlock):
  gF w w' t L J (.returned (.tuple #[.agg (aC (nx t L J)),.agg #[.int .i64 (t.ep+1),vl,vj,vi],.int .i64 0])):=by
 refine ⟨vl,vj,vi,?_,?_,?_,?_,h4⟩
 ·unfold cZ rZ;rw [h,if_pos rfl,if_pos rfl]
 ·unfold fx;rw [if_pos h];exact h1
 ·unfold bO;rw [if_pos h];exact h2
 ·unfold fY;rw [if_pos h];exact h3
end Go.Proofs.YtanaapfobpgibaaGreatDoor
