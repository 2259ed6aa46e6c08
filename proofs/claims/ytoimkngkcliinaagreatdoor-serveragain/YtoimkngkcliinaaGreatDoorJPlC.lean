/- PlC, PlS0, PlS, PlK0, joined. -/
import Derived.Test.YtoimkngkcliinaaGreatDoorJPlA
import Derived.Test.YtoimkngkcliinaaGreatDoorJTrC
import Derived.Test.YtoimkngkcliinaaGreatDoorJTrMath
import Derived.Test.YtoimkngkcliinaaGreatDoorJPlMath
namespace Go.Proofs.YtoimkngkcliinaaGreatDoor
open Go.RowKit Go.Maps
open Rt (Ky zK kcs KyAt Gd)
open Rs (En zE rcs RoAt tkn tk RdS)
open Sh (belB msk)
set_option linter.unusedVariables false
set_option linter.unusedSimpArgs false
theorem ko_gd {t:Tr} (h:tck t=true) {c:Nat} (hc:c<85) (h0:koE t (c:Int)=0):Gd (kyA t c).bas (kyA t c).stp:=by
 rw [kyA_ko h hc h0];have hr:=tck_right h;rcases kn h hc h0 with ⟨h1,e⟩ | ⟨s,hs,e1,ht,e⟩
 ·rw [e];exact ((Rt.kchk_iff.1 hr.ks).1 c h1).1
 ·rw [e];obtain ⟨a1,a2,a3,a4,_⟩:=hr.taken hs ht;have a5:=(hr.fs s hs).2.1;have a6:=hr.e1;exact ⟨by dsimp only;omega,by dsimp only;omega,by dsimp only;omega,by dsimp only;omega⟩
theorem ks_gd {t:Tr} (h:tck t=true) {v:Nat} (hv:v<21):Gd (t.ks v).bas (t.ks v).stp:=((Rt.kchk_iff.1 (tck_right h).ks).1 v hv).1
def GLX (w W:World) (BT BL n0:Nat) (t:Tr) (l:List It):Prop:=∃vl,GL w W BT BL n0 t vl l
def ItsP (w w':World) (l:List It) (e:Ending):Prop:=∃v,e=.returned v∧w'.ownsRow (w.heap.size+2) 121 6 v l.length (isl l)∧Below w.heap.size w w'
def StAt (w:World) (B:Nat) (p:Int×Int):Prop:=w.heap[B]? =some (.cells #[.int .i64 p.1,.int .i64 p.2] 165 (0,0))
theorem StAt.cells {w:World} {B:Nat} {p:Int×Int} (h:StAt w B p):w.cell? ⟨B,0,none⟩=some (.int .i64 p.1)∧w.cell? ⟨B,1,none⟩=some (.int .i64 p.2):=⟨cell_of_row w B 0 _ _ _ h,cell_of_row w B 1 _ _ _ h⟩
theorem StAt.later {w w':World} {B:Nat} {p:Int×Int} (h:StAt w B p) (hb:Below w.heap.size w w'):StAt w' B p:=(hb.block B (Array.getElem?_eq_some_iff.1 h).1).trans h
theorem path_pn (s:Nat) (hs:s<64) (w:World):Calls Tryz.prog 261 #[.int .i64 (s:Int)] w fun e w'=>e=.returned (.tuple #[.agg #[.int .i64 (pn s 0:Nat),.int .i64 (pn s 1:Nat),.int .i64 (pn s 2:Nat)],.bool true])∧Below w.heap.size w w':=by
 have h:=Sh.path_yes (s:Int) (by omega) (by omega) w;rw [show (5+(s:Int)/4)=((pn s 0:Nat):Int) by unfold pn;simp,show (1+(s:Int)/16)=((pn s 1:Nat):Int) by unfold pn;simp,show (0:Int)=((pn s 2:Nat):Int) by unfold pn;simp] at h;exact h
theorem ix0 (x y z:Value) (w:World):(Instr.index 218 (.agg #[x,y,z]) (.int .i64 0)).run Tryz.prog w=.ok x w:=by kernel_rfl
theorem ix1 (x y z:Value) (w:World):(Instr.index 218 (.agg #[x,y,z]) (.int .i64 1)).run Tryz.prog w=.ok y w:=by kernel_rfl
theorem ix2 (x y z:Value) (w:World):(Instr.index 218 (.agg #[x,y,z]) (.int .i64 2)).run Tryz.prog w=.ok z w:=by kernel_rfl
set_option maxRecDepth 100000 in
set_option maxHeartbeats 4000000 in
theorem items_any (t:Tr) (r:Nat) (hr:r<4294967296) (ht:tck t=true) (a:Option Addr) (c:Nat) (js:List (Int×Int)) (w:World) (hl:js.length≤64) (hrd:RdS w a js) (hseat:∀p∈js,∃s:Nat,s<64∧p.2=(s:Int)∧tkn (t.ro s)=true):
  Calls Tryz.prog 193 #[.agg (tcs t),.int .u32 (r:Int),.slice a js.length c] w fun e w'=>ItsP w w' (its t r js) e:=by
 have hep:t.ep<9223372036854775808:=by have:=(tck_right ht).e1;omega
 have h1:=TrAt.new w t;have hb1:=alloc_tr w t;have h2:=heap_alloc_last (w.alloc (.cells (tcs t) 54)) (.cells #[.slice none 0 0] 76);have hb2:=below_alloc (w.alloc (.cells (tcs t) 54)) (.cells #[.slice none 0 0] 76);rw [World.size_alloc] at h2
 have hG0:GL w ((w.alloc (.cells (tcs t) 54)).alloc (.cells #[.slice none 0 0] 76)) w.heap.size (w.heap.size+1) (w.heap.size+2) t (.slice none 0 0) []:=
  ⟨h1.later hb2,h2,World.ownsRow_nil _ _ _ _,hb1.trans (hb2.mono hb1.size),by omega,by omega,by omega,by omega,by simp⟩
 clear h1 hb1 h2 hb2;have htk:=Rs.taken_any t.ro;obtain ⟨cr,hcr⟩:∃c,rcs t.ro=c:=⟨_,rfl⟩;obtain ⟨ct,hct⟩:∃c,tcs t=c:=⟨_,rfl⟩;simp only [hcr] at htk;have HR:Hid (rcs t.ro=cr):=hcr;have HT:Hid (tcs t=ct):=hct;clear hcr hct;go_enter Tryz.func193,Tryz.ntmps193;go_upto_region 3 with (fail)
 generalize (w.alloc (.cells (tcs t) 54)).alloc (.cells #[.slice none 0 0] 76)=w1 at *;rw [HT.out];obtain ⟨BT,hBT⟩:∃B,w.heap.size=B:=⟨_,rfl⟩;obtain ⟨BL,hBL⟩:∃B,w.heap.size+1=B:=⟨_,rfl⟩;obtain ⟨n0,hn0⟩:∃B,w.heap.size+2=B:=⟨_,rfl⟩;rw [hn0,hBL,hBT] at hG0;rw [hBL,hBT];have HN:Hid (w.heap.size+2=n0):=hn0;clear hn0 hBL hBT;have hT1:=hG0.tr;go_wp2_with (refine rdR hT1 HR.out _ rfl rfl rfl ?_)
 refine (htk _).mono ?_;rintro r' w2 ⟨rfl,hb2⟩;have HG2:Hid (GL w w2 BT BL n0 t (.slice none 0 0) []):=hG0.later hb2;have HTK:Hid (∀v:Int,(bits .and .u64 ((tk t.ro:Nat):Int) (msk v)!=0)=hld t.ro v):=fun v=>hld_and t.ro v
 generalize ((tk t.ro:Nat):Int)=TK at *;clear htk hG0 hT1 hb2;go_wp2_with fail
 go_loopw [10] (fun i wx=>∃j:Nat,j≤21∧i=.int .i64 (20 - (j:Int))∧GLX w wx BT BL n0 t (dI t r j)) (fun i _=>(intOf i+1).toNat)
 case atStart=>exact ⟨0,by omega,rfl,_,HG2.out⟩
 case round=>
  obtain ⟨j,hj,rfl,hGX⟩:=hrel;have HGX:Hid (GLX w wr BT BL n0 t (dI t r j)):=hGX;clear hGX HG2;by_cases hj8:j<21
  ·obtain ⟨v,hv⟩:∃v:Nat,20 - j=v:=⟨_,rfl⟩;have hvi:(20:Int) - (j:Int)=(v:Int):=by omega
   rw [hvi];have v0:(0:Int)≤(v:Int):=by omega
   have v1:(v:Int)<21:=by omega
   have hv21:v<21:=by omega
   have HI:Hid ((20:Int) - ((j+1:Nat):Int)=(v:Int) - 1):=by unfold Hid;omega
   have HV:Hid (20 - j=v):=hv;have h9:=isIn_any r v hr hv21;clear hv hvi
   cases hb:r.testBit v with
   | false=>
    rw [hb] at h9;have HD:Hid (dI t r (j+1)=dI t r j):=dI_no (by rw [HV.out];exact hb);go_wp2_with (go_at_call 258;refine (h9 _).mono ?_;rintro r' wr ⟨rfl,rfl⟩)
    go_roundw
    case rel=>exact ⟨j+1,by omega,by rw [HI.out],by rw [HD.out];exact HGX.out⟩
    case measure=>simp [intOf]
   | true=>
    rw [hb] at h9;have HD:Hid (dI t r (j+1)=dI t r j++nI t v 4):=by rw [←HV.out];exact dI_yes (by rw [HV.out];exact hb)
    go_wp2_with (go_at_call 258;refine (h9 _).mono ?_;rintro r' wr ⟨rfl,rfl⟩)
    go_loopw [31] (fun i wx=>∃k:Nat,k≤4∧i=.int .i64 (k:Int)∧GLX w wx BT BL n0 t (dI t r j++nI t v k)) (fun i _=>4 - (intOf i).toNat)
    case atStart=>exact ⟨0,by omega,rfl,by rw [nI_zero,List.append_nil];exact HGX.out⟩
    case round=>
     obtain ⟨k,hk,rfl,hGX⟩:=hrel;have HGX2:Hid (GLX w wr BT BL n0 t (dI t r j++nI t v k)):=hGX;clear hGX HGX h9;by_cases hk4:k<4
     ·have k0:(0:Int)≤(k:Int):=by omega
      have k1:(k:Int)<4:=by omega
      have hch:=Sh.child_yes (v:Int) (k:Int) v0 v1 k0 k1;rw [show (4 * (v:Int)+1+(k:Int))=((4 * v+1+k:Nat):Int) by push_cast;rfl] at hch;have hms:=Sh.mask_any ((4 * v+1+k:Nat):Int);have hq:=HTK.out ((4 * v+1+k:Nat):Int);have hc85:4 * v+1+k<85:=by omega
      cases hh:hld t.ro ((4 * v+1+k:Nat):Int) with
      | false=>
       have HD2:Hid (nI t v (k+1)=nI t v k):=nI_no hh;rw [hh] at hq;obtain ⟨ci,hci⟩:∃ci,4 * v+1+k=ci:=⟨_,rfl⟩;rw [hci] at hch hms hq;generalize msk (ci:Int)=M at *;clear hh hc85 hci;go_wp2_with (first | (go_at_call 259;refine (hch _).mono ?_;rintro r' wr ⟨rfl,rfl⟩) | (go_at_call 260;refine (hms _).mono ?_;rintro r' wr ⟨rfl,rfl⟩))
       go_roundw
       case rel=>exact ⟨k+1,by omega,by go_num,by rw [HD2.out];exact HGX2.out⟩
       case measure=>simp [intOf];omega
      | true=>
       have HD2:Hid (nI t v (k+1)=nI t v k++[mkI t v (4 * v+1+k)]):=nI_yes hh;obtain ⟨vl,hG⟩:=HGX2.out;have hgv:=give_any t v (4 * v+1+k) hv21 hc85 hep (ko_gd ht hc85 (hld_leaf ht hc85 hh)) (ks_gd ht hv21) hG (by have h1:=dI_len t r j (by omega);have h2:=nI_len t v k;have h3:=Rt.cd_le r j;rw [List.length_append];omega);rw [hh] at hq;obtain ⟨ci,hci⟩:∃ci,4 * v+1+k=ci:=⟨_,rfl⟩;rw [hci] at hch hms hq hgv HD2;generalize msk (ci:Int)=M at *;clear hh hc85 hci hG;go_wp2_with (first | (go_at_call 259;refine (hch _).mono ?_;rintro r' wr ⟨rfl,rfl⟩) | (go_at_call 260;refine (hms _).mono ?_;rintro r' wr ⟨rfl,rfl⟩) | (go_at_call 255;refine hgv.mono ?_;rintro r' w8 ⟨rfl,hgp⟩))
       obtain ⟨vl8,hG8,hK8⟩:=hgp;go_roundw
       case rel=>exact ⟨k+1,by omega,by go_num,by rw [HD2.out,←List.append_assoc];exact ⟨vl8,hG8⟩⟩
       case measure=>simp [intOf];omega
     ·obtain rfl:k=4:=by omega
      rw [show ((4:Nat):Int)=4 from rfl];go_wp2_with fail
      go_roundw
      case rel=>exact ⟨j+1,by omega,by rw [HI.out],by rw [HD.out];exact HGX2.out⟩
      case measure=>simp [intOf]
  ·obtain rfl:j=21:=by omega
   rw [show (20:Int) - ((21:Nat):Int)=-1 by omega];have HGX3:Hid (GLX w wr BT BL n0 t (dI t r 21++jJ t r (js.take 0))):=by have h:=HGX.out;unfold Hid;rw [List.take_zero,jJ_nil,List.append_nil];exact h
   clear HGX;go_wp2_with fail
   go_loopw [49] (fun i wx=>∃m:Nat,m≤js.length∧i=.int .i64 (m:Int)∧GLX w wx BT BL n0 t (dI t r 21++jJ t r (js.take m))) (fun i _=>js.length - (intOf i).toNat)
   case atStart=>exact ⟨0,by omega,rfl,HGX3.out⟩
   case round=>
    obtain ⟨m,hm,rfl,hGX⟩:=hrel;have HGX:Hid (GLX w wr BT BL n0 t (dI t r 21++jJ t r (js.take m))):=hGX;clear hGX HGX3;by_cases hmN:m<js.length
    ·have i1:(0:Int)≤(m:Int):=by omega
     have i2:(m:Int)<(js.length:Int):=by omega
     obtain ⟨vl,hG⟩:=HGX.out;obtain ⟨b,hal,hc0,hc1⟩:=(hrd.later hG.bel) m hmN;obtain ⟨s,hs8,hps,hts⟩:=hseat (js.getD m (0,0)) (by rw [List.getD_eq_getElem?_getD,List.getElem?_eq_getElem hmN];exact List.getElem_mem _)
     have HT:Hid (jJ t r (js.take (m+1))=jJ t r (js.take m)++jI t r s 3):=by
      unfold Hid;rw [take_snoc2 hmN,jJ_snoc,hps,Int.toNat_natCast]
     obtain ⟨p,hp⟩:∃p,js.getD m (0,0)=p:=⟨_,rfl⟩;rw [hp] at hc0 hc1 hps;clear hp;obtain ⟨px,py⟩:=p;dsimp only at hc0 hc1 hps;subst hps;subst hal;have hpa:=path_pn s hs8;have hgs:=ko_gd ht (c:=21+s) (by omega) (koK_leaf ht hs8 hts).1;have hlf:=Sh.leaf_any (s:Int);rw [Sh.lef_yes (by omega) (by omega)] at hlf;have hSE:StAt (wr.alloc (.cells #[.int .i64 px,.int .i64 (s:Int)] 165)) wr.heap.size (px,(s:Int)):=heap_alloc_last wr _;have HG2:Hid (GL w (wr.alloc (.cells #[.int .i64 px,.int .i64 (s:Int)] 165)) BT BL n0 t vl (dI t r 21++jJ t r (js.take m))):=hG.later (below_alloc _ _);clear hG HGX;go_upto_region 18 with (fail)
     generalize wr.alloc (.cells #[.int .i64 px,.int .i64 (s:Int)] 165)=w3 at *;generalize wr.heap.size=C at *;obtain ⟨se0,se1⟩:=hSE.cells;dsimp only at se0 se1;go_wp2_with fail
     refine (hpa _).mono ?_;rintro r' w4 ⟨rfl,hb4⟩;have hSE4:=hSE.later hb4;have HG4:Hid (GL w w4 BT BL n0 t vl (dI t r 21++jJ t r (js.take m))):=HG2.out.later hb4;have hSE5:=hSE4.later (below_alloc w4 (.cells #[.int .i64 (pn s 0:Nat),.int .i64 (pn s 1:Nat),.int .i64 (pn s 2:Nat)] 218));have HG5:Hid (GL w (w4.alloc (.cells #[.int .i64 (pn s 0:Nat),.int .i64 (pn s 1:Nat),.int .i64 (pn s 2:Nat)] 218)) BT BL n0 t vl (dI t r 21++jJ t r (js.take m))):=HG4.out.later (below_alloc _ _);clear hpa hSE hSE4 HG2 HG4 hb4 se0 se1;go_upto_region 19 with (fail)
     have hIx0:=ix0 (.int .i64 (pn s 0:Nat)) (.int .i64 (pn s 1:Nat)) (.int .i64 (pn s 2:Nat));have hIx1:=ix1 (.int .i64 (pn s 0:Nat)) (.int .i64 (pn s 1:Nat)) (.int .i64 (pn s 2:Nat));have hIx2:=ix2 (.int .i64 (pn s 0:Nat)) (.int .i64 (pn s 1:Nat)) (.int .i64 (pn s 2:Nat));obtain ⟨p0,hp0⟩:∃p0,pn s 0=p0:=⟨_,rfl⟩;obtain ⟨p1,hp1⟩:∃p0,pn s 1=p0:=⟨_,rfl⟩;obtain ⟨p2,hp2⟩:∃p0,pn s 2=p0:=⟨_,rfl⟩;have HP0:Hid (pn s 0=p0):=hp0;have HP1:Hid (pn s 1=p1):=hp1;have HP2:Hid (pn s 2=p2):=hp2;rw [hp0,hp1,hp2] at hIx0 hIx1 hIx2 hSE5 HG5;rw [hp0,hp1,hp2];clear hp0 hp1 hp2;have HSE5:Hid (StAt (w4.alloc (.cells #[.int .i64 (p0:Int),.int .i64 (p1:Int),.int .i64 (p2:Int)] 218)) C (px,(s:Int))):=hSE5;clear hSE5;go_wp2_with fail
     go_loopw [60] (fun i wx=>∃k:Nat,k≤3∧i=.int .i64 (k:Int)∧GLX w wx BT BL n0 t (dI t r 21++jJ t r (js.take m)++jI t r s k)∧StAt wx C (px,(s:Int))) (fun i _=>3 - (intOf i).toNat)
     case atStart=>exact ⟨0,by omega,rfl,by rw [jI_zero,List.append_nil];exact ⟨vl,HG5.out⟩,HSE5.out⟩
     case round=>
      obtain ⟨k,hk,rfl,hGX,hse⟩:=hrel;have HGX:Hid (GLX w wr BT BL n0 t (dI t r 21++jJ t r (js.take m)++jI t r s k)):=hGX;have HSE:Hid (StAt wr C (px,(s:Int))):=hse;clear hGX hse HG5 HSE5;have hk3:k=0∨k=1∨k=2∨k=3:=by omega
      rcases hk3 with rfl | rfl | rfl | rfl
      ·rw [show ((0:Nat):Int)=0 from rfl];have hv21:p0<21:=by have:=pn_lt hs8 0;rw [HP0.out] at this;exact this
       have h9:=isIn_any r p0 hr hv21
       cases hb:r.testBit p0 with
       | true=>
        rw [hb] at h9;have HJ:Hid (jI t r s (0+1)=jI t r s 0):=jI_yes (by rw [HP0.out];exact hb);clear hlf;go_wp2_with (go_at_call 258;refine (h9 _).mono ?_;rintro r' wr ⟨rfl,rfl⟩)
        go_roundw
        case rel=>exact ⟨0+1,by omega,by go_num,by rw [HJ.out];exact HGX.out,HSE.out⟩
        case measure=>simp [intOf]
       | false=>
        rw [hb] at h9;have HJ:Hid (jI t r s (0+1)=jI t r s 0++[mkI t p0 (21+s)]):=by rw [←HP0.out];exact jI_no (by rw [HP0.out];exact hb)
        obtain ⟨vl',hG⟩:=HGX.out
        have hgv:=give_any t p0 (21+s) hv21 (by omega) hep hgs (ks_gd ht hv21) hG (by
         have h1:=dI_len t r 21 (by omega);have h2:=jJ_len t r (js.take m);have h3:=jI_len t r s 0;have h4:=Rt.cd_le r 21;have h5:(js.take m).length≤64:=by rw [List.length_take];omega
         rw [List.length_append,List.length_append]
         omega)
        rw [show (((21+s:Nat):Int))=21+(s:Int) by push_cast;rfl] at hgv;obtain ⟨se0,se1⟩:=HSE.out.cells;dsimp only at se0 se1;clear hG;go_wp2_with (first | (go_at_call 258;refine (h9 _).mono ?_;rintro r' wr ⟨rfl,rfl⟩) | (go_at_call 118;refine (hlf _).mono ?_;rintro r' wr ⟨rfl,rfl⟩) | (go_at_call 255;refine hgv.mono ?_;rintro r' w8 ⟨rfl,hgp⟩))
        obtain ⟨vl8,hG8,hK8⟩:=hgp;go_roundw
        case rel=>exact ⟨0+1,by omega,by go_num,by rw [HJ.out,←List.append_assoc];exact ⟨vl8,hG8⟩,hK8 _ _ _ HSE.out (by decide) (by decide)⟩
        case measure=>simp [intOf]
      ·rw [show ((1:Nat):Int)=1 from rfl];have hv21:p1<21:=by have:=pn_lt hs8 1;rw [HP1.out] at this;exact this
       have h9:=isIn_any r p1 hr hv21
       cases hb:r.testBit p1 with
       | true=>
        rw [hb] at h9;have HJ:Hid (jI t r s (1+1)=jI t r s 1):=jI_yes (by rw [HP1.out];exact hb);clear hlf;go_wp2_with (go_at_call 258;refine (h9 _).mono ?_;rintro r' wr ⟨rfl,rfl⟩)
        go_roundw
        case rel=>exact ⟨1+1,by omega,by go_num,by rw [HJ.out];exact HGX.out,HSE.out⟩
        case measure=>simp [intOf]
       | false=>
        rw [hb] at h9;have HJ:Hid (jI t r s (1+1)=jI t r s 1++[mkI t p1 (21+s)]):=by rw [←HP1.out];exact jI_no (by rw [HP1.out];exact hb)
        obtain ⟨vl',hG⟩:=HGX.out
        have hgv:=give_any t p1 (21+s) hv21 (by omega) hep hgs (ks_gd ht hv21) hG (by
         have h1:=dI_len t r 21 (by omega);have h2:=jJ_len t r (js.take m);have h3:=jI_len t r s 1;have h4:=Rt.cd_le r 21;have h5:(js.take m).length≤64:=by rw [List.length_take];omega
         rw [List.length_append,List.length_append]
         omega)
        rw [show (((21+s:Nat):Int))=21+(s:Int) by push_cast;rfl] at hgv;obtain ⟨se0,se1⟩:=HSE.out.cells;dsimp only at se0 se1;clear hG;go_wp2_with (first | (go_at_call 258;refine (h9 _).mono ?_;rintro r' wr ⟨rfl,rfl⟩) | (go_at_call 118;refine (hlf _).mono ?_;rintro r' wr ⟨rfl,rfl⟩) | (go_at_call 255;refine hgv.mono ?_;rintro r' w8 ⟨rfl,hgp⟩))
        obtain ⟨vl8,hG8,hK8⟩:=hgp;go_roundw
        case rel=>exact ⟨1+1,by omega,by go_num,by rw [HJ.out,←List.append_assoc];exact ⟨vl8,hG8⟩,hK8 _ _ _ HSE.out (by decide) (by decide)⟩
        case measure=>simp [intOf]
      ·rw [show ((2:Nat):Int)=2 from rfl];have hv21:p2<21:=by have:=pn_lt hs8 2;rw [HP2.out] at this;exact this
       have h9:=isIn_any r p2 hr hv21
       cases hb:r.testBit p2 with
       | true=>
        rw [hb] at h9;have HJ:Hid (jI t r s (2+1)=jI t r s 2):=jI_yes (by rw [HP2.out];exact hb);clear hlf;go_wp2_with (go_at_call 258;refine (h9 _).mono ?_;rintro r' wr ⟨rfl,rfl⟩)
        go_roundw
        case rel=>exact ⟨2+1,by omega,by go_num,by rw [HJ.out];exact HGX.out,HSE.out⟩
        case measure=>simp [intOf]
       | false=>
        rw [hb] at h9;have HJ:Hid (jI t r s (2+1)=jI t r s 2++[mkI t p2 (21+s)]):=by rw [←HP2.out];exact jI_no (by rw [HP2.out];exact hb)
        obtain ⟨vl',hG⟩:=HGX.out
        have hgv:=give_any t p2 (21+s) hv21 (by omega) hep hgs (ks_gd ht hv21) hG (by
         have h1:=dI_len t r 21 (by omega);have h2:=jJ_len t r (js.take m);have h3:=jI_len t r s 2;have h4:=Rt.cd_le r 21;have h5:(js.take m).length≤64:=by rw [List.length_take];omega
         rw [List.length_append,List.length_append]
         omega)
        rw [show (((21+s:Nat):Int))=21+(s:Int) by push_cast;rfl] at hgv;obtain ⟨se0,se1⟩:=HSE.out.cells;dsimp only at se0 se1;clear hG;go_wp2_with (first | (go_at_call 258;refine (h9 _).mono ?_;rintro r' wr ⟨rfl,rfl⟩) | (go_at_call 118;refine (hlf _).mono ?_;rintro r' wr ⟨rfl,rfl⟩) | (go_at_call 255;refine hgv.mono ?_;rintro r' w8 ⟨rfl,hgp⟩))
        obtain ⟨vl8,hG8,hK8⟩:=hgp;go_roundw
        case rel=>exact ⟨2+1,by omega,by go_num,by rw [HJ.out,←List.append_assoc];exact ⟨vl8,hG8⟩,hK8 _ _ _ HSE.out (by decide) (by decide)⟩
        case measure=>simp [intOf]
      ·rw [show ((3:Nat):Int)=3 from rfl];have HE:Hid (GLX w wr BT BL n0 t (dI t r 21++jJ t r (js.take (m+1)))):=by unfold Hid;rw [HT.out,←List.append_assoc];exact HGX.out
       clear hlf HGX;go_wp2_with fail
       go_roundw
       case rel=>exact ⟨m+1,by omega,by go_num,HE.out⟩
       case measure=>simp [intOf];omega
    ·obtain rfl:m=js.length:=by omega
     have hdk:decide ((js.length:Int)<(js.length:Int))=false:=by simp
     rw [List.take_length] at HGX;obtain ⟨vl,hG⟩:=HGX.out;obtain ⟨U,hU⟩:∃U,dI t r 21++jJ t r js=U:=⟨_,rfl⟩;rw [hU] at hG;have HU:Hid (its t r js=U):=hU;have hcl:=hG.cell;obtain ⟨a1,cap1,rfl⟩:=Rs.owns_slice hG.row;have HG:Hid (GL w wr BT BL n0 t (.slice a1 U.length cap1) U):=hG;clear hG hU HGX;go_wp2_with fail
     go_ret;exact ⟨_,rfl,by rw [HN.out,HU.out];exact HG.out.row,HG.out.bel⟩
open Go.RowKit Go.Great
open Rt (Ky zK kcs)
open Rs (En zE rcs)
theorem built_zero:Tryz.prog.built 54 []=some (tcs (tz 0)):=by kernel_rfl
set_option maxRecDepth 100000 in
theorem built_tr (e f:Int) (k:Nat→Ky) (r:Nat→En):Tryz.prog.built 54 [(0,.int .i64 e),(1,.int .i64 f),(2,.agg (kcs k)),(3,.agg (rcs r))]=some (tcs ⟨e,f,k,r⟩):=by kernel_rfl
theorem builtz (a:Act):Tryz.prog.built 54 ((#[]:Array (Nat×Operand)).map fun (i,x)=>(i,a.eval x)).toList=some (tcs (tz 0)):=
 (congrArg (Tryz.prog.built 54) (by simp)).trans built_zero
open Go.RowKit Go.Maps Go.Great
open Rt (Ky zK kcs KsAt trE trK cu)
open Rs (En zE rcs RoAt tkn RdI RdS ps ft FitOk evs evl mvE mvR mvL mvJ Tb)
set_option maxRecDepth 4000
theorem infoRk:(Tryz.prog.info? 78).map (·.size)=some 4:=by kernel_rfl
def rkz:Array Value:=#[.int .i64 0,.slice none 0 0,.slice none 0 0,.slice none 0 0]
def RkAt (w:World) (B:Nat) (cs:Array Value):Prop:=w.heap[B]? =some (.cells cs 78 (0,0))
theorem stRw {T:TypeId} {n:Nat} (hi:(Tryz.prog.info? T).map (·.size)=some n) {ops:Array Oper} {rest:List Oper} {o:Oper} {a:Act} {w:World} {Q:Exit→Act→World→Prop} {B:Nat} {cs:Array Value} (hs:cs.size=n) (h:w.heap[B]? =some (.cells cs T (0,0))) (ds:Array Value) (hd:ds.size=n) (h1:ds.all (·.oneCell')=true) (hgd:o.guard=none) (x y:Operand) (ho:o.op=.store T x y)
  (hx:a.eval x=.pointer (some ⟨B,0,none⟩)) (hy:a.eval y=.agg ds) (k:wpList Tryz.prog ops Q rest (a.put o.dst undef) (w.setRow B ds)):wpList Tryz.prog ops Q (o::rest) a w:=
 wpList_store_row hgd T x y ho B ds hx hy T cs h (by rw [hi,hd]) (by rw [hs,hd]) h1 k
theorem results_nx {fn:Func} {p q t:Tmp} (hf:fn.results=#[.cell p 54,.cell q 78,.tmp t]) (tmps:Array Value) (W:World) (K D:Nat) (u:Tr) (cs:Array Value) (hp:tmps[p]? =some (.pointer (some ⟨K,0,none⟩))) (hq:tmps[q]? =some (.pointer (some ⟨D,0,none⟩))) (hk:TrAt W K u) (hd:RkAt W D cs) (hc:cs.size=4):
  (results fn tmps).run Tryz.prog W=.ok (.tuple #[.agg (tcs u),.agg cs,tmps.getD t undef]) W:=by
 have h:=run_loadVar_row W K _ 54 _ _ _ hk Tryz.underlying54 rfl (by rw [tcs_size];exact infoT);have h2:=run_loadVar_row W D _ 78 _ _ _ hd Tryz.underlying78 rfl (by rw [hc];exact infoRk);simp [results,hf,hp,hq,asAddr,h,h2]
/- What a step answers. -/
def pnT (t:Tr) (L J:List Int):Tr:=if plE t L J=0 then nx t L J else tz 0
def pnP (t:Tr) (L J:List Int):Int:=if plE t L J=0 then t.ep+1 else 0
def pnL (t:Tr) (L J:List Int):List (Int×Int):=if plE t L J=0 then evl t.ro L else []
def pnJ (t:Tr) (L J:List Int):List (Int×Int):=if plE t L J=0 then jns t L J else []
def pnI (t:Tr) (L J:List Int):List It:=if plE t L J=0 then its (nx t L J) (plR t L) (jns t L J) else []
structure NextP (w w':World) (t:Tr) (L J:List Int) (vl vj vi:Value):Prop where
 left:w'.ownsRow w.heap.size 165 2 vl (pnL t L J).length (ps (pnL t L J))
 join:w'.ownsRow w.heap.size 165 2 vj (pnJ t L J).length (ps (pnJ t L J))
 item:w'.ownsRow w.heap.size 121 6 vi (pnI t L J).length (isl (pnI t L J))
 apart:vl.ownBlock=none∨vl.ownBlock≠vj.ownBlock
def NextA (w w':World) (t:Tr) (L J:List Int) (e:Ending):Prop:=∃vl vj vi,e=.returned (.tuple #[.agg (tcs (pnT t L J)),.agg #[.int .i64 (pnP t L J),vl,vj,vi],.int .i64 (plE t L J)])∧NextP w w' t L J vl vj vi
theorem NextA.no {w w':World} {t:Tr} {L J:List Int} {E:Int} (h:plE t L J=E) (h0:E≠0):NextA w w' t L J (.returned (.tuple #[.agg (tcs (tz 0)),.agg rkz,.int .i64 E])):=by
 refine ⟨.slice none 0 0,.slice none 0 0,.slice none 0 0,?_,?_,?_,?_,.inl rfl⟩
 ·unfold pnT pnP;rw [h,if_neg h0,if_neg h0];rfl
 ·unfold pnL;rw [h,if_neg h0];exact World.ownsRow_nil _ _ _ _
 ·unfold pnJ;rw [h,if_neg h0];exact World.ownsRow_nil _ _ _ _
 ·unfold pnI;rw [h,if_neg h0];exact World.ownsRow_nil _ _ _ _
theorem NextA.yes {w w':World} {t:Tr} {L J:List Int} {vl vj vi:Value} (h:plE t L J=0) (h1:w'.ownsRow w.heap.size 165 2 vl (evl t.ro L).length (ps (evl t.ro L))) (h2:w'.ownsRow w.heap.size 165 2 vj (jns t L J).length (ps (jns t L J)))
  (h3:w'.ownsRow w.heap.size 121 6 vi (its (nx t L J) (plR t L) (jns t L J)).length (isl (its (nx t L J) (plR t L) (jns t L J)))) (h4:vl.ownBlock=none∨vl.ownBlock≠vj.ownBlock):
  NextA w w' t L J (.returned (.tuple #[.agg (tcs (nx t L J)),.agg #[.int .i64 (t.ep+1),vl,vj,vi],.int .i64 0])):=by
 refine ⟨vl,vj,vi,?_,?_,?_,?_,h4⟩
 ·unfold pnT pnP;rw [h,if_pos rfl,if_pos rfl]
 ·unfold pnL;rw [if_pos h];exact h1
 ·unfold pnJ;rw [if_pos h];exact h2
 ·unfold pnI;rw [if_pos h];exact h3
theorem jns_len (t:Tr) (L J:List Int):(jns t L J).length=J.length:=by unfold jns;rw [Rs.adl_length]
theorem pnJ_len (t:Tr) (L J:List Int):(pnJ t L J).length≤64:=by
 unfold pnJ;split
 ·rename_i h;rw [jns_len];exact (plE_stp h).fit.lenJ
 ·simp
end Go.Proofs.YtoimkngkcliinaaGreatDoor
