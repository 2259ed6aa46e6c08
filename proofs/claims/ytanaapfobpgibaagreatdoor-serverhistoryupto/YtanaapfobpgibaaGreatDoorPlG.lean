/- Contracts: the document's item and Items. -/
import Derived.Test.YtanaapfobpgibaaGreatDoorPlF
open Go.Proofs.Tryz
set_option maxHeartbeats 4000000
namespace Go.Proofs.YtanaapfobpgibaaGreatDoor
open Go.RowKit Go.Maps
open Rt (Ky zK bF cK)
open Rs (En zE aU bg cN iC)
set_option linter.unusedVariables false
set_option linter.unusedSimpArgs false
variable {W W1 w:World} {A B n n0 p0 p1 p2:Nat} {t:Tr} {v v':Value} {l:List It} {o:Obj} {x:It} {xs:List Value}
def ItE (x:It):Ending:=.returned (.agg #[.int .i64 x.nd,.int .i64 x.fm,.int .i64 x.un.aB,.int .i64 x.un.bp,.int .i64 x.ld.aB,.int .i64 x.ld.bp])
theorem Pf:(prog.info? 103).map (·.size)=some 6:=by kernel_rfl
theorem E9 {fn:Func} {p:Tmp} (hf:fn.results=#[.cell p 103]) (tmps:Array Value) (W:World) (B:Nat) (cs:Array Value) (hp:tmps[p]? =some (.pointer (some ⟨B,0,none⟩))) (hb:W.heap[B]? =some (.cells cs 103 (0,0))) (hc:cs.size=6):
  (results fn tmps).run prog W=.ok (.agg cs) W:=by
 have h:=run_loadVar_row W B _ 103 _ _ _ hb underlying103 rfl (by rw [hc];exact Pf);simp [results,hf,hp,asAddr,h]
def iz:Array Value:=#[.int .i64 0,.int .i64 0,.int .i64 0,.int .i64 0,.int .i64 0,.int .i64 0]
structure SI (w W:World) (B R:Nat) (t:Tr):Prop where
 tr:az W B t
 it:W.heap[R]? =some (.cells iz 103 (0,0))
 aK:Below w.heap.size w W
 ge:w.heap.size≤R
theorem SI.later {w W W':World} {B R:Nat} {t:Tr} (h:SI w W B R t) (hb:Below W.heap.size W W'):SI w W' B R t:=⟨h.tr.later hb,(hb.block R (Array.getElem?_eq_some_iff.1 h.it).1).trans h.it,h.aK.trans (hb.mono h.aK.size),h.ge⟩
theorem SI.new (w:World) (t:Tr):SI w ((w.alloc (.cells (aC t) 39)).alloc (.cells iz 103)) w.heap.size (w.heap.size+1) t:=by
 have h1:=az.new w t;have hb1:=cG w t;have h2:=heap_alloc_last (w.alloc (.cells (aC t) 39)) (.cells iz 103);have hb2:=aa (w.alloc (.cells (aC t) 39)) (.cells iz 103);rw [World.size_alloc] at h2;exact ⟨h1.later hb2,h2,hb1.trans (hb2.mono hb1.size),by omega⟩
set_option maxRecDepth 100000 in
theorem oa (t:Tr) (ht:gu t=true) (v c:Nat) (hv:v<85) (hc:c<85) (v0:x8 t (v:Int)=0) (c0:x8 t (c:Int)=0) (w:World):
  Calls prog 48 #[.agg (aC t),.int .i64 (v:Int),.int .i64 (c:Int)] w fun e w'=>e=ItE (oJ t v c)∧Below w.heap.size w w':=by
 have hS:=SI.new w t;have h1:=uA t ht (c:Int);have h2:=uA t ht (v:Int);unfold nS at h1 h2;rw [c0] at h1;rw [v0] at h2;have HI:Hid (oJ t v c=⟨v,c,x7 t (c:Int),x7 t (v:Int)⟩):=by unfold Hid oJ;rw [AB ht hv v0,AB ht hc c0]
 obtain ⟨a,ha⟩:∃a,x7 t (c:Int)=a:=⟨_,rfl⟩;obtain ⟨b,hb⟩:∃a,x7 t (v:Int)=a:=⟨_,rfl⟩;rw [ha] at h1 HI;rw [hb] at h2 HI;obtain ⟨ct,bQ⟩:∃c,aC t=c:=⟨_,rfl⟩;simp only [bQ] at h1 h2;have HT:Hid (aC t=ct):=bQ;clear bQ ha hb;unfold iz at hS;go_enter func48,ntmps48;go_upto_region 1 with (fail)
 generalize (w.alloc (.cells (aC t) 39)).alloc (.cells #[.int .i64 0,.int .i64 0,.int .i64 0,.int .i64 0,.int .i64 0,.int .i64 0] 103)=w1 at *;rw [HT.out];obtain ⟨R,hR⟩:∃K,w.heap.size+1=K:=⟨_,rfl⟩;rw [hR] at hS ⊢;obtain ⟨B,hB⟩:∃B,w.heap.size=B:=⟨_,rfl⟩;rw [hB] at hS ⊢;clear hR hB;have jT:=hS.tr;go_wp2_with (refine pV jT HT.out _ rfl rfl rfl ?_)
 refine (h1 _).mono ?_;rintro r w2 ⟨rfl,hb2⟩;have gA:=(hS.later hb2).later (aa w2 (.cells #[.int .i64 a.aB,.int .i64 a.bp] 31));have Za:cK (w2.alloc (.cells #[.int .i64 a.aB,.int .i64 a.bp] 31)) w2.heap.size a:=Rt.cK.new w2 a;clear hS h1 jT hb2;go_upto_region 2 with (fail)
 generalize w2.alloc (.cells #[.int .i64 a.aB,.int .i64 a.bp] 31)=w3 at *;generalize w2.heap.size=A at *;have AR:=gA.tr;go_wp2_with (refine pV AR HT.out _ rfl rfl rfl ?_)
 refine (h2 _).mono ?_;rintro r w4 ⟨rfl,hb4⟩;have dT:=hb4.trans ((aa w4 (.cells #[.int .i64 b.aB,.int .i64 b.bp] 31)).mono hb4.size);have xM:=gA.later dT;have hA5:=Za.later dT;have WH:cK (w4.alloc (.cells #[.int .i64 b.aB,.int .i64 b.bp] 31)) w4.heap.size b:=Rt.cK.new w4 b;clear gA h2 AR hb4 dT Za;go_upto_region 3 with (fail)
 generalize w4.alloc (.cells #[.int .i64 b.aB,.int .i64 b.bp] 31)=w5 at *;generalize w4.heap.size=A2 at *;obtain ⟨k0,k1⟩:=hA5.cells;obtain ⟨k2,k3⟩:=WH.cells;have HIT:=xM.it;go_wp2_with (refine gN Pf (cs:=iz) rfl HIT #[.int .i64 (v:Int),.int .i64 (c:Int),.int .i64 a.aB,.int .i64 a.bp,.int .i64 b.aB,.int .i64 b.bp] rfl (by simp [Value.oneCell']) rfl _ _ rfl rfl rfl ?_)
 refine bodyPost_ret (E9 (p:=6) rfl _ _ R _ rfl (Rt.ai HIT _) rfl) rfl ?_;exact ⟨by rw [HI.out];rfl,Rt.ag xM.ge xM.aK _⟩
/- The tree, boxed, and the list, in a variable. -/
structure GI (w W:World) (B:Nat) (t:Tr) (n0:Nat) (v:Value) (l:List It):Prop where
 tr:az W B t
 row:W.ownsRow n0 103 6 v l.length (kU l)
 aK:Below w.heap.size w W
 bt:B<n0
 wl:w.heap.size≤n0
 sz:n0≤W.heap.size
theorem GI.later {w W W':World} {B n0:Nat} {t:Tr} {v:Value} {l:List It} (h:GI w W B t n0 v l) (hb:Below W.heap.size W W'):GI w W' B t n0 v l:=⟨h.tr.later hb,Rs.ar h.row hb,h.aK.trans (hb.mono h.aK.size),h.bt,h.wl,Nat.le_trans h.sz hb.size⟩
theorem GI.Vn (tr:az W B t) (aK:Below w.heap.size w W) (row:W.ownsRow n0 103 6 v l.length (kU l)) (sz:n0≤W.heap.size) (bt:B<n0) (wl:w.heap.size≤n0)
  (hown:W1.ownsRow n0 103 6 v' (l.length+1) (kU l++T_ x)) (hg:(W.alloc o).grownBy W1 v.ownBlock):GI w W1 B t n0 v' (l++[x]):=by
 have hsz:n0≤W1.heap.size:=by have h1:=hg.size;simp at h1;omega
 refine ⟨(Rs.kW row hg bt (by omega)).trans tr,?_,Rs.kX aK row wl hg,bt,wl,hsz⟩;rw [C8,List.length_append];exact hown
theorem GI.app (h:GI w W B t n0 v l) (hown:W1.ownsRow n0 103 6 v' (l.length+1) (kU l++T_ x)) (hg:(W.alloc o).grownBy W1 v.ownBlock):GI w W1 B t n0 v' (l++[x]):=GI.Vn h.tr h.aK h.row h.sz h.bt h.wl hown hg
/- A seat and a path besides. -/
def Vp (w:World) (A:Nat) (p0 p1 p2:Nat):Prop:=w.heap[A]? =some (.cells #[.int .i64 (p0:Int),.int .i64 (p1:Int),.int .i64 (p2:Int)] 143 (0,0))
theorem Vp.cells (h:Vp w A p0 p1 p2):w.cell? ⟨A,0,none⟩=some (.int .i64 (p0:Int))∧w.cell? ⟨A,1,none⟩=some (.int .i64 (p1:Int))∧w.cell? ⟨A,2,none⟩=some (.int .i64 (p2:Int)):=⟨cell_of_row w A 0 _ _ _ h,cell_of_row w A 1 _ _ _ h,cell_of_row w A 2 _ _ _ h⟩
structure GS (w W:World) (B C A:Nat) (t:Tr) (p:Int×Int) (p0 p1 p2:Nat):Prop where
 tr:az W B t
 se:xr W C p
 pa:Vp W A p0 p1 p2
 aK:Below w.heap.size w W
theorem GS.later {w W W':World} {B C A:Nat} {t:Tr} {p:Int×Int} {p0 p1 p2:Nat} (h:GS w W B C A t p p0 p1 p2) (hb:Below W.heap.size W W'):GS w W' B C A t p p0 p1 p2:=⟨h.tr.later hb,h.se.later hb,(hb.block A (Array.getElem?_eq_some_iff.1 h.pa).1).trans h.pa,h.aK.trans (hb.mono h.aK.size)⟩
theorem wQ (row:W.ownsRow n0 103 6 v n xs) (hg:(W.alloc o).grownBy W1 v.ownBlock) {k:Nat} {cs:Array Value} {T:TypeId} (hk:W.heap[k]? =some (.cells cs T (0,0))) (hT:T≠103):W1.heap[k]? =some (.cells cs T (0,0)):=by
 have iw:=(Array.getElem?_eq_some_iff.1 hk).1;rw [hg.block k (by simp;omega) (kP row hk hT)];exact (((Below.refl _ W).alloc (Nat.le_refl _) o).block k (by omega)).trans hk
theorem GS.app {C:Nat} {p:Int×Int} (h:GS w W B C A t p p0 p1 p2) (row:W.ownsRow n0 103 6 v n xs) (wl:w.heap.size≤n0) (hg:(W.alloc o).grownBy W1 v.ownBlock):GS w W1 B C A t p p0 p1 p2:=
 ⟨wQ row hg h.tr (by decide),wQ row hg h.se (by decide),wQ row hg h.pa (by decide),Rs.kX h.aK row wl hg⟩
theorem ZW {ops:Array Oper} {o:Oper} {a:Act} {K:Act→World→Prop} {Q:Exit→Act→World→Prop} {E:Prop} (hw:Region.wanted o (yielded ops a.tmps)=true) (d:Tmp) (hd:o.dst=some d) (s x:Operand)
  (ho:o.op=.call {callee:=.builtin .append,args:=#[s,x],argTypes:=#[52,52]})
  (n0:Nat) (v:Value) (l:List It) (hs:a.eval s=v) (hown:w.ownsRow n0 103 6 v l.length (kU l)) (g:Nat) (y:It) (hx:a.eval x=.slice (some ⟨g,0,none⟩) 1 1)
  (hnews:∀j u,(T_ y)[j]? =some u→w.cell? ((⟨g,0,none⟩:Addr).add j)=some u) (hl:l.length≤4096) (hb:n0≤w.heap.size)
  (h:∀v' w',w'.ownsRow n0 103 6 v' (l.length+1) (kU l++T_ y)→w.grownBy w' v.ownBlock→K (a.put (some d) v') w'):
  if Region.wanted o (yielded ops a.tmps)=true then Oper.wp prog o a w K Q else E:=by
 obtain ⟨i0,hi,hz0,hz1,hz2⟩:=jA;rw [if_pos hw];refine wp_append_own w s x 52 ho n0 103 i0 _ 6 48 underlying52 hi hz0 hz1 hz2 rfl (by omega) v l.length (kU l) hs hown ⟨g,0,none⟩ 1 1 (T_ y) hx rfl hnews (by simp [T_,Value.oneCell']) (by unfold maxLen;omega) (by omega) hb ?_;intro v' w' h2 h3 h4;rw [hd];exact h v' w' h2 h3
theorem NH (s:Nat) (hs:s<64) (w:World):Calls prog 49 #[.int .i64 (s:Int)] w fun e w'=>e=.returned (.tuple #[.agg #[.int .i64 (pn s 0:Nat),.int .i64 (pn s 1:Nat),.int .i64 (pn s 2:Nat)],.bool true])∧Below w.heap.size w w':=by
 have h:=Sh.KL (s:Int) (by omega) (by omega) w;rw [show (5+(s:Int)/4)=((pn s 0:Nat):Int) by unfold pn;simp,show (1+(s:Int)/16)=((pn s 1:Nat):Int) by unfold pn;simp,show (0:Int)=((pn s 2:Nat):Int) by unfold pn;simp] at h;exact h
def abR (w w':World) (l:List It) (e:Ending):Prop:=∃v,e=.returned v∧w'.ownsRow (w.heap.size+1) 103 6 v l.length (kU l)∧Below w.heap.size w w'
set_option maxRecDepth 100000 in
theorem Fm (t:Tr) (ht:gu t=true) (aL:Option Addr) (cL:Nat) (ll:List (Int×Int)) (a:Option Addr) (c:Nat) (js:List (Int×Int)) (w:World) (pI:ll.length≤64) (hrl:iC w aL ll) (hl:js.length≤64) (fV:iC w a js) (qB:∀p∈js,∃s:Nat,s<64∧p.2=(s:Int)∧cN (t.ro s)=true):
  Calls prog 23 #[.agg (aC t),.slice aL ll.length cL,.slice a js.length c] w fun e w'=>abR w w' (its t (rp ll) js) e:=by
 have Dd:∀W,Below w.heap.size w W→_:=fun W hW=>CB aL cL ll W (by omega) (hrl.later hW)
 have hN0:GI w (w.alloc (.cells (aC t) 39)) w.heap.size t (w.heap.size+1) (.slice none 0 0) []:=⟨az.new w t,World.ownsRow_nil _ _ _ _,cG w t,by omega,by omega,by simp⟩;obtain ⟨ct,bQ⟩:∃c,aC t=c:=⟨_,rfl⟩;have HT:Hid (aC t=ct):=bQ;obtain ⟨cr,tH⟩:∃c,aU t.ro=c:=⟨_,rfl⟩;have HR:Hid (aU t.ro=cr):=tH;obtain ⟨i0,hi,hz0,hz1,hz2⟩:=jA;have hq:rp ll<4294967296:=by have:=yC ll;omega
 clear bQ tH;go_enter func23,ntmps23;go_upto_region 1 with (fail)
 generalize w.alloc (.cells (aC t) 39)=w1 at *;rw [HT.out];obtain ⟨n0,gZ⟩:∃B,w.heap.size+1=B:=⟨_,rfl⟩;obtain ⟨B,hB⟩:∃B,w.heap.size=B:=⟨_,rfl⟩;rw [gZ,hB] at hN0;rw [hB];have HN:Hid (w.heap.size+1=n0):=gZ;clear gZ hB;have h1:=Dd w1 hN0.aK;obtain ⟨q,hqq⟩:∃q,rp ll=q:=⟨_,rfl⟩;rw [hqq] at h1 hq;have HQ:Hid (rp ll=q):=hqq;clear hqq Dd;go_wp2_with fail
 refine h1.mono ?_;rintro r w2 ⟨rfl,hb2⟩;have iP:Hid (GI w w2 B t n0 (.slice none 0 0) []):=hN0.later hb2;clear h1 hN0 hb2;go_wp2_with fail
 go_loopw [8,9] (fun v i wx=>∃(j:Nat) (vl:Value),j≤21∧i=.int .i64 (20 - (j:Int))∧vl=v∧GI w wx B t n0 vl (dI t q j)) (fun _ i _=>(intOf i+1).toNat)
 case atStart=>exact ⟨0,_,by omega,rfl,rfl,iP.out⟩
 case round=>
  obtain ⟨j,vl,hj,rfl,rfl,zk⟩:=hrel;have HG:Hid (GI w wr B t n0 vl (dI t q j)):=zk;clear zk iP;by_cases EC:j<21
  ·obtain ⟨v,hv⟩:∃v:Nat,20 - j=v:=⟨_,rfl⟩;have Pq:(20:Int) - (j:Int)=(v:Int):=by omega
   rw [Pq];have v0:(0:Int)≤(v:Int):=by omega
   have v1:(v:Int)<21:=by omega
   have lR:v<21:=by omega
   have HI:Hid ((20:Int) - ((j+1:Nat):Int)=(v:Int) - 1):=by unfold Hid;omega
   have HV:Hid (20 - j=v):=hv;have h9:=Rt.lH q v hq (by omega);clear hv Pq;obtain ⟨a0,jG,rfl⟩:=Rs.ah HG.out.row
   cases hb:q.testBit v with
   | false=>
    rw [hb] at h9;have HD:Hid (dI t q (j+1)=dI t q j):=QU (by rw [HV.out];exact hb);go_wp2_with fail
    go_loopw [8,10] (fun x i wx=>i=.int .i64 0∧x=.slice a0 (dI t q j).length jG∧GI w wx B t n0 (.slice a0 (dI t q j).length jG) (dI t q j)) (fun _ _ _=>0)
    case atStart=>exact ⟨rfl,rfl,HG.out⟩
    case round=>
     obtain ⟨rfl,rfl,hg⟩:=hrel;have oT:Hid (GI w wr B t n0 (.slice a0 (dI t q j).length jG) (dI t q j)):=hg;clear hg HG;go_wp2_with (go_at_call 45;refine (h9 _).mono ?_;rintro r' wr ⟨rfl,rfl⟩)
     go_roundw
     case rel=>exact ⟨j+1,_,by omega,by rw [HI.out],rfl,by rw [HD.out];exact oT.out⟩
     case measure=>simp [intOf]
   | true=>
    rw [hb] at h9;have HD:Hid (dI t q (j+1)=dI t q j++nI t v 4):=by rw [←HV.out];exact GJ (by rw [HV.out];exact hb)
    go_wp2_with fail
    go_loopw [8,10] (fun x i wx=>∃(k:Nat) (vl:Value),k≤4∧i=.int .i64 (k:Int)∧vl=x∧GI w wx B t n0 vl (dI t q j++nI t v k)) (fun _ i _=>4 - (intOf i).toNat)
    case atStart=>exact ⟨0,_,by omega,rfl,rfl,by rw [Ip,List.append_nil];exact HG.out⟩
    case round=>
     obtain ⟨k,vl,hk,rfl,rfl,hg⟩:=hrel;have oT:Hid (GI w wr B t n0 vl (dI t q j++nI t v k)):=hg;clear hg HG;by_cases hk4:k<4
     ·have k0:(0:Int)≤(k:Int):=by omega
      have k1:(k:Int)<4:=by omega
      have hch:=Sh.pB (v:Int) (k:Int) v0 v1 k0 k1;rw [show (4 * (v:Int)+1+(k:Int))=((4 * v+1+k:Nat):Int) by push_cast;rfl] at hch;have hbl:=NK t.ro ((4 * v+1+k:Nat):Int);rw [HR.out] at hbl;have yc:4 * v+1+k<85:=by omega
      have Y0:=oT.out.tr;obtain ⟨a1,aS,rfl⟩:=Rs.ah oT.out.row
      cases hh:ug t.ro ((4 * v+1+k:Nat):Int) with
      | false=>
       have xx:Hid (nI t v (k+1)=nI t v k):=OM hh;rw [hh] at hbl;obtain ⟨ci,Ll⟩:∃ci,4 * v+1+k=ci:=⟨_,rfl⟩;rw [Ll] at hch hbl;clear hh yc Ll;go_wp2_with (first | (go_at_call 45;refine (h9 _).mono ?_;rintro r' wr ⟨rfl,rfl⟩) | (go_at_call 46;refine (hch _).mono ?_;rintro r' wr ⟨rfl,rfl⟩) | (refine ND Y0 HR.out _ rfl rfl rfl ?_))
       refine (hbl _).mono ?_;rintro r' w4 ⟨rfl,hb4⟩;have uu:Hid (GI w w4 B t n0 (.slice a1 (dI t q j++nI t v k).length aS) (dI t q j++nI t v k)):=oT.out.later hb4;clear oT Y0 hb4 hbl hch h9;go_wp2_with fail
       go_roundw
       case rel=>exact ⟨k+1,_,by omega,by go_num,rfl,by rw [xx.out,←List.length_append];exact uu.out⟩
       case measure=>simp [intOf];omega
      | true=>
       have xx:Hid (nI t v (k+1)=nI t v k++[oJ t v (4 * v+1+k)]):=FO hh;have uL:=oa t ht v (4 * v+1+k) (by omega) yc (jm ht (by omega) (by omega)) (qD ht yc hh);rw [HT.out] at uL;unfold ItE at uL;rw [hh] at hbl;obtain ⟨y,hy⟩:∃y,oJ t v (4 * v+1+k)=y:=⟨_,rfl⟩;rw [hy] at xx;simp only [hy] at uL;obtain ⟨ci,Ll⟩:∃ci,4 * v+1+k=ci:=⟨_,rfl⟩;rw [Ll] at hch hbl uL;obtain ⟨l,hl⟩:∃l,dI t q j++nI t v k=l:=⟨_,rfl⟩
       have iO:Hid (l.length≤4096):=by
        unfold Hid;have h1:=kD t q j (by omega);have h2:=Aw t v k;have h3:=Rt.nB q j;rw [←hl,List.length_append];omega
       have Eo:Hid (dI t q j++nI t v (k+1)=l++[y]):=by unfold Hid;rw [xx.out,←List.append_assoc,hl]
       rw [hl] at oT ⊢;clear hh yc Ll hy hl;go_wp2_with (first | (go_at_call 45;refine (h9 _).mono ?_;rintro r' wr ⟨rfl,rfl⟩) | (go_at_call 46;refine (hch _).mono ?_;rintro r' wr ⟨rfl,rfl⟩) | (refine ND Y0 HR.out _ rfl rfl rfl ?_))
       refine (hbl _).mono ?_;rintro r' w4 ⟨rfl,hb4⟩;have uu:Hid (GI w w4 B t n0 (.slice a1 l.length aS) l):=oT.out.later hb4;have abq:=uu.out.tr;clear oT Y0 hb4 hbl hch h9;go_wp2_with (refine pV abq HT.out _ rfl rfl rfl ?_)
       refine (uL _).mono ?_;rintro r' w5 ⟨rfl,dT⟩;have BW:Hid (GI w w5 B t n0 (.slice a1 l.length aS) l):=uu.out.later dT;have hrow:=BW.out.row;have acW:=BW.out.sz;have aba:=iO.out;clear uu abq dT uL;go_wp2_with (at_builtin;(refine wpList_append_own _ rfl _ _ 52 rfl n0 103 i0 (.agg #[.int .i64 0,.int .i64 0,.int .i64 0,.int .i64 0,.int .i64 0,.int .i64 0]) 6 48 underlying52 hi hz0 hz1 hz2 rfl (by decide) (.slice a1 l.length aS) l.length (kU l) rfl (hrow.alloc _) ⟨w5.heap.size,0,none⟩ 1 1 [.int .i64 y.nd,.int .i64 y.fm,.int .i64 y.un.aB,.int .i64 y.un.bp,.int .i64 y.ld.aB,.int .i64 y.ld.bp] rfl rfl (bD _ _ _) (by simp [Value.oneCell']) (by unfold maxLen;omega) (by omega) (by simp;omega) ?_);intro v' w6 hown' hg6 _;have Vv:Hid (GI w w6 B t n0 v' (l++[y])):=BW.out.app (x:=y) hown' hg6;clear hown' hg6)
       go_roundw
       case rel=>exact ⟨k+1,_,by omega,by go_num,rfl,by rw [Eo.out];exact Vv.out⟩
       case measure=>simp [intOf];omega
     ·obtain rfl:k=4:=by omega
      rw [show ((4:Nat):Int)=4 from rfl];go_wp2_with fail
      go_roundw
      case rel=>exact ⟨j+1,_,by omega,by rw [HI.out],rfl,by rw [HD.out];exact oT.out⟩
      case measure=>simp [intOf]
  ·obtain rfl:j=21:=by omega
   rw [show (20:Int) - ((21:Nat):Int)=-1 by omega];have oT:Hid (GI w wr B t n0 vl (dI t q 21++jJ t q (js.take 0))):=by have h:=HG.out;unfold Hid;rw [List.take_zero,O_,List.append_nil];exact h
   clear HG;go_wp2_with fail
   go_loopw [8,48] (fun x i wx=>∃(m:Nat) (vl:Value),m≤js.length∧i=.int .i64 (m:Int)∧vl=x∧GI w wx B t n0 vl (dI t q 21++jJ t q (js.take m))) (fun _ i _=>js.length - (intOf i).toNat)
   case atStart=>exact ⟨0,_,by omega,rfl,rfl,oT.out⟩
   case round=>
    obtain ⟨m,vl,hm,rfl,rfl,hg⟩:=hrel;have HG:Hid (GI w wr B t n0 vl (dI t q 21++jJ t q (js.take m))):=hg;clear hg oT;by_cases YK:m<js.length
    ·have i1:(0:Int)≤(m:Int):=by omega
     have i2:(m:Int)<(js.length:Int):=by omega
     obtain ⟨b,oy,hc0,hc1⟩:=(fV.later HG.out.aK) m YK;obtain ⟨s,xF,tD,hts⟩:=qB (js.getD m (0,0)) (by rw [List.getD_eq_getElem?_getD,List.getElem?_eq_getElem YK];exact List.getElem_mem _)
     have HTJ:Hid (jJ t q (js.take (m+1))=jJ t q (js.take m)++jI t q s 3):=by
      unfold Hid;rw [o8 YK,ID,tD,Int.toNat_natCast]
     obtain ⟨p,hp⟩:∃p,js.getD m (0,0)=p:=⟨_,rfl⟩;rw [hp] at hc0 hc1 tD;clear hp;obtain ⟨px,py⟩:=p;dsimp only at hc0 hc1 tD;subst tD;subst oy;have hpa:=NH s xF;have Ur:=(C4 ht xF hts).1;have qC:=Sh.rV (s:Int);rw [Sh.kf (by omega) (by omega)] at qC;obtain ⟨a0,jG,rfl⟩:=Rs.ah HG.out.row;obtain ⟨l0,hl0⟩:∃l0,dI t q 21++jJ t q (js.take m)=l0:=⟨_,rfl⟩;have HL0:Hid (dI t q 21++jJ t q (js.take m)=l0):=hl0;rw [hl0] at HG ⊢;clear hl0;have Dn:xr (wr.alloc (.cells #[.int .i64 px,.int .i64 (s:Int)] 113)) wr.heap.size (px,(s:Int)):=heap_alloc_last wr _;have iP:Hid (GI w (wr.alloc (.cells #[.int .i64 px,.int .i64 (s:Int)] 113)) B t n0 (.slice a0 l0.length jG) l0):=HG.out.later (aa _ _);clear HG;go_upto_region 15 with (fail)
     generalize wr.alloc (.cells #[.int .i64 px,.int .i64 (s:Int)] 113)=w3 at *;generalize wr.heap.size=C at *;obtain ⟨Nn,Nl⟩:=Dn.cells;dsimp only at Nn Nl;go_wp2_with fail
     refine (hpa _).mono ?_;rintro r' w4 ⟨rfl,hb4⟩;have dT:=hb4.trans ((aa w4 (.cells #[.int .i64 (pn s 0:Nat),.int .i64 (pn s 1:Nat),.int .i64 (pn s 2:Nat)] 143)).mono hb4.size);have BW:Hid (GI w (w4.alloc (.cells #[.int .i64 (pn s 0:Nat),.int .i64 (pn s 1:Nat),.int .i64 (pn s 2:Nat)] 143)) B t n0 (.slice a0 l0.length jG) l0):=iP.out.later dT;have aae:Hid (GS w (w4.alloc (.cells #[.int .i64 (pn s 0:Nat),.int .i64 (pn s 1:Nat),.int .i64 (pn s 2:Nat)] 143)) B C w4.heap.size t (px,(s:Int)) (pn s 0) (pn s 1) (pn s 2)):=⟨BW.out.tr,Dn.later dT,heap_alloc_last w4 _,BW.out.aK⟩;clear hpa Dn iP hb4 dT Nn Nl;go_upto_region 16 with (fail)
     generalize w4.alloc (.cells #[.int .i64 (pn s 0:Nat),.int .i64 (pn s 1:Nat),.int .i64 (pn s 2:Nat)] 143)=w5 at *;generalize w4.heap.size=A at *;obtain ⟨p0,Wn⟩:∃p0,pn s 0=p0:=⟨_,rfl⟩;obtain ⟨p1,zh⟩:∃p0,pn s 1=p0:=⟨_,rfl⟩;obtain ⟨p2,iJ⟩:∃p0,pn s 2=p0:=⟨_,rfl⟩;have Vt:Hid (pn s 0=p0):=Wn;have Mq:Hid (pn s 1=p1):=zh;have L6:Hid (pn s 2=p2):=iJ;rw [Wn,zh,iJ] at aae;clear Wn zh iJ;go_wp2_with fail
     go_loopw [8,16] (fun x i wx=>∃(k:Nat) (vl:Value),k≤3∧i=.int .i64 (k:Int)∧vl=x∧GI w wx B t n0 vl (dI t q 21++jJ t q (js.take m)++jI t q s k)∧GS w wx B C A t (px,(s:Int)) p0 p1 p2) (fun _ i _=>3 - (intOf i).toNat)
     case atStart=>exact ⟨0,_,by omega,rfl,rfl,by rw [IE,List.append_nil,HL0.out];exact BW.out,aae.out⟩
     case round=>
      obtain ⟨k,vl,hk,rfl,rfl,hg,ry⟩:=hrel;have HG:Hid (GI w wr B t n0 vl (dI t q 21++jJ t q (js.take m)++jI t q s k)):=hg;have Mt:Hid (GS w wr B C A t (px,(s:Int)) p0 p1 p2):=ry;clear hg ry BW aae;have hk3:k=0∨k=1∨k=2∨k=3:=by omega
      rcases hk3 with rfl | rfl | rfl | rfl
      ·rw [show ((0:Nat):Int)=0 from rfl];have lR:p0<21:=by have:=sZ xF 0;rw [Vt.out] at this;exact this
       have h9:=Rt.lH q p0 hq (by omega);obtain ⟨x0,x1,x2⟩:=Vp.cells Mt.out.pa
       cases hb:q.testBit p0 with
       | true=>
        rw [hb] at h9;have HJ:Hid (jI t q s (0+1)=jI t q s 0):=pH (by rw [Vt.out];exact hb);go_wp2_with (go_at_call 45;refine (h9 _).mono ?_;rintro r' wr ⟨rfl,rfl⟩)
        go_roundw
        case rel=>exact ⟨0+1,_,by omega,by go_num,rfl,by rw [HJ.out];exact HG.out,Mt.out⟩
        case measure=>simp [intOf]
       | false=>
        rw [hb] at h9;have HJ:Hid (jI t q s (0+1)=jI t q s 0++[oJ t p0 (21+s)]):=by rw [←Vt.out];exact wE (by rw [Vt.out];exact hb)
        have uL:=oa t ht p0 (21+s) (by omega) (by omega) (jm ht (by omega) (by omega)) Ur;rw [HT.out] at uL;rw [show (((21+s:Nat):Int))=21+(s:Int) by push_cast;rfl] at uL;unfold ItE at uL;obtain ⟨y,hy⟩:∃y,oJ t p0 (21+s)=y:=⟨_,rfl⟩;rw [hy] at HJ;simp only [hy] at uL;obtain ⟨l,hl⟩:∃l,dI t q 21++jJ t q (js.take m)++jI t q s 0=l:=⟨_,rfl⟩
        have iO:Hid (l.length≤4096):=by
         unfold Hid;have h1:=kD t q 21 (by omega);have h2:=mO t q (js.take m);have h3:=mV t q s 0;have h4:=Rt.nB q 21;have h5:(js.take m).length≤64:=by rw [List.length_take];omega
         rw [←hl,List.length_append,List.length_append];omega
        have Eo:Hid (dI t q 21++jJ t q (js.take m)++jI t q s (0+1)=l++[y]):=by unfold Hid;rw [HJ.out,←List.append_assoc,hl]
        rw [hl] at HG;obtain ⟨a1,aS,rfl⟩:=Rs.ah HG.out.row;clear hl hy;go_upto_region 20 with (go_at_call 45;refine (h9 _).mono ?_;rintro r' wr ⟨rfl,rfl⟩)
        have dm:GS w wr.drew B C A t (px,(s:Int)) p0 p1 p2:=Mt.out.later (aG _);have dF:Hid (wr.drew.ownsRow n0 103 6 (.slice a1 l.length aS) l.length (kU l)):=Rs.ar HG.out.row (aG _);have oF:Hid (n0≤wr.drew.heap.size):=HG.out.sz;have R1:Hid (B<n0∧w.heap.size≤n0):=⟨HG.out.bt,HG.out.wl⟩;clear Mt HG x0 x1 x2 h9;refine wp_region_held_drew (S:=fun W=>GS w W B C A t (px,(s:Int)) p0 p1 p2) (by kernel_rfl) dm (fun hHeld=>?_);refine aH 0 (.slice a1 l.length aS) rfl ?_;go_frame;refine dG 1 (.agg ct) rfl (fun w hSw=>bB (HT.out ▸ hSw.tr.whole) rfl rfl) ?_;go_frame;refine aH 2 (.int .i64 0) rfl ?_;go_frame;refine aH 3 (.pointer (some ⟨A,0,none⟩)) rfl ?_;go_frame;refine dG 4 (.int .i64 (p0:Int)) rfl (fun w hSw=>by obtain ⟨x0,x1,x2⟩:=Vp.cells hSw.pa;clear hSw;go_simp) ?_;go_frame;refine aH 5 (.pointer (some ⟨C,1,none⟩)) rfl ?_;go_frame;refine dG 6 (.int .i64 (s:Int)) rfl (fun w hSw=>by obtain ⟨x0,x1⟩:=hSw.se.cells;dsimp only at x0 x1;clear hSw;go_simp) ?_;go_frame;refine dh 7 rfl fun K hK=>?_;go_simp
        refine (qC _).mono ?_;rintro r' w5 ⟨rfl,rfl⟩;go_wp2_with fail
        refine hK.out _ _ hHeld (fun aD=>?_);clear hHeld;clear hK K;try go_frame
        refine dh 8 rfl fun K hK=>?_;go_simp
        refine (uL _).mono ?_;rintro r' w6 ⟨rfl,dS⟩;go_wp2_with fail
        have kv:Hid (w6.ownsRow n0 103 6 (.slice a1 l.length aS) l.length (kU l)):=Rs.ar dF.out dS;have yo:Hid (n0≤w6.heap.size):=Nat.le_trans oF.out dS.size;refine hK.out _ _ (aD.later dS) (fun aN=>?_);clear aD dS dF oF;clear hK K;try go_frame
        refine dh 9 rfl fun K hK=>?_;go_simp
        have jB:=aN;refine hK.out _ _ (aN.later (aa _ _)) (fun bK=>?_);clear aN;clear hK K;try go_frame
        refine dh 10 rfl fun Kc hK=>?_;refine ZW rfl 78 rfl _ _ rfl n0 (.slice a1 l.length aS) l rfl (kv.out.alloc _) w6.heap.size y rfl (bD _ _ _) iO.out (by have:=yo.out;simp;omega) ?_;intro v' w7 l_ pY;have EJ:Hid (GI w w7 B t n0 v' (l++[y])):=GI.Vn jB.tr jB.aK kv.out yo.out R1.out.1 R1.out.2 l_ pY;refine hK.out _ _ (jB.app kv.out R1.out.2 pY) (fun lU=>?_);clear bK l_ pY jB;clear hK Kc;try go_frame
        refine aH 11 (v') rfl ?_;go_frame;refine wpAnyH_done (by kernel_rfl) ?_ _;go_wp2_with fail
        go_roundw
        case rel=>exact ⟨0+1,_,by omega,by go_num,rfl,by rw [Eo.out];exact EJ.out,lU⟩
        case measure=>simp [intOf]
      ·rw [show ((1:Nat):Int)=1 from rfl];have lR:p1<21:=by have:=sZ xF 1;rw [Mq.out] at this;exact this
       have h9:=Rt.lH q p1 hq (by omega);obtain ⟨x0,x1,x2⟩:=Vp.cells Mt.out.pa
       cases hb:q.testBit p1 with
       | true=>
        rw [hb] at h9;have HJ:Hid (jI t q s (1+1)=jI t q s 1):=pH (by rw [Mq.out];exact hb);go_wp2_with (go_at_call 45;refine (h9 _).mono ?_;rintro r' wr ⟨rfl,rfl⟩)
        go_roundw
        case rel=>exact ⟨1+1,_,by omega,by go_num,rfl,by rw [HJ.out];exact HG.out,Mt.out⟩
        case measure=>simp [intOf]
       | false=>
        rw [hb] at h9;have HJ:Hid (jI t q s (1+1)=jI t q s 1++[oJ t p1 (21+s)]):=by rw [←Mq.out];exact wE (by rw [Mq.out];exact hb)
        have uL:=oa t ht p1 (21+s) (by omega) (by omega) (jm ht (by omega) (by omega)) Ur;rw [HT.out] at uL;rw [show (((21+s:Nat):Int))=21+(s:Int) by push_cast;rfl] at uL;unfold ItE at uL;obtain ⟨y,hy⟩:∃y,oJ t p1 (21+s)=y:=⟨_,rfl⟩;rw [hy] at HJ;simp only [hy] at uL;obtain ⟨l,hl⟩:∃l,dI t q 21++jJ t q (js.take m)++jI t q s 1=l:=⟨_,rfl⟩
        have iO:Hid (l.length≤4096):=by
         unfold Hid;have h1:=kD t q 21 (by omega);have h2:=mO t q (js.take m);have h3:=mV t q s 1;have h4:=Rt.nB q 21;have h5:(js.take m).length≤64:=by rw [List.length_take];omega
         rw [←hl,List.length_append,List.length_append];omega
        have Eo:Hid (dI t q 21++jJ t q (js.take m)++jI t q s (1+1)=l++[y]):=by unfold Hid;rw [HJ.out,←List.append_assoc,hl]
        rw [hl] at HG;obtain ⟨a1,aS,rfl⟩:=Rs.ah HG.out.row;clear hl hy;go_upto_region 20 with (go_at_call 45;refine (h9 _).mono ?_;rintro r' wr ⟨rfl,rfl⟩)
        have dm:GS w wr.drew B C A t (px,(s:Int)) p0 p1 p2:=Mt.out.later (aG _);have dF:Hid (wr.drew.ownsRow n0 103 6 (.slice a1 l.length aS) l.length (kU l)):=Rs.ar HG.out.row (aG _);have oF:Hid (n0≤wr.drew.heap.size):=HG.out.sz;have R1:Hid (B<n0∧w.heap.size≤n0):=⟨HG.out.bt,HG.out.wl⟩;clear Mt HG x0 x1 x2 h9;refine wp_region_held_drew (S:=fun W=>GS w W B C A t (px,(s:Int)) p0 p1 p2) (by kernel_rfl) dm (fun hHeld=>?_);refine aH 0 (.slice a1 l.length aS) rfl ?_;go_frame;refine dG 1 (.agg ct) rfl (fun w hSw=>bB (HT.out ▸ hSw.tr.whole) rfl rfl) ?_;go_frame;refine aH 2 (.int .i64 1) rfl ?_;go_frame;refine aH 3 (.pointer (some ⟨A,1,none⟩)) rfl ?_;go_frame;refine dG 4 (.int .i64 (p1:Int)) rfl (fun w hSw=>by obtain ⟨x0,x1,x2⟩:=Vp.cells hSw.pa;clear hSw;go_simp) ?_;go_frame;refine aH 5 (.pointer (some ⟨C,1,none⟩)) rfl ?_;go_frame;refine dG 6 (.int .i64 (s:Int)) rfl (fun w hSw=>by obtain ⟨x0,x1⟩:=hSw.se.cells;dsimp only at x0 x1;clear hSw;go_simp) ?_;go_frame;refine dh 7 rfl fun K hK=>?_;go_simp
        refine (qC _).mono ?_;rintro r' w5 ⟨rfl,rfl⟩;go_wp2_with fail
        refine hK.out _ _ hHeld (fun aD=>?_);clear hHeld;clear hK K;try go_frame
        refine dh 8 rfl fun K hK=>?_;go_simp
        refine (uL _).mono ?_;rintro r' w6 ⟨rfl,dS⟩;go_wp2_with fail
        have kv:Hid (w6.ownsRow n0 103 6 (.slice a1 l.length aS) l.length (kU l)):=Rs.ar dF.out dS;have yo:Hid (n0≤w6.heap.size):=Nat.le_trans oF.out dS.size;refine hK.out _ _ (aD.later dS) (fun aN=>?_);clear aD dS dF oF;clear hK K;try go_frame
        refine dh 9 rfl fun K hK=>?_;go_simp
        have jB:=aN;refine hK.out _ _ (aN.later (aa _ _)) (fun bK=>?_);clear aN;clear hK K;try go_frame
        refine dh 10 rfl fun Kc hK=>?_;refine ZW rfl 78 rfl _ _ rfl n0 (.slice a1 l.length aS) l rfl (kv.out.alloc _) w6.heap.size y rfl (bD _ _ _) iO.out (by have:=yo.out;simp;omega) ?_;intro v' w7 l_ pY;have EJ:Hid (GI w w7 B t n0 v' (l++[y])):=GI.Vn jB.tr jB.aK kv.out yo.out R1.out.1 R1.out.2 l_ pY;refine hK.out _ _ (jB.app kv.out R1.out.2 pY) (fun lU=>?_);clear bK l_ pY jB;clear hK Kc;try go_frame
        refine aH 11 (v') rfl ?_;go_frame;refine wpAnyH_done (by kernel_rfl) ?_ _;go_wp2_with fail
        go_roundw
        case rel=>exact ⟨1+1,_,by omega,by go_num,rfl,by rw [Eo.out];exact EJ.out,lU⟩
        case measure=>simp [intOf]
      ·rw [show ((2:Nat):Int)=2 from rfl];have lR:p2<21:=by have:=sZ xF 2;rw [L6.out] at this;exact this
       have h9:=Rt.lH q p2 hq (by omega);obtain ⟨x0,x1,x2⟩:=Vp.cells Mt.out.pa
       cases hb:q.testBit p2 with
       | true=>
        rw [hb] at h9;have HJ:Hid (jI t q s (2+1)=jI t q s 2):=pH (by rw [L6.out];exact hb);go_wp2_with (go_at_call 45;refine (h9 _).mono ?_;rintro r' wr ⟨rfl,rfl⟩)
        go_roundw
        case rel=>exact ⟨2+1,_,by omega,by go_num,rfl,by rw [HJ.out];exact HG.out,Mt.out⟩
        case measure=>simp [intOf]
       | false=>
        rw [hb] at h9;have HJ:Hid (jI t q s (2+1)=jI t q s 2++[oJ t p2 (21+s)]):=by rw [←L6.out];exact wE (by rw [L6.out];exact hb)
        have uL:=oa t ht p2 (21+s) (by omega) (by omega) (jm ht (by omega) (by omega)) Ur;rw [HT.out] at uL;rw [show (((21+s:Nat):Int))=21+(s:Int) by push_cast;rfl] at uL;unfold ItE at uL;obtain ⟨y,hy⟩:∃y,oJ t p2 (21+s)=y:=⟨_,rfl⟩;rw [hy] at HJ;simp only [hy] at uL;obtain ⟨l,hl⟩:∃l,dI t q 21++jJ t q (js.take m)++jI t q s 2=l:=⟨_,rfl⟩
        have iO:Hid (l.length≤4096):=by
         unfold Hid;have h1:=kD t q 21 (by omega);have h2:=mO t q (js.take m);have h3:=mV t q s 2;have h4:=Rt.nB q 21;have h5:(js.take m).length≤64:=by rw [List.length_take];omega
         rw [←hl,List.length_append,List.length_append];omega
        have Eo:Hid (dI t q 21++jJ t q (js.take m)++jI t q s (2+1)=l++[y]):=by unfold Hid;rw [HJ.out,←List.append_assoc,hl]
        rw [hl] at HG;obtain ⟨a1,aS,rfl⟩:=Rs.ah HG.out.row;clear hl hy;go_upto_region 20 with (go_at_call 45;refine (h9 _).mono ?_;rintro r' wr ⟨rfl,rfl⟩)
        have dm:GS w wr.drew B C A t (px,(s:Int)) p0 p1 p2:=Mt.out.later (aG _);have dF:Hid (wr.drew.ownsRow n0 103 6 (.slice a1 l.length aS) l.length (kU l)):=Rs.ar HG.out.row (aG _);have oF:Hid (n0≤wr.drew.heap.size):=HG.out.sz;have R1:Hid (B<n0∧w.heap.size≤n0):=⟨HG.out.bt,HG.out.wl⟩;clear Mt HG x0 x1 x2 h9;refine wp_region_held_drew (S:=fun W=>GS w W B C A t (px,(s:Int)) p0 p1 p2) (by kernel_rfl) dm (fun hHeld=>?_);refine aH 0 (.slice a1 l.length aS) rfl ?_;go_frame;refine dG 1 (.agg ct) rfl (fun w hSw=>bB (HT.out ▸ hSw.tr.whole) rfl rfl) ?_;go_frame;refine aH 2 (.int .i64 2) rfl ?_;go_frame;refine aH 3 (.pointer (some ⟨A,2,none⟩)) rfl ?_;go_frame;refine dG 4 (.int .i64 (p2:Int)) rfl (fun w hSw=>by obtain ⟨x0,x1,x2⟩:=Vp.cells hSw.pa;clear hSw;go_simp) ?_;go_frame;refine aH 5 (.pointer (some ⟨C,1,none⟩)) rfl ?_;go_frame;refine dG 6 (.int .i64 (s:Int)) rfl (fun w hSw=>by obtain ⟨x0,x1⟩:=hSw.se.cells;dsimp only at x0 x1;clear hSw;go_simp) ?_;go_frame;refine dh 7 rfl fun K hK=>?_;go_simp
        refine (qC _).mono ?_;rintro r' w5 ⟨rfl,rfl⟩;go_wp2_with fail
        refine hK.out _ _ hHeld (fun aD=>?_);clear hHeld;clear hK K;try go_frame
        refine dh 8 rfl fun K hK=>?_;go_simp
        refine (uL _).mono ?_;rintro r' w6 ⟨rfl,dS⟩;go_wp2_with fail
        have kv:Hid (w6.ownsRow n0 103 6 (.slice a1 l.length aS) l.length (kU l)):=Rs.ar dF.out dS;have yo:Hid (n0≤w6.heap.size):=Nat.le_trans oF.out dS.size;refine hK.out _ _ (aD.later dS) (fun aN=>?_);clear aD dS dF oF;clear hK K;try go_frame
        refine dh 9 rfl fun K hK=>?_;go_simp
        have jB:=aN;refine hK.out _ _ (aN.later (aa _ _)) (fun bK=>?_);clear aN;clear hK K;try go_frame
        refine dh 10 rfl fun Kc hK=>?_;refine ZW rfl 78 rfl _ _ rfl n0 (.slice a1 l.length aS) l rfl (kv.out.alloc _) w6.heap.size y rfl (bD _ _ _) iO.out (by have:=yo.out;simp;omega) ?_;intro v' w7 l_ pY;have EJ:Hid (GI w w7 B t n0 v' (l++[y])):=GI.Vn jB.tr jB.aK kv.out yo.out R1.out.1 R1.out.2 l_ pY;refine hK.out _ _ (jB.app kv.out R1.out.2 pY) (fun lU=>?_);clear bK l_ pY jB;clear hK Kc;try go_frame
        refine aH 11 (v') rfl ?_;go_frame;refine wpAnyH_done (by kernel_rfl) ?_ _;go_wp2_with fail
        go_roundw
        case rel=>exact ⟨2+1,_,by omega,by go_num,rfl,by rw [Eo.out];exact EJ.out,lU⟩
        case measure=>simp [intOf]
      ·rw [show ((3:Nat):Int)=3 from rfl];have HE:Hid (GI w wr B t n0 vl (dI t q 21++jJ t q (js.take (m+1)))):=by unfold Hid;rw [HTJ.out,←List.append_assoc];exact HG.out
       clear qC HG;go_wp2_with fail
       go_roundw
       case rel=>exact ⟨m+1,_,by omega,by go_num,rfl,HE.out⟩
       case measure=>simp [intOf];omega
    ·obtain rfl:m=js.length:=by omega
     have IY:decide ((js.length:Int)<(js.length:Int))=false:=by simp
     rw [List.take_length] at HG;obtain ⟨U,hU⟩:∃U,dI t q 21++jJ t q js=U:=⟨_,rfl⟩;rw [hU] at HG;have HU:Hid (its t (rp ll) js=U):=by unfold Hid;rw [HQ.out];exact hU
     obtain ⟨a1,aS,rfl⟩:=Rs.ah HG.out.row;clear hU;go_wp2_with fail
     go_ret;exact ⟨_,rfl,by rw [HN.out,HU.out];exact HG.out.row,HG.out.aK⟩
end Go.Proofs.YtanaapfobpgibaaGreatDoor
