/- Contract: Read. -/
import Derived.Test.YtanaapfobpgibaaGreatDoorJRcB
open Go.Proofs.Tryz
namespace Go.Proofs.YtanaapfobpgibaaGreatDoor.Rc
open Go.RowKit Go.Maps
open Rs (bM cell_later cq tv kQ ar ah ps iW)
open Bt (Rr tb bA bT a8 dn)
set_option linter.unusedVariables false
set_option linter.unusedSimpArgs false
variable {W:World} {b cap:Nat} {a:Option Addr}
theorem gY:(prog.info? 70).map (·.size)=some 4:=by kernel_rfl
theorem mG (p q:Int) (a b:Option Addr) (l m i j:Nat):(#[.int .i64 p,.int .i64 q,.slice a l i,.slice b m j]:Array Value).all (·.oneCell')=true:=by simp [Value.oneCell']
theorem gO {fn:Func} {p t:Tmp} (hf:fn.results=#[.cell p 70,.tmp t]) (tmps:Array Value) (W:World) (B:Nat) (cs:Array Value) (hp:tmps[p]? =some (.pointer (some ⟨B,0,none⟩))) (hb:bh W B cs) (hc:cs.size=4):
  (results fn tmps).run prog W=.ok (.tuple #[.agg cs,tmps.getD t undef]) W:=by
 have h:=run_loadVar_row W B _ 70 _ _ _ hb underlying70 rfl (by rw [hc];exact gY);simp [results,hf,hp,asAddr,h]
theorem vC {l:List Int} (h:W.ownsRow b 3 1 (.slice a l.length cap) l.length (cq l)):bM W a l:=by
 rcases h.2 with ⟨e,h0⟩ | ⟨g,cap',cur,e,h3,h4,h5,h6,h7,h8⟩
 ·intro i hi;omega
 ·cases e
  intro i hi;refine ⟨g,0,rfl,?_⟩;rw [Nat.zero_add,h.cellAt i (by omega)];simp [Rs.cq,hi]
theorem rT {l:List (Int×Int)} (h:W.ownsRow b 113 2 (.slice a l.length cap) l.length (ps l)):oQ W a l:=by
 obtain ⟨a',cap',e,hr,_⟩:=Rs.Am h;cases e
 intro i hi;obtain ⟨b,e,c0,c1⟩:=hr i hi;exact ⟨b,0,e,by rw [Nat.zero_add];exact c0,by rw [Nat.zero_add];exact c1⟩
section
variable {w W W':World} {R g K A n0:Nat} {p p':Nat×Bool} {s:ByteArray} {e f:Int} {vL vJ v':Value} {L:List Int} {J:List (Int×Int)}
theorem RS.ZU (h:RS w W R g K A n0 p s e f vL vJ L J) {y:Int} (hown:W'.ownsRow n0 3 1 v' (L++[y]).length (cq (L++[y]))) (hg:W.grownBy W' vL.ownBlock):bh W' A #[.int .i64 e,.int .i64 f,vL,vJ]∧RS w (W'.setCell ⟨A,2,none⟩ v') R g K A n0 p s e f v' vJ (L++[y]) J:=by
 obtain ⟨l1,l2,l3,l4⟩:=h.lt;obtain ⟨m1,m2,m3,m4⟩:=h.le;have a1:g≠A:=Ne.symm (ay h.rc h.rr.blk (by decide));have a2:K≠A:=Ne.symm (ay h.rc h.tk (by decide));have blk:∀k,k<n0→W'.heap[k]? =W.heap[k]? :=fun k hk=>hg.block k (by have:=h.sz;omega) (Rs.b9 h.rl hk)
 have far:∀k,n0≤k→k<W'.heap.size→(W'.setCell ⟨A,2,none⟩ v').heap[k]? =W'.heap[k]? :=fun k IP mj=>Rt.au (by omega) _ _
 have Li:bh W' A #[.int .i64 e,.int .i64 f,vL,vJ]:=(blk _ l4).trans h.rc;refine ⟨Li,⟨(Rt.au a1 _ _).trans ((blk _ l2).trans h.rr.blk),h.rr.le⟩,(Rt.au a2 _ _).trans ((blk _ l3).trans h.tk),Rt.aO Li 2 v',(Rt.au h.ne _ _).trans ((blk _ l1).trans h.rs),Rs.aY hown far,Rs.aY (yR h.rj h.rl (by decide) hg) far,?_,h.ne,h.le,h.lt,?_⟩
 ·refine Below.setCell (p:=⟨A,2,none⟩) ?_ m4 _
  exact Below.grown h.aK hg h.aK.size fun j hj=>by
   rcases Nat.lt_or_ge j n0 with hlt | BN
   ·exact absurd hj.symm (Rs.b9 h.rl hlt)
   ·omega
 ·have:=hg.size;have:=h.sz;simp;omega
theorem RS.adt (h:RS w W R g K A n0 p s e f vL vJ L J) {y:Int×Int} (hown:W'.ownsRow n0 113 2 v' (J++[y]).length (ps (J++[y]))) (hg:W.grownBy W' vJ.ownBlock):bh W' A #[.int .i64 e,.int .i64 f,vL,vJ]∧RS w (W'.setCell ⟨A,3,none⟩ v') R g K A n0 p s e f vL v' L (J++[y]):=by
 obtain ⟨l1,l2,l3,l4⟩:=h.lt;obtain ⟨m1,m2,m3,m4⟩:=h.le;have a1:g≠A:=Ne.symm (ay h.rc h.rr.blk (by decide));have a2:K≠A:=Ne.symm (ay h.rc h.tk (by decide));have blk:∀k,k<n0→W'.heap[k]? =W.heap[k]? :=fun k hk=>hg.block k (by have:=h.sz;omega) (Rs.b9 h.rj hk)
 have far:∀k,n0≤k→k<W'.heap.size→(W'.setCell ⟨A,3,none⟩ v').heap[k]? =W'.heap[k]? :=fun k IP mj=>Rt.au (by omega) _ _
 have Li:bh W' A #[.int .i64 e,.int .i64 f,vL,vJ]:=(blk _ l4).trans h.rc;refine ⟨Li,⟨(Rt.au a1 _ _).trans ((blk _ l2).trans h.rr.blk),h.rr.le⟩,(Rt.au a2 _ _).trans ((blk _ l3).trans h.tk),Rt.aO Li 3 v',(Rt.au h.ne _ _).trans ((blk _ l1).trans h.rs),Rs.aY (yR h.rl h.rj (by decide) hg) far,Rs.aY hown far,?_,h.ne,h.le,h.lt,?_⟩
 ·refine Below.setCell (p:=⟨A,3,none⟩) ?_ m4 _
  exact Below.grown h.aK hg h.aK.size fun j hj=>by
   rcases Nat.lt_or_ge j n0 with hlt | BN
   ·exact absurd hj.symm (Rs.b9 h.rj hlt)
   ·omega
 ·have:=hg.size;have:=h.sz;simp;omega
end
theorem Oy (T:List Bool) (p:Nat×Bool) (k:Nat):zb (vZ T 8 p (k+1))=zb (vZ T 8 p k)++[((dW T (yV T 8 p k) 8).1:Int)]:=by simp [vZ,zb]
theorem N1 (T:List Bool) (p:Nat×Bool) (k:Nat):za (vN T p (k+1))=za (vN T p k)++[(((dW T (vM T p k) 8).1:Int),((dW T (dW T (vM T p k) 8).2 6).1:Int))]:=by simp [vN,za]
theorem od (l:List (Int×Int)) (p:Int×Int):ps (l++[p])=ps l++[.int .i64 p.1,.int .i64 p.2]:=by simp [Rs.ps]
theorem YD (T:List Bool) (p:Nat×Bool) (k:Nat):(zb (vZ T 8 p k)).length=k:=by rw [F6,FH]
theorem YC (T:List Bool) (p:Nat×Bool) (k:Nat):(za (vN T p k)).length=k:=by rw [F5,Fx]
set_option maxRecDepth 100000 in
set_option maxHeartbeats 4000000 in
theorem gj (s:ByteArray) (w:World) (hs:s.size<1125899906842624):
  Calls prog 97 #[.string s] w fun r w'=>ra w w' (tb (bA s)) r:=by
 have dm:=RS.new w s;have Xc:Hid (∀{W:World} {K g:Nat} {p:Nat×Bool} (q:Nat),Rr W g p.1 s→nQ W K g p.2→1≤q→q≤62→Calls prog 132 #[.pointer (some ⟨K,0,none⟩),.int .i64 (q:Int)] W fun e w'=>e=.returned (.int .i64 ((dW (tb (bA s)) p q).1:Int))∧Rr w' g (dW (tb (bA s)) p q).2.1 s∧nQ w' K g (dW (tb (bA s)) p q).2.2∧Bt.Kept (fun k=>k=g∨k=K) W w'):=fun q hr ht h1 h2=>ek q hr ht hs h1 h2
 have HWH:Hid (∀{W:World} {K g:Nat} {p:Nat×Bool},Rr W g p.1 s→nQ W K g p.2→Calls prog 133 #[.pointer (some ⟨K,0,none⟩)] W fun e w'=>e=.returned (.bool (!p.2&&dn (tb (bA s)) p.1))∧Below W.heap.size W w'):=fun hr ht=>nV hr ht hs
 obtain ⟨T,hT⟩:∃T,tb (bA s)=T:=⟨_,rfl⟩;rw [hT] at Xc HWH;rw [hT];clear hT hs;go_enter func97,ntmps97;go_upto_region 3 with (go_at_call 131;refine (Bt.gj s _).mono ?_;rintro r w' ⟨rfl,rfl⟩)
 generalize (((w.alloc (.cells #[.int .i64 0,.int .i64 0,.slice none 0 0,.slice none 0 0] 70)).alloc (.cells #[.int .i64 0,.string s] 288)).alloc (.cells #[.pointer (some ⟨w.heap.size+1,0,none⟩),.bool false] 247)).alloc (.cells #[.int .i64 0,.int .i64 0,.slice none 0 0,.slice none 0 0] 70)=w0 at *;have Vu:Hid (w.heap.size≤w.heap.size+4):=by unfold Hid;omega
 obtain ⟨n0,gZ⟩:∃n,w.heap.size+4=n:=⟨_,rfl⟩;rw [gZ] at dm Vu;obtain ⟨A,hA⟩:∃n,w.heap.size+3=n:=⟨_,rfl⟩;obtain ⟨K,hK⟩:∃n,w.heap.size+2=n:=⟨_,rfl⟩;obtain ⟨g,hg⟩:∃n,w.heap.size+1=n:=⟨_,rfl⟩;obtain ⟨R,hR⟩:∃n,w.heap.size=n:=⟨_,rfl⟩;try rw [show w.heap.size+1+1+1=w.heap.size+3 from rfl]
 try rw [show w.heap.size+1+1=w.heap.size+2 from rfl]
 rw [hA,hK,hg,hR] at dm;rw [hA,hK,hg,hR];clear gZ hA hK hg hR;have hn:=Xc.out 8 dm.rr dm.tk (by omega) (by omega);rw [show dW T ((0:Nat),false) 8=e1 T from rfl,show ((e1 T).1:Int)=kN T from rfl] at hn;go_wp2_with fail
 refine hn.mono ?_;rintro r w1 ⟨rfl,hr1,Dc,mj⟩;have hS1:=dm.num hr1 Dc mj;obtain ⟨c0,c1,c2,c3⟩:=hS1.rc.cells;have f0:=Rt.ax hS1.rc 0;have gA:=hS1.set 0 (.int .i64 (kN T)) rfl hS1.rl hS1.rj;clear hn dm hr1 Dc mj hS1;go_upto_region 4 with (fail)
 clear c0 c1 c2 c3 f0;generalize w1.setCell ⟨A,0,none⟩ (.int .i64 (kN T))=w2 at *;have hn:=Xc.out 16 gA.rr gA.tk (by omega) (by omega);rw [show dW T (e1 T).2 16=e2 T from rfl,show ((e2 T).1:Int)=kM T from rfl] at hn;go_wp2_with fail
 refine hn.mono ?_;rintro r w3 ⟨rfl,hr1,Dc,mj⟩;have pJ:=gA.num hr1 Dc mj;obtain ⟨c0,c1,c2,c3⟩:=pJ.rc.cells;have f0:=Rt.ax pJ.rc 1;have hS4:=pJ.set 1 (.int .i64 (kM T)) rfl pJ.rl pJ.rj;clear hn gA hr1 Dc mj pJ;go_upto_region 5 with (fail)
 clear c0 c1 c2 c3 f0;generalize w3.setCell ⟨A,1,none⟩ (.int .i64 (kM T))=w4 at *;have hn:=Xc.out 7 hS4.rr hS4.tk (by omega) (by omega);rw [show dW T (e2 T).2 7=e3 T from rfl] at hn;go_wp2_with fail
 refine hn.mono ?_;rintro r w5 ⟨rfl,hr1,Dc,mj⟩;have xM:=hS4.num hr1 Dc mj;have RM:Hid (RS w w5 R g K A n0 (yV T 8 (e3 T).2 0) s (kN T) (kM T) (.slice none 0 0) (.slice none 0 0) (zb (vZ T 8 (e3 T).2 0)) []):=xM;clear hn hS4 hr1 Dc mj xM;have ru:(e3 T).1<128:=kA T (e2 T).2 7;obtain ⟨nl,Uk⟩:∃n,(e3 T).1=n:=⟨_,rfl⟩;have pZ:Hid ((e3 T).1=nl):=Uk;rw [Uk] at ru;rw [Uk];clear Uk;go_wp2_with fail
 go_loopw [16] (fun i wx=>∃k:Nat,k≤nl∧i=.int .i64 (k:Int)∧∃vL,RS w wx R g K A n0 (yV T 8 (e3 T).2 k) s (kN T) (kM T) vL (.slice none 0 0) (zb (vZ T 8 (e3 T).2 k)) []) (fun i _=>nl - (intOf i).toNat)
 case atStart=>exact ⟨0,by omega,rfl,_,RM.out⟩
 case round=>
  obtain ⟨k,hk,rfl,vL,hS⟩:=hrel;obtain ⟨aL,cL,rfl⟩:=ah hS.rl;have HS:Hid (RS w wr R g K A n0 (yV T 8 (e3 T).2 k) s (kN T) (kM T) (.slice aL (zb (vZ T 8 (e3 T).2 k)).length cL) (.slice none 0 0) (zb (vZ T 8 (e3 T).2 k)) []):=hS;clear hS RM;have HLEN:Hid ((zb (vZ T 8 (e3 T).2 k)).length=k):=YD T _ k;by_cases cE:k<nl
  ·have i2:(k:Int)<(nl:Int):=by omega
   have Ha:Hid (zb (vZ T 8 (e3 T).2 (k+1))=zb (vZ T 8 (e3 T).2 k)++[((dW T (yV T 8 (e3 T).2 k) 8).1:Int)]):=Oy T _ k;have Xb:Hid (yV T 8 (e3 T).2 (k+1)=(dW T (yV T 8 (e3 T).2 k) 8).2):=rfl;obtain ⟨l,hl⟩:∃l,zb (vZ T 8 (e3 T).2 k)=l:=⟨_,rfl⟩;obtain ⟨p,hp⟩:∃p,yV T 8 (e3 T).2 k=p:=⟨_,rfl⟩;rw [hl] at Ha HS HLEN;rw [hp] at Ha Xb HS;clear hl hp;obtain ⟨x,hx⟩:∃x,dW T p 8=x:=⟨_,rfl⟩;have Lr:=HS.out.later (aG wr);have hn:=Xc.out 8 Lr.rr Lr.tk (by omega) (by omega);rw [hx] at hn Ha Xb;clear hx;go_upto_region 7 with (fail)
   have hHeld:wr.drew.cell? ⟨A,2,none⟩=some (.slice aL l.length cL):=Lr.rc.cells.2.2.1;have HT0:Hid (RS w wr.drew R g K A n0 p s (kN T) (kM T) (.slice aL l.length cL) (.slice none 0 0) l []):=Lr;clear Lr HS;refine Till.region [2,3,4] (fun W=>W.cell? ⟨A,2,none⟩=some (.slice aL l.length cL)) (by kernel_rfl) ?_;refine Till.MX (i:=0) (oi:=⟨some 18,Op.fieldAddr 70 (.tmp 5) 2,_,_,_,none⟩) (x:=.pointer (some ⟨A,2,none⟩)) rfl (by decide) (by kernel_rfl) (by kernel_rfl) (by kernel_rfl) (fun _ _ _ h=>h) (Or.inl ⟨by rfl,fun w _=>by go_simp⟩) hHeld ?_;go_frame;refine Till.take (i:=1) 4 (oi:=⟨some 19,Op.load 41 (.tmp 18),_,_,_,none⟩) (x:=(.slice aL l.length cL)) rfl (by decide) (by kernel_rfl) (by decide) (by kernel_rfl) (by kernel_rfl) (by kernel_rfl) (by kernel_rfl) (fun _ _ _ h=>h) (Or.inl ⟨by rfl,fun w hSw=>by (try dsimp only at hSw);go_simp⟩) hHeld ?_;go_frame;refine Till.one (i:=2) (o:=⟨some 20,Op.call {callee:=Callee.value (Operand.func 132),args:=#[.tmp 4,Operand.const (Value.int IntKind.i64 8)],argTypes:=_},_,_,_,none⟩) rfl (by kernel_rfl) (fun K9 bU=>?_);go_simp
   refine hn.mono ?_;rintro r w2 ⟨rfl,hr2,ht2,hk2⟩;have gA:=HT0.out.num hr2 ht2 hk2;have eW:Hid (RS w w2 R g K A n0 x.2 s (kN T) (kM T) (.slice aL l.length cL) (.slice none 0 0) l []):=gA;have aD:=gA.rc.cells.2.2.1;clear gA hr2 ht2 hk2 hn HT0 hHeld;go_wp2_with fail
   refine bU.out _ _ (fun _=>aD) ?_;clear bU K9;try go_frame
   refine Till.one (i:=3) (o:=⟨some 21,Op.buildSlice 41 1 #[(0,.tmp 20)],_,_,_,none⟩) rfl (by kernel_rfl) (fun K9 bU=>?_);go_simp
   refine bU.out _ _ (fun _=>bz aD _) ?_;clear bU K9;try go_frame
   refine Till.one (i:=4) (o:=⟨some 22,Op.call {callee:=Callee.builtin Builtin.append,args:=#[.tmp 19,.tmp 21],argTypes:=_},_,_,_,none⟩) rfl (by kernel_rfl) (fun K9 bU=>?_);refine ZU rfl 22 rfl _ _ rfl n0 (.slice aL l.length cL) l rfl (eW.out.rl.alloc _) w2.heap.size (x.1:Int) rfl (cell_one_new _ _ _) (by have:=HLEN.out;omega) (by have:=eW.out.sz;rw [World.size_alloc];omega) ?_;intro v' w7 l_ pY;obtain ⟨av,cv,rfl⟩:=ah l_;have hA7:=(eW.out.later (aa _ _)).ZU l_ pY;obtain ⟨z0,z1,z2,z3⟩:=hA7.1.cells;have f7:=Rt.ax hA7.1 2;have SC:Hid (RS w (w7.setCell ⟨A,2,none⟩ (.slice av (l++[(x.1:Int)]).length cv)) R g K A n0 x.2 s (kN T) (kM T) (.slice av (l++[(x.1:Int)]).length cv) (.slice none 0 0) (l++[(x.1:Int)]) []):=hA7.2;clear pY l_ hA7 eW aD;refine bU.out _ _ (fun h=>absurd h (by rintro ⟨c,hc,he⟩;revert hc he;decide+revert)) ?_;clear bU K9;try go_frame
   refine Till.rest (by kernel_rfl) ?_;refine wpAny_take (i:=5) (oi:=⟨some 23,Op.fieldAddr 70 (.tmp 5) 2,_,_,_,none⟩) (v:=.pointer (some ⟨A,2,none⟩)) rfl (by kernel_rfl) (by kernel_rfl) (by kernel_rfl) (fun _ _ _ h=>h) (Or.inl ⟨by rfl,fun w=>by go_simp⟩) ?_;go_frame;refine wpAny_ready (rs:=[6]) (by kernel_rfl) (by simp) ?_;refine AllReady.cons (o:=⟨none,Op.store 41 (.tmp 23) (.tmp 22),_,_,_,none⟩) rfl (fun K9 bU=>?_) AllReady.nil;have HK9:Shut _:=bU;clear bU;go_simp
   refine HK9.out _ _ ?_;clear HK9 K9;try go_frame
   refine wpAny_done (by kernel_rfl) ?_ _;go_wp2_with fail
   go_roundw
   case rel=>exact ⟨k+1,by omega,by go_num,_,by have h:=SC.out;rw [show (l++[(x.1:Int)]).length=l.length+1 by simp] at h;rw [Ha.out,Xb.out];exact h⟩
   case measure=>simp [intOf];omega
  ·have iX:decide ((k:Int)<(nl:Int))=false:=by simp;omega
   obtain rfl:k=nl:=by omega
   have eW:Hid (RS w wr R g K A n0 (s4 T) s (kN T) (kM T) (.slice aL (jh T).length cL) (.slice none 0 0) (jh T) []):=by
    have h:=HS.out;unfold Hid s4 jh;rw [pZ.out];exact h
   clear HS;obtain ⟨wA,hwA⟩:∃wA,wr=wA:=⟨_,rfl⟩;rw [hwA] at eW ⊢;clear hwA;have iO:Hid ((jh T).length=k):=by unfold Hid;rw [lG,pZ.out]
   have hn:=Xc.out 7 eW.out.rr eW.out.tk (by omega) (by omega);rw [show dW T (s4 T) 7=e5 T from rfl] at hn;go_wp2_with fail
   refine hn.mono ?_;rintro r w6 ⟨rfl,hr1,Dc,mj⟩;have JT:Hid (RS w w6 R g K A n0 (vM T (e5 T).2 0) s (kN T) (kM T) (.slice aL (jh T).length cL) (.slice none 0 0) (jh T) (za (vN T (e5 T).2 0))):=eW.out.num hr1 Dc mj;clear hn eW hr1 Dc mj;have ow:(e5 T).1<128:=kA T (s4 T) 7;obtain ⟨nj,Ul⟩:∃n,(e5 T).1=n:=⟨_,rfl⟩;have lu:Hid ((e5 T).1=nj):=Ul;rw [Ul] at ow;rw [Ul];clear Ul;go_wp2_with fail
   go_loopw [26] (fun i wx=>∃m:Nat,m≤nj∧i=.int .i64 (m:Int)∧∃vJ,RS w wx R g K A n0 (vM T (e5 T).2 m) s (kN T) (kM T) (.slice aL (jh T).length cL) vJ (jh T) (za (vN T (e5 T).2 m))) (fun i _=>nj - (intOf i).toNat)
   case atStart=>exact ⟨0,by omega,rfl,_,JT.out⟩
   case round=>
    obtain ⟨m,hm,rfl,vJ,hS⟩:=hrel;obtain ⟨aJ,cJ,rfl⟩:=ah hS.rj;have HS:Hid (RS w wr R g K A n0 (vM T (e5 T).2 m) s (kN T) (kM T) (.slice aL (jh T).length cL) (.slice aJ (za (vN T (e5 T).2 m)).length cJ) (jh T) (za (vN T (e5 T).2 m))):=hS;clear hS JT;have HLEN:Hid ((za (vN T (e5 T).2 m)).length=m):=YC T _ m;by_cases hmn:m<nj
    ·have i2:(m:Int)<(nj:Int):=by omega
     have Ha:Hid (za (vN T (e5 T).2 (m+1))=za (vN T (e5 T).2 m)++[(((dW T (vM T (e5 T).2 m) 8).1:Int),((dW T (dW T (vM T (e5 T).2 m) 8).2 6).1:Int))]):=N1 T _ m;have Xb:Hid (vM T (e5 T).2 (m+1)=(dW T (dW T (vM T (e5 T).2 m) 8).2 6).2):=rfl;obtain ⟨l,hl⟩:∃l,za (vN T (e5 T).2 m)=l:=⟨_,rfl⟩;obtain ⟨p,hp⟩:∃p,vM T (e5 T).2 m=p:=⟨_,rfl⟩;rw [hl] at Ha HS HLEN;rw [hp] at Ha Xb HS;clear hl hp;have hn:=Xc.out 8 HS.out.rr HS.out.tk (by omega) (by omega);obtain ⟨x,hx⟩:∃x,dW T p 8=x:=⟨_,rfl⟩;rw [hx] at hn Ha Xb;clear hx;go_wp2_with fail
     refine hn.mono ?_;rintro r w8 ⟨rfl,hr1,Dc,mj⟩;have hS8:=HS.out.num hr1 Dc mj;clear hn HS hr1 Dc mj;have hn:=Xc.out 6 hS8.rr hS8.tk (by omega) (by omega);obtain ⟨y,hy⟩:∃y,dW T x.2 6=y:=⟨_,rfl⟩;rw [hy] at hn Ha Xb;clear hy;go_wp2_with fail
     refine hn.mono ?_;rintro r w9 ⟨rfl,hr1,Dc,mj⟩;have UE:=hS8.num hr1 Dc mj;have HS9:Hid (RS w w9 R g K A n0 y.2 s (kN T) (kM T) (.slice aL (jh T).length cL) (.slice aJ l.length cJ) (jh T) l):=UE;clear hn hS8 hr1 Dc mj;obtain ⟨c0,c1,c2,c3⟩:=UE.rc.cells;have hrow:=UE.rj;have hsz:=UE.sz;clear UE;obtain ⟨i0,hi,hz0,hz1,hz2⟩:=cR;have hlen:l.length≤4096:=by have:=HLEN.out;omega
     obtain ⟨xv,hxv⟩:∃v:Int,(x.1:Int)=v:=⟨_,rfl⟩;obtain ⟨yv,hyv⟩:∃v:Int,(y.1:Int)=v:=⟨_,rfl⟩;rw [hxv,hyv] at Ha;rw [hxv,hyv];clear hxv hyv;go_wp2_with (at_builtin;(refine wpList_append_own _ rfl _ _ 51 rfl n0 113 i0 (.agg #[.int .i64 0,.int .i64 0]) 2 16 underlying51 hi hz0 hz1 hz2 rfl (by decide) (.slice aJ l.length cJ) l.length (ps l) rfl (hrow.alloc _) ⟨w9.heap.size,0,none⟩ 1 1 [.int .i64 xv,.int .i64 yv] rfl rfl (bD _ _ _) (by simp [Value.oneCell']) (by unfold maxLen;omega) (by omega) (by simp;omega) ?_);intro v' w3 hown' hg3 _;obtain ⟨a2,dc,hv2⟩:=Rs.ah hown';subst hv2;have rb:Hid (bh w3 A #[.int .i64 (kN T),.int .i64 (kM T),.slice aL (jh T).length cL,.slice aJ l.length cJ]∧RS w (w3.setCell ⟨A,3,none⟩ (.slice a2 (l.length+1) dc)) R g K A n0 y.2 s (kN T) (kM T) (.slice aL (jh T).length cL) (.slice a2 (l.length+1) dc) (jh T) (l++[(xv,yv)])):=(HS9.out.later (aa _ _)).adt (y:=(xv,yv)) (by rw [od,List.length_append];exact hown') hg3;clear hown' hg3;have hcB:w3.cell? ⟨A,3,none⟩=some (.slice aJ l.length cJ):=rb.out.1.cells.2.2.2;have hfB:w3.frozen? ⟨A,3,none⟩=false:=Rt.ax rb.out.1 3)
     go_roundw
     case rel=>exact ⟨m+1,by omega,by go_num,_,by rw [Ha.out,Xb.out];exact rb.out.2⟩
     case measure=>simp [intOf];omega
    ·have ac8:decide ((m:Int)<(nj:Int))=false:=by simp;omega
     obtain rfl:m=nj:=by omega
     have eW:Hid (RS w wr R g K A n0 (s6 T) s (kN T) (kM T) (.slice aL (jh T).length cL) (.slice aJ (n_ T).length cJ) (jh T) (n_ T)):=by
      have h:=HS.out;unfold Hid s6 n_;rw [lu.out];exact h
     clear HS;have iN:Hid (xZ T=((!(s6 T).2&&dn T (s6 T).1)&&fw (kN T) (kM T) (jh T) (n_ T))):=rfl;have F7:=HWH.out eW.out.rr eW.out.tk
     cases dZ:(!(s6 T).2&&dn T (s6 T).1) with
     | false=>
      rw [dZ] at F7 iN;clear dZ;go_wp2_with fail
      refine F7.mono ?_;rintro r xA ⟨rfl,m7⟩;have AU:=eW.out.later m7;have RN:Hid (RS w xA R g K A n0 (s6 T) s (kN T) (kM T) (.slice aL (jh T).length cL) (.slice aJ (n_ T).length cJ) (jh T) (n_ T)):=AU;have Wl:=AU.rs;clear F7 eW m7 AU;go_wp2_with (refine gN gY (cs:=rz) rfl Wl #[.int .i64 0,.int .i64 0,.slice none 0 0,.slice none 0 0] rfl (mG _ _ _ _ _ _ _ _) rfl _ _ rfl rfl rfl ?_)
      refine bodyPost_ret (gO (p:=2) (t:=3) rfl _ _ R rz rfl (Rt.ai Wl _) rfl) rfl ?_;exact ra.no (by rw [iN.out];rfl) (Rt.ag RN.out.le.1 RN.out.aK _)
     | true=>
      rw [dZ] at F7 iN;clear dZ;go_wp2_with fail
      refine F7.mono ?_;rintro r xA ⟨rfl,m7⟩;have AU:=eW.out.later m7;have RN:Hid (RS w xA R g K A n0 (s6 T) s (kN T) (kM T) (.slice aL (jh T).length cL) (.slice aJ (n_ T).length cJ) (jh T) (n_ T)):=AU;obtain ⟨c0,c1,c2,c3⟩:=AU.rc.cells;have xG:=eG (kN T) (kM T) aL aJ cL cJ (jh T) (n_ T) xA (vC AU.rl) (rT AU.rj);clear F7 eW m7 AU
      cases hbr:fw (kN T) (kM T) (jh T) (n_ T) with
      | false=>
       rw [hbr] at xG iN;clear hbr;go_wp2_with fail
       refine xG.mono ?_;rintro r R9 ⟨rfl,m6⟩;have Dp:=RN.out.later m6;have Ei:Hid (RS w R9 R g K A n0 (s6 T) s (kN T) (kM T) (.slice aL (jh T).length cL) (.slice aJ (n_ T).length cJ) (jh T) (n_ T)):=Dp;have Wl:=Dp.rs;clear xG Dp m6 c0 c1 c2 c3;go_wp2_with (refine gN gY (cs:=rz) rfl Wl #[.int .i64 0,.int .i64 0,.slice none 0 0,.slice none 0 0] rfl (mG _ _ _ _ _ _ _ _) rfl _ _ rfl rfl rfl ?_)
       refine bodyPost_ret (gO (p:=2) (t:=3) rfl _ _ R rz rfl (Rt.ai Wl _) rfl) rfl ?_;exact ra.no (by rw [iN.out];rfl) (Rt.ag Ei.out.le.1 Ei.out.aK _)
      | true=>
       rw [hbr] at xG iN;clear hbr;go_wp2_with fail
       refine xG.mono ?_;rintro r R9 ⟨rfl,m6⟩;have Dp:=RN.out.later m6;have Ei:Hid (RS w R9 R g K A n0 (s6 T) s (kN T) (kM T) (.slice aL (jh T).length cL) (.slice aJ (n_ T).length cJ) (jh T) (n_ T)):=Dp;have Wl:=Dp.rs;clear c0 c1 c2 c3;obtain ⟨c0,c1,c2,c3⟩:=Dp.rc.cells;clear xG Dp m6;go_wp2_with (refine gN gY (cs:=rz) rfl Wl #[.int .i64 (kN T),.int .i64 (kM T),.slice aL (jh T).length cL,.slice aJ (n_ T).length cJ] rfl (mG _ _ _ _ _ _ _ _) rfl _ _ rfl rfl rfl ?_)
       refine bodyPost_ret (gO (p:=2) (t:=3) rfl _ _ R _ rfl (Rt.ai Wl _) rfl) rfl ?_;have hlt:=Ei.out.lt;have hle:=Ei.out.le;have far:∀k,n0≤k→k<R9.heap.size→(R9.setRow R #[.int .i64 (kN T),.int .i64 (kM T),.slice aL (jh T).length cL,.slice aJ (n_ T).length cJ]).heap[k]? =R9.heap[k]? :=fun k h1 h2=>Rt.aq (by omega) _
       exact ra.yes (by rw [iN.out];rfl) (Rs.aY Ei.out.rl far) (Rs.aY Ei.out.rj far) Vu.out (Rt.ag hle.1 Ei.out.aK _)
end Go.Proofs.YtanaapfobpgibaaGreatDoor.Rc
