/- PlD, PlE, joined. -/
import Derived.Test.YtanaapfobpgibaaGreatDoorJPlC
open Go.Proofs.Tryz
set_option maxHeartbeats 2000000
namespace Go.Proofs.YtanaapfobpgibaaGreatDoor
open Go.RowKit Go.Maps Go.Great
open Rt (Ky zK bF bq l9 kI cu)
open Rs (En zE aU bg cN bM iC ps ft b6 evs eA mo pX xD ud Tb)
set_option linter.unusedVariables false
set_option linter.unusedSimpArgs false
/- The arguments, boxed, and the answer's places. -/
variable {n t u:Tr} {J L:List Int} {ops:Array Oper} {o:Oper} {a:Act} {W w:World} {Q:Exit→Act→World→Prop} {B D K N:Nat} {c:Array Value} {g:Nat→En} {vj vl:Value} {lj ll:List (Int×Int)} {P:Program}
structure NX (w W:World) (B C K D:Nat) (t:Tr) (aL aJ:Option Addr) (nL nJ cL cJ:Nat):Prop where
 tb:TB w W B C t aL aJ nL nJ cL cJ
 ze:az W K (tz 0)
 rk:b7 W D cQ
 gK:w.heap.size≤K
 gD:w.heap.size≤D
theorem NX.later {w W W':World} {B C K D:Nat} {t:Tr} {aL aJ:Option Addr} {nL nJ cL cJ:Nat} (h:NX w W B C K D t aL aJ nL nJ cL cJ) (hb:Below W.heap.size W W'):NX w W' B C K D t aL aJ nL nJ cL cJ:=⟨h.tb.later hb,h.ze.later hb,(hb.block D (Array.getElem?_eq_some_iff.1 h.rk).1).trans h.rk,h.gK,h.gD⟩
theorem NX.new (w:World) (t:Tr) (aL aJ:Option Addr) (nL nJ cL cJ:Nat):NX w ((((w.alloc (.cells (aC t) 39)).alloc (.cells #[.slice aL nL cL,.slice aJ nJ cJ] 43)).alloc (.cells (aC (tz 0)) 39)).alloc (.cells cQ 54)) w.heap.size (w.heap.size+1) (w.heap.size+2) (w.heap.size+3) t aL aJ nL nJ cL cJ:=by
 have h1:=TB.new w t aL aJ nL nJ cL cJ;generalize hW:(w.alloc (.cells (aC t) 39)).alloc (.cells #[.slice aL nL cL,.slice aJ nJ cJ] 43)=W at *;have hs:W.heap.size=w.heap.size+2:=by rw [←hW];simp
 have h2:=az.new W (tz 0);have hb2:=cG W (tz 0);have h3:=heap_alloc_last (W.alloc (.cells (aC (tz 0)) 39)) (.cells cQ 54);have hb3:=aa (W.alloc (.cells (aC (tz 0)) 39)) (.cells cQ 54);rw [World.size_alloc,hs] at h3;rw [hs] at h2;exact ⟨(h1.later hb2).later hb3,h2.later hb3,h3,by omega,by omega⟩
theorem X_ (h:Mm t L J≠0):b_ t L J=Mm t L J:=by
 unfold Mm at *
 cases hk:gu t with
 | false=>rw [Aj hk];rfl
 | true=>
  rw [hk,if_pos rfl] at h;rw [if_pos rfl];by_cases h2:t.ep=200
  ·rw [r_ hk h2,if_pos h2]
  ·rw [if_neg h2] at h ⊢;exact Ai hk h2 h
theorem Vo (h:Mm t L J=0):gu t=true∧¬t.ep=200∧ft t.ro L J=0:=by
 unfold Mm at h
 cases hk:gu t with
 | false=>rw [hk] at h;cases h
 | true=>
  rw [hk,if_pos rfl] at h;by_cases h2:t.ep=200
  ·rw [if_pos h2] at h;cases h
  ·rw [if_neg h2] at h;exact ⟨rfl,h2,h⟩
theorem eE {rest:List Oper} (h:az w B t) (hc:aC u=c) (hgd:o.guard=none) (x y:Operand) (ho:o.op=.store 39 x y)
  (hx:a.eval x=.pointer (some ⟨B,0,none⟩)) (hy:a.eval y=.agg c) (k:wpList prog ops Q rest (a.put o.dst undef) (w.setRow B c)):wpList prog ops Q (o::rest) a w:=by
 subst hc;exact M8 h hgd x y ho hx hy k
theorem Jy {rest:List Oper} (hc:aC (tz 0)=c) (hg:o.guard=none) (ho:o.op=.build 39 #[]) (k:wpList prog ops Q rest (a.put o.dst (.agg c)) w):wpList prog ops Q (o::rest) a w:=by
 subst hc;exact wpList_buildTo hg 39 #[] ho _ rfl (aC (tz 0)) (ZC a) k
theorem j8:cQ.all (·.oneCell')=true:=by simp [cQ,Value.oneCell']
theorem bw:cQ.size=4:=rfl
theorem NX.Nf {C:Nat} {aL aJ:Option Addr} {nL nJ cL cJ:Nat} (h:NX w W B C K D t aL aJ nL nJ cL cJ) (u:Tr) (hc:aC u=c):az (W.setRow K c) K u∧b7 (W.setRow K c) D cQ∧Below w.heap.size w (W.setRow K c):=by
 subst hc;exact ⟨h.ze.row u,(Rt.aq (ay h.rk h.ze (by decide)) _).trans h.rk,Rt.ag h.gK h.tb.aK _⟩
theorem Yt {rest:List Oper} (h:bg w B g) (hc:aU g=c) (hgd:o.guard=none) (x:Operand) (ho:o.op=.load 37 x) (hx:a.eval x=.pointer (some ⟨B,0,none⟩)) (k:wpList prog ops Q rest (a.put o.dst (.agg c)) w):wpList prog ops Q (o::rest) a w:=by
 subst hc;exact Rs.iV h hgd x ho hx k
theorem M9 {rest:List Oper} {f:Nat→En} (h:bg w B f) (hc:aU g=c) (hgd:o.guard=none) (x y:Operand) (ho:o.op=.store 37 x y) (hx:a.eval x=.pointer (some ⟨B,0,none⟩)) (hy:a.eval y=.agg c) (k:wpList prog ops Q rest (a.put o.dst undef) (w.setRow B c)):wpList prog ops Q (o::rest) a w:=by
 subst hc;exact Rs.ou h hgd x y ho hx hy k
theorem aaV {rest:List Oper} {g:Nat→Ky} (h:bq w B g) (hc:bF g=c) (hgd:o.guard=none) (x:Operand) (ho:o.op=.load 33 x) (hx:a.eval x=.pointer (some ⟨B,0,none⟩)) (k:wpList prog ops Q rest (a.put o.dst (.agg c)) w):wpList prog ops Q (o::rest) a w:=by
 subst hc;exact Rt.Yu h hgd x ho hx k
theorem aaB {rest:List Oper} {f g:Nat→Ky} (h:bq w B f) (hc:bF g=c) (hgd:o.guard=none) (x y:Operand) (ho:o.op=.store 33 x y) (hx:a.eval x=.pointer (some ⟨B,0,none⟩)) (hy:a.eval y=.agg c) (k:wpList prog ops Q rest (a.put o.dst undef) (w.setRow B c)):wpList prog ops Q (o::rest) a w:=by
 subst hc;exact Rt.Kf h hgd x y ho hx hy k
theorem btc {rest:List Oper} {e f:Int} {k:Nat→Ky} {r:Nat→En} {ck cr:Array Value} (hk:bF k=ck) (hr:aU r=cr) (hc:aC ⟨e,f,k,r⟩=c) (hg:o.guard=none) (x0 x1 x2 x3:Operand) (ho:o.op=.build 39 #[(0,x0),(1,x1),(2,x2),(3,x3)])
  (h0:a.eval x0=.int .i64 e) (h1:a.eval x1=.int .i64 f) (h2:a.eval x2=.agg ck) (h3:a.eval x3=.agg cr) (kk:wpList prog ops Q rest (a.put o.dst (.agg c)) w):wpList prog ops Q (o::rest) a w:=by
 subst hk hr hc;refine wpList_buildTo hg 39 _ ho _ rfl (aC ⟨e,f,k,r⟩) ?_ kk
 have e1:((#[(0,x0),(1,x1),(2,x2),(3,x3)]:Array (Nat×Operand)).map fun (i,x)=>(i,a.eval x)).toList=[(0,.int .i64 e),(1,.int .i64 f),(2,.agg (bF k)),(3,.agg (aU r))]:=by
  simp [h0,h1,h2,h3]
 exact (congrArg (prog.built 39) e1).trans (Q_ e f k r)
theorem h_ (w:World):w.alloc (.cells #[Value.int .i64 0,Value.int .i64 0,Value.int .i64 0,Value.int .i64 0,Value.int .i64 0,Value.int .i64 0,Value.int .i64 0,Value.int .i64 0,Value.int .i64 0,Value.int .i64 0,Value.int .i64 0,Value.int .i64 0,Value.int .i64 0,Value.int .i64 0,Value.int .i64 0,Value.int .i64 0,Value.int .i64 0,Value.int .i64 0,Value.int .i64 0,Value.int .i64 0,Value.int .i64 0,Value.int .i64 0,Value.int .i64 0,Value.int .i64 0,Value.int .i64 0,Value.int .i64 0,Value.int .i64 0,Value.int .i64 0,Value.int .i64 0,Value.int .i64 0,Value.int .i64 0,Value.int .i64 0,Value.int .i64 0,Value.int .i64 0,Value.int .i64 0,Value.int .i64 0,Value.int .i64 0,Value.int .i64 0,Value.int .i64 0,Value.int .i64 0,Value.int .i64 0,Value.int .i64 0] 33)=w.alloc (.cells (bF fun _=>zK) 33):=by rw [Rt.u9]
theorem ot (w:World):w.alloc (.cells zeroCells39 39)=w.alloc (.cells (aC (tz 0)) 39):=by rw [fu]
/- The new tree in its box, the lists, the answer's places. -/
structure NF (w W:World) (N K D:Nat) (n:Tr) (vl vj:Value) (ll lj:List (Int×Int)):Prop where
 nx:az W N n
 ze:∃u,az W K u
 rk:∃cs,cs.size=4∧b7 W D cs
 left:W.ownsRow w.heap.size 113 2 vl ll.length (ps ll)
 join:W.ownsRow w.heap.size 113 2 vj lj.length (ps lj)
 aK:Below w.heap.size w W
 ne:N≠K
 gK:w.heap.size≤K
 gD:w.heap.size≤D
theorem NF.later {w W W':World} {N K D:Nat} {n:Tr} {vl vj:Value} {ll lj:List (Int×Int)} (h:NF w W N K D n vl vj ll lj) (hb:Below W.heap.size W W'):NF w W' N K D n vl vj ll lj:=
 ⟨h.nx.later hb,h.ze.elim fun u hu=>⟨u,hu.later hb⟩,h.rk.elim fun cs hc=>⟨cs,hc.1,(hb.block D (Array.getElem?_eq_some_iff.1 hc.2).1).trans hc.2⟩,Rs.ar h.left hb,Rs.ar h.join hb,h.aK.trans (hb.mono h.aK.size),h.ne,h.gK,h.gD⟩
theorem NF.Kl (h:NF w W N K D n vl vj ll lj) (hc:aC n=c):NF w (W.setRow K c) N K D n vl vj ll lj∧az (W.setRow K c) K n:=by
 subst hc;obtain ⟨u,hu⟩:=h.ze;have h1:=hu.row n;exact ⟨⟨(Rt.aq h.ne _).trans h.nx,⟨n,h1⟩,h.rk.elim fun cs hc=>⟨cs,hc.1,(Rt.aq (ay hc.2 hu (by decide)) _).trans hc.2⟩,Rs.aP h.left hu (by decide) _,Rs.aP h.join hu (by decide) _,Rt.ag h.gK h.aK _,h.ne,h.gK,h.gD⟩,h1⟩
theorem NF.Km (h:NF w W N K D n vl vj ll lj) (hu:az W K u) {cs ds:Array Value} (hd:b7 W D cs) (h4:ds.size=4):NF w (W.setRow D ds) N K D n vl vj ll lj∧az (W.setRow D ds) K u∧b7 (W.setRow D ds) D ds:=
 ⟨⟨(Rt.aq (ay h.nx hd (by decide)) _).trans h.nx,⟨u,(Rt.aq (ay hu hd (by decide)) _).trans hu⟩,⟨ds,h4,Rt.ai hd _⟩,Rs.aP h.left hd (by decide) _,Rs.aP h.join hd (by decide) _,Rt.ag h.gD h.aK _,h.ne,h.gK,h.gD⟩,(Rt.aq (ay hu hd (by decide)) _).trans hu,Rt.ai hd _⟩
theorem Ab {b:Nat} {a:Option Addr} {cap:Nat} {l:List (Int×Int)} (h:W.ownsRow b 113 2 (.slice a l.length cap) l.length (ps l)):iC W a l:=by
 obtain ⟨a',cap',e,hr,_⟩:=Rs.Am h;cases e
 exact hr
theorem iu {K:Act→World→Prop} {c:Prop} [Decidable c] (hc:c) {X:Prop} (h:Oper.wp P o a w K Q):if c then Oper.wp P o a w K Q else X:=by rw [if_pos hc];exact h
theorem bR {K:Act→World→Prop} (ty:TypeId) (x y:Operand) (ho:o.op=.store ty x y) (g:Nat) (cells:Array Value) (hx:a.eval x=.pointer (some ⟨g,0,none⟩)) (hy:a.eval y=.agg cells)
  (t:TypeId) (old:Array Value) (hg:w.heap[g]? =some (.cells old t (0,0))) (hi:(P.info? ty).map (·.size)=some cells.size) (hold:old.size=cells.size) (h1:cells.all (·.oneCell')=true) (hd:o.dst=none) (h:K a (w.setRow g cells)):o.wp P a w K Q:=by
 refine wp_store_row ty x y ho g cells hx hy t old hg hi hold h1 ?_;rw [hd];exact h
set_option maxRecDepth 100000 in
theorem v_ (t:Tr) (aL aJ:Option Addr) (cL cJ:Nat) (L J:List Int) (w:World) (sD:Tb w) (lL:L.length<1152921504606846976) (lJ:J.length<1152921504606846976) (hL:bM w aL L) (hJ:bM w aJ J):
  Calls prog 71 #[.agg (aC t),.agg #[.slice aL L.length cL,.slice aJ J.length cJ]] w fun e w'=>gF w w' t L J e∧Below w.heap.size w w':=by
 have hX:=NX.new w t aL aJ L.length J.length cL cJ;unfold cQ at hX;obtain ⟨ct,bQ⟩:∃c,aC t=c:=⟨_,rfl⟩;have HT:Hid (aC t=ct):=bQ;clear bQ;go_enter func71,ntmps71;go_upto_region 1 with (fail)
 rw [fu];generalize (((w.alloc (.cells (aC t) 39)).alloc (.cells #[.slice aL L.length cL,.slice aJ J.length cJ] 43)).alloc (.cells (aC (tz 0)) 39)).alloc (.cells #[.int .i64 0,.slice none 0 0,.slice none 0 0,.slice none 0 0] 54)=w1 at *;rw [HT.out];obtain ⟨D,hD⟩:∃D,w.heap.size+3=D:=⟨_,rfl⟩;obtain ⟨K,hK⟩:∃D,w.heap.size+2=D:=⟨_,rfl⟩;obtain ⟨C,hC⟩:∃D,w.heap.size+1=D:=⟨_,rfl⟩;obtain ⟨B,hB⟩:∃D,w.heap.size=D:=⟨_,rfl⟩;rw [hD,hK,hC,hB] at hX ⊢;clear hD hK hC hB;have h1:=Ea t aL aJ cL cJ L J w1 lL lJ (hL.later hX.tb.aK) (hJ.later hX.tb.aK);rw [HT.out] at h1;have jT:=hX.tb.tr;obtain ⟨d0,d1⟩:=hX.tb.bt.cells;go_wp2_with (refine pV jT HT.out _ rfl rfl rfl ?_)
 refine h1.mono ?_;rintro r w2 ⟨rfl,hb2⟩;have kV:=hX.later hb2;clear h1 hX jT hb2 d0 d1;obtain ⟨E,hE⟩:∃E,Mm t L J=E:=⟨_,rfl⟩;rw [hE];by_cases jU:E=0
 ·subst jU;obtain ⟨dH,BO,xH⟩:=Vo hE;have hr:=di dH;have he9:t.ep≤199:=by have:=hr.e1;omega
  have hf:=Rs.zl xH;have m1:=aaS hr he9 hf;have TZ:=hf.CV;have aaX:=hf.CW;have SD:Hid (Right t):=hr;have HE9:Hid (t.ep≤199):=he9;have HF:Hid (b6 t.ro L J):=hf;have Xj:Hid (gu t=true):=dH;have Ep:Hid (ft t.ro L J=0):=xH;have SG:Hid (¬t.ep=200):=BO;have zg:IntKind.i64.wrap (t.ep+1)=t.ep+1:=Rt.bC _ (by have:=hr.e0;omega) (by omega);have hpf:t.fr≤32768:=hr.f1;have HPF:Hid (0≤t.fr∧t.fr≤32768):=⟨by have:=hr.f0;omega,hpf⟩;have IL:=Rs.CT t.ro aL none cL 0 L [] (t.ep+1) t.fr w2 (sD.later kV.tb.aK) lL (by simp) (hL.later kV.tb.aK) (Rs.bM.nil _ _);simp only [List.length_nil] at IL;obtain ⟨cr,tH⟩:∃c,aU t.ro=c:=⟨_,rfl⟩;have HR:Hid (aU t.ro=cr):=tH;rw [tH] at IL;obtain ⟨c0,c1⟩:=kV.tb.tr.cells;obtain ⟨d0,d1⟩:=kV.tb.bt.cells;have jS:=kV.tb.tr;obtain ⟨P,hP⟩:∃P,t.ep+1=P:=⟨_,rfl⟩;have HP:Hid (t.ep+1=P):=hP;rw [hP] at IL m1;have hw2:IntKind.i64.wrap (t.ep+1)=P:=zg.trans hP;clear zg;clear hE BO hr he9 hf xH tH hpf dH hP;go_wp2_with (refine ND jS HR.out _ rfl rfl rfl ?_)
  refine IL.mono ?_;rintro r w3 ⟨⟨vl,vj0,rfl,Gl⟩,hb3⟩;have kG:=kV.later hb3;have PG:=Gl.left;rw [m1.2.2] at PG;obtain ⟨ce,hce⟩:∃c,aU (evs t.ro L)=c:=⟨_,rfl⟩;have HCE:Hid (aU (evs t.ro L)=ce):=hce;rw [m1.1,m1.2.1,hce];have hz3:bg (w3.alloc (.cells zeroCells37 37)) w3.heap.size (fun _=>zE):=by rw [Rs.dC];exact Rs.bg.new _ _
  have HS3:Hid (w2.heap.size≤w3.heap.size):=hb3.size;have HW2:Hid (w.heap.size≤w2.heap.size):=kV.tb.aK.size;clear IL jS c0 c1 d0 d1 kV hb3 Gl m1 hce;go_upto_region 6 with (refine M9 hz3 HCE.out rfl _ _ rfl rfl rfl ?_)
  rw [Rs.dC,World.setRow_alloc_new];have WA:bg (w3.alloc (.cells ce 37)) w3.heap.size (evs t.ro L):=by rw [←HCE.out];exact Rs.bg.new _ _
  have Gi:=kG.later (aa w3 (.cells ce 37));have AL:=Rs.ar PG (aa w3 (.cells ce 37));have HS4:Hid (w2.heap.size≤(w3.alloc (.cells ce 37)).heap.size):=by have:=HS3.out;unfold Hid;simp;omega
  clear hz3 kG PG;generalize w3.alloc (.cells ce 37)=w4 at *;generalize w3.heap.size=BR at *;obtain ⟨a1,aS,rfl,YI,_⟩:=Rs.Am AL;have EI:Hid ((eA t.ro L).length≤64):=by unfold Hid;rw [Rs.ew];exact TZ
  obtain ⟨ll,pI⟩:∃ll,eA t.ro L=ll:=⟨_,rfl⟩;have Bz:Hid (uD t L=rp ll):=by unfold Hid uD;rw [pI]
  have Eo:Hid (eA t.ro L=ll):=pI;rw [pI] at YI AL EI ⊢;have Dd:=z_ a1 aS ll w4 (by have:=EI.out;omega) YI;have ab1:Hid (w4.ownsRow w2.heap.size 113 2 (.slice a1 ll.length aS) ll.length (ps ll)):=AL;clear pI YI AL;go_wp2_with fail
  refine Dd.mono ?_;rintro r w5 ⟨rfl,dT⟩;have hX5:=Gi.later dT;have hR5:=Rs.bg.later WA dT;have ab0:Hid (w5.ownsRow w2.heap.size 113 2 (.slice a1 ll.length aS) ll.length (ps ll)):=Rs.ar ab1.out dT;have RM:Hid (w2.heap.size≤w5.heap.size):=Nat.le_trans HS4.out dT.size;clear Dd Gi WA ab1 dT HS4;have tA:=Rt.MM t.ks (rp ll) (by have:=yC ll;omega) t.fr;have Mf:=EX SD.out HE9.out (yC ll);have L_:Hid (jQ t L=t.fr+((cu (rp ll) 21:Nat):Int)):=by unfold Hid jQ;rw [Bz.out]
  obtain ⟨q,hq⟩:∃q,rp ll=q:=⟨_,rfl⟩;rw [hq] at tA Mf L_ Bz;rw [hq];clear hq;obtain ⟨ck,dH⟩:∃c,bF t.ks=c:=⟨_,rfl⟩;have HK:Hid (bF t.ks=ck):=dH;simp only [dH] at tA;clear dH;have P5:=hX5.tb.tr;obtain ⟨c0,c1⟩:=hX5.tb.tr.cells;by_cases Dg:t.fr+((cu q 21:Nat):Int)≤32768
  ·rw [if_pos Dg] at Mf;rw [←Rt.ey.yes Mf] at tA;have HTE:Hid (l9 t.ks q t.fr=0):=Mf;obtain ⟨F,hF⟩:∃F,t.fr+((cu q 21:Nat):Int)=F:=⟨_,rfl⟩;have L9:Hid (jQ t L=F):=by rw [←hF];exact L_.out
   have HF3:Hid (t.fr≤F∧F≤32768):=⟨by omega,by omega⟩;obtain ⟨ckn,YU⟩:∃c,bF (kI t.ks q t.fr)=c:=⟨_,rfl⟩;have Vy:Hid (bF (kI t.ks q t.fr)=ckn):=YU;simp only [hF,YU] at tA;clear hF YU Dg Mf L_;go_wp2_with (refine rdK P5 HK.out _ rfl rfl rfl ?_)
   refine (tA _).mono ?_;rintro r w6 ⟨rfl,dS⟩;have hX6:=hX5.later dS;have hR6:=Rs.bg.later hR5 dS;have abZ:Hid (w6.ownsRow w2.heap.size 113 2 (.slice a1 ll.length aS) ll.length (ps ll)):=Rs.ar ab0.out dS;have JT:Hid (w2.heap.size≤w6.heap.size):=Nat.le_trans RM.out dS.size;have hz6:bq (w6.alloc (.cells #[Value.int .i64 0,Value.int .i64 0,Value.int .i64 0,Value.int .i64 0,Value.int .i64 0,Value.int .i64 0,Value.int .i64 0,Value.int .i64 0,Value.int .i64 0,Value.int .i64 0,Value.int .i64 0,Value.int .i64 0,Value.int .i64 0,Value.int .i64 0,Value.int .i64 0,Value.int .i64 0,Value.int .i64 0,Value.int .i64 0,Value.int .i64 0,Value.int .i64 0,Value.int .i64 0,Value.int .i64 0,Value.int .i64 0,Value.int .i64 0,Value.int .i64 0,Value.int .i64 0,Value.int .i64 0,Value.int .i64 0,Value.int .i64 0,Value.int .i64 0,Value.int .i64 0,Value.int .i64 0,Value.int .i64 0,Value.int .i64 0,Value.int .i64 0,Value.int .i64 0,Value.int .i64 0,Value.int .i64 0,Value.int .i64 0,Value.int .i64 0,Value.int .i64 0,Value.int .i64 0] 33)) w6.heap.size (fun _=>zK):=by rw [h_];exact Rt.bq.new _ _
   clear tA hX5 P5 c0 c1 hR5 ab0 RM dS;go_upto_region 10 with (refine aaB hz6 Vy.out rfl _ _ rfl rfl rfl ?_)
   rw [h_,World.setRow_alloc_new];have dZ:=aa w6 (.cells ckn 33);have hX7:=hX6.later dZ;have Wz:=Rs.bg.later hR6 dZ;have hK7:bq (w6.alloc (.cells ckn 33)) w6.heap.size (kI t.ks q t.fr):=by rw [←Vy.out];exact Rt.bq.new _ _
   have abY:Hid ((w6.alloc (.cells ckn 33)).ownsRow w2.heap.size 113 2 (.slice a1 ll.length aS) ll.length (ps ll)):=Rs.ar abZ.out dZ;have SC:Hid (w2.heap.size≤(w6.alloc (.cells ckn 33)).heap.size):=Nat.le_trans JT.out dZ.size;clear hz6 hX6 hR6 abZ JT dZ;generalize w6.alloc (.cells ckn 33)=w7 at *;generalize w6.heap.size=BK at *;have Sn:=Rs.CT (evs t.ro L) none aJ 0 cJ [] J P F w7 (sD.later hX7.tb.aK) (by simp) lJ (Rs.bM.nil _ _) (hJ.later hX7.tb.aK);simp only [List.length_nil] at Sn;rw [HCE.out] at Sn;have Ga:=V7 SD.out HE9.out HF.out (by rw [L9.out];exact HF3.out.2);rw [HP.out,L9.out] at Ga;obtain ⟨c0,c1⟩:=hX7.tb.tr.cells;obtain ⟨d0,d1⟩:=hX7.tb.bt.cells;go_wp2_with (refine Yt Wz HCE.out rfl _ rfl rfl ?_)
   refine Sn.mono ?_;rintro r w8 ⟨⟨vl0,vj,rfl,Gl⟩,AQ⟩;have UD:=hX7.later AQ;have Mk:=Rt.bq.later hK7 AQ;have abX:Hid (w8.ownsRow w2.heap.size 113 2 (.slice a1 ll.length aS) ll.length (ps ll)):=Rs.ar abY.out AQ;have Mn:Hid (w2.heap.size≤w8.heap.size∧w7.heap.size≤w8.heap.size):=⟨Nat.le_trans SC.out AQ.size,AQ.size⟩;have Ua:bg (w8.alloc (.cells zeroCells37 37)) w8.heap.size (fun _=>zE):=by rw [Rs.dC];exact Rs.bg.new _ _
   obtain ⟨A_,Gc⟩:∃c,aU (pX (evs t.ro L) [] J P F)=c:=⟨_,rfl⟩;have Hc:Hid (aU (pX (evs t.ro L) [] J P F)=A_):=Gc;rw [Gc];have JW:Hid (w8.ownsRow w7.heap.size 113 2 vj (ud (evs t.ro L) [] J P F).length (ps (ud (evs t.ro L) [] J P F))):=Gl.join;obtain ⟨a2,dc,rfl⟩:=Rs.ah JW.out;clear Sn hX7 Wz hK7 AQ Gc c0 c1 d0 d1 Gl;by_cases uf:F+(J.length:Int)≤32768
   ·rw [if_pos uf] at Ga;rw [Ga];have hst:ku t L J:=E3 Xj.out SG.out Ep.out (by rw [L9.out];exact uf);have HST:Hid (ku t L J):=hst;have e2:=hst.r2;have e3:=hst.j2;rw [HP.out,L9.out] at e2 e3;have Em:Hid ((kF t L J).length=J.length):=by unfold Hid kF;rw [Rs.bX]
    have HJ9:Hid (w8.ownsRow w7.heap.size 113 2 (.slice a2 (kF t L J).length dc) (kF t L J).length (ps (kF t L J))):=by have h:=JW.out;rw [e3] at h;exact h
    have rb:Hid (Value.ownBlock (.slice a1 ll.length aS)=none∨Value.ownBlock (.slice a1 ll.length aS)≠Value.ownBlock (.slice a2 (kF t L J).length dc)):=Rs.tQ (b':=0) abY.out HJ9.out;have BC:Hid (aU (nx t L J).ro=A_):=by rw [←e2];exact Hc.out
    rw [e3];obtain ⟨lj,mi⟩:∃lj,kF t L J=lj:=⟨_,rfl⟩;rw [mi] at HJ9 rb Em;rw [mi];have RX:Hid (kF t L J=lj):=mi
    have Vu:Hid (nx t L J=⟨P,F+(lj.length:Int),kI t.ks q t.fr,(nx t L J).ro⟩):=by
     unfold Hid;rw [Em.out,←L9.out,←HP.out,←Bz.out];rfl
    have hfw:IntKind.i64.wrap (F+(lj.length:Int))=F+(lj.length:Int):=Rt.bC _ (by have:=HF3.out;have:=HPF.out;omega) (by have:=HF3.out;have:=Em.out;omega);obtain ⟨cn,f_⟩:∃c,aC (nx t L J)=c:=⟨_,rfl⟩;have zF:Hid (aC (nx t L J)=cn):=f_;have aaf:Hid (aC ⟨P,F+(lj.length:Int),kI t.ks q t.fr,(nx t L J).ro⟩=cn):=by rw [←Vu.out];exact f_
    have PF:lj.length≤64:=by have:=Em.out;omega
    clear hst e2 e3 mi f_ Ga uf JW Hc;go_upto_region 13 with (refine M9 Ua BC.out rfl _ _ rfl rfl rfl ?_)
    rw [Rs.dC,World.setRow_alloc_new];have dZ:=aa w8 (.cells A_ 37);have jD:=UD.later dZ;have bU:=Rt.bq.later Mk dZ;have hR9:bg (w8.alloc (.cells A_ 37)) w8.heap.size (nx t L J).ro:=by rw [←BC.out];exact Rs.bg.new _ _
    have abW:Hid ((w8.alloc (.cells A_ 37)).ownsRow w2.heap.size 113 2 (.slice a1 ll.length aS) ll.length (ps ll)):=Rs.ar abX.out dZ;have abV:Hid ((w8.alloc (.cells A_ 37)).ownsRow w7.heap.size 113 2 (.slice a2 lj.length dc) lj.length (ps lj)):=Rs.ar HJ9.out dZ;clear Ua UD Mk abX HJ9 dZ;generalize w8.alloc (.cells A_ 37)=w9 at *;generalize w8.heap.size=BA at *;have hz9:az (w9.alloc (.cells zeroCells39 39)) w9.heap.size (tz 0):=az.zero w9;go_upto_region 16 with (first | (refine aaV bU Vy.out rfl _ rfl rfl ?_) | (refine Yt hR9 BC.out rfl _ rfl rfl ?_) | (refine btc Vy.out BC.out aaf.out rfl _ _ _ _ rfl rfl rfl rfl rfl ?_) | (refine eE hz9 zF.out rfl _ _ rfl rfl rfl ?_))
    rw [ot,World.setRow_alloc_new];have dZ:=aa w9 (.cells cn 39);have Lp:=jD.later dZ;have abx:az (w9.alloc (.cells cn 39)) w9.heap.size (nx t L J):=by rw [←zF.out];exact az.new _ _
    have hne:w9.heap.size≠K:=fun e=>by have:=jD.ze.lt;omega
    have YG:w.heap.size≤w2.heap.size:=HW2.out;have aa1:w.heap.size≤w7.heap.size:=Nat.le_trans YG SC.out
    have dm:NF w (w9.alloc (.cells cn 39)).drew w9.heap.size K D (nx t L J) (.slice a1 ll.length aS) (.slice a2 lj.length dc) ll lj:=
     NF.later ⟨abx,⟨_,Lp.ze⟩,⟨cQ,rfl,Lp.rk⟩,Rs.aV (Rs.ar abW.out dZ) YG,Rs.aV (Rs.ar abV.out dZ) aa1,Lp.tb.aK,hne,Lp.gK,Lp.gD⟩ (aG _)
    clear hz9 jD Lp bU hR9 abW abV dZ abx hne YG aa1 hfw;generalize w9.alloc (.cells cn 39)=xS at *;generalize w9.heap.size=N at *;obtain ⟨n,hn⟩:∃n,nx t L J=n:=⟨_,rfl⟩;have yr:Hid (nx t L J=n):=hn;rw [hn] at dm zF;have tA:gu n=true:=by rw [←hn];exact HST.out.XF
    have qB:∀p∈lj,∃s:Nat,s<64∧p.2=(s:Int)∧cN (n.ro s)=true:=fun p hp=>by
     rw [←RX.out] at hp;obtain ⟨s,h1,h2,h3,_⟩:=HST.out.seat hp;exact ⟨s,h1,h2,by rw [←hn];exact h3⟩
    have ac4:q<4294967296:=by have:=N8 t L;rw [Bz.out] at this;omega
    have hit:∀W:World,W.ownsRow w.heap.size 113 2 (.slice a2 lj.length dc) lj.length (ps lj)→_:=fun W hW=>La n q ac4 tA a2 dc lj W PF (Ab hW) qB
    rw [zF.out] at hit;clear hn;refine wp_region_held_drew (S:=fun W=>NF w W N K D n (.slice a1 ll.length aS) (.slice a2 lj.length dc) ll lj) (by kernel_rfl) dm (fun hHeld=>?_);refine dG 0 (.agg cn) rfl (fun w hSw=>bB (zF.out ▸ hSw.nx.whole) rfl rfl) ?_;go_frame;refine aH 1 (.int .i64 P) rfl ?_;go_frame;refine aH 2 (.slice a1 ll.length aS) rfl ?_;go_frame;refine aH 3 (.slice a2 lj.length dc) rfl ?_;go_frame;refine dG 4 (.agg cn) rfl (fun w hSw=>bB (zF.out ▸ hSw.nx.whole) rfl rfl) ?_;go_frame;refine aH 5 (.int .u32 (q:Int)) rfl ?_;go_frame;refine aH 6 (.slice a2 lj.length dc) rfl ?_;go_frame;refine dh 7 rfl fun K hK=>?_;go_simp
    refine (hit _ hHeld.join).mono ?_;rintro r xA hip;obtain ⟨vi,rfl,hrow,m7⟩:=hip;obtain ⟨a3,jb,rfl⟩:=Rs.ah hrow;have dF:Hid (xA.ownsRow (xS.drew.heap.size+2) 103 6 (.slice a3 (its n q lj).length jb) (its n q lj).length (kU (its n q lj))):=hrow;have BV:Hid (w.heap.size≤xS.drew.heap.size+2):=by have:=hHeld.aK.size;unfold Hid;omega
    clear hrow;go_wp2_with fail
    refine hK.out _ _ (hHeld.later m7) (fun aD=>?_);clear hHeld m7 hit;clear hK K;try go_frame
    refine aH 8 (.agg #[.int .i64 P,.slice a1 ll.length aS,.slice a2 lj.length dc,.slice a3 (its n q lj).length jb]) rfl ?_;go_frame;refine dh 9 rfl fun Kc hK=>?_;obtain ⟨u,hu⟩:=aD.ze;obtain ⟨EG,AR⟩:=aD.Kl zF.out;have Ej:Hid ((xA.setRow K cn).ownsRow w.heap.size 103 6 (.slice a3 (its n q lj).length jb) (its n q lj).length (kU (its n q lj))):=Rs.aP (Rs.aV dF.out BV.out) hu (by decide) _;refine iu rfl (bR 39 _ _ rfl K cn rfl rfl 39 (aC u) hu (by rw [←zF.out,aZ];exact jz) (by rw [←zF.out,aZ,aZ]) (by rw [←zF.out];exact j5 n) rfl ?_);refine hK.out _ _ EG (fun aN=>?_);clear aD hu EG;clear hK Kc;try go_frame
    refine dh 10 rfl fun Kc hK=>?_;obtain ⟨Zx,PZ,Dq⟩:=aN.rk;obtain ⟨Dr,I0,Gk⟩:=aN.Km (ds:=#[.int .i64 P,.slice a1 ll.length aS,.slice a2 lj.length dc,.slice a3 (its n q lj).length jb]) AR Dq rfl;have jO:Hid (((xA.setRow K cn).setRow D #[.int .i64 P,.slice a1 ll.length aS,.slice a2 lj.length dc,.slice a3 (its n q lj).length jb]).ownsRow w.heap.size 103 6 (.slice a3 (its n q lj).length jb) (its n q lj).length (kU (its n q lj))):=Rs.aP Ej.out Dq (by decide) _;refine iu rfl (bR 54 _ _ rfl D _ rfl rfl 54 Zx Dq cS PZ (by simp [Value.oneCell']) rfl ?_);refine hK.out _ _ Dr (fun bK=>?_);clear aN Dq Dr;clear hK Kc;try go_frame
    refine aH 11 (.int .i64 0) rfl ?_;go_frame;refine wpAnyH_done (by kernel_rfl) ?_ _;have AH:∃w13,(xA.setRow K cn).setRow D #[.int .i64 P,.slice a1 ll.length aS,.slice a2 lj.length dc,.slice a3 (its n q lj).length jb]=w13:=⟨_,rfl⟩;obtain ⟨w13,AH⟩:=AH;rw [AH] at I0 Gk jO bK ⊢;clear AH Ej dF AR qB;obtain ⟨li,rv⟩:∃li,its n q lj=li:=⟨_,rfl⟩;have HLI:Hid (its n q lj=li):=rv;rw [rv] at Gk jO ⊢;clear rv;go_wp2_with fail
    refine bodyPost_ret (dz (p:=4) (q:=5) (t:=6) rfl _ _ K D n _ rfl rfl I0 Gk rfl) rfl ?_;refine ⟨?_,bK.aK⟩;have PV:=gF.yes (w:=w) HST.out.pl (by rw [Eo.out];exact bK.left) (by rw [RX.out];exact bK.join) (by rw [yr.out,Bz.out,RX.out,HLI.out];exact jO.out) rb.out;rw [yr.out,HP.out] at PV;exact PV
   ·rw [if_neg uf] at Ga;rw [Ga];have HE:Hid (b_ t L J=3):=qg Xj.out SG.out Ep.out (by rw [L9.out];exact uf);have l8:Hid ((3:Int)≠0):=by unfold Hid;decide
    obtain ⟨nj,ow⟩:∃n,(ud (evs t.ro L) [] J P F).length=n:=⟨_,rfl⟩;rw [ow];clear uf Ga ow;go_upto_region 13 with (refine M9 Ua Hc.out rfl _ _ rfl rfl rfl ?_)
    rw [Rs.dC,World.setRow_alloc_new];have hX:=UD.later (aa w8 (.cells A_ 37));clear Ua UD;generalize w8.alloc (.cells A_ 37)=w9 at *;have hZ:=hX.ze;obtain ⟨cz,fW⟩:∃c,aC (tz 0)=c:=⟨_,rfl⟩;have HZ:Hid (aC (tz 0)=cz):=fW;have gy:=hX.Nf (tz 0) fW;clear fW;go_wp2_with (first | (refine Jy HZ.out rfl rfl ?_) | (refine eE hZ HZ.out rfl _ _ rfl rfl rfl ?_) | (refine gN cS (cs:=cQ) bw gy.2.1 cQ bw j8 rfl _ _ rfl rfl rfl ?_))
    refine bodyPost_ret (dz (p:=4) (q:=5) (t:=6) rfl _ _ K D (tz 0) cQ rfl rfl ((Rt.aq (ay gy.1 gy.2.1 (by decide)) _).trans gy.1) (Rt.ai gy.2.1 _) rfl) rfl ?_;exact ⟨gF.no HE.out l8.out,Rt.ag hX.gD gy.2.2 _⟩
  ·rw [if_neg Dg] at Mf;rw [←Rt.ey.no Mf (by decide)] at tA;have HE:Hid (b_ t L J=3):=qg Xj.out SG.out Ep.out (by rw [L_.out];omega);have l8:Hid ((3:Int)≠0):=by unfold Hid;decide
   obtain ⟨cz3,YS⟩:∃c,bF (fun _=>zK)=c:=⟨_,rfl⟩;have HCZ:Hid (bF (fun _=>zK)=cz3):=YS;simp only [YS] at tA;clear YS Dg Mf;go_wp2_with (refine rdK P5 HK.out _ rfl rfl rfl ?_)
   refine (tA _).mono ?_;rintro r w6 ⟨rfl,dS⟩;have hX6:=hX5.later dS;have hz6:bq (w6.alloc (.cells #[Value.int .i64 0,Value.int .i64 0,Value.int .i64 0,Value.int .i64 0,Value.int .i64 0,Value.int .i64 0,Value.int .i64 0,Value.int .i64 0,Value.int .i64 0,Value.int .i64 0,Value.int .i64 0,Value.int .i64 0,Value.int .i64 0,Value.int .i64 0,Value.int .i64 0,Value.int .i64 0,Value.int .i64 0,Value.int .i64 0,Value.int .i64 0,Value.int .i64 0,Value.int .i64 0,Value.int .i64 0,Value.int .i64 0,Value.int .i64 0,Value.int .i64 0,Value.int .i64 0,Value.int .i64 0,Value.int .i64 0,Value.int .i64 0,Value.int .i64 0,Value.int .i64 0,Value.int .i64 0,Value.int .i64 0,Value.int .i64 0,Value.int .i64 0,Value.int .i64 0,Value.int .i64 0,Value.int .i64 0,Value.int .i64 0,Value.int .i64 0,Value.int .i64 0,Value.int .i64 0] 33)) w6.heap.size (fun _=>zK):=by rw [h_];exact Rt.bq.new _ _
   clear tA hX5 P5 c0 c1 dS;go_upto_region 10 with (refine aaB hz6 HCZ.out rfl _ _ rfl rfl rfl ?_)
   rw [h_,World.setRow_alloc_new];have hX:=hX6.later (aa w6 (.cells cz3 33));clear hz6 hX6;generalize w6.alloc (.cells cz3 33)=w7 at *;have hZ:=hX.ze;obtain ⟨cz,fW⟩:∃c,aC (tz 0)=c:=⟨_,rfl⟩;have HZ:Hid (aC (tz 0)=cz):=fW;have gy:=hX.Nf (tz 0) fW;clear fW;go_wp2_with (first | (refine Jy HZ.out rfl rfl ?_) | (refine eE hZ HZ.out rfl _ _ rfl rfl rfl ?_) | (refine gN cS (cs:=cQ) bw gy.2.1 cQ bw j8 rfl _ _ rfl rfl rfl ?_))
   refine bodyPost_ret (dz (p:=4) (q:=5) (t:=6) rfl _ _ K D (tz 0) cQ rfl rfl ((Rt.aq (ay gy.1 gy.2.1 (by decide)) _).trans gy.1) (Rt.ai gy.2.1 _) rfl) rfl ?_;exact ⟨gF.no HE.out l8.out,Rt.ag hX.gD gy.2.2 _⟩
 ·have Ww:(E !=0)=true:=by simpa using jU
  have HE:Hid (b_ t L J=E):=by rw [←hE];exact X_ (by rw [hE];exact jU)
  have l8:Hid (E≠0):=jU;have hX:=kV;have hZ:=kV.ze;obtain ⟨cz,fW⟩:∃c,aC (tz 0)=c:=⟨_,rfl⟩;have HZ:Hid (aC (tz 0)=cz):=fW;have gy:=kV.Nf (tz 0) fW;clear fW;clear hE jU kV;go_wp2_with (first | (refine Jy HZ.out rfl rfl ?_) | (refine eE hZ HZ.out rfl _ _ rfl rfl rfl ?_) | (refine gN cS (cs:=cQ) bw gy.2.1 cQ bw j8 rfl _ _ rfl rfl rfl ?_))
  refine bodyPost_ret (dz (p:=4) (q:=5) (t:=6) rfl _ _ K D (tz 0) cQ rfl rfl ((Rt.aq (ay gy.1 gy.2.1 (by decide)) _).trans gy.1) (Rt.ai gy.2.1 _) rfl) rfl ?_;exact ⟨gF.no HE.out l8.out,Rt.ag hX.gD gy.2.2 _⟩
open Rs (En zE aU bg cN bM iC ps ft fC b6 evs eA mo pX xD ud)
open Sh (bc ue)
variable {p:Nat→Bool} {k v:Nat} {l:List (Int×Int)}
theorem TV (h:p k=true):ri p (k+1)=ri p k+2^k:=by rw [ri,h,if_pos rfl]
theorem Yo (h:p k=false):ri p (k+1)=ri p k:=by rw [ri,h];rfl
theorem Tn {i:Nat} (hi:i<l.length) (h:bc (v:Int) (ue (l.getD i (0,0)).2)=true):mz l v=true:=by
 unfold mz;rw [List.any_eq_true];refine ⟨l.getD i (0,0),?_,h⟩;rw [List.getD_eq_getElem?_getD,List.getElem?_eq_getElem hi];exact List.getElem_mem _
theorem XQ (h:∀i,i<l.length→bc (v:Int) (ue (l.getD i (0,0)).2)=false):mz l v=false:=by
 rw [Bool.eq_false_iff];intro hc;unfold mz at hc;rw [List.any_eq_true] at hc;obtain ⟨p,hp,h2⟩:=hc;obtain ⟨i,hi,e⟩:=List.mem_iff_getElem.1 hp;have:=h i hi;rw [List.getD_eq_getElem?_getD,List.getElem?_eq_getElem hi,Option.getD_some,e,h2] at this;cases this
theorem aaL:∀k:Fin 22,(2:Nat)^k.val≤2097152:=by decide+kernel
set_option maxRecDepth 100000 in
theorem CB (a:Option Addr) (c:Nat) (l:List (Int×Int)) (w:World) (hl:l.length<1152921504606846976) (hr:iC w a l):
  Calls prog 43 #[.slice a l.length c] w fun e w'=>e=.returned (.int .u32 ((rp l:Nat):Int))∧Below w.heap.size w w':=by
 go_enter func43,ntmps43;go_wp2_with fail
 go_loopw [3,4,5] (fun m u i wx=>∃k:Nat,k≤21∧i=.int .i64 (k:Int)∧m=.int .u32 ((ri (mz l) k:Nat):Int)∧u=.int .u32 ((2^k:Nat):Int)∧Below w.heap.size w wx) (fun _ _ i _=>21 - (intOf i).toNat)
 case atStart=>exact ⟨0,by omega,rfl,rfl,rfl,Below.refl _ _⟩
 case round=>
  obtain ⟨k,hk,rfl,rfl,rfl,hb⟩:=hrel;have HB:Hid (Below w.heap.size w wr):=hb;clear hb;by_cases dA:k<21
  ·have k0:(0:Int)≤(k:Int):=by omega
   have k1:(k:Int)<21:=by omega
   have zh:=aaL ⟨k,by omega⟩;have IL:=Ax (mz l) k;have HY:Hid (mz l k=true→ri (mz l) (k+1)=ri (mz l) k+2^k):=TV;have HN:Hid (mz l k=false→ri (mz l) (k+1)=ri (mz l) k):=Yo;have L6:Hid ((2:Nat)^(k+1)=2^k * 2):=Nat.pow_succ _ _;dsimp only at zh;obtain ⟨M,hM⟩:∃M,ri (mz l) k=M:=⟨_,rfl⟩;obtain ⟨U,hU⟩:∃U,(2:Nat)^k=U:=⟨_,rfl⟩;rw [hM] at IL HY HN;rw [hU] at zh IL HY L6;rw [hM,hU];have zg:IntKind.u32.wrap ((M:Int)+(U:Int))=((M+U:Nat):Int):=by rw [IntKind.wrap_u32];push_cast;omega
   have hw2:IntKind.u32.wrap ((U:Int) * 2)=((U * 2:Nat):Int):=by rw [IntKind.wrap_u32];push_cast;omega
   clear hM hU IL zh;go_wp2_with fail
   go_loopw [3,14] (fun m i wx=>∃n:Nat,n≤l.length∧i=.int .i64 (n:Int)∧m=.int .u32 (M:Int)∧(∀j,j<n→bc (k:Int) (ue (l.getD j (0,0)).2)=false)∧Below w.heap.size w wx) (fun _ i _=>l.length - (intOf i).toNat)
   case atStart=>exact ⟨0,by omega,rfl,rfl,fun j hj=>by omega,HB.out⟩
   case round=>
    obtain ⟨n,hn,rfl,rfl,hno,hb⟩:=hrel;have bm:Hid (Below w.heap.size w wr):=hb;have jV:Hid (∀j,j<n→bc (k:Int) (ue (l.getD j (0,0)).2)=false):=hno;clear hb hno HB;by_cases hnN:n<l.length
    ·have i1:(0:Int)≤(n:Int):=by omega
     have i2:(n:Int)<(l.length:Int):=by omega
     obtain ⟨b,oy,hc0,hc1⟩:=(hr.later bm.out) n hnN;obtain ⟨p,hp⟩:∃p,l.getD n (0,0)=p:=⟨_,rfl⟩;have HP:Hid (l.getD n (0,0)=p):=hp;rw [hp] at hc0 hc1;clear hp;obtain ⟨px,py⟩:=p;dsimp only at hc0 hc1;subst oy;have qC:=Sh.rV py;have hbl:=Sh.pC (k:Int) (ue py);have dR:Hid (Below w.heap.size w (wr.alloc (.cells #[.int .i64 px,.int .i64 py] 113))):=bm.out.alloc bm.out.size _;have rC:Hid (bc (k:Int) (ue (l.getD n (0,0)).2)=bc (k:Int) (ue py)):=by unfold Hid;rw [HP.out]
     obtain ⟨z,hz⟩:∃z,ue py=z:=⟨_,rfl⟩;rw [hz] at qC hbl rC;clear hz
     cases wP:bc (k:Int) z with
     | true=>
      rw [wP] at hbl rC;have HR:Hid (mz l k=true):=Tn hnN rC.out;go_wp2_with (first | (go_at_call 50;refine (qC _).mono ?_;rintro r' w' ⟨rfl,rfl⟩) | (go_at_call 85;refine (hbl _).mono ?_;rintro r' w3 ⟨rfl,hb3⟩))
      go_roundw
      case rel=>exact ⟨k+1,by omega,by go_num,by rw [HY.out HR.out];push_cast;rfl,by rw [L6.out];push_cast;rfl,by subst hb3;exact dR.out⟩
      case measure=>simp [intOf];omega
     | false=>
      rw [wP] at hbl rC;go_wp2_with (first | (go_at_call 50;refine (qC _).mono ?_;rintro r' w' ⟨rfl,rfl⟩) | (go_at_call 85;refine (hbl _).mono ?_;rintro r' w3 ⟨rfl,hb3⟩))
      go_roundw
      case rel=>
       refine ⟨n+1,by omega,by go_num,rfl,fun j hj=>?_,by subst hb3;exact dR.out⟩;rcases Nat.lt_or_ge j n with h | h
       ·exact jV.out j h
       ·obtain rfl:j=n:=by omega
        exact rC.out
      case measure=>simp [intOf];omega
    ·obtain rfl:n=l.length:=by omega
     have IY:decide ((l.length:Int)<(l.length:Int))=false:=by simp
     have HR:Hid (mz l k=false):=XQ jV.out;go_wp2_with fail
     go_roundw
     case rel=>exact ⟨k+1,by omega,by go_num,by rw [HN.out HR.out],by rw [L6.out];push_cast;rfl,bm.out⟩
     case measure=>simp [intOf];omega
  ·obtain rfl:k=21:=by omega
   rw [show ((21:Nat):Int)=21 from rfl];go_wp2_with fail
   go_ret;exact ⟨rfl,HB.out⟩
end Go.Proofs.YtanaapfobpgibaaGreatDoor
